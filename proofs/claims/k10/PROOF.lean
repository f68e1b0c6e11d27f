import PyProof.Rows.All
import Wide.All
import OpenK.AllK
import Wide.FinOn
import Lean
import PyProof.EqAt
import PyProof.EqKinds
import PyProof.TupleCall
import PyProof.NsDelKeeps
import PyProof.ListRange
import PySem.Challenge.RW_edgetally_k10_bounds_go_along
set_option Elab.async false
set_option linter.all false
set_option maxRecDepth 100000
open PySem.W (Frag instObj methodObj hideAll hideAll_get of_hideAll hideAll_none lookIn plainGet hasDictIn findIn plainGet_of isFn takerIn looks_clsIn emptyDict looks_findIn keepIn specialIn mroIn kitOne kia_one kitx_list kitx_tuple kitx_dict callWith_K methodCall_KW cellsFrom_some mg_of clsIn Looks kia_tup)
abbrev LI := List (List Int)
abbrev LP := List (List (Int × Int))
-- CHANGE: your row's module here, as the last of these rows
namespace L2
open PySem PySem.Spec PyProof.Rows
abbrev Key := Sum Int Str
def wY : Key -> Value -> Bool
 | .inl k, v => Value.isInt k v
 | .inr x, v => Value.isStrOf x v
def keyH (w : World) : Key -> Int
 | .inl k => hashInt k
 | .inr x => hashStr w x
theorem keyIs_shape : ∀ {k : Key} {v : Value}, wY k v = true -> (∃ i t, k = Sum.inl i /\ v = Value.int i t) \/ (∃ x t, k = Sum.inr x /\ v = Value.str x t)
 | .inl i, v, h => by
  obtain ⟨t, e⟩ := Value.isInt_shape (k := i) (v := v) h
  exact .inl ⟨i, t, rfl, e⟩
 | .inr x, v, h => by
  obtain ⟨t, e⟩ := Value.isStrOf_shape (x := x) (v := v) h
  exact .inr ⟨x, t, rfl, e⟩
theorem zc (a b : Int) : decide ((Sum.inl a : Key) = Sum.inl b) = (a == b) := by
 by_cases e : a = b
 ·subst e; simp
 ·have h : ¬ (Sum.inl a : Key) = Sum.inl b := fun q => e (Sum.inl.inj q)
  rw [decide_eq_false h]
  exact (beq_eq_false_iff_ne.mpr e).symm
theorem y9 (a b : Str) : decide ((Sum.inr a : Key) = Sum.inr b) = decide (a = b) := by
 by_cases e : a = b
 ·subst e; simp
 ·have h : ¬ (Sum.inr a : Key) = Sum.inr b := fun q => e (Sum.inr.inj q)
  rw [decide_eq_false h, decide_eq_false e]
theorem zb (a : Int) (b : Str) : decide ((Sum.inl a : Key) = Sum.inr b) = false := decide_eq_false (fun q => nomatch q)
theorem za (a : Str) (b : Int) : decide ((Sum.inr a : Key) = Sum.inl b) = false := decide_eq_false (fun q => nomatch q)
def mR (prog : Program) (w : World) : PySem.KeyKind prog w Key where
 is := wY
 hash := keyH w
 inj := fun v a b ha hb => by
  rcases keyIs_shape ha with ⟨i, t, rfl, rfl⟩ | ⟨x, t, rfl, rfl⟩
  ·rcases keyIs_shape hb with ⟨j, u, rfl, e⟩ | ⟨y, u, rfl, e⟩
   ·injection e with e1 _; rw [e1]
   ·exact nomatch e
  ·rcases keyIs_shape hb with ⟨j, u, rfl, e⟩ | ⟨y, u, rfl, e⟩
   ·exact nomatch e
   ·injection e with e1 _; rw [e1]
 byValue := fun k v h => by
  rcases keyIs_shape h with ⟨i, t, rfl, rfl⟩ | ⟨x, t, rfl, rfl⟩ <;> rfl
 pyHash := fun hv h => by
  rcases keyIs_shape hv with ⟨i, t, rfl, rfl⟩ | ⟨x, t, rfl, rfl⟩
  ·exact wpAny_pyHash_int h
  ·exact wpAny_pyHash_str h
 eqBool := fun hu hv h => by
  rcases keyIs_shape hu with ⟨i, t, rfl, rfl⟩ | ⟨x, t, rfl, rfl⟩
  ·rcases keyIs_shape hv with ⟨j, u, rfl, rfl⟩ | ⟨y, u, rfl, rfl⟩
   ·rw [zc] at h; exact wpAny_eqBool_int h
   ·rw [zb] at h; exact SeqAt.EqAt.int_str i t y u _ _ _ _ h
  ·rcases keyIs_shape hv with ⟨j, u, rfl, rfl⟩ | ⟨y, u, rfl, rfl⟩
   ·rw [za] at h; exact SeqAt.EqAt.str_int x t j u _ _ _ _ h
   ·rw [y9] at h; exact wpAny_eqBool_str h
 «strs» := fun k x t v h => by
  rcases keyIs_shape h with ⟨i, u, rfl, e⟩ | ⟨y, u, rfl, e⟩
  ·exact nomatch e
  ·injection e with e1 _
   subst e1
   cases v <;> rfl
inductive V where
 | non | bl (b : Bool) | int (i : Int) | str (x : Str) | byt (b : Array UInt8) | flt (b : UInt64) | ref (a : Addr) | ty (n : String)
 deriving DecidableEq
def aS : V -> Value -> Prop
 | .non, u => u = Value.none
 | .bl b, u => u = Value.bool b
 | .int i, u => ∃ t, u = Value.int i t
 | .str x, u => ∃ t, u = Value.str x t
 | .byt b, u => ∃ t, u = Value.bytes b t
 | .flt b, u => ∃ t, u = Value.float b t
 | .ref a, u => u = Value.ref a
 | .ty n, u => u = Value.type n
abbrev ar : List V -> List Value -> Prop := Paired aS
theorem ar.length {xs : List V} {us : List Value} (r : ar xs us) : xs.length = us.length := Paired.length r
theorem ar.get : ∀ {xs : List V} {us : List Value} {i : Nat} {x : V}, ar xs us -> xs[i]? = some x -> ∃ u, us[i]? = some u /\ aS x u
 | _, _, _, _, .nil, e => by simp at e
 | _, _, 0, _, .cons r _, e => by simp at e; subst e; exact ⟨_, rfl, r⟩
 | _, _, i + 1, x, .cons _ t, e => by
  obtain ⟨u, h1, h2⟩ := ar.get (i := i) (x := x) t (by simpa using e)
  exact ⟨u, by simpa using h1, h2⟩
theorem ar.set {x : V} {u : Value} (r : aS x u) : ∀ {xs : List V} {us : List Value} (i : Nat), ar xs us -> ar (xs.set i x) (us.set i u)
 | _, _, _, .nil => .nil
 | _, _, 0, .cons _ t => .cons r t
 | _, _, i + 1, .cons q t => .cons q (ar.set r i t)
theorem ar.append : ∀ {xs ys : List V} {us ws : List Value}, ar xs us -> ar ys ws -> ar (xs ++ ys) (us ++ ws)
 | _, _, _, _, .nil, s => s
 | _, _, _, _, .cons r t, s => .cons r (ar.append t s)
theorem ar.take : ∀ {xs : List V} {us : List Value} (n : Nat), ar xs us -> ar (xs.take n) (us.take n)
 | _, _, 0, _ => .nil
 | _, _, _ + 1, .nil => .nil
 | _, _, n + 1, .cons r t => .cons r (ar.take n t)
theorem ar.drop : ∀ {xs : List V} {us : List Value} (n : Nat), ar xs us -> ar (xs.drop n) (us.drop n)
 | _, _, 0, r => r
 | _, _, _ + 1, .nil => .nil
 | _, _, n + 1, .cons _ t => ar.drop n t
def ij : Option V -> Option Value -> Prop
 | some v, some u => aS v u
 | none, none => True
 | _, _ => False
def KV {κ : Type} : List (κ × V) -> List (κ × Value) -> Prop := Paired fun (p : κ × V) (q : κ × Value) => p.1 = q.1 /\ aS p.2 q.2
def kV : Key -> V
 | .inl i => .int i
 | .inr x => .str x
inductive HO where
 | lst (xs : List V)
 | tup (xs : List V)
 | dK (kvs : List (Key × V)) | dT (kvs : List (List Key × V))
 | set (S : Int -> Bool) (n : Nat)
 | ins (C dx : Addr) (fs : List (Str × V))
 | own (x : Addr)
 | xd (fs : List (Str × V))
 | met (f x : Addr)
 | rng (lo hi : Int)
 | frz (o : Obj) (u : HO)
 | tbl (ps : Array Value)
 | ext (φ : Heap -> Prop)
abbrev Hp := Addr -> Option HO
def upd (H : Hp) (a : Addr) (o : HO) : Hp := fun b => if b = a then some o else H b
theorem ao {H : Hp} {a : Addr} {o : HO} : upd H a o a = some o := by unfold upd; rw [if_pos rfl]
theorem upd_ne {H : Hp} {a b : Addr} {o : HO} (h : b ≠ a) : upd H a o b = H b := by unfold upd; rw [if_neg h]
theorem A0 {H : Hp} {a b : Addr} {o u : HO} (h : H a = some o) (h' : H b = some u) (d : o ≠ u) : a ≠ b := by
 intro e; subst e; rw [h] at h'; exact d (Option.some.inj h')
theorem ne_of_none {H : Hp} {a b : Addr} {o : HO} (h : H a = some o) (h' : H b = none) : a ≠ b := by
 intro e; subst e; rw [h] at h'; cases h'
section
variable (P : Program) (w : World)
def bo (H : Hp) (h : Heap) (a : Addr) : HO -> Prop
 | .lst xs => xs.length <= sizeLine /\ ∃ (its : List Value) (n : Nat), ar xs its /\ h.get? a = some { cls := .type "list", data := .seq its.toArray n }
 | .tup xs => xs.length <= sizeLine /\ ∃ its : List Value, ar xs its /\ IsTup h a its.toArray
 | .dK kvs => kvs.length <= sizeLine /\ (a == sysModules) = false /\ ∃ vs, KV kvs vs /\ h.DictOf (mR P w) a vs
 | .dT kvs => kvs.length <= sizeLine /\ (a == sysModules) = false /\ ∃ xs : List (List Key × Addr × Value),
   Paired (fun (p : List Key × V) (q : List Key × Addr × Value) => p.1 = q.1 /\ H q.2.1 = some (.tup (p.1.map kV)) /\ aS p.2 q.2.2) kvs xs /\
   ∃ o es ep, h.get? a = some o /\ o.ExactDict /\ o.data = .dict es ep /\ es.toList = xs.map (entryOfKey (tupleKind (mR P w))) /\ (xs.map (·.1)).Nodup
 | .set S n => h.SetOf (intKind P w) a S n
 | .ins C dx fs => H dx = some (.own a) /\ fs.length <= 1000 /\ dx ≠ a /\ h.get? a = some (instObj C dx) /\
   ∃ mA, h.Ns1 dx mA /\ (∀ f, ij (fs.lookup f) (mA f)) /\ PySem.Within mA (fs.map (·.1))
 | .own _ => ∃ o, h.get? a = some o
 | .xd fs => ∃ mA, h.Ns1 a mA /\ ∀ f, ij (fs.lookup f) (mA f)
 | .rng lo hi => ∃ t u v, h.get? a = some { cls := .type "range", data := .fields #[.int lo t, .int hi u, .int 1 v] }
 | .frz o u => h.get? a = some o /\ bo H h a u
 | .tbl ps => h.get? a = some { cls := .none, data := .fields ps }
 | .met f x => h.get? a = some (methodObj (.ref f) (.ref x))
 | .ext φ => φ h /\ (∃ o, h.get? a = some o) /\ ∀ h1 h2 : Heap, φ h1 -> (∀ o, h1.get? a = some o -> h2.get? a = some o) -> φ h2
def HOk (H : Hp) (h : Heap) : Prop := ∀ a o, H a = some o -> bo P w H h a o
end
section
variable {P : Program} {w : World} {H H' : Hp} {h h' : Heap} {a : Addr} {o : HO}
theorem bo.lt (x : bo P w H h a o) : a < h.objs.size := by
 cases o with
 | lst xs => obtain ⟨_, _, _, _, e⟩ := x; exact Heap.lt_size e
 | tup xs => obtain ⟨_, _, _, p⟩ := x; exact p.lt
 | dK kvs => obtain ⟨_, _, _, _, o, _, _, e, _⟩ := x; exact Heap.lt_size e
 | dT kvs => obtain ⟨_, _, _, _, o, _, _, e, _⟩ := x; exact Heap.lt_size e
 | set S n => obtain ⟨o, _, _, _, e, _⟩ := x; exact Heap.lt_size e
 | ins C dx fs => obtain ⟨_, _, _, e, _⟩ := x; exact Heap.lt_size e
 | own y => obtain ⟨_, e⟩ := x; exact Heap.lt_size e
 | xd fs => obtain ⟨_, ⟨_, _, _, e, _⟩, _⟩ := x; exact Heap.lt_size e
 | rng lo hi => obtain ⟨_, _, _, e⟩ := x; exact Heap.lt_size e
 | frz ob u => obtain ⟨e, _⟩ := x; exact Heap.lt_size e
 | tbl ps => exact Heap.lt_size (show h.get? a = some _ from x)
 | met f y => exact Heap.lt_size (show h.get? a = some _ from x)
 | ext φ => obtain ⟨_, ⟨_, e⟩, _⟩ := x; exact Heap.lt_size e
theorem Paired.mapP {α β : Type} {F G : α -> β -> Prop} : ∀ {l₁ : List α} {l₂ : List β}, Paired F l₁ l₂ -> (∀ a b, F a b -> G a b) -> Paired G l₁ l₂
 | _, _, .nil, _ => .nil
 | _, _, .cons r t, f => .cons (f _ _ r) (Paired.mapP t f)
theorem bo.stay (x : bo P w H h a o) (k : ∀ b u, (b = a \/ H b = some (.own a)) -> h.get? b = some u -> h'.get? b = some u)
  (ho : ∀ b, H b = some (.own a) -> H' b = some (.own a)) (ht : ∀ b xs, H b = some (.tup xs) -> H' b = some (.tup xs)) : bo P w H' h' a o := by
 induction o with
 | lst xs => obtain ⟨z, its, n, r, e⟩ := x; exact ⟨z, its, n, r, k _ _ (.inl rfl) e⟩
 | tup xs => obtain ⟨z, its, r, ob, e, c⟩ := x; exact ⟨z, its, r, ob, k _ _ (.inl rfl) e, c⟩
 | dK kvs => obtain ⟨z, y, vs, r, ob, es, ep, e, c⟩ := x; exact ⟨z, y, vs, r, ob, es, ep, k _ _ (.inl rfl) e, c⟩
 | dT kvs =>
  obtain ⟨z, y, xs, r, ob, es, ep, e, c⟩ := x
  exact ⟨z, y, xs, Paired.mapP r fun p q z => ⟨z.1, ht _ _ z.2.1, z.2.2⟩, ob, es, ep, k _ _ (.inl rfl) e, c⟩
 | set S n => obtain ⟨ob, es, ep, t, e, c⟩ := x; exact ⟨ob, es, ep, t, k _ _ (.inl rfl) e, c⟩
 | ins C dx fs =>
  obtain ⟨d, z, ne, e, mA, ⟨od, es, ep, e2, c⟩, r⟩ := x
  exact ⟨ho _ d, z, ne, k _ _ (.inl rfl) e, mA, ⟨od, es, ep, k _ _ (.inr d) e2, c⟩, r⟩
 | own y => obtain ⟨ob, e⟩ := x; exact ⟨ob, k _ _ (.inl rfl) e⟩
 | xd fs => obtain ⟨mA, ⟨od, es, ep, e, c⟩, r⟩ := x; exact ⟨mA, ⟨od, es, ep, k _ _ (.inl rfl) e, c⟩, r⟩
 | rng lo hi => obtain ⟨t, u, v, e⟩ := x; exact ⟨t, u, v, k _ _ (.inl rfl) e⟩
 | frz ob u ih => obtain ⟨e, q⟩ := x; exact ⟨k _ _ (.inl rfl) e, ih q⟩
 | tbl ps =>
  have e : h.get? a = some { cls := .none, data := .fields ps } := x
  show h'.get? a = some { cls := .none, data := .fields ps }
  exact k a _ (.inl rfl) e
 | met f y =>
  have e : h.get? a = some (methodObj (.ref f) (.ref y)) := x
  show h'.get? a = some (methodObj (.ref f) (.ref y))
  exact k a _ (.inl rfl) e
 | ext φ => obtain ⟨p, ⟨o, e⟩, st⟩ := x; exact ⟨st _ _ p fun o q => k _ _ (.inl rfl) q, ⟨o, k _ _ (.inl rfl) e⟩, st⟩
theorem HOk.lt (x : HOk P w H h) (e : H a = some o) : a < h.objs.size := (x a o e).lt
theorem HOk.fresh (x : HOk P w H h) (e : h.objs.size <= a) : H a = none := by
 cases q : H a with
 | none => rfl
 | some u => exact absurd (Nat.lt_of_lt_of_le (x.lt q) e) (Nat.lt_irrefl _)
theorem HOk.kept (x : HOk P w H h) (k : ∀ b u, h.get? b = some u -> h'.get? b = some u) : HOk P w H h' := fun a o e =>
 (x a o e).stay (fun b u _ q => k b u q) (fun _ q => q) fun _ _ q => q
theorem HOk.laid (x : HOk P w H h) (k : ∀ b u, h.get? b = some u -> h'.get? b = some u) (hp : h.objs.size <= a) (new : bo P w (upd H a o) h' a o) : HOk P w (upd H a o) h' := fun b u e => by
 have hn := x.fresh hp
 by_cases hb : b = a
 ·subst hb; rw [ao] at e; cases e; exact new
 ·rw [upd_ne hb] at e
  exact (x b u e).stay (fun c v _ q => k c v q) (fun c q => by rw [upd_ne (ne_of_none q hn)]; exact q) fun c xs q => by rw [upd_ne (ne_of_none q hn)]; exact q
end
def Rd (H : Hp) (a : Addr) (u : HO) : Prop := H a = some u \/ ∃ o, H a = some (.frz o u)
theorem Rd.ok {P : Program} {w : World} {H : Hp} {h : Heap} {a : Addr} {u : HO} (r : Rd H a u) (x : HOk P w H h) : bo P w H h a u := by
 rcases r with r | ⟨o, r⟩
 ·exact x a u r
 ·obtain ⟨_, q⟩ := x a _ r
  exact q
def Mut : Option HO -> Prop
 | some (.lst _) => True
 | some (.dK _) => True
 | some (.dT _) => True
 | some (.set _ _) => True
 | some (.ins _ _ _) => True
 | some (.ext _) => True
 | _ => False
section
variable {P : Program} {w : World} {H : Hp} {h h' : Heap} {x e : Addr} {o' : HO}
theorem HOk.write (ok : HOk P w H h) (mu : Mut (H x)) (he : e = x \/ H e = some (.own x)) (k : ∀ b u, b ≠ e -> h.get? b = some u -> h'.get? b = some u) (heo : ∃ u, h'.get? e = some u)
  (new : bo P w (upd H x o') h' x o') : HOk P w (upd H x o') h' := fun b u q => by
 have nown : ∀ c y, H c = some (.own y) -> c ≠ x := fun c y r z => by subst z; rw [r] at mu; exact mu
 have ntup : ∀ c xs, H c = some (.tup xs) -> c ≠ x := fun c xs r z => by subst z; rw [r] at mu; exact mu
 by_cases hb : b = x
 ·subst hb; rw [ao] at q; cases q; exact new
 ·rw [upd_ne hb] at q
  by_cases hbe : b = e
  ·have q' : H b = some (.own x) := by
    rcases he with z | z
    ·exact absurd (hbe.trans z) hb
    ·rw [hbe]; exact z
   rw [q] at q'; cases q'
   obtain ⟨v, hv⟩ := heo
   exact ⟨v, by rw [hbe]; exact hv⟩
  ·refine (ok b u q).stay (fun c v hc r => k c v ?_ r) (fun c r => by rw [upd_ne (nown c b r)]; exact r) fun c xs r => by rw [upd_ne (ntup c xs r)]; exact r
   rcases hc with rfl | hc
   ·exact hbe
   ·rintro rfl
    rcases he with z | z
    ·exact nown c b hc z
    ·rw [hc] at z; cases z; exact hb rfl
end
structure Un (fs ex : List Addr) (H H' : Hp) (h h' : Heap) : Prop where
 keep : ∀ b o, h.get? b = some o -> H b = none -> b ∉ fs -> b ∉ ex -> h'.get? b = some o
 slot : ∀ b o, h.get? b = some o -> H b = none -> b ∈ fs -> b ∉ ex -> ∃ sl, h'.get? b = some { o with slots := sl }
 free : ∀ b o, h.get? b = some o -> H b = none -> b ∉ ex -> H' b = none
 there : ∀ b o, h.get? b = some o -> b ∉ ex -> ∃ o', h'.get? b = some o'
 tups : ∀ b xs, H b = some (.tup xs) -> H' b = some (.tup xs)
 frzs : ∀ b o u, H b = some (.frz o u) -> H' b = some (.frz o u)
 tbls : ∀ b ps, H b = some (.tbl ps) -> ∃ more, H' b = some (.tbl (ps ++ more))
section
variable {fs fs' ex ex' : List Addr} {H H1 H2 : Hp} {h h1 h2 h' : Heap} {a x e : Addr} {o : HO}
theorem Un.any (u : Un fs ex H H1 h h1) {b : Addr} {ob : Obj} (q : h.get? b = some ob) (n : H b = none) (hx : b ∉ ex) : ∃ sl, h1.get? b = some { ob with slots := sl } := by
 by_cases hb : b ∈ fs
 ·exact u.slot b ob q n hb hx
 ·exact ⟨ob.slots, u.keep b ob q n hb hx⟩
theorem Un.trans (a : Un fs ex H H1 h h1) (b : Un fs ex H1 H2 h1 h2) : Un fs ex H H2 h h2 where
 keep := fun c ob q n hc hx => b.keep c ob (a.keep c ob q n hc hx) (a.free c ob q n hx) hc hx
 slot := fun c ob q n hc hx => by
  obtain ⟨sl, e1⟩ := a.slot c ob q n hc hx
  obtain ⟨sl', e2⟩ := b.slot c _ e1 (a.free c ob q n hx) hc hx
  exact ⟨sl', e2⟩
 free := fun c ob q n hx => by
  obtain ⟨o', e1⟩ := a.there c ob q hx
  exact b.free c o' e1 (a.free c ob q n hx) hx
 there := fun c ob q hx => by
  obtain ⟨o', e1⟩ := a.there c ob q hx
  exact b.there c o' e1 hx
 tups := fun c xs q => b.tups c xs (a.tups c xs q)
 frzs := fun c ob xs q => b.frzs c ob xs (a.frzs c ob xs q)
 tbls := fun c ps q => by
  obtain ⟨m1, e1⟩ := a.tbls c ps q
  obtain ⟨m2, e2⟩ := b.tbls c _ e1
  exact ⟨m1 ++ m2, by rw [e2, Array.append_assoc]⟩
theorem Un.kept (k : ∀ b u, h.get? b = some u -> h'.get? b = some u) : Un fs ex H H h h' :=
 ⟨fun b ob q _ _ _ => k b ob q, fun b ob q _ _ _ => ⟨ob.slots, k b ob q⟩, fun _ _ _ n _ => n, fun b ob q _ => ⟨ob, k b ob q⟩, fun _ _ q => q, fun _ _ _ q => q, fun _ ps q => ⟨#[], by rw [q]; simp⟩⟩
theorem Un.refl : Un fs ex H H h h := Un.kept fun _ _ q => q
theorem Un.laid (k : ∀ b u, h.get? b = some u -> h'.get? b = some u) (hp : h.objs.size <= a) (hn : H a = none) : Un fs ex H (upd H a o) h h' where
 keep := fun b u q _ _ _ => k b u q
 slot := fun b u q _ _ _ => ⟨u.slots, k b u q⟩
 free := fun b u q n _ => by rw [upd_ne (Nat.ne_of_lt (Nat.lt_of_lt_of_le (Heap.lt_size q) hp))]; exact n
 there := fun b u q _ => ⟨u, k b u q⟩
 tups := fun b xs q => by rw [upd_ne (ne_of_none q hn)]; exact q
 frzs := fun b u xs q => by rw [upd_ne (ne_of_none q hn)]; exact q
 tbls := fun b ps q => ⟨#[], by rw [upd_ne (ne_of_none q hn), q]; simp⟩
theorem Un.write (mu : Mut (H x)) (he : e = x \/ H e = some (.own x)) (k : ∀ b u, b ≠ e -> h.get? b = some u -> h'.get? b = some u) (heo : ∃ u, h'.get? e = some u) : Un fs ex H (upd H x o) h h' := by
 have hx : ∀ b, H b = none -> b ≠ x := fun b n z => by subst z; rw [n] at mu; exact mu
 have hb : ∀ b, H b = none -> b ≠ e := fun b n z => by
  subst z
  rcases he with r | r
  ·exact hx b n r
  ·rw [n] at r; cases r
 have hm : ∀ b u, H b = some u -> ¬ Mut (some u) -> b ≠ x := fun b u q nm z => by subst z; rw [q] at mu; exact nm mu
 refine ⟨fun b u q n _ _ => k b u (hb b n) q, fun b u q n _ _ => ⟨u.slots, k b u (hb b n) q⟩, fun b u q n _ => by rw [upd_ne (hx b n)]; exact n, fun b u q _ => ?_,
  fun b xs q => by rw [upd_ne (hm b _ q fun z => z)]; exact q, fun b u xs q => by rw [upd_ne (hm b _ q fun z => z)]; exact q, fun b ps q => ⟨#[], by rw [upd_ne (hm b _ q fun z => z), q]; simp⟩⟩
 by_cases hbe : b = e
 ·subst hbe; exact heo
 ·exact ⟨u, k b u hbe q⟩
theorem Un.mono (u : Un fs ex H H1 h h1) (hs : ∀ b ∈ fs, b ∈ fs') (hx : ∀ b ∈ ex, b ∈ ex') : Un fs' ex' H H1 h h1 :=
 ⟨fun b ob q n hb he => u.keep b ob q n (fun z => hb (hs b z)) fun z => he (hx b z), fun _ _ q n _ he => u.any q n fun z => he (hx _ z), fun b ob q n he => u.free b ob q n fun z => he (hx b z), fun b ob q he => u.there b ob q fun z => he (hx b z), u.tups, u.frzs, u.tbls⟩
end
def trk (h : Heap) (H : Hp) : List Addr := (List.range h.objs.size).filter fun a => (H a).isSome
def i3 (h : Heap) (H : Hp) : Heap := hideAll h (trk h H)
theorem ud (h : Heap) (H : Hp) : (i3 h H).objs.size = h.objs.size := PySem.W.hideAll_size _ _
theorem vD {h : Heap} {H : Hp} {b : Addr} {o : Obj} (e : h.get? b = some o) (n : H b = none) : (i3 h H).get? b = some o :=
 hideAll_get _ e fun hm => by
  have q : (H b).isSome = true := (List.mem_filter.mp hm).2
  rw [n] at q; simp at q
theorem xN {h : Heap} {H : Hp} {b : Addr} {o : Obj} (e : (i3 h H).get? b = some o) : h.get? b = some o /\ H b = none := by
 have e' : h.get? b = some o := of_hideAll (trk h H) e
 refine ⟨e', ?_⟩
 cases q : H b with
 | none => rfl
 | some x =>
  have hm : b ∈ trk h H := List.mem_filter.mpr ⟨List.mem_range.mpr (Heap.lt_size e'), by simp [q]⟩
  have z : (i3 h H).get? b = none := hideAll_none (trk h H) hm
  rw [z] at e; cases e
structure Mod (K : Frag) (mg : Str -> Option Value) (base : Heap) : Prop where
 kin : K.In base
 glob : base.Ns mainGlobals mg
 blt : ∃ mb, base.Ns builtinsNs mb /\ ∀ x : Str, x ≠ "__name__" -> mb x = bootBuiltins x
 nolimit : base.NoLimit
structure Cx where
 prog : Program
 w : World
 K : Frag
 mg : Str -> Option Value
 base : Heap
 A : Around
 N : List Str
 s₀ : Shared
 H₀ : Hp
 env : Env
 outer : List Env
 stack : List Env
 ex : List Addr
 fn : Str -> Bool
 calm : Bool
 pn : List (Addr × Obj)
 xe : Value -> Shared -> Prop
def frs (l : List Env) : List Addr := l.filterMap (·.frame)
abbrev Cx.fs (X : Cx) : List Addr := frs X.outer
def Vis (sc : Scope) (x : Str) : Prop := sc.names.lookup x = some .local \/ sc.names.lookup x = some .cell \/ sc.names.lookup x = some .free
def Loc (sc : Scope) (x : Str) : Prop := sc.names.lookup x = some .local \/ sc.names.lookup x = some .cell
def Look (env : Env) (h : Heap) (m : Str -> Option Value) (x : Str) (u : Value) : Prop :=
 (env.kindOf x = some .local /\ m x = some u) \/ ((env.kindOf x = some .cell \/ env.kindOf x = some .free) /\ ∃ c, env.cells.lookup x = some c /\ h.IsCell c (some u))
structure Cx.Ok (X : Cx) : Prop where
 mod : Mod X.K X.mg X.base
 kind : X.env.scope.kind = .function
 glob : X.env.globals = mainGlobals
 blt : X.env.builtins = builtinsNs
 above : X.s₀.heap.objs.size <= X.env.locals
 inj : ∀ x y c, X.env.cells.lookup x = some c -> X.env.cells.lookup y = some c -> x = y
 has : ∀ x, (X.env.kindOf x = some .cell \/ X.env.kindOf x = some .free) -> ∃ c, X.env.cells.lookup x = some c
 cab : ∀ x c, X.fn x = true -> X.env.cells.lookup x = some c -> X.s₀.heap.objs.size <= c
 hd : X.calm = true -> X.A.handled = none
 frames : X.A.frames = some X.stack
 stk : X.stack = X.outer \/ (X.stack = X.env :: X.outer /\ X.env.frame = some X.env.locals)
 exf : ∀ b ∈ X.ex, b ≠ X.env.locals /\ ∀ x c, X.env.cells.lookup x = some c -> c ≠ b
 bs : ∀ b o, X.base.get? b = some o -> X.s₀.heap.get? b = some o /\ X.H₀ b = none
 bsz : X.base.objs.size <= X.s₀.heap.objs.size
 noex : ∀ b o, X.base.get? b = some o -> b ∉ X.ex
 exfs : ∀ b ∈ X.ex, b ∉ X.fs
 funs : X.s₀.heap.FunFrames X.base X.outer
 frf : ∀ b ∈ X.fs, X.H₀ b = none
structure Inv (X : Cx) (pins : List (Addr × Obj)) (σ : List (Option V)) (H : Hp) (s : Shared) : Prop where
 ok : X.Ok
 os : s.os = X.s₀.os
 bare : AllBare s.gens
 base : Un X.fs X.ex X.H₀ H X.s₀.heap s.heap
 loc : ∃ m, s.heap.Ns X.env.locals m /\ ∀ (i : Nat) (x : Str) (v : V), X.N[i]? = some x -> σ[i]? = some (some v) -> Vis X.env.scope x -> ∃ u, aS v u /\ Look X.env s.heap m x u
 cell : ∀ x c, X.env.cells.lookup x = some c -> ∃ v, s.heap.IsCell c v
 free : H X.env.locals = none
 freeC : ∀ x c, X.env.cells.lookup x = some c -> H c = none
 pin : ∀ p ∈ X.pn ++ pins, s.heap.get? p.1 = some p.2 /\ H p.1 = none /\ p.1 ≠ X.env.locals /\ p.1 ∉ X.fs /\ ∀ v, p.2.data ≠ .cell v
 hok : HOk X.prog X.w H s.heap
 len : σ.length = X.N.length
section
variable {X : Cx} {pins : List (Addr × Obj)} {σ : List (Option V)} {H H' : Hp} {s : Shared} {h' : Heap}
theorem Cx.Ok.nofr (ok : X.Ok) {b : Addr} {o : Obj} (e : X.base.get? b = some o) : b ∉ X.fs := fun hb => by
 have := (ok.funs.mem hb).1
 rw [e] at this; cases this
theorem Inv.bs (I : Inv X pins σ H s) : ∀ b o, X.base.get? b = some o -> s.heap.get? b = some o /\ H b = none := fun b o e =>
 ⟨I.base.keep b o (I.ok.bs b o e).1 (I.ok.bs b o e).2 (I.ok.nofr e) (I.ok.noex b o e), I.base.free b o (I.ok.bs b o e).1 (I.ok.bs b o e).2 (I.ok.noex b o e)⟩
theorem Inv.bk (I : Inv X pins σ H s) : ∀ b o, X.base.get? b = some o -> s.heap.get? b = some o := fun b o e => (I.bs b o e).1
theorem Inv.mod (I : Inv X pins σ H s) : Mod X.K X.mg X.base := I.ok.mod
theorem Inv.kIn (I : Inv X pins σ H s) : X.K.In s.heap := I.ok.mod.kin.keeps I.bk
theorem Inv.fr (I : Inv X pins σ H s) : ∃ m, Fr X.base X.env.locals s.heap m :=
 let ⟨m, hn, _⟩ := I.loc
 ⟨m, hn, I.bk, Nat.le_trans I.ok.bsz I.ok.above⟩
theorem Inv.lt (I : Inv X pins σ H s) : X.env.locals < s.heap.objs.size := let ⟨_, hn, _⟩ := I.loc; hn.lt
theorem Inv.sz (I : Inv X pins σ H s) : X.s₀.heap.objs.size <= s.heap.objs.size := Nat.le_trans I.ok.above (Nat.le_of_lt I.lt)
theorem Inv.nofs (I : Inv X pins σ H s) {a : Addr} (h : s.heap.objs.size <= a) : a ∉ X.fs := fun hb => by
 obtain ⟨_, o, ho, _⟩ := I.ok.funs.mem hb
 exact absurd (Nat.lt_of_lt_of_le (Heap.lt_size ho) (Nat.le_trans I.sz h)) (Nat.lt_irrefl _)
theorem Inv.cne (I : Inv X pins σ H s) : ∀ x c, X.env.cells.lookup x = some c -> c ≠ X.env.locals := fun x c e z => by
 obtain ⟨v, o, ho, hd⟩ := I.cell x c e
 obtain ⟨m, ⟨o', es, ep, ho', hd', _⟩, _⟩ := I.loc
 rw [z, ho'] at ho; cases ho; rw [hd'] at hd; cases hd
theorem Inv.funs (I : Inv X pins σ H s) : s.heap.FunFrames X.base X.outer := by
 have all : ∀ (l : List Env), (∀ b ∈ frs l, b ∈ X.fs) -> X.s₀.heap.FunFrames X.base l -> s.heap.FunFrames X.base l := by
  intro l
  induction l with
  | nil => intro _ _; trivial
  | cons env r ih =>
   intro hs hl
   obtain ⟨hk, ⟨L, o, hf, hn, ho, hd⟩, hr⟩ := hl
   have hL : L ∈ X.fs := hs L (by unfold frs; rw [List.filterMap_cons, hf]; exact List.mem_cons_self)
   obtain ⟨sl, e⟩ := I.base.slot L o ho (I.ok.frf L hL) hL fun z => I.ok.exfs L z hL
   exact ⟨hk, ⟨L, _, hf, hn, e, hd⟩, ih (fun b hb => hs b (by unfold frs; rw [List.filterMap_cons, hf]; exact List.mem_cons_of_mem _ hb)) hr⟩
 exact all X.outer (fun _ hb => hb) I.ok.funs
theorem Inv.stack (I : Inv X pins σ H s) : s.heap.FunFrames X.base X.stack := by
 rcases I.ok.stk with e | ⟨e, hf⟩
 ·rw [e]; exact I.funs
 ·rw [e]
  obtain ⟨m, hn, _⟩ := I.loc
  refine .cons (by rw [I.ok.kind]; decide) hf hn ?_ I.funs
  exact Heap.get?_none_of_le (Nat.le_trans I.ok.bsz I.ok.above)
theorem Inv.stkSub (I : Inv X pins σ H s) : ∀ b ∈ frs X.stack, b ∈ X.env.locals :: X.fs := fun b hb => by
 rcases I.ok.stk with e | ⟨e, hf⟩
 ·rw [e] at hb; exact List.mem_cons_of_mem _ hb
 ·rw [e] at hb
  unfold frs at hb
  rw [List.filterMap_cons, hf] at hb
  exact hb
theorem Inv.stkFree (I : Inv X pins σ H s) : ∀ b ∈ frs X.stack, H b = none := fun b hb => by
 rcases List.mem_cons.mp (I.stkSub b hb) with e | hb
 ·rw [e]; exact I.free
 ·obtain ⟨_, o, ho, _⟩ := I.ok.funs.mem hb
  exact I.base.free b o ho (I.ok.frf b hb) fun z => I.ok.exfs b z hb
theorem Inv.step {g' : Array GenState} {t' : Nat} {d' : Drawn} {ch : List Addr} (I : Inv X pins σ H s)
  (hch : ∀ b ∈ ch, (b ∈ X.ex \/ X.s₀.heap.objs.size <= b) /\ b ≠ X.env.locals /\ (∀ x c, X.env.cells.lookup x = some c -> c ≠ b) /\ ∀ p ∈ X.pn ++ pins, p.1 ≠ b)
  (keep : ∀ b o, b ≠ X.env.locals -> b ∉ X.fs -> b ∉ ch -> s.heap.get? b = some o -> H b = none -> h'.get? b = some o)
  (slot : ∀ b o, b ≠ X.env.locals -> b ∈ X.fs -> b ∉ ch -> s.heap.get? b = some o -> H b = none -> ∃ sl, h'.get? b = some { o with slots := sl }) (free : ∀ b o, b ∉ ch -> s.heap.get? b = some o -> H b = none -> H' b = none)
  (there : ∀ b o, b ∉ ch -> s.heap.get? b = some o -> ∃ o', h'.get? b = some o')
  (tups : ∀ b xs, H b = some (.tup xs) -> H' b = some (.tup xs)) (frzs : ∀ b o u, H b = some (.frz o u) -> H' b = some (.frz o u)) (tbls : ∀ b ps, H b = some (.tbl ps) -> ∃ more, H' b = some (.tbl (ps ++ more)))
  (ns : ∀ m, s.heap.Ns X.env.locals m -> h'.Ns X.env.locals m) (hok : HOk X.prog X.w H' h') (hg : AllBare g') :
  Inv X pins σ H' { s with heap := h', gens := g', drawn := d', toks := t' } := by
 have neL : ∀ b o, X.s₀.heap.get? b = some o -> b ≠ X.env.locals := fun b o e => Nat.ne_of_lt (Nat.lt_of_lt_of_le (Heap.lt_size e) I.ok.above)
 have neC : ∀ b o, X.s₀.heap.get? b = some o -> b ∉ X.ex -> b ∉ ch := fun b o e hx hb => by
  rcases (hch b hb).1 with z | z
  ·exact hx z
  ·exact absurd (Nat.lt_of_lt_of_le (Heap.lt_size e) z) (Nat.lt_irrefl _)
 have cellK : ∀ x c, X.env.cells.lookup x = some c -> ∀ v, s.heap.IsCell c v -> h'.IsCell c v := fun x c e v ⟨o, ho, hd⟩ => by
  have nch : c ∉ ch := fun z => (hch c z).2.2.1 x c e rfl
  by_cases hc : c ∈ X.fs
  ·obtain ⟨sl, q⟩ := slot c o (I.cne x c e) hc nch ho (I.freeC x c e)
   exact ⟨_, q, hd⟩
  ·exact ⟨o, keep c o (I.cne x c e) hc nch ho (I.freeC x c e), hd⟩
 refine ⟨I.ok, I.os, hg, ⟨fun b o e n hb hx => ?_, fun b o e n hb hx => ?_, fun b o e n hx => ?_, fun b o e hx => ?_, fun b xs e => tups b xs (I.base.tups b xs e), fun b o xs e => frzs b o xs (I.base.frzs b o xs e), fun b ps e => ?_⟩, ?_, fun x c e => ?_, ?_, fun x c e => ?_, fun p hp => ?_, hok, I.len⟩
 ·exact keep b o (neL b o e) hb (neC b o e hx) (I.base.keep b o e n hb hx) (I.base.free b o e n hx)
 ·obtain ⟨sl, e1⟩ := I.base.slot b o e n hb hx
  obtain ⟨sl', e2⟩ := slot b _ (neL b o e) hb (neC b o e hx) e1 (I.base.free b o e n hx)
  exact ⟨sl', e2⟩
 ·obtain ⟨o', e1⟩ := I.base.there b o e hx
  exact free b o' (neC b o e hx) e1 (I.base.free b o e n hx)
 ·obtain ⟨o', e1⟩ := I.base.there b o e hx
  exact there b o' (neC b o e hx) e1
 ·obtain ⟨m1, e1⟩ := I.base.tbls b ps e
  obtain ⟨m2, e2⟩ := tbls b _ e1
  exact ⟨m1 ++ m2, by rw [e2, Array.append_assoc]⟩
 ·obtain ⟨m, hn, hl⟩ := I.loc
  refine ⟨m, ns m hn, fun i x v e1 e2 e3 => ?_⟩
  obtain ⟨u, r, l⟩ := hl i x v e1 e2 e3
  refine ⟨u, r, ?_⟩
  rcases l with l | ⟨k, c, e, z⟩
  ·exact .inl l
  ·exact .inr ⟨k, c, e, cellK x c e _ z⟩
 ·obtain ⟨v, z⟩ := I.cell x c e
  exact ⟨v, cellK x c e v z⟩
 ·obtain ⟨m, ⟨o, _, _, ho, _⟩, _⟩ := I.loc
  exact free _ o (fun z => (hch _ z).2.1 rfl) ho I.free
 ·obtain ⟨v, o, ho, hd⟩ := I.cell x c e
  exact free c o (fun z => (hch c z).2.2.1 x c e rfl) ho (I.freeC x c e)
 ·obtain ⟨e, n, ne, nf, d⟩ := I.pin p hp
  have nch : p.1 ∉ ch := fun z => (hch p.1 z).2.2.2 p hp rfl
  exact ⟨keep p.1 p.2 ne nf nch e n, free p.1 p.2 nch e n, ne, nf, d⟩
theorem Inv.un {t' : Nat} (I : Inv X pins σ H s) (u : Un X.fs [] H H' s.heap h') (hok : HOk X.prog X.w H' h') : Inv X pins σ H' { s with heap := h', toks := t' } := by
 obtain ⟨m, ⟨o, es, ep, ho, r⟩, _⟩ := id I.loc
 obtain ⟨sl, hL⟩ := u.any ho I.free (by simp)
 exact I.step (g' := s.gens) (d' := s.drawn) (ch := []) (fun _ z => nomatch z) (fun b o _ hb _ e n => u.keep b o e n hb (by simp)) (fun b o _ hb _ e n => u.slot b o e n hb (by simp)) (fun b o _ e n => u.free b o e n (by simp)) (fun b o _ e => u.there b o e (by simp)) u.tups u.frzs u.tbls (fun m' hm => by
  obtain ⟨o', es', ep', ho', r'⟩ := hm
  rw [ho] at ho'; cases ho'
  exact ⟨_, es', ep', hL, r'⟩) hok I.bare
theorem Inv.call {g' : Array GenState} {t' : Nat} {d' : Drawn} {ch : List Addr} (I : Inv X pins σ H s) (u : Un (frs X.stack) ch H H' s.heap h') (hok : HOk X.prog X.w H' h') (hg : AllBare g')
  (hch : ∀ b ∈ ch, (b ∈ X.ex \/ X.s₀.heap.objs.size <= b) /\ b ≠ X.env.locals /\ (∀ x c, X.env.cells.lookup x = some c -> c ≠ b) /\ ∀ p ∈ X.pn ++ pins, p.1 ≠ b) :
  Inv X pins σ H' { s with heap := h', gens := g', drawn := d', toks := t' } := by
 obtain ⟨m, ⟨o, es, ep, ho, r⟩, _⟩ := id I.loc
 obtain ⟨sl, hL⟩ := u.any ho I.free fun z => (hch _ z).2.1 rfl
 exact I.step (ch := ch) hch (fun b o hL hb hc e n => u.keep b o e n (fun z => (List.mem_cons.mp (I.stkSub b z)).elim hL hb) hc) (fun b o _ _ hc e n => u.any e n hc) (fun b o hc e n => u.free b o e n hc) (fun b o hc e => u.there b o e hc) u.tups u.frzs u.tbls (fun m' hm => by
  obtain ⟨o', es', ep', ho', r'⟩ := hm
  rw [ho] at ho'; cases ho'
  exact ⟨_, es', ep', hL, r'⟩) hok hg
theorem Inv.turned {t' : Nat} {it : Addr} (I : Inv X pins σ H s) (k : ∀ b o, b ≠ it -> s.heap.get? b = some o -> h'.get? b = some o) (hn : H it = none) (hL : it ≠ X.env.locals)
  (h1 : it ∈ X.ex \/ X.s₀.heap.objs.size <= it) (h2 : ∀ x c, X.env.cells.lookup x = some c -> c ≠ it) (h3 : ∀ p ∈ X.pn ++ pins, p.1 ≠ it) : Inv X pins σ H { s with heap := h', toks := t' } := by
 have nit : ∀ b u, H b = some u -> b ≠ it := fun b u e z => by rw [z, hn] at e; cases e
 refine I.step (g' := s.gens) (d' := s.drawn) (ch := [it]) (fun b hb => ?_) (fun b o _ _ hc e _ => k b o (fun z => hc (by simp [z])) e) (fun b o _ _ hc e _ => ⟨o.slots, k b o (fun z => hc (by simp [z])) e⟩) (fun _ _ _ _ n => n)
  (fun b o hc e => ⟨o, k b o (fun z => hc (by simp [z])) e⟩) (fun _ _ e => e) (fun _ _ _ e => e) (fun b ps e => ⟨#[], by rw [e]; simp⟩) (fun m hm => ?_) (fun b u e => ?_) I.bare
 ·have e : b = it := by simpa using hb
  subst e
  exact ⟨h1, hL, h2, h3⟩
 ·obtain ⟨o, es, ep, ho, r⟩ := hm
  exact ⟨o, es, ep, k _ o (Ne.symm hL) ho, r⟩
 ·refine (I.hok b u e).stay (fun c v hc q => k c v ?_ q) (fun _ q => q) fun _ _ q => q
  rcases hc with z | z
  ·rw [z]; exact nit b u e
  ·exact nit c _ z
theorem Inv.tok (I : Inv X pins σ H s) (t : Nat) : Inv X pins σ H { s with toks := t } := I.un (h' := s.heap) (t' := t) Un.refl I.hok
theorem Inv.kept {t' : Nat} (I : Inv X pins σ H s) (k : ∀ b u, s.heap.get? b = some u -> h'.get? b = some u) : Inv X pins σ H { s with heap := h', toks := t' } := I.un (Un.kept k) (I.hok.kept k)
theorem Inv.laid {a : Addr} {o : HO} {t' : Nat} (I : Inv X pins σ H s) (k : ∀ b u, s.heap.get? b = some u -> h'.get? b = some u) (hp : s.heap.objs.size <= a) (new : bo X.prog X.w (upd H a o) h' a o) :
  Inv X pins σ (upd H a o) { s with heap := h', toks := t' } := I.un (Un.laid k hp (I.hok.fresh hp)) (I.hok.laid k hp new)
theorem Inv.write {x e : Addr} {o : HO} {t' : Nat} (I : Inv X pins σ H s) (mu : Mut (H x)) (he : e = x \/ H e = some (.own x)) (k : ∀ b u, b ≠ e -> s.heap.get? b = some u -> h'.get? b = some u) (heo : ∃ u, h'.get? e = some u)
  (new : bo X.prog X.w (upd H x o) h' x o) : Inv X pins σ (upd H x o) { s with heap := h', toks := t' } := I.un (Un.write mu he k heo) (I.hok.write mu he k heo new)
theorem Inv.pins_of {pins' : List (Addr × Obj)} (I : Inv X pins σ H s) (h : ∀ p ∈ pins', s.heap.get? p.1 = some p.2 /\ H p.1 = none /\ p.1 ≠ X.env.locals /\ p.1 ∉ X.fs /\ ∀ v, p.2.data ≠ .cell v) : Inv X pins' σ H s :=
 ⟨I.ok, I.os, I.bare, I.base, I.loc, I.cell, I.free, I.freeC, fun p hp => (List.mem_append.mp hp).elim (fun z => I.pin p (List.mem_append_left _ z)) (h p), I.hok, I.len⟩
theorem pG {N : List Str} (hN : N.Nodup) {i j : Nat} {x : Str} (a : N[i]? = some x) (b : N[j]? = some x) : i = j := by
 obtain ⟨h1, e1⟩ := List.getElem?_eq_some_iff.mp a
 obtain ⟨h2, e2⟩ := List.getElem?_eq_some_iff.mp b
 exact (List.getElem_inj hN).mp (e1.trans e2.symm)
theorem nJ {M : Model} {A : Around} {E : Value -> Shared -> Prop} {i : Nat} {x : Str} {v : V} {u : Value} {Q : Unit -> Shared -> Prop} (I : Inv X pins σ H s) (hN : X.N.Nodup) (hi : X.N[i]? = some x) (hx : Loc X.env.scope x) (r : aS v u)
  (h : ∀ s', Inv X pins (σ.set i (some v)) H s' -> (∃ a, Heap.SameBut a s.heap s'.heap /\ (a = X.env.locals \/ X.env.cells.lookup x = some a)) -> Q () s') (hf : X.fn x = true \/ X.env.scope.names.lookup x = some .local := by first | exact .inl rfl | exact .inr rfl | assumption) : wpAny M A (storeName X.env x u) Q E s := by
 obtain ⟨m, hn, hl⟩ := id I.loc
 have hcls : (X.env.scope.kind == .class || (X.env.scope.kind == .module && X.env.locals != X.env.globals)) = false := by rw [I.ok.kind]; rfl
 have hiσ : i < σ.length := by rw [I.len]; exact (List.getElem?_eq_some_iff.mp hi).1
 have cne := I.cne
 have tracked : ∀ {a : Addr} {h' : Heap}, (∃ o, s.heap.get? a = some o /\ H a = none) -> Heap.SameBut a s.heap h' -> HOk X.prog X.w H h' := fun {a h'} ha hs b ob e => by
  obtain ⟨_, _, hfree⟩ := ha
  refine (I.hok b ob e).stay (fun c w' hc q => (hs.2 c ?_).trans q) (fun _ q => q) fun _ _ q => q
  rintro rfl
  rcases hc with rfl | hc
  ·rw [hfree] at e; cases e
  ·rw [hfree] at hc; cases hc
 rcases hx with hk | hk
 ·refine wpAny_storeName_local hk hn (fun h' hn' hs => ?_) hcls
  obtain ⟨oL, _, _, hoL, _⟩ := id hn
  refine h _ ⟨I.ok, I.os, I.bare, ⟨fun b o e n hb hx => ?_, fun b o e n hb hx => ?_, I.base.free, fun b o e hx => ?_, I.base.tups, I.base.frzs, I.base.tbls⟩, ⟨_, hn', fun j y v' e1 e2 e3 => ?_⟩, fun y c e => ?_, I.free, I.freeC, fun p hp => ?_, tracked ⟨oL, hoL, I.free⟩ hs, by simpa using I.len⟩ ⟨_, hs, .inl rfl⟩
  ·exact (hs.2 b (Nat.ne_of_lt (Nat.lt_of_lt_of_le (Heap.lt_size e) I.ok.above))).trans (I.base.keep b o e n hb hx)
  ·obtain ⟨sl, e1⟩ := I.base.slot b o e n hb hx
   exact ⟨sl, (hs.2 b (Nat.ne_of_lt (Nat.lt_of_lt_of_le (Heap.lt_size e) I.ok.above))).trans e1⟩
  ·obtain ⟨o', e1⟩ := I.base.there b o e hx
   exact ⟨o', (hs.2 b (Nat.ne_of_lt (Nat.lt_of_lt_of_le (Heap.lt_size e) I.ok.above))).trans e1⟩
  ·by_cases hj : j = i
   ·subst hj
    rw [hi] at e1; cases e1
    rw [List.getElem?_set_self hiσ] at e2
    cases e2
    exact ⟨u, r, .inl ⟨hk, by simp⟩⟩
   ·rw [List.getElem?_set_ne (Ne.symm hj)] at e2
    obtain ⟨u', r', q⟩ := hl j y v' e1 e2 e3
    refine ⟨u', r', ?_⟩
    rcases q with ⟨k, e⟩ | ⟨k, c, e, z⟩
    ·refine .inl ⟨k, ?_⟩
     have : y ≠ x := fun e => hj (pG hN e1 (e ▸ hi))
     simp [this, e]
    ·exact .inr ⟨k, c, e, z.sameBut hs (cne y c e)⟩
  ·obtain ⟨w', z⟩ := I.cell y c e
   exact ⟨w', z.sameBut hs (cne y c e)⟩
  ·obtain ⟨e, n, ne, nf, d⟩ := I.pin p hp
   exact ⟨(hs.2 p.1 ne).trans e, n, ne, nf, d⟩
 ·have hfn : X.fn x = true := by
   rcases hf with z | z
   ·exact z
   ·rw [z] at hk; cases hk
  obtain ⟨c, hc⟩ := I.ok.has x (.inl hk)
  obtain ⟨w', z⟩ := I.cell x c hc
  refine wpAny_storeName_cell I.ok.kind hk hc z (fun h' hc' hs => ?_)
  obtain ⟨oc, hoc, hocd⟩ := id z
  refine h { s with heap := h' } ⟨I.ok, I.os, I.bare, ⟨fun b o e n hb hx => ?_, fun b o e n hb hx => ?_, I.base.free, fun b o e hx => ?_, I.base.tups, I.base.frzs, I.base.tbls⟩, ⟨m, hn.sameBut hs (Ne.symm (cne x c hc)), fun j y v' e1 e2 e3 => ?_⟩, fun y c' e => ?_, I.free, I.freeC, fun p hp => ?_, tracked ⟨oc, hoc, I.freeC x c hc⟩ hs, by simpa using I.len⟩ ⟨c, hs, .inr hc⟩
  ·exact (hs.2 b (Nat.ne_of_lt (Nat.lt_of_lt_of_le (Heap.lt_size e) (I.ok.cab x c hfn hc)))).trans (I.base.keep b o e n hb hx)
  ·obtain ⟨sl, e1⟩ := I.base.slot b o e n hb hx
   exact ⟨sl, (hs.2 b (Nat.ne_of_lt (Nat.lt_of_lt_of_le (Heap.lt_size e) (I.ok.cab x c hfn hc)))).trans e1⟩
  ·obtain ⟨o', e1⟩ := I.base.there b o e hx
   exact ⟨o', (hs.2 b (Nat.ne_of_lt (Nat.lt_of_lt_of_le (Heap.lt_size e) (I.ok.cab x c hfn hc)))).trans e1⟩
  ·by_cases hj : j = i
   ·subst hj
    rw [hi] at e1; cases e1
    rw [List.getElem?_set_self hiσ] at e2
    cases e2
    exact ⟨u, r, .inr ⟨.inl hk, c, hc, hc'⟩⟩
   ·rw [List.getElem?_set_ne (Ne.symm hj)] at e2
    obtain ⟨u', r', q⟩ := hl j y v' e1 e2 e3
    refine ⟨u', r', ?_⟩
    rcases q with q | ⟨k, c', e, z'⟩
    ·exact .inl q
    ·refine .inr ⟨k, c', e, z'.sameBut hs ?_⟩
     rintro rfl
     exact hj (pG hN e1 (I.ok.inj _ _ _ e hc ▸ hi))
  ·by_cases hcc : c' = c
   ·subst hcc; exact ⟨_, hc'⟩
   ·obtain ⟨w2, z2⟩ := I.cell y c' e
    exact ⟨w2, z2.sameBut hs hcc⟩
  ·obtain ⟨e, n, ne, nf, d⟩ := I.pin p hp
   refine ⟨(hs.2 p.1 ?_).trans e, n, ne, nf, d⟩
   intro q
   rw [q, hoc] at e
   have q' : oc = p.2 := Option.some.inj e
   exact d w' (by rw [← q']; exact hocd)
theorem o6 {M : Model} {A : Around} {E : Value -> Shared -> Prop} {i : Nat} {x : Str} {v : V} {u : Value} {Q : Unit -> Shared -> Prop} (I : Inv X pins σ H s) (hN : X.N.Nodup) (hi : X.N[i]? = some x) (hx : Loc X.env.scope x) (r : aS v u)
  (h : ∀ s', Inv X pins (σ.set i (some v)) H s' -> Q () s') (hf : X.fn x = true \/ X.env.scope.names.lookup x = some .local := by first | exact .inl rfl | exact .inr rfl | assumption) : wpAny M A (storeName X.env x u) Q E s :=
 nJ I hN hi hx r (fun s' I' _ => h s' I') hf
theorem Inv.call' {s' : Shared} {ch : List Addr} (I : Inv X pins σ H s) (ho : s'.os = s.os) (u : Un (frs X.stack) ch H H' s.heap s'.heap) (hok : HOk X.prog X.w H' s'.heap) (hg : AllBare s'.gens)
  (hch : ∀ b ∈ ch, (b ∈ X.ex \/ X.s₀.heap.objs.size <= b) /\ b ≠ X.env.locals /\ (∀ x c, X.env.cells.lookup x = some c -> c ≠ b) /\ ∀ p ∈ X.pn ++ pins, p.1 ≠ b) : Inv X pins σ H' s' := by
 obtain ⟨h', g', d', t', o'⟩ := s'
 have e : o' = s.os := ho
 subst e
 exact I.call (g' := g') (t' := t') (d' := d') u hok hg hch
end
abbrev XK := Value -> Option Addr -> Hp -> Prop
abbrev St := List (Option V)
abbrev VK := V -> Hp -> Prop
abbrev TE := St -> Hp -> VK -> Prop
abbrev TT := St -> Hp -> (Bool -> Hp -> Prop) -> Prop
abbrev TA := St -> Hp -> (List V -> Hp -> Prop) -> Prop
structure Ends where
 nx : St -> Hp -> Prop
 rt : VK
 bk : St -> Hp -> Prop := fun _ _ => False
 ct : St -> Hp -> Prop := fun _ _ => False
abbrev TS := Ends -> St -> Hp -> Prop
def EP (X : Cx) (pins : List (Addr × Obj)) (σ : St) (Q : VK) (u : Value) (s' : Shared) : Prop := ∃ v H', Inv X pins σ H' s' /\ aS v u /\ Q v H'
def TP (X : Cx) (pins : List (Addr × Obj)) (σ : St) (Q : Bool -> Hp -> Prop) (b : Bool) (s' : Shared) : Prop := ∃ H', Inv X pins σ H' s' /\ Q b H'
def AP (X : Cx) (pins : List (Addr × Obj)) (σ : St) (Q : List V -> Hp -> Prop) (us : List Value) (s' : Shared) : Prop := ∃ vs H', Inv X pins σ H' s' /\ ar vs us /\ Q vs H'
def SP (X : Cx) (pins : List (Addr × Obj)) (D : Ends) (f : Flow) (s' : Shared) : Prop :=
 match f with
 | .next => ∃ σ' H', Inv X pins σ' H' s' /\ D.nx σ' H'
 | .brk => ∃ σ' H', Inv X pins σ' H' s' /\ D.bk σ' H'
 | .cont => ∃ σ' H', Inv X pins σ' H' s' /\ D.ct σ' H'
 | .ret u => ∃ v σ' H', Inv X pins σ' H' s' /\ aS v u /\ D.rt v H'
def PE (X : Cx) (e : Expr) (t : TE) : Prop :=
 ∀ (pins : List (Addr × Obj)) (s : Shared) (σ : St) (H : Hp) (Q : VK), Inv X pins σ H s -> t σ H Q -> wpAny (model X.prog X.w) X.A (eval e X.env) (EP X pins σ Q) X.xe s
def PT (X : Cx) (e : Expr) (t : TT) : Prop :=
 ∀ (pins : List (Addr × Obj)) (s : Shared) (σ : St) (H : Hp) (Q : Bool -> Hp -> Prop), Inv X pins σ H s -> t σ H Q -> wpAny (model X.prog X.w) X.A (isTrue e X.env (eval e X.env)) (TP X pins σ Q) X.xe s
def PW (X : Cx) (e : Expr) (t : TT) : Prop :=
 ∀ (whole : Sem Value) (pins : List (Addr × Obj)) (s : Shared) (σ : St) (H : Hp) (Q : Bool -> Hp -> Prop), Inv X pins σ H s -> t σ H Q -> wpAny (model X.prog X.w) X.A (isTrue e X.env whole) (TP X pins σ Q) X.xe s
theorem PW.pt {X : Cx} {e : Expr} {t : TT} (h : PW X e t) : PT X e t := h _
def PA (X : Cx) (es : List Expr) (t : TA) : Prop :=
 ∀ (pos : Pos) (pins : List (Addr × Obj)) (s : Shared) (σ : St) (H : Hp) (Q : List V -> Hp -> Prop), Inv X pins σ H s -> t σ H Q -> wpAny (model X.prog X.w) X.A (spliced (backTo pos (starEach es X.env))) (AP X pins σ Q) X.xe s
def PS (X : Cx) (st : Stmt) (t : TS) : Prop :=
 ∀ (pins : List (Addr × Obj)) (s : Shared) (σ : St) (H : Hp) (D : Ends), Inv X pins σ H s -> t D σ H -> wpAny (model X.prog X.w) X.A (exec st X.env) (SP X pins D) X.xe s
def PSs (X : Cx) (st : List Stmt) (t : TS) : Prop :=
 ∀ (pins : List (Addr × Obj)) (s : Shared) (σ : St) (H : Hp) (D : Ends), Inv X pins σ H s -> t D σ H -> wpAny (model X.prog X.w) X.A (execs st X.env) (SP X pins D) X.xe s
theorem thn {α : Type} {t : Sem α} {Q Q' : α -> Shared -> Prop} {M : Model} {A : Around} {E : Value -> Shared -> Prop} {s : Shared} (h : wpAny M A t Q E s) (hQ : ∀ a s, Q a s -> Q' a s) : wpAny M A t Q' E s := wpAny_mono h hQ fun _ _ x => x
section
variable {X : Cx}
def iO (i : Nat) : TE := fun σ H Q => ∃ v, σ[i]? = some (some v) /\ Q v H
def tC (v : V) : TE := fun _ H Q => Q v H
theorem yK {i : Nat} {x : Str} {pos : Pos} (hN : X.N[i]? = some x) (hv : Vis X.env.scope x) (hd : (x == ("__debug__" : Str)) = false := by decide) (hcd : (x == ("__classdict__" : Str)) = false := by decide) : PE X (.Name x pos) (iO i) := by
 intro pins s σ H Q I h
 obtain ⟨v, e, h⟩ := h
 obtain ⟨m, hn, hl⟩ := I.loc
 obtain ⟨u, r, l⟩ := hl i x v hN e hv
 have fin : EP X pins σ Q u s := ⟨v, H, I, r, h⟩
 rcases l with ⟨hk, hm⟩ | ⟨hk, c, hc, hcell⟩
 ·exact wpAny_Name (wpAny_loadName_local I.ok.kind hk hn hm fin) hd
 ·rcases hk with hk | hk
  ·exact wpAny_Name (wpAny_loadName_cell I.ok.kind hk hc hcell fin) hd
  ·exact wpAny_Name (wpAny_loadName_free I.ok.kind hk hc hcell fin hcd) hd
theorem bH {i j pos} : PE X (.Constant (.int i) j pos) (tC (.int i)) := fun _ _ _ H _ I h => wpAny_Constant_int ⟨.int i, H, I.tok _, ⟨_, rfl⟩, h⟩
theorem AU {b j pos} : PE X (.Constant (.bool b) j pos) (tC (.bl b)) := fun _ _ _ H _ I h => Constant_bool ⟨.bl b, H, I, rfl, h⟩
theorem yN {j pos} : PE X (.Constant .none j pos) (tC .non) := fun _ _ _ H _ I h => Constant_none ⟨.non, H, I, rfl, h⟩
theorem lQ {x j pos} : PE X (.Constant (.str x) j pos) (tC (.str x)) := fun _ _ _ H _ I h => Calls.Constant_str ⟨.str x, H, I.tok _, ⟨_, rfl⟩, h⟩
def Gl (X : Cx) (x : Str) : Prop := X.env.kindOf x = some .globalImplicit
theorem gt {E : Value -> Shared -> Prop} {pins : List (Addr × Obj)} {s : Shared} {σ : St} {H : Hp} {x : Str} {u : Value} {pos : Pos} {Q : Value -> Shared -> Prop} (I : Inv X pins σ H s) (hg : Gl X x) (hm : X.mg x = some u) (h : Q u s)
  (hd : (x == ("__debug__" : Str)) = false := by decide) : wpAny (model X.prog X.w) X.A (eval (.Name x pos) X.env) Q E s :=
 Calls.Name_function_global I.ok.kind hg (Calls.loadGlobal_global (by rw [I.ok.glob]; exact I.mod.glob.keeps I.bk) hm h) hd
theorem gC {E : Value -> Shared -> Prop} {pins : List (Addr × Obj)} {s : Shared} {σ : St} {H : Hp} {x : Str} {u : Value} {pos : Pos} {Q : Value -> Shared -> Prop} (I : Inv X pins σ H s) (hg : Gl X x) (hm : X.mg x = none) (hv : bootBuiltins x = some u) (h : Q u s)
  (hn : x ≠ "__name__" := by decide) (hd : (x == ("__debug__" : Str)) = false := by decide) : wpAny (model X.prog X.w) X.A (eval (.Name x pos) X.env) Q E s := by
 obtain ⟨mb, h1, h2⟩ := I.mod.blt
 exact Calls.Name_function_global I.ok.kind hg (Calls.loadGlobal_builtin (by rw [I.ok.glob]; exact I.mod.glob.keeps I.bk) hm (by rw [I.ok.blt]; exact h1.keeps I.bk) ((h2 x hn).trans hv) h) hd
theorem xD {x : Str} {v : V} {u : Value} {pos : Pos} (hg : Gl X x) (hm : X.mg x = some u) (r : aS v u) (hd : (x == ("__debug__" : Str)) = false := by decide) : PE X (.Name x pos) (tC v) :=
 fun _ _ _ H _ I h => gt I hg hm ⟨v, H, I, r, h⟩ hd
theorem cA {x : Str} {v : V} {u : Value} {pos : Pos} (hg : Gl X x) (hm : X.mg x = none) (hv : bootBuiltins x = some u) (r : aS v u) (hn : x ≠ "__name__" := by decide) (hd : (x == ("__debug__" : Str)) = false := by decide) : PE X (.Name x pos) (tC v) :=
 fun _ _ _ H _ I h => gC I hg hm hv ⟨v, H, I, r, h⟩ hn hd
variable {a b : Expr} {ta tb : TE} {pos : Pos}
variable {tA tB' : TT} {rest : List Expr}
def tOr (t u : TT) : TT := fun σ H Q => t σ H fun c H1 => if c = true then Q true H1 else u σ H1 Q
def tNot (t : TT) : TT := fun σ H Q => t σ H fun c H1 => Q (!c) H1
theorem yB (ha : PT X a tA) : PW X (.BoolOp .Or [a] pos) tA := by
 intro wh pins s σ H Q I h
 refine isTrue_or (thn (ha pins s σ H Q I h) fun c s1 e => ?_)
 cases c with
 | false => exact isTrue_or_nil e
 | true => exact e
theorem AT (ha : PT X a tA) (hb : PW X (.BoolOp .Or (b :: rest) pos) tB') : PW X (.BoolOp .Or (a :: b :: rest) pos) (tOr tA tB') := by
 intro wh pins s σ H Q I h
 refine isTrue_or (thn (ha pins s σ H _ I h) fun c s1 ⟨H1, I1, q1⟩ => ?_)
 cases c with
 | true => exact ⟨H1, I1, q1⟩
 | false => exact hb wh pins s1 σ H1 Q I1 q1
theorem yC (ha : PT X a tA) : PT X (.UnaryOp .Not a pos) (tNot tA) := by
 intro pins s σ H Q I h
 exact isTrue_not (ha pins s σ H (fun c H1 => Q (!c) H1) I h)
def AO (ta tb : TE) : TE := fun σ H Q => ta σ H fun x H1 => ∃ c, x = .bl c /\ if c = true then tb σ H1 Q else Q (.bl false) H1
theorem yM {op} {t : TE} (h : PE X a t) : PE X (.BoolOp op [a] pos) t := fun pins s σ H Q I hw => BoolOp_one (h pins s σ H Q I hw)
theorem yP (ha : PE X a ta) (hb : PE X (.BoolOp .And (b :: rest) pos) tb) : PE X (.BoolOp .And (a :: b :: rest) pos) (AO ta tb) := by
 intro pins s σ H Q I h
 refine BoolOp_and (thn (ha pins s σ H _ I h) fun v s1 ⟨x, H1, I1, r1, q1⟩ => ?_)
 obtain ⟨c, rfl, q1⟩ := q1
 cases r1
 refine wpAny_truthy_bool ?_
 cases c with
 | true => exact hb pins s1 σ H1 Q I1 q1
 | false => exact ⟨.bl false, H1, I1, rfl, q1⟩
end
def SqL (K : Frag) (H : Hp) (a : Addr) (xs : List V) : Prop :=
 Rd H a (.lst xs) \/
  ∃ (o : Obj) (its : Array Value) (n : Nat), K.lookup a = some o /\ o.cls = .type "list" /\ o.dict = none /\ o.data = .seq its n /\ its.size <= sizeLine /\ ar xs its.toList
def SqT (K : Frag) (H : Hp) (a : Addr) (xs : List V) : Prop :=
 Rd H a (.tup xs) \/
  ∃ (o : Obj) (its : Array Value) (n : Nat), K.lookup a = some o /\ o.cls = .type "tuple" /\ o.data = .seq its n /\ its.size <= sizeLine /\ ar xs its.toList
def absV : Value -> Option V
 | .none => some .non
 | .bool b => some (.bl b)
 | .int i _ => some (.int i)
 | .str x _ => some (.str x)
 | .bytes b _ => some (.byt b)
 | .float b _ => some (.flt b)
 | .ref a => some (.ref a)
 | .type n => some (.ty n)
 | _ => none
theorem aS.abs {x : V} {u : Value} (r : aS x u) : absV u = some x := by
 cases x with
 | non => cases r; rfl
 | bl _ => cases r; rfl
 | int _ => obtain ⟨t, rfl⟩ := r; rfl
 | str _ => obtain ⟨t, rfl⟩ := r; rfl
 | byt _ => obtain ⟨t, rfl⟩ := r; rfl
 | flt _ => obtain ⟨t, rfl⟩ := r; rfl
 | ref _ => cases r; rfl
 | ty _ => cases r; rfl
theorem aS.inj {x y : V} {u : Value} (r : aS x u) (q : aS y u) : x = y := Option.some.inj (r.abs.symm.trans q.abs)
theorem ar.inj : ∀ {xs ys : List V} {us : List Value}, ar xs us -> ar ys us -> xs = ys
 | _, _, _, .nil, .nil => rfl
 | _, _, _, .cons r t, .cons r' t' => by rw [r.inj r', ar.inj t t']
section
variable {X : Cx} {pins : List (Addr × Obj)} {σ : St} {H : Hp} {s : Shared} {a : Addr} {xs ys : List V}
theorem SqL.of {K : Frag} (h : H a = some (.lst xs)) : SqL K H a xs := .inl (.inl h)
theorem Inv.list (I : Inv X pins σ H s) (h : SqL X.K H a xs) : ∃ its : List Value, ar xs its /\ PlainL s.heap a its.toArray /\ xs.length <= sizeLine := by
 rcases h with h | ⟨o, its, n, hk, hc, hd, hs, hz, r⟩
 ·obtain ⟨z, its, n, r, e⟩ := h.ok I.hok
  exact ⟨its, r, ⟨_, n, e, rfl, rfl, rfl⟩, z⟩
 ·refine ⟨its.toList, r, ⟨o, n, I.kIn a o hk, hc, hd, by simpa using hs⟩, ?_⟩
  have e := r.length
  simp only [Array.length_toList] at e
  omega
theorem Inv.tuple (I : Inv X pins σ H s) (h : SqT X.K H a xs) : ∃ its : List Value, ar xs its /\ IsTup s.heap a its.toArray /\ xs.length <= sizeLine := by
 rcases h with h | ⟨o, its, n, hk, hc, hs, hz, r⟩
 ·obtain ⟨z, its, r, p⟩ := h.ok I.hok
  exact ⟨its, r, p, z⟩
 ·refine ⟨its.toList, r, ⟨o, I.kIn a o hk, hc, n, by simpa using hs⟩, ?_⟩
  have e := r.length
  simp only [Array.length_toList] at e
  omega
theorem Inv.list_inj (I : Inv X pins σ H s) (h : SqL X.K H a xs) (h' : SqL X.K H a ys) : xs = ys := by
 obtain ⟨its, r, ⟨o, n, e, _, _, d⟩, _⟩ := I.list h
 obtain ⟨its', r', ⟨o', n', e', _, _, d'⟩, _⟩ := I.list h'
 rw [e] at e'; cases e'
 rw [d] at d'
 injection d' with d1 _
 have : its = its' := by simpa using congrArg Array.toList d1
 subst this
 exact r.inj r'
theorem Inv.tuple_inj (I : Inv X pins σ H s) (h : SqT X.K H a xs) (h' : SqT X.K H a ys) : xs = ys := by
 obtain ⟨its, r, ⟨o, e, _, n, d⟩, _⟩ := I.tuple h
 obtain ⟨its', r', ⟨o', e', _, n', d'⟩, _⟩ := I.tuple h'
 rw [e] at e'; cases e'
 rw [d] at d'
 injection d' with d1 _
 have : its = its' := by simpa using congrArg Array.toList d1
 subst this
 exact r.inj r'
end
abbrev Cx.wish (X : Cx) (E : Value -> Shared -> Prop) : Cx := { X with xe := E }
abbrev Cx.nox (X : Cx) : Cx := X.wish fun _ _ => False
theorem Cx.Ok.wish {X : Cx} (ok : X.Ok) (E : Value -> Shared -> Prop) : (X.wish E).Ok :=
 ⟨ok.mod, ok.kind, ok.glob, ok.blt, ok.above, ok.inj, ok.has, ok.cab, ok.hd, ok.frames, ok.stk, ok.exf, ok.bs, ok.bsz, ok.noex, ok.exfs, ok.funs, ok.frf⟩
theorem Cx.Ok.unwish {X : Cx} {E : Value -> Shared -> Prop} (ok : (X.wish E).Ok) : X.Ok :=
 ⟨ok.mod, ok.kind, ok.glob, ok.blt, ok.above, ok.inj, ok.has, ok.cab, ok.hd, ok.frames, ok.stk, ok.exf, ok.bs, ok.bsz, ok.noex, ok.exfs, ok.funs, ok.frf⟩
section
variable {X : Cx} {pins : List (Addr × Obj)} {σ : St} {H : Hp} {s : Shared} {E : Value -> Shared -> Prop}
theorem Inv.wish (I : Inv X pins σ H s) (E : Value -> Shared -> Prop) : Inv (X.wish E) pins σ H s := ⟨I.ok.wish E, I.os, I.bare, I.base, I.loc, I.cell, I.free, I.freeC, I.pin, I.hok, I.len⟩
theorem Inv.unwish (I : Inv (X.wish E) pins σ H s) : Inv X pins σ H s := ⟨I.ok.unwish, I.os, I.bare, I.base, I.loc, I.cell, I.free, I.freeC, I.pin, I.hok, I.len⟩
theorem SP.unwish {D : Ends} {f : Flow} {s' : Shared} (h : SP (X.wish E) pins D f s') : SP X pins D f s' := by
 cases f with
 | next => obtain ⟨σ', H', I, q⟩ := h; exact ⟨σ', H', I.unwish, q⟩
 | brk => obtain ⟨σ', H', I, q⟩ := h; exact ⟨σ', H', I.unwish, q⟩
 | cont => obtain ⟨σ', H', I, q⟩ := h; exact ⟨σ', H', I.unwish, q⟩
 | ret u => obtain ⟨v, σ', H', I, r, q⟩ := h; exact ⟨v, σ', H', I.unwish, r, q⟩
theorem PSs.nox {st : List Stmt} {t : TS} (h : PSs X.nox st t) : PSs X st t := fun pins s σ H D I hw =>
 wpAny_mono (h pins s σ H D (I.wish _) hw) (fun _ _ q => q.unwish) fun _ _ z => False.elim z
end
section
variable {X : Cx} {st : Stmt} {rest : List Stmt} {t u : TS} {e : Expr} {te : TE} {pos : Pos}
def AL : TS := fun D σ H => D.nx σ H
def tSeq (t u : TS) : TS := fun D σ H => t { D with nx := u D } σ H
theorem mH : PSs X [] AL := fun _ _ σ H _ I h => wpAny_execs_nil ⟨σ, H, I, h⟩
theorem bY (h1 : PS X st t) (h2 : PSs X rest u) : PSs X (st :: rest) (tSeq t u) := by
 intro pins s σ H D I h
 refine wpAny_execs_cons (thn (h1 pins s σ H { D with nx := u D } I h) fun f s1 q => ?_)
 cases f with
 | next =>
  obtain ⟨σ', H', I', q⟩ := q
  exact h2 pins s1 σ' H' D I' q
 | ret v => exact q
 | brk => exact q
 | cont => exact q
theorem eP (h1 : PS X st t) : PSs X [st] t := by
 intro pins s σ H D I h
 refine wpAny_execs_cons (thn (h1 pins s σ H D I h) fun f s1 q => ?_)
 cases f with
 | next => exact wpAny_execs_nil q
 | ret v => exact q
 | brk => exact q
 | cont => exact q
theorem Inv.quiet {pins : List (Addr × Obj)} {σ : St} {H : Hp} {s : Shared} (I : Inv X pins σ H s) : interactive X.env = false := by simp [interactive, I.ok.kind]
def wM (te : TE) : TS := fun D σ H => te σ H fun _ H1 => D.nx σ H1
theorem dn (he : PE X e te) (hs : swapsWith e none pos.line X.env = pure false := by rfl) : PS X (.Expr e pos) (wM te) := by
 intro pins s σ H D I h
 exact wpAny_Expr_any (thn (he pins s σ H _ I h) fun v s1 ⟨x, H1, I1, r1, q1⟩ => ⟨σ, H1, I1, q1⟩) I.quiet hs
def uN (te : TE) : TS := fun D σ H => te σ H D.rt
theorem aI (he : PE X e te) : PS X (.Return (some e) pos) (uN te) := by
 intro pins s σ H D I h
 exact wpAny_Return_some (thn (he pins s σ H _ I h) fun v s1 ⟨x, H1, I1, r1, q1⟩ => ⟨x, σ, H1, I1, r1, q1⟩)
def tIfS (c : TT) (t u : TS) : TS := fun D σ H => c σ H fun b H1 => if b = true then t D σ H1 else u D σ H1
theorem wU {c : Expr} {a b : List Stmt} {tc : TT} (hc : PT X c tc) (ha : PSs X a t) (hb : PSs X b u) : PS X (.If c a b pos) (tIfS tc t u) := by
 intro pins s σ H D I h
 refine wpAny_If (thn (hc pins s σ H _ I h) fun d s1 ⟨H1, I1, q1⟩ => ?_)
 cases d with
 | true => exact ha pins s1 σ H1 D I1 q1
 | false => exact hb pins s1 σ H1 D I1 q1
end
abbrev TG := V -> St -> Hp -> (St -> Hp -> Prop) -> Prop
abbrev TGs := List V -> St -> Hp -> (St -> Hp -> Prop) -> Prop
def PG (X : Cx) (target : Expr) (t : TG) : Prop :=
 ∀ (pins : List (Addr × Obj)) (s : Shared) (σ : St) (H : Hp) (v : V) (u : Value) (Q : St -> Hp -> Prop), Inv X pins σ H s -> aS v u -> t v σ H Q ->
  wpAny (model X.prog X.w) X.A (assign target X.env u) (fun _ s' => ∃ σ' H', Inv X pins σ' H' s' /\ Q σ' H') X.xe s
def PGs (X : Cx) (ts : List Expr) (t : TGs) : Prop :=
 ∀ (pins : List (Addr × Obj)) (s : Shared) (σ : St) (H : Hp) (vs : List V) (us : List Value) (Q : St -> Hp -> Prop), Inv X pins σ H s -> ar vs us -> t vs σ H Q ->
  wpAny (model X.prog X.w) X.A (assignInOrder ((assignEach ts X.env).map (·.2)) us) (fun _ s' => ∃ σ' H', Inv X pins σ' H' s' /\ Q σ' H') X.xe s
abbrev wD := V -> V -> V -> Hp -> (Hp -> Prop) -> Prop
def Aw (X : Cx) (t : wD) : Prop :=
 ∀ (pins : List (Addr × Obj)) (s : Shared) (σ : St) (H : Hp) (o i v : V) (ov iv u : Value) (Q : Hp -> Prop), Inv X pins σ H s -> aS o ov -> aS i iv -> aS v u -> t o i v H Q ->
  wpAny (model X.prog X.w) X.A (setItem ov iv u) (fun _ s' => ∃ H', Inv X pins σ H' s' /\ Q H') X.xe s
section
variable {X : Cx} {pos : Pos}
def eD (i : Nat) : TG := fun v σ H Q => Q (σ.set i (some v)) H
theorem qE {i : Nat} {x : Str} (hN : X.N.Nodup) (hi : X.N[i]? = some x) (hx : Loc X.env.scope x) (hf : X.fn x = true \/ X.env.scope.names.lookup x = some .local := by first | exact .inl rfl | exact .inr rfl | assumption) : PG X (.Name x pos) (eD i) := by
 intro pins s σ H v u Q I r h
 exact wpAny_assign_Name (o6 I hN hi hx r (fun s' I' => ⟨_, H, I', h⟩) hf)
def gNil : TGs := fun vs σ H Q => vs = [] /\ Q σ H
def sy (t : TG) (u : TGs) : TGs := fun vs σ H Q => ∃ v r, vs = v :: r /\ t v σ H fun σ' H' => u r σ' H' Q
theorem cz : PGs X [] gNil := by
 intro pins s σ H vs us Q I r h
 obtain ⟨e, h⟩ := h
 subst e
 cases r
 exact assignInOrder_nil ⟨σ, H, I, h⟩
theorem aU {e : Expr} {es : List Expr} {t : TG} {u : TGs} (h1 : PG X e t) (h2 : PGs X es u)
  (hs : (assignEach (e :: es) X.env).map (·.2) = assign e X.env :: (assignEach es X.env).map (·.2) := by rfl) : PGs X (e :: es) (sy t u) := by
 intro pins s σ H vs us Q I r h
 obtain ⟨v, vr, e1, h⟩ := h
 subst e1
 cases r with
 | cons r rr =>
  rw [hs]
  refine assignInOrder_cons (thn (h1 pins s σ H _ _ _ I r h) fun _ s1 ⟨σ1, H1, I1, q1⟩ => ?_)
  exact h2 pins s1 σ1 H1 _ _ Q I1 rr q1
def vG (K : Frag) (n : Nat) (t : TGs) : TG := fun v σ H Q => ∃ a xs, v = .ref a /\ SqT K H a xs /\ xs.length = n /\ t xs σ H Q
theorem di {es : List Expr} {k : Nat} {t : TGs} {n : Nat} (hc : X.calm = true) (h : PGs X es t)
  (hn : (assignEach es X.env).length = n := by rfl) (hst : (assignEach es X.env).findIdx? (·.1) = none := by rfl) : PG X (.Tuple es k pos) (vG X.K n t) := by
 intro pins s σ H v u Q I r hw
 obtain ⟨a, xs, e1, hq, hl, hw⟩ := hw
 subst e1
 cases r
 obtain ⟨its, rv, ht, hz⟩ := I.tuple hq
 refine assign_Tuple_tuple (I.ok.hd hc) ht (by simp [hn, ← hl, rv.length]) hst fun h' hx => ?_
 have I1 : Inv X pins σ H { s with heap := h' } := I.kept (t' := s.toks) fun b o e => hx b o (Nat.ne_of_lt (Heap.lt_size e)) e
 exact h pins _ σ H xs _ Q I1 (by simpa using rv) hw
def sw (to ti : TE) (t : wD) : TG := fun v σ H Q => to σ H fun o H1 => ti σ H1 fun i H2 => t o i v H2 fun H3 => Q σ H3
theorem eY {o i : Expr} {to ti : TE} {t : wD} (ho : PE X o to) (hi : PE X i ti) (hs : Aw X t)
  (ha : ∀ v, assign (.Subscript o i pos) X.env v = (do
   let ov ← holding [v] (eval o X.env)
   let iv ← holding [v, ov] (eval i X.env)
   standAt pos
   holding [v, ov, iv] (setItem ov iv v)
   release [v, ov, iv] []) := by intro _; rfl) : PG X (.Subscript o i pos) (sw to ti t) := by
 intro pins s σ H v u Q I r h
 rw [ha]
 refine wpAny_bind (wpAny_holding (thn (ho pins s σ H _ I h) fun ov s1 ⟨x, H1, I1, r1, q1⟩ => ?_))
 refine wpAny_bind (wpAny_holding (thn (hi pins s1 σ H1 _ I1 q1) fun iv s2 ⟨y, H2, I2, r2, q2⟩ => ?_))
 refine wpAny_bind (wpAny_standAt (wpAny_bind (wpAny_holding (thn (hs pins s2 σ H2 x y v ov iv u _ I2 r1 r2 r q2) fun _ s3 ⟨H3, I3, q3⟩ => ?_))))
 exact wpAny_release ⟨σ, H3, I3, q3⟩
def fA (te : TE) (g : TG) : TS := fun D σ H => te σ H fun x H1 => g x σ H1 D.nx
theorem dN {tg e : Expr} {te : TE} {g : TG} (he : PE X e te) (hg : PG X tg g) (hs : swapsWithSole [tg] e pos.line X.env = pure false := by rfl) (hw : swappedStores [tg] e X.env = pure none := by rfl)
  (h1 : (assignEach [tg] X.env).map (·.2) = [assign tg X.env] := by rfl) : PS X (.Assign [tg] e pos) (fA te g) := by
 intro pins s σ H D I h
 refine wpAny_Assign_stores (thn (he pins s σ H _ I h) fun v s1 ⟨x, H1, I1, r1, q1⟩ => ?_) hs hw
 rw [h1]
 exact thn (hg pins s1 σ H1 x v _ I1 r1 q1) fun _ s2 q => q
theorem lP {i : Nat} {x : Str} {e : Expr} {te : TE} {pos' : Pos} (hN : X.N.Nodup) (hi : X.N[i]? = some x) (hx : Loc X.env.scope x) (he : PE X e te) (hs : swapsWith e (some (.Name x pos')) pos.line X.env = pure false := by rfl) (hf : X.fn x = true \/ X.env.scope.names.lookup x = some .local := by first | exact .inl rfl | exact .inr rfl | assumption) :
  PS X (.Assign [.Name x pos'] e pos) (fA te (eD i)) := by
 intro pins s σ H D I h
 refine wpAny_Assign_Name (thn (he pins s σ H _ I h) fun v s1 ⟨y, H1, I1, r1, q1⟩ => ?_) hs
 exact o6 I1 hN hi hx r1 (fun s2 I2 => ⟨_, H1, I2, q1⟩) hf
end
section
variable {X : Cx} {pos : Pos}
end
structure It where
 go : Nat -> Hp -> Prop
 yld : Nat -> Hp -> V -> Hp -> Prop
 stop : Nat -> Hp -> Prop
def d8 (X : Cx) (pins : List (Addr × Obj)) (H : Hp) (b : Addr) : Prop :=
 H b = none /\ b ≠ X.env.locals /\ b ∉ X.fs /\ (b ∈ X.ex \/ X.s₀.heap.objs.size <= b) /\ (∀ x c, X.env.cells.lookup x = some c -> c ≠ b) /\ ∀ p ∈ X.pn ++ pins, p.1 ≠ b
theorem Inv.fpOk {X : Cx} {pins : List (Addr × Obj)} {σ : St} {H H' : Hp} {s : Shared} {b : Addr} (I : Inv X pins σ H s) (hb : s.heap.objs.size <= b) (hn : H' b = none) : d8 X pins H' b := by
 refine ⟨hn, Nat.ne_of_gt (Nat.lt_of_lt_of_le I.lt hb), I.nofs hb, .inr (Nat.le_trans I.sz hb), fun x c e z => ?_, fun p hp z => ?_⟩
 ·obtain ⟨v, q⟩ := I.cell x c e
  exact absurd (Nat.lt_of_lt_of_le q.lt (by rw [z]; exact hb)) (Nat.lt_irrefl _)
 ·exact absurd (Nat.lt_of_lt_of_le (Heap.lt_size (I.pin p hp).1) (by rw [z]; exact hb)) (Nat.lt_irrefl _)
structure Turn (P : Program) (w : World) (K : Frag) (tg : Expr) (J : It) (fp : List Addr) (it : Addr) (tn : Nat -> Heap -> Prop) : Prop where
 mem : it ∈ fp
 obj : ∀ i h, tn i h -> ∀ b ∈ fp, ∃ o, h.get? b = some o /\ ∀ v, o.data ≠ .cell v
 keep : ∀ i h h', tn i h -> (∀ b ∈ fp, ∀ o, h.get? b = some o -> h'.get? b = some o) -> tn i h'
 item : ∀ (X : Cx), X.prog = P -> X.w = w -> X.K = K -> X.calm = true -> ∀ (i : Nat) (pins : List (Addr × Obj)) (s : Shared) (σ : St) (H : Hp) (E : Value -> Shared -> Prop), Inv X pins σ H s -> (∀ b ∈ fp, d8 X pins H b) -> tn i s.heap -> J.go i H ->
  wpAny (model P w) X.A (pyNext (.ref it)) (fun r s1 => ∃ u, r = some u /\
   wpAny (model P w) X.A (letOwnedTupleGo tg (.ref it) u) (fun _ s2 => ∃ x H', Inv X pins σ H' s2 /\ aS x u /\ J.yld i H x H' /\ tn (i + 1) s2.heap /\ ∀ b ∈ fp, H' b = none) E s1) E s
 done : ∀ (X : Cx), X.prog = P -> X.w = w -> X.K = K -> X.calm = true -> ∀ (i : Nat) (pins : List (Addr × Obj)) (s : Shared) (σ : St) (H : Hp) (E : Value -> Shared -> Prop), Inv X pins σ H s -> (∀ b ∈ fp, d8 X pins H b) -> tn i s.heap -> J.stop i H ->
  wpAny (model P w) X.A (pyNext (.ref it)) (fun r s1 => r = none /\ Inv X pins σ H s1) E s
 self : ∀ (A : Around) (i : Nat) (s : Shared) (Q : Value -> Shared -> Prop) (E : Value -> Shared -> Prop), tn i s.heap -> Q (.ref it) s -> wpAny (model P w) A (pyIter (.ref it)) Q E s
abbrev TI := St -> Hp -> (It -> Hp -> Prop) -> Prop
def PIE (X : Cx) (pins : List (Addr × Obj)) (σ : St) (tg : Expr) (R : It -> Hp -> Prop) (itv : Value) (s2 : Shared) : Prop :=
 ∃ (it : Addr) (fp : List Addr) (tn : Nat -> Heap -> Prop) (J : It) (H' : Hp), itv = .ref it /\ Inv X pins σ H' s2 /\ Turn X.prog X.w X.K tg J fp it tn /\ tn 0 s2.heap /\ (∀ b ∈ fp, d8 X pins H' b) /\ R J H'
def PI (X : Cx) (tg iter : Expr) (wi : TI) : Prop :=
 ∀ (pins : List (Addr × Obj)) (s : Shared) (σ : St) (H : Hp) (R : It -> Hp -> Prop), Inv X pins σ H s -> wi σ H R ->
  wpAny (model X.prog X.w) X.A (eval iter X.env) (fun v s1 => wpAny (model X.prog X.w) X.A (pyIter v) (PIE X pins σ tg R) X.xe s1) X.xe s
theorem ss {M : Model} {A : Around} {E : Value -> Shared -> Prop} {s : Shared} {tg : Expr} {it : Addr} {u : Value} {o : Obj} {n : String} {vs : Array Value} {Q : Unit -> Shared -> Prop} (ho : s.heap.get? it = some o) (hc : o.cls = .type n) (hd : o.data = .fields vs)
  (hn : ["enumerate", "zip", "dict_itemiterator", "dict_reverseitemiterator", "odict_iterator", "itertools.zip_longest", "itertools.pairwise"].contains n = false) (hQ : Q () s) : wpAny M A (letOwnedTupleGo tg (.ref it) u) Q E s := by
 unfold letOwnedTupleGo
 cases tg <;> first
  | exact wpAny_pure hQ
  | (cases u <;> first
    | exact wpAny_pure hQ
    | (refine wpAny_bind (wpAny_load ho ?_)
       rw [hc, hd]
       show wpAny M A (if (["enumerate", "zip", "dict_itemiterator", "dict_reverseitemiterator", "odict_iterator", "itertools.zip_longest", "itertools.pairwise"].contains n && vs[0]? == some (rawInt _)) = true then _ else _) Q E s
       rw [if_neg (by intro h; rw [hn, Bool.false_and] at h; cases h)]
       exact wpAny_pure hQ))
def Itl (K : Frag) (a : Addr) : It :=
 ⟨fun i H => ∃ xs x, SqL K H a xs /\ xs[i]? = some x, fun i H x H' => H' = H /\ ∀ xs, SqL K H a xs -> xs[i]? = some x, fun i H => ∃ xs, SqL K H a xs /\ xs.length <= i⟩
def Itt (K : Frag) (a : Addr) : It :=
 ⟨fun i H => ∃ xs x, SqT K H a xs /\ xs[i]? = some x, fun i H x H' => H' = H /\ ∀ xs, SqT K H a xs -> xs[i]? = some x, fun i H => ∃ xs, SqT K H a xs /\ xs.length <= i⟩
def Itr (lo : Int) (n : Nat) : It := ⟨fun i _ => i < n, fun i H x H' => H' = H /\ x = .int (lo + i), fun i _ => n <= i⟩
theorem nC {P : Program} {w : World} {K : Frag} {tg : Expr} (a it : Addr) : Turn P w K tg (Itl K a) [it] it (fun i h => h.IsListIter it a i) where
 mem := by simp
 obj := fun i h st b hb => by
  have e : b = it := by simpa using hb
  subst e
  obtain ⟨o, e, c, d⟩ := st
  exact ⟨o, e, fun v z => by rw [d] at z; cases z⟩
 keep := fun i h h' st k => st.at fun o e => k it (by simp) o e
 item := by
  intro X hP hw hK hc i pins s σ H E I hf st hg
  subst hP hw hK
  obtain ⟨xs, x, hq, hx⟩ := hg
  obtain ⟨its, rv, p, hz⟩ := I.list hq
  obtain ⟨u, hu, ru⟩ := rv.get hx
  obtain ⟨f0, f1, f2, f3, f4, f5⟩ := hf it (by simp)
  refine wpAny_pyNext_list_item st p.isList (x := u) (by simpa using hu) fun h' st' sb => ?_
  have I1 : Inv X pins σ H { s with heap := h' } := I.turned (t' := s.toks) (fun b o hb e => (sb.2 b hb).trans e) f0 f1 f3 f4 f5
  obtain ⟨o, e, c, d⟩ := id st'
  exact ⟨u, rfl, ss (s := { s with heap := h' }) e c d (by decide) ⟨x, H, I1, ru, ⟨rfl, fun ys hy => by rw [I.list_inj hy hq]; exact hx⟩, st', fun b hb => (hf b hb).1⟩⟩
 done := by
  intro X hP hw hK hc i pins s σ H E I hf st hg
  subst hP hw hK
  obtain ⟨xs, hq, hx⟩ := hg
  obtain ⟨its, rv, p, hz⟩ := I.list hq
  obtain ⟨f0, f1, f2, f3, f4, f5⟩ := hf it (by simp)
  have hl := rv.length
  exact wpAny_pyNext_list_end (I.ok.hd hc) st p.isList (by simp; omega) fun h' eb => ⟨rfl, I.turned (t' := s.toks) (fun b o hb e => eb b o hb e) f0 f1 f3 f4 f5⟩
 self := fun _ _ _ _ _ st h => wpAny_pyIter_listiter st h
theorem rp {P : Program} {w : World} {K : Frag} {tg : Expr} (a it : Addr) : Turn P w K tg (Itt K a) [it] it (fun i h => h.IsTupleIter it a i) where
 mem := by simp
 obj := fun i h st b hb => by
  have e : b = it := by simpa using hb
  subst e
  obtain ⟨o, e, c, d⟩ := st
  exact ⟨o, e, fun v z => by rw [d] at z; cases z⟩
 keep := fun i h h' st k => st.at fun o e => k it (by simp) o e
 item := by
  intro X hP hw hK hc i pins s σ H E I hf st hg
  subst hP hw hK
  obtain ⟨xs, x, hq, hx⟩ := hg
  obtain ⟨its, rv, p, hz⟩ := I.tuple hq
  obtain ⟨u, hu, ru⟩ := rv.get hx
  obtain ⟨f0, f1, f2, f3, f4, f5⟩ := hf it (by simp)
  refine wpAny_pyNext_tuple_item st (show s.heap.IsTuple a its.toArray from p) (x := u) (by simpa using hu) fun h' st' sb => ?_
  have I1 : Inv X pins σ H { s with heap := h' } := I.turned (t' := s.toks) (fun b o hb e => (sb.2 b hb).trans e) f0 f1 f3 f4 f5
  obtain ⟨o, e, c, d⟩ := id st'
  exact ⟨u, rfl, ss (s := { s with heap := h' }) e c d (by decide) ⟨x, H, I1, ru, ⟨rfl, fun ys hy => by rw [I.tuple_inj hy hq]; exact hx⟩, st', fun b hb => (hf b hb).1⟩⟩
 done := by
  intro X hP hw hK hc i pins s σ H E I hf st hg
  subst hP hw hK
  obtain ⟨xs, hq, hx⟩ := hg
  obtain ⟨its, rv, p, hz⟩ := I.tuple hq
  obtain ⟨f0, f1, f2, f3, f4, f5⟩ := hf it (by simp)
  have hl := rv.length
  exact wpAny_pyNext_tuple_end (I.ok.hd hc) st (show s.heap.IsTuple a its.toArray from p) (by simp; omega) fun h' eb => ⟨rfl, I.turned (t' := s.toks) (fun b o hb e => eb b o hb e) f0 f1 f3 f4 f5⟩
 self := fun _ _ _ _ _ st h => wpAny_pyIter_tupleiter st h
theorem rq {P : Program} {w : World} {K : Frag} {tg : Expr} (it : Addr) (lo : Int) (n : Nat) : Turn P w K tg (Itr lo n) [it] it (fun i h => IsRangeIter h it (lo + (i : Nat) * 1) ((n : Int) - (i : Nat)) 1) where
 mem := by simp
 obj := fun i h st b hb => by
  have e : b = it := by simpa using hb
  subst e
  exact ⟨_, st, fun v z => by
   have z' : Data.fields _ = Data.cell v := z
   cases z'⟩
 keep := fun i h h' st k => k it (by simp) _ st
 item := by
  intro X hP hw hK hc i pins s σ H E I hf st hg
  subst hP hw hK
  obtain ⟨f0, f1, f2, f3, f4, f5⟩ := hf it (by simp)
  have W := Walks.range (prog := X.prog) (w := X.w) (I.ok.hd hc) it lo 1 n
  refine W.item i s _ _ hg st fun v h' tk hv st' kk => ?_
  obtain ⟨t, rfl⟩ := hv
  have I1 : Inv X pins σ H { s with heap := h', toks := tk } := I.turned (fun b o hb e => kk b o (by simpa using hb) e) f0 f1 f3 f4 f5
  refine ⟨_, rfl, ss (s := { s with heap := h', toks := tk }) (n := "range_iterator") st' rfl rfl (by decide) ⟨.int (lo + i), H, I1, ⟨t, ?_⟩, ⟨rfl, rfl⟩, st', fun b hb => (hf b hb).1⟩⟩
  rw [Int.mul_one]
 done := by
  intro X hP hw hK hc i pins s σ H E I hf st hg
  subst hP hw hK
  obtain ⟨f0, f1, f2, f3, f4, f5⟩ := hf it (by simp)
  exact wpAny_pyNext_range_end (I.ok.hd hc) st (by have : n <= i := hg; omega) fun h' eb => ⟨rfl, I.turned (t' := s.toks) (fun b o hb e => eb b o hb e) f0 f1 f3 f4 f5⟩
 self := fun _ _ _ _ _ st h => wpAny_pyIter_rangeiter st h
section
variable {X : Cx} {tg : Expr}
def Ba (K : Frag) (tl : TE) : TI := fun σ H R => tl σ H fun x H1 => ∃ a, x = .ref a /\ (∃ xs, SqL K H1 a xs) /\ R (Itl K a) H1
theorem xA {l : Expr} {tl : TE} (hl : PE X l tl) : PI X tg l (Ba X.K tl) := by
 intro pins s σ H R I h
 refine thn (hl pins s σ H _ I h) fun v s1 ⟨x, H1, I1, r1, q1⟩ => ?_
 obtain ⟨a, e, ⟨xs, hq⟩, q⟩ := q1
 subst e
 cases r1
 obtain ⟨its, rv, p, hz⟩ := I1.list hq
 refine wpAny_pyIter_list p.isList ?_
 refine ⟨s1.heap.objs.size, [s1.heap.objs.size], _, _, H1, rfl, I1.kept (t' := s1.toks) fun b o e => Heap.get?_push_of_some _ e, nC a _, ⟨_, Heap.get?_push_size _ rfl, rfl, rfl⟩, fun b hb => ?_, q⟩
 have e : b = s1.heap.objs.size := by simpa using hb
 subst e
 exact I1.fpOk (Nat.le_refl _) (I1.hok.fresh (Nat.le_refl _))
theorem uU {pins : List (Addr × Obj)} {σ : St} {H : Hp} {s : Shared} {R : It -> Hp -> Prop} {E : Value -> Shared -> Prop} {lo hi : Int} {t u v : Tok} {tk : Nat} (I : Inv X pins σ H s) (h1 : -(2 ^ 62) <= lo) (h2 : lo < 2 ^ 62) (h3 : -(2 ^ 62) <= hi) (h4 : hi < 2 ^ 62)
  (q : R (Itr lo (hi - lo).toNat) H) : wpAny (model X.prog X.w) X.A (pyIter (.ref s.heap.objs.size)) (PIE X pins σ tg R) E { s with heap := s.heap.push { cls := .type "range", data := .fields #[.int lo t, .int hi u, .int 1 v] }, toks := tk } := by
 refine wpAny_pyIter_range (IsRange.new ..) (small_one h1 h2 h3 h4) ?_
 have I1 : Inv X pins σ H { s with heap := s.heap.push { cls := .type "range", data := .fields #[.int lo t, .int hi u, .int 1 v] }, toks := tk } := I.kept fun b o e => Heap.get?_push_of_some _ e
 refine ⟨(s.heap.push { cls := .type "range", data := .fields #[.int lo t, .int hi u, .int 1 v] }).objs.size, [(s.heap.push { cls := .type "range", data := .fields #[.int lo t, .int hi u, .int 1 v] }).objs.size], _, _, H, rfl,
  I1.kept (t' := tk) fun b o e => Heap.get?_push_of_some _ e, rq _ lo (hi - lo).toNat, ?_, fun b hb => ?_, q⟩
 ·have e1 : lo + ((0 : Nat) : Int) * 1 = lo := by simp
  have e2 : (((hi - lo).toNat : Nat) : Int) - ((0 : Nat) : Int) = Builtin.Range.rangeSize lo hi 1 := by rw [rangeSize_one]; split <;> omega
  show IsRangeIter _ _ (lo + ((0 : Nat) : Int) * 1) ((((hi - lo).toNat : Nat) : Int) - ((0 : Nat) : Int)) 1
  rw [e1, e2]
  exact Heap.get?_push_size _ rfl
 ·have e : b = (s.heap.push { cls := .type "range", data := .fields #[.int lo t, .int hi u, .int 1 v] }).objs.size := by simpa using hb
  subst e
  exact I1.fpOk (Nat.le_refl _) (I1.hok.fresh (Nat.le_refl _))
def A9 (ta : TA) : TI := fun σ H R => ta σ H fun vs H1 => ∃ j : Int, vs = [.int j] /\ -(2 ^ 62) <= j /\ j < 2 ^ 62 /\ R (Itr 0 j.toNat) H1
theorem tB {a : Expr} {ta : TA} {p pos : Pos} (hg : Gl X "range") (hm : X.mg "range" = none) (ha : PA X [a] ta) (hs : starEach [a] X.env = [(false, eval a X.env)] := by rfl) : PI X tg (.Call (.Name "range" p) [a] [] pos) (A9 ta) := by
 intro pins s σ H R I h
 refine Call_ (gC I hg hm boot_range (PyProof.Rows.callWith_type1 (thn (ha pos pins s σ H _ I h) fun us s1 ⟨vs, H1, I1, r1, q1⟩ => ?_) hs rfl))
 obtain ⟨j, e, q1, q2, q⟩ := q1
 subst e
 cases r1 with
 | cons r rr =>
  cases rr
  obtain ⟨t, rfl⟩ := r
  exact call_range_1 (uU I1 (by omega) (by omega) q1 q2 (by simpa using q))
def yp (wi : TI) (g : TG) (tb : TS) : TS := fun D σ H => wi σ H fun J H1 => ∃ W : Nat -> Nat -> St -> Hp -> Prop, (∃ m, W 0 m σ H1) /\ ∀ i m σ H, W i m σ H ->
 (J.stop i H /\ D.nx σ H) \/ (J.go i H /\ ∃ N : St -> Hp -> Prop, (∀ σ' H', N σ' H' -> ∃ m', m' < m /\ W (i + 1) m' σ' H') /\ ∀ x H', J.yld i H x H' -> g x σ H' fun σ2 H2 => tb { D with nx := N, ct := N, bk := D.nx } σ2 H2)
def jI (fp : List Addr) (h : Heap) : List (Addr × Obj) := fp.filterMap fun b => (h.get? b).map fun o => (b, o)
theorem gm {fp : List Addr} {h : Heap} {b : Addr} {o : Obj} (hb : b ∈ fp) (e : h.get? b = some o) : (b, o) ∈ jI fp h := List.mem_filterMap.mpr ⟨b, hb, by rw [e]; rfl⟩
theorem tH {fp : List Addr} {h : Heap} {p : Addr × Obj} (hp : p ∈ jI fp h) : p.1 ∈ fp /\ h.get? p.1 = some p.2 := by
 obtain ⟨b, hb, e⟩ := List.mem_filterMap.mp hp
 cases q : h.get? b with
 | none => rw [q] at e; cases e
 | some o =>
  rw [q] at e
  have e' : (b, o) = p := Option.some.inj e
  subst e'
  exact ⟨hb, q⟩
theorem Inv.pinned {pins : List (Addr × Obj)} {σ : St} {H : Hp} {s : Shared} {fp : List Addr} (I : Inv X pins σ H s) (hf : ∀ b ∈ fp, d8 X pins H b) (ho : ∀ b ∈ fp, ∃ o, s.heap.get? b = some o /\ ∀ v, o.data ≠ .cell v) : Inv X (pins ++ jI fp s.heap) σ H s :=
 I.pins_of fun p hp => (List.mem_append.mp hp).elim (fun z => I.pin p (List.mem_append_right _ z)) fun z => by
  obtain ⟨hb, e⟩ := tH z
  obtain ⟨f0, f1, f2, _⟩ := hf p.1 hb
  obtain ⟨o, e', d⟩ := ho p.1 hb
  rw [e] at e'; cases e'
  exact ⟨e, f0, f1, f2, d⟩
theorem Inv.unpinned {pins pl : List (Addr × Obj)} {σ : St} {H : Hp} {s : Shared} (I : Inv X (pins ++ pl) σ H s) : Inv X pins σ H s := I.pins_of fun p hp => I.pin p (List.mem_append_right _ (List.mem_append_left _ hp))
theorem iw {iter : Expr} {body : List Stmt} {wi : TI} {g : TG} {tb : TS} {pos : Pos} (hp : PassesOwn (model X.prog X.w) X.A X.env X.xe) (hc : X.calm = true) (hi : PI X tg iter wi) (hg : PG X tg g) (hb : PSs X body tb)
  (hs : ∀ x, foldedSetIterable iter X.env x = pure x := by intro _; rfl) : PS X (.For tg iter body [] pos) (yp wi g tb) := by
 intro pins s σ H D I h
 refine wpAny_For (thn (hi pins s σ H _ I h) fun v s1 h1 => thn h1 fun itv s2 h2 => ?_) hs
 obtain ⟨it, fp, tn, J, H2, e, I2, T, st2, f2, W, ⟨m0, w0⟩, turn⟩ := h2
 subst e
 -- what stays true of the iterator's objects through the loop
 have stat : ∀ {H' : Hp}, (∀ b ∈ fp, H' b = none) -> ∀ b ∈ fp, d8 X pins H' b := fun hn b hb => ⟨hn b hb, (f2 b hb).2⟩
 refine codeAny_forLoop_any (fun n s' => ∃ i σ' H', Inv X pins σ' H' s' /\ tn i s'.heap /\ (∀ b ∈ fp, H' b = none) /\ W i n σ' H') ?_ m0 ⟨0, σ, H2, I2, st2, fun b hb => (f2 b hb).1, w0⟩
 rintro n s3 ⟨i, σ3, H3, I3, st3, fr3, w3⟩
 rcases turn i n σ3 H3 w3 with ⟨stop, qn⟩ | ⟨go, N, hN, step⟩
 ·refine wpAny_passesOwn hp (thn (T.done X rfl rfl rfl hc i pins s3 σ3 H3 X.xe I3 (stat fr3) st3 stop) fun r s4 ⟨hr, I4⟩ => ?_)
  subst hr
  exact wpAny_execs_nil ⟨σ3, H3, I4, qn⟩
 ·refine wpAny_passesOwn hp (thn (T.item X rfl rfl rfl hc i pins s3 σ3 H3 X.xe I3 (stat fr3) st3 go) fun r s4 ⟨u, hr, h4⟩ => ?_)
  subst hr
  refine wpAny_passesOwn hp (thn h4 fun _ s5 ⟨x, H5, I5, r5, y5, st5, fr5⟩ => ?_)
  have I5' := I5.pinned (stat fr5) (T.obj _ _ st5)
  refine wpAny_passesOwn hp (thn (hg _ s5 σ3 H5 x u _ I5' r5 (step x H5 y5)) fun _ s6 ⟨σ6, H6, I6, q6⟩ => ?_)
  refine wpAny_passesOwn hp (thn (hb _ s6 σ6 H6 _ I6 q6) fun f s7 q7 => ?_)
  have again : ∀ {σ7 : St} {H7 : Hp}, Inv X (pins ++ jI fp s5.heap) σ7 H7 s7 -> N σ7 H7 -> ∃ m, m < n /\ ∃ i σ' H', Inv X pins σ' H' s7 /\ tn i s7.heap /\ (∀ b ∈ fp, H' b = none) /\ W i m σ' H' := fun {σ7 H7} I7 n7 => by
   obtain ⟨m', hm, w7⟩ := hN σ7 H7 n7
   refine ⟨m', hm, i + 1, σ7, H7, I7.unpinned, T.keep _ _ _ st5 fun b hb o e => (I7.pin (b, o) (List.mem_append_right _ (List.mem_append_right _ (gm hb e)))).1, fun b hb => ?_, w7⟩
   obtain ⟨o, e, d⟩ := T.obj _ _ st5 b hb
   exact (I7.pin (b, o) (List.mem_append_right _ (List.mem_append_right _ (gm hb e)))).2.1
  cases f with
  | next => obtain ⟨σ7, H7, I7, n7⟩ := q7; exact again I7 n7
  | cont => obtain ⟨σ7, H7, I7, n7⟩ := q7; exact again I7 n7
  | brk => obtain ⟨σ7, H7, I7, q7⟩ := q7; exact ⟨σ7, H7, I7.unpinned, q7⟩
  | ret v => obtain ⟨x7, σ7, H7, I7, r7, q7⟩ := q7; exact ⟨x7, σ7, H7, I7.unpinned, r7, q7⟩
end
abbrev R2 := V -> V -> Hp -> VK -> Prop
def OpR (X : Cx) (f : Value -> Value -> Sem Value) (r : R2) : Prop :=
 ∀ (pins : List (Addr × Obj)) (s : Shared) (σ : St) (H : Hp) (x y : V) (v u : Value) (Q : VK), Inv X pins σ H s -> aS x v -> aS y u -> r x y H Q ->
  wpAny (model X.prog X.w) X.A (f v u) (EP X pins σ Q) X.xe s
def cQ (X : Cx) (f : Value) (r : List V -> Hp -> VK -> Prop) : Prop :=
 ∀ (pins : List (Addr × Obj)) (s : Shared) (σ : St) (H : Hp) (xs : List V) (us : List Value) (Q : VK), Inv X pins σ H s -> ar xs us -> r xs H Q ->
  wpAny (model X.prog X.w) X.A (call f us) (EP X pins σ Q) X.xe s
def TruR (X : Cx) (r : V -> Hp -> (Bool -> Hp -> Prop) -> Prop) : Prop :=
 ∀ (pins : List (Addr × Obj)) (s : Shared) (σ : St) (H : Hp) (x : V) (v : Value) (Q : Bool -> Hp -> Prop), Inv X pins σ H s -> aS x v -> r x H Q ->
  wpAny (model X.prog X.w) X.A (truthy v) (TP X pins σ Q) X.xe s
def tOp (r : R2) (ta tb : TE) : TE := fun σ H Q => ta σ H fun x H1 => tb σ H1 fun y H2 => r x y H2 Q
def rI (C : Int -> Int -> Prop) (g : Int -> Int -> V) : R2 := fun x y H Q => ∃ i j, x = .int i /\ y = .int j /\ C i j /\ Q (g i j) H
def rI0 (g : Int -> Int -> V) : R2 := fun x y H Q => ∃ i j, x = .int i /\ y = .int j /\ Q (g i j) H
section
variable {X : Cx} {a b c : Expr} {ta tb tc : TE} {pos : Pos}
theorem vQ (ha : PE X a ta) (hb : PE X b tb) {pins : List (Addr × Obj)} {s : Shared} {σ : St} {H : Hp} {R : V -> V -> Hp -> Prop} (I : Inv X pins σ H s)
  (h : ta σ H fun x H1 => tb σ H1 fun y H2 => R x y H2) {Q : Value -> Shared -> Prop} {f : Value -> Value -> Sem Value}
  (hf : ∀ v u s2 x y H2, Inv X pins σ H2 s2 -> aS x v -> aS y u -> R x y H2 -> wpAny (model X.prog X.w) X.A (f v u) Q X.xe s2) :
  wpAny (model X.prog X.w) X.A (eval a X.env) (fun v s₁ => wpAny (model X.prog X.w) X.A (eval b X.env) (fun u s₂ => wpAny (model X.prog X.w) X.A (f v u) Q X.xe s₂) X.xe s₁) X.xe s := by
 refine thn (ha pins s σ H _ I h) fun v s1 ⟨x, H1, I1, r1, q1⟩ => ?_
 refine thn (hb pins s1 σ H1 _ I1 q1) fun u s2 ⟨y, H2, I2, r2, q2⟩ => ?_
 exact hf v u s2 x y H2 I2 r1 r2 q2
theorem c7 {op : Operator} {r : R2} (ho : OpR X (binaryOp op) r) (ha : PE X a ta) (hb : PE X b tb) : PE X (.BinOp a op b pos) (tOp r ta tb) := by
 intro pins s σ H Q I h
 exact wpAny_BinOp (vQ ha hb I h fun v u s2 x y H2 I2 rx ry q => ho pins s2 σ H2 x y v u Q I2 rx ry q)
theorem opI {f : Value -> Value -> Sem Value} {C : Int -> Int -> Prop} {g : Int -> Int -> Int}
  (rule : ∀ (i j : Int) (t u : Tok) (s : Shared) (Q : Value -> Shared -> Prop) (E : Value -> Shared -> Prop), C i j -> Q (.int (g i j) s.toks) { s with toks := s.toks + 1 } -> wpAny (model X.prog X.w) X.A (f (.int i t) (.int j u)) Q E s) :
  OpR X f (rI C fun i j => .int (g i j)) := by
 intro pins s σ H x y v u Q I rx ry h
 obtain ⟨i, j, rfl, rfl, hc, q⟩ := h
 obtain ⟨t, rfl⟩ := rx
 obtain ⟨t', rfl⟩ := ry
 exact rule i j t t' s _ _ hc ⟨.int (g i j), H, I.tok _, ⟨_, rfl⟩, q⟩
theorem yW {f : Value -> Value -> Sem Value} {g : Int -> Int -> Int}
  (rule : ∀ (i j : Int) (t u : Tok) (s : Shared) (Q : Value -> Shared -> Prop) (E : Value -> Shared -> Prop), Q (.int (g i j) s.toks) { s with toks := s.toks + 1 } -> wpAny (model X.prog X.w) X.A (f (.int i t) (.int j u)) Q E s) :
  OpR X f (rI0 fun i j => .int (g i j)) := by
 intro pins s σ H x y v u Q I rx ry h
 obtain ⟨i, j, rfl, rfl, q⟩ := h
 obtain ⟨t, rfl⟩ := rx
 obtain ⟨t', rfl⟩ := ry
 exact rule i j t t' s _ _ ⟨.int (g i j), H, I.tok _, ⟨_, rfl⟩, q⟩
theorem rP {f : Value -> Value -> Sem Value} {g : Int -> Int -> Bool}
  (rule : ∀ (i j : Int) (t u : Tok) (s : Shared) (Q : Value -> Shared -> Prop) (E : Value -> Shared -> Prop), Q (.bool (g i j)) s -> wpAny (model X.prog X.w) X.A (f (.int i t) (.int j u)) Q E s) :
  OpR X f (rI0 fun i j => .bl (g i j)) := by
 intro pins s σ H x y v u Q I rx ry h
 obtain ⟨i, j, rfl, rfl, q⟩ := h
 obtain ⟨t, rfl⟩ := rx
 obtain ⟨t', rfl⟩ := ry
 exact rule i j t t' s _ _ ⟨.bl (g i j), H, I, rfl, q⟩
def CDiv (i j : Int) : Prop := 0 < j /\ j < 1073741824
def CPow (i j : Int) : Prop := 0 <= j /\ j <= 1000000 /\ i.natAbs < 2 ^ 64
def wF (i j : Int) : Prop := (-(2 ^ 64) < i /\ i < 2 ^ 64) \/ (-(2 ^ 64) < j /\ j < 2 ^ 64)
theorem wF.ok {i j : Int} (h : wF i j) : IntMulOk i j := by
 rcases h with ⟨h1, h2⟩ | ⟨h1, h2⟩
 ·exact .of_left (intBits_le_64 h1 h2)
 ·exact .of_right (intBits_le_64 h1 h2)
theorem lT : OpR X (binaryOp .Add) (rI0 fun i j => .int (i + j)) := yW fun _ _ _ _ _ _ _ q => add_int q
theorem lS : OpR X (binaryOp .Sub) (rI0 fun i j => .int (i - j)) := yW fun _ _ _ _ _ _ _ q => sub_int q
theorem yT : OpR X (binaryOp .Mult) (rI wF fun i j => .int (i * j)) := opI fun _ _ _ _ _ _ _ hc q => mul_int q hc.ok
theorem qI : OpR X (binaryOp .FloorDiv) (rI CDiv fun i j => .int (i / j)) := opI fun i j _ _ _ _ _ hc q => by
 have h1 : (0 : Int) < j := hc.1
 have h2 : j < 1073741824 := hc.2
 exact floordiv_int (by omega) (by rw [Int.fdiv_eq_ediv_of_nonneg i (by omega)]; exact q) (.inl (PyProof.noPylong_small (by omega)))
theorem ix : OpR X (binaryOp .Mod) (rI (fun _ j => 0 < j) fun i j => .int (i % j)) := opI fun i j _ _ _ _ _ hc q => by
 have h1 : (0 : Int) < j := hc
 exact mod_int' (by omega) (by rw [Int.fmod_eq_emod_of_nonneg i (by omega)]; exact q)
theorem yR : OpR X (binaryOp .Pow) (rI CPow fun i j => .int (i ^ j.toNat)) := opI fun _ _ _ _ _ _ _ hc q => pow_int_small hc.1 hc.2.1 hc.2.2 q
end
def uR : V -> V -> Bool
 | .non, .non => true | .non, .int _ => true | .int _, .non => true | .non, .bl _ => true | .bl _, .non => true | .non, .str _ => true | .str _, .non => true
 | .int _, .int _ => true | .bl _, .bl _ => true | .str _, .str _ => true | .byt _, .byt _ => true
 | .int _, .str _ => true | .str _, .int _ => true | .bl _, .str _ => true | .str _, .bl _ => true
 | _, _ => false
def rEq : R2 := fun x y H Q => uR x y = true /\ Q (.bl (decide (x = y))) H
def rNe : R2 := fun x y H Q => uR x y = true /\ Q (.bl (!decide (x = y))) H
theorem qW {i j : Int} : decide (V.int i = V.int j) = (i == j) := by
 rw [Bool.eq_iff_iff]
 simp
theorem dec_bl {i j : Bool} : decide (V.bl i = V.bl j) = (i == j) := by
 rw [Bool.eq_iff_iff]
 simp
theorem qV {i j : Str} : decide (V.str i = V.str j) = (i == j) := by
 rw [Bool.eq_iff_iff]
 simp
theorem qX {i j : Array UInt8} : decide (V.byt i = V.byt j) = (i.toList == j.toList) := by
 rw [Bool.eq_iff_iff]
 cases i
 cases j
 simp
section
variable {X : Cx} {a b c : Expr} {ta tb tc : TE} {pos : Pos}
theorem fin_bl {pins : List (Addr × Obj)} {σ : St} {H : Hp} {s : Shared} {Q : VK} {k k' : Bool} (I : Inv X pins σ H s) (q : Q (.bl k) H) (e : k = k') : EP X pins σ Q (.bool k') s := by
 subst e
 exact ⟨.bl k, H, I, rfl, q⟩
theorem AX : OpR X (compareOp .Eq) rEq := by
 intro pins s σ H x y v u Q I rx ry h
 obtain ⟨hs, q⟩ := h
 cases x with
 | non =>
  cases rx
  cases y with
  | non => cases ry; exact PySem.EqNone.eq_none_none (fin_bl I q (by simp))
  | bl j => cases ry; exact PySem.EqNone.eq_none_bool (fin_bl I q (by simp))
  | int j => obtain ⟨t', rfl⟩ := ry; exact PySem.EqNone.eq_none_int (fin_bl I q (by simp))
  | str j => obtain ⟨t', rfl⟩ := ry; exact PySem.EqNone.eq_none_str (fin_bl I q (by simp))
  | _ => exact absurd (show false = true from hs) Bool.false_ne_true
 | bl i =>
  cases rx
  cases y with
  | non => cases ry; exact PySem.EqNone.eq_bool_none (fin_bl I q (by simp))
  | bl j => cases ry; exact eq_bool (fin_bl I q dec_bl)
  | str j => obtain ⟨t', rfl⟩ := ry; exact PySem.EqMixed.eq_bool_str (fin_bl I q (by simp))
  | _ => exact absurd (show false = true from hs) Bool.false_ne_true
 | int i =>
  obtain ⟨t, rfl⟩ := rx
  cases y with
  | non => cases ry; exact PySem.EqNone.eq_int_none (fin_bl I q (by simp))
  | int j => obtain ⟨t', rfl⟩ := ry; exact eq_int (fin_bl I q qW)
  | str j => obtain ⟨t', rfl⟩ := ry; exact PySem.EqMixed.eq_int_str (fin_bl I q (by simp))
  | _ => exact absurd (show false = true from hs) Bool.false_ne_true
 | str i =>
  obtain ⟨t, rfl⟩ := rx
  cases y with
  | non => cases ry; exact PySem.EqNone.eq_str_none (fin_bl I q (by simp))
  | bl j => cases ry; exact PySem.EqMixed.eq_str_bool (fin_bl I q (by simp))
  | int j => obtain ⟨t', rfl⟩ := ry; exact PySem.EqMixed.eq_str_int (fin_bl I q (by simp))
  | str j => obtain ⟨t', rfl⟩ := ry; exact eq_str (fin_bl I q qV)
  | _ => exact absurd (show false = true from hs) Bool.false_ne_true
 | byt i =>
  obtain ⟨t, rfl⟩ := rx
  cases y with
  | byt j => obtain ⟨t', rfl⟩ := ry; exact PySem.W.eq_bytes (fin_bl I q qX)
  | _ => exact absurd (show false = true from hs) Bool.false_ne_true
 | _ => cases y <;> exact absurd (show false = true from hs) Bool.false_ne_true
theorem AV : OpR X (compareOp .NotEq) rNe := by
 intro pins s σ H x y v u Q I rx ry h
 obtain ⟨hs, q⟩ := h
 cases x with
 | non =>
  cases rx
  cases y with
  | non => cases ry; exact PySem.EqNone.ne_none_none (fin_bl I q (by simp))
  | bl j => cases ry; exact PySem.EqNone.ne_none_bool (fin_bl I q (by simp))
  | int j => obtain ⟨t', rfl⟩ := ry; exact PySem.EqNone.ne_none_int (fin_bl I q (by simp))
  | str j => obtain ⟨t', rfl⟩ := ry; exact PySem.EqNone.ne_none_str (fin_bl I q (by simp))
  | _ => exact absurd (show false = true from hs) Bool.false_ne_true
 | bl i =>
  cases rx
  cases y with
  | non => cases ry; exact PySem.EqNone.ne_bool_none (fin_bl I q (by simp))
  | bl j => cases ry; exact ne_bool (fin_bl I q (congrArg not dec_bl))
  | str j => obtain ⟨t', rfl⟩ := ry; exact PySem.EqMixed.ne_bool_str (fin_bl I q (by simp))
  | _ => exact absurd (show false = true from hs) Bool.false_ne_true
 | int i =>
  obtain ⟨t, rfl⟩ := rx
  cases y with
  | non => cases ry; exact PySem.EqNone.ne_int_none (fin_bl I q (by simp))
  | int j => obtain ⟨t', rfl⟩ := ry; exact ne_int (fin_bl I q (congrArg not qW))
  | str j => obtain ⟨t', rfl⟩ := ry; exact PySem.EqMixed.ne_int_str (fin_bl I q (by simp))
  | _ => exact absurd (show false = true from hs) Bool.false_ne_true
 | str i =>
  obtain ⟨t, rfl⟩ := rx
  cases y with
  | non => cases ry; exact PySem.EqNone.ne_str_none (fin_bl I q (by simp))
  | bl j => cases ry; exact PySem.EqMixed.ne_str_bool (fin_bl I q (by simp))
  | int j => obtain ⟨t', rfl⟩ := ry; exact PySem.EqMixed.ne_str_int (fin_bl I q (by simp))
  | str j => obtain ⟨t', rfl⟩ := ry; exact ne_str (fin_bl I q (congrArg not qV))
  | _ => exact absurd (show false = true from hs) Bool.false_ne_true
 | byt i =>
  obtain ⟨t, rfl⟩ := rx
  cases y with
  | byt j => obtain ⟨t', rfl⟩ := ry; exact PySem.W.ne_bytes (fin_bl I q (congrArg not qX))
  | _ => exact absurd (show false = true from hs) Bool.false_ne_true
 | _ => cases y <;> exact absurd (show false = true from hs) Bool.false_ne_true
theorem rO : OpR X (compareOp .Lt) (rI0 fun i j => .bl (decide (i < j))) := rP fun _ _ _ _ _ _ _ q => lt_int q
theorem fN : OpR X (compareOp .LtE) (rI0 fun i j => .bl (decide (i <= j))) := rP fun _ _ _ _ _ _ _ q => le_int q
theorem wW : OpR X (compareOp .Gt) (rI0 fun i j => .bl (decide (j < i))) := rP fun _ _ _ _ _ _ _ q => gt_int q
theorem AW : OpR X (compareOp .GtE) (rI0 fun i j => .bl (decide (j <= i))) := rP fun _ _ _ _ _ _ _ q => ge_int q
theorem pB : OpR X (compareOp .Is) (fun x y H Q => y = .non /\ Q (.bl (decide (x = .non))) H) := by
 intro pins s σ H x y v u Q I rx ry h
 obtain ⟨rfl, q⟩ := h
 cases ry
 refine is_none_gen (fin_bl I q ?_)
 cases x <;> first
  | (cases rx; rfl)
  | (obtain ⟨t, rfl⟩ := rx; rfl)
theorem OpR.or {f : Value -> Value -> Sem Value} {r r' : R2} (h : OpR X f r) (h' : OpR X f r') : OpR X f (fun x y H Q => r x y H Q \/ r' x y H Q) := by
 intro pins s σ H x y v u Q I rx ry q
 rcases q with q | q
 ·exact h pins s σ H x y v u Q I rx ry q
 ·exact h' pins s σ H x y v u Q I rx ry q
theorem pF (b : Expr) {op : CmpOp} (h : op ≠ .In := by decide) (h2 : op ≠ .NotIn := by decide) : behindInMarks op b = false := by
 have e1 : (op == CmpOp.In) = false := by cases op <;> first | rfl | exact absurd rfl h
 have e2 : (op == CmpOp.NotIn) = false := by cases op <;> first | rfl | exact absurd rfl h2
 cases b <;> simp [behindInMarks, e1, e2]
theorem xF {op : CmpOp} {r : R2} (ho : OpR X (compareOp op) r) (ha : PE X a ta) (hb : PE X b tb) (hm : behindInMarks op b = false) : PE X (.Compare a [op] [b] pos) (tOp r ta tb) := by
 intro pins s σ H Q I h
 exact wpAny_Compare1 (vQ ha hb I h fun v u s2 x y H2 I2 rx ry q => ho pins s2 σ H2 x y v u Q I2 rx ry q) hm
def rA (t : TE) : TT := fun σ H Q => t σ H fun x H' => ∃ k, x = .bl k /\ Q k H'
theorem qA {op : CmpOp} {r : R2} (ho : OpR X (compareOp op) r) (ha : PE X a ta) (hb : PE X b tb) (hm : behindInMarks op b = false) : PT X (.Compare a [op] [b] pos) (rA (tOp r ta tb)) := by
 intro pins s σ H Q I h
 refine wpAny_isTrue_Compare1 (thn (ha pins s σ H _ I h) fun v s1 ⟨x, H1, I1, r1, q1⟩ => thn (hb pins s1 σ H1 _ I1 q1) fun u s2 ⟨y, H2, I2, r2, q2⟩ =>
  thn (ho pins s2 σ H2 x y v u _ I2 r1 r2 q2) fun c s3 ⟨z, H3, I3, r3, k, e, q3⟩ => ?_) hm
 subst e
 cases r3
 exact wpAny_truthy_bool ⟨H3, I3, q3⟩
def o3 (r r' : R2) (ta tb tc : TE) : TE := fun σ H Q => ta σ H fun x H1 => tb σ H1 fun y H2 => r x y H2 fun z H3 => ∃ k, z = .bl k /\
 (if k = true then tc σ H3 fun w' H4 => r' y w' H4 Q else Q (.bl false) H3)
theorem u7 {op op' : CmpOp} {r r' : R2} (ho : OpR X (compareOp op) r) (ho' : OpR X (compareOp op') r') (ha : PE X a ta) (hb : PE X b tb) (hc : PE X c tc)
  (hm : lastMarks [op, op'] [b, c] = false := by with_unfolding_all rfl) : PE X (.Compare a [op, op'] [b, c] pos) (o3 r r' ta tb tc) := by
 intro pins s σ H Q I h
 refine Compare_chain (thn (ha pins s σ H _ I h) fun v s1 ⟨x, H1, I1, r1, q1⟩ => chain_link (thn (hb pins s1 σ H1 _ I1 q1) fun u s2 ⟨y, H2, I2, r2, q2⟩ =>
  thn (ho pins s2 σ H2 x y v u _ I2 r1 r2 q2) fun d s3 ⟨z, H3, I3, r3, k, e, q3⟩ => ?_)) hm
 subst e
 cases r3
 refine wpAny_truthy_bool ?_
 cases k with
 | false => exact ite_ff ⟨.bl false, H3, I3, rfl, q3⟩
 | true => exact ite_tt (chain_last (thn (hc pins s3 σ H3 _ I3 q3) fun w' s4 ⟨z', H4, I4, r4, q4⟩ => ho' pins s4 σ H4 y z' u w' Q I4 r2 r4 q4))
theorem uX {op op' : CmpOp} {r r' : R2} (ho : OpR X (compareOp op) r) (ho' : OpR X (compareOp op') r') (ha : PE X a ta) (hb : PE X b tb) (hc : PE X c tc)
  (hm : lastMarks [op, op'] [b, c] = false := by with_unfolding_all rfl) : PT X (.Compare a [op, op'] [b, c] pos) (rA (o3 r r' ta tb tc)) := by
 intro pins s σ H Q I h
 refine isTrue_chain (thn (ha pins s σ H _ I h) fun v s1 ⟨x, H1, I1, r1, q1⟩ => test_link (thn (hb pins s1 σ H1 _ I1 q1) fun u s2 ⟨y, H2, I2, r2, q2⟩ =>
  thn (ho pins s2 σ H2 x y v u _ I2 r1 r2 q2) fun d s3 ⟨z, H3, I3, r3, k, e, q3⟩ => ?_)) hm
 subst e
 cases r3
 refine wpAny_truthy_bool ?_
 cases k with
 | false =>
  obtain ⟨k', e', q'⟩ := q3
  cases e'
  exact ite_ff ⟨H3, I3, q'⟩
 | true =>
  refine ite_tt (test_last (thn (hc pins s3 σ H3 _ I3 q3) fun w' s4 ⟨z', H4, I4, r4, q4⟩ => thn (ho' pins s4 σ H4 y z' u w' _ I4 r2 r4 q4) fun d' s5 ⟨z2, H5, I5, r5, k2, e2, q5⟩ => ?_))
  subst e2
  cases r5
  exact wpAny_truthy_bool ⟨H5, I5, q5⟩
def wC (K : Frag) (x : V) (H : Hp) (k : Bool) : Prop :=
 match x with
 | .non => k = false
 | .bl b => k = b
 | .int i => k = (i != 0)
 | .str y => y.length <= sizeLine /\ k = ((y.length : Int) != 0)
 | .byt y => y.size <= sizeLine /\ k = ((y.size : Int) != 0)
 | .ref p => (∃ xs, SqL K H p xs /\ k = !xs.isEmpty) \/ (∃ xs, SqT K H p xs /\ k = !xs.isEmpty) \/ ∃ kvs, H p = some (.dK kvs) /\ k = !kvs.isEmpty
 | _ => False
theorem so {κ : Type} {kvs : List (κ × V)} {vs : List (κ × Value)} (r : KV kvs vs) : (!vs.isEmpty) = !kvs.isEmpty := by
 cases r <;> rfl
theorem l3 {xs : List V} {its : List Value} (r : ar xs its) : (!its.toArray.isEmpty) = !xs.isEmpty := by
 cases r <;> simp
theorem iC : (sizeLine : Nat) < 2 ^ 63 := by rw [sizeLine_eq]; decide
theorem yj : TruR X (fun x H Q => ∃ k, wC X.K x H k /\ Q k H) := by
 intro pins s σ H x v Q I rx h
 obtain ⟨k, e, q⟩ := h
 have hl := iC
 have hs : sizeLine = 16777216 := sizeLine_eq
 cases x with
 | non =>
  cases rx
  have e' : k = false := e
  subst e'
  exact truthy_none ⟨H, I, q⟩
 | bl b =>
  cases rx
  have e' : k = b := e
  subst e'
  exact wpAny_truthy_bool ⟨H, I, q⟩
 | int i =>
  obtain ⟨t, rfl⟩ := rx
  have e' : k = (i != 0) := e
  subst e'
  exact PySem.P.truthy_int ⟨H, I, q⟩
 | str y =>
  obtain ⟨t, rfl⟩ := rx
  obtain ⟨hy, e'⟩ : y.length <= sizeLine /\ k = ((y.length : Int) != 0) := e
  subst e'
  exact PySem.P.truthy_str (by omega) ⟨H, I.tok _, q⟩
 | byt y =>
  obtain ⟨t, rfl⟩ := rx
  obtain ⟨hy, e'⟩ : y.size <= sizeLine /\ k = ((y.size : Int) != 0) := e
  subst e'
  exact PySem.W.truthy_bytes (by omega) ⟨H, I.tok _, q⟩
 | ref p =>
  cases rx
  have e' : (∃ xs, SqL X.K H p xs /\ k = !xs.isEmpty) \/ (∃ xs, SqT X.K H p xs /\ k = !xs.isEmpty) \/ ∃ kvs, H p = some (.dK kvs) /\ k = !kvs.isEmpty := e
  rcases e' with ⟨xs, hx, e'⟩ | ⟨xs, hx, e'⟩ | ⟨kvs, hx, e'⟩
  ·subst e'
   obtain ⟨its, r, pl, hz⟩ := I.list hx
   have hlen := r.length
   exact wpAny_truthy_list pl.isList (by simp only [List.size_toArray]; omega) ⟨H, I.tok _, by rw [l3 r]; exact q⟩
  ·subst e'
   obtain ⟨its, r, pl, hz⟩ := I.tuple hx
   have hlen := r.length
   exact truthy_tuple pl (by simp only [List.size_toArray]; omega) ⟨H, I.tok _, by rw [l3 r]; exact q⟩
  ·subst e'
   obtain ⟨hz, hS, vs, r, m⟩ : kvs.length <= sizeLine /\ (p == sysModules) = false /\ ∃ vs, KV kvs vs /\ s.heap.DictOf (mR X.prog X.w) p vs := I.hok p _ hx
   have hlen : kvs.length = vs.length := Paired.length r
   exact wpAny_truthy_dict hS m (by omega) ⟨H, I.tok _, by rw [so r]; exact q⟩
 | _ => exact (show False from e).elim
theorem uW (ha : PE X a ta) (he : ∀ whole, isTrue a X.env whole = (do let v ← whole; standAt a.pos; holding [v] (truthy v))) :
  PT X a (fun σ H Q => ta σ H fun x H' => ∃ k, wC X.K x H' k /\ Q k H') := by
 intro pins s σ H Q I h
 exact isTrue_plain (thn (ha pins s σ H _ I h) fun v s1 ⟨x, H1, I1, r1, q1⟩ => yj pins s1 σ H1 x v Q I1 r1 q1) (he _)
theorem rm {x : V} {us : List Value} (r : ar [x] us) : ∃ u, us = [u] /\ aS x u := by
 cases r with
 | cons r1 r2 => cases r2; exact ⟨_, rfl, r1⟩
theorem wJ {x y : V} {us : List Value} (r : ar [x, y] us) : ∃ u w', us = [u, w'] /\ aS x u /\ aS y w' := by
 cases r with
 | cons r1 r2 =>
  cases r2 with
  | cons r3 r4 => cases r4; exact ⟨_, _, rfl, r1, r3⟩
theorem vO : cQ X (.builtin "abs") (fun xs H Q => ∃ i, xs = [.int i] /\ Q (.int (if i < 0 then -i else i)) H) := by
 intro pins s σ H xs us Q I r h
 obtain ⟨i, rfl, q⟩ := h
 obtain ⟨u, rfl, t, rfl⟩ := rm r
 exact call_abs_int fun u tk => ⟨.int (if i < 0 then -i else i), H, I.tok _, ⟨_, rfl⟩, q⟩
theorem oh (hc : X.calm = true) : cQ X (.builtin "max") (fun xs H Q => ∃ i j, xs = [.int i, .int j] /\ Q (.int (if j > i then j else i)) H) := by
 intro pins s σ H xs us Q I r h
 obtain ⟨i, j, rfl, q⟩ := h
 obtain ⟨u, w', rfl, ⟨t, rfl⟩, ⟨t', rfl⟩⟩ := wJ r
 refine max_two_ints (I.ok.hd hc) fun h' tk k => ⟨_, H, I.kept k, ?_, q⟩
 by_cases hj : j > i
 ·rw [if_pos hj, if_pos hj]; exact ⟨_, rfl⟩
 ·rw [if_neg hj, if_neg hj]; exact ⟨_, rfl⟩
theorem hZ (hc : X.calm = true) : cQ X (.builtin "min") (fun xs H Q => ∃ i j, xs = [.int i, .int j] /\ Q (.int (if j < i then j else i)) H) := by
 intro pins s σ H xs us Q I r h
 obtain ⟨i, j, rfl, q⟩ := h
 obtain ⟨u, w', rfl, ⟨t, rfl⟩, ⟨t', rfl⟩⟩ := wJ r
 refine min_two_ints (I.ok.hd hc) fun h' tk k => ⟨_, H, I.kept k, ?_, q⟩
 by_cases hj : j < i
 ·rw [if_pos hj, if_pos hj]; exact ⟨_, rfl⟩
 ·rw [if_neg hj, if_neg hj]; exact ⟨_, rfl⟩
end
structure ObjM (h : Heap) (x dx C : Addr) (mA : Str -> Option Value) : Prop where
 obj : h.get? x = some (instObj C dx)
 ns : h.Ns1 dx mA
 ne : dx ≠ x
theorem tP {h : Heap} {dx : Addr} {mA : Str -> Option Value} (n : h.Ns1 dx mA) : ∃ od, h.get? dx = some od /\ ∀ name, lookIn name od = some (mA name) := by
 obtain ⟨o, es, ep, ho, hd, hk, _, hm⟩ := n
 refine ⟨o, ho, fun name => ?_⟩
 have e := hm name
 unfold nsFind findBy at e
 rw [← Array.find?_toList] at e
 unfold lookIn
 rw [hd]
 dsimp only
 split
 ·rename_i y q
  rw [q] at e
  exact congrArg some e
 ·rename_i q
  rw [q] at e
  have a : es.toList.any (·.refKey) = false := by
   rw [List.any_eq_false]
   intro y hy
   obtain ⟨z, t, hkey⟩ := hk y (Array.mem_toList_iff.mp hy)
   simp [DictEntry.refKey, hkey]
  have a' : ¬ es.toList.any (·.refKey) = true := by rw [a]; exact Bool.false_ne_true
  rw [if_neg a']
  exact congrArg some e
theorem ObjM.look {h : Heap} {x dx C : Addr} {mA : Str -> Option Value} (I : ObjM h x dx C mA) : ∃ od, PySem.W.InstAt h x (instObj C dx) C (some od) /\ ∀ name, lookIn name od = some (mA name) :=
 let ⟨od, ho, hl⟩ := tP I.ns
 ⟨od, ⟨I.obj, rfl, rfl, ho⟩, hl⟩
section
variable {prog : Program} {w : World} {A : Around} {E : Value -> Shared -> Prop} {s : Shared} {K : Frag} {x dx C f : Addr} {mA : Str -> Option Value} {name : Str} {v : Value}
theorem xY {expr : Bool} {Q : Value -> Shared -> Prop} (X : K.In s.heap) (I : ObjM s.heap x dx C mA) (hg : plainGet K C name = true) (hh : hasDictIn K C = true)
  (ha : findIn K (.ref C) name = some none) (hv : mA name = some v) (hv' : PySem.W.handedIn v = true) (h : Q v { s with toks := s.toks + 1 }) :
  wpAny (model prog w) A (getAttr (.ref x) name expr) Q E s := by
 obtain ⟨od, J, hl⟩ := I.look
 exact PySem.W.get_value X J (plainGet_of hg).1 (PySem.W.findObj_own hh ha rfl (by rw [hl, hv])) hv' h
theorem vF {pl : Sem Bool} {Q : Value × List Value -> Shared -> Prop} (X : K.In s.heap) (I : ObjM s.heap x dx C mA) (hg : plainGet K C name = true)
  (hf : findIn K (.ref C) name = some (some (.ref f))) (ht : isFn K (.ref f) = true) (hv : mA name = none) (h : Q (.ref f, [.ref x]) s) :
  wpAny (model prog w) A (getMethod (.ref x) name pl) Q E s := by
 obtain ⟨od, J, hl⟩ := I.look
 exact PySem.W.method_fn X J (plainGet_of hg).1 (plainGet_of hg).2 hf (beq_iff_eq.mp ht) (by show (lookIn name od).map (·.isSome) = some false; rw [hl, hv]; rfl) h
theorem xt {ns : List Str} {Q : Unit -> Shared -> Prop} (X : K.In s.heap) (I : ObjM s.heap x dx C mA)
  (hs : findIn K (.ref C) "__setattr__" = some (some (.builtin "object.__setattr__"))) (hp : PySem.W.plainOver K C = true) (ht : takerIn K C name = some none) (hh : hasDictIn K C = true)
  (hw : PySem.Within mA ns) (hsz : ns.length <= sizeLine)
  (h : ∀ h', ObjM h' x dx C (fun y => if y = name then some v else mA y) -> Heap.SameBut dx s.heap h' -> Q () { s with heap := h', toks := s.toks + 2 }) :
  wpAny (model prog w) A (setAttr (.ref x) name v) Q E s := by
 obtain ⟨od, J, hl⟩ := I.look
 refine PySem.W.set_plain X J hs (PySem.W.osa_open (s := { s with toks := s.toks + 1 }) (r := none) X J hp ht fun b => ?_)
 obtain ⟨cd, hc, hd'⟩ := PySem.W.any_some hh
 have hx : s.heap.get? x = some ⟨.ref C, some dx, .plain, #[]⟩ := I.obj
 refine wpAny_bind (wpAny_pure (wpAny_bind (wpAny_bind (wpAny_loadPart hx (wpAny_bind (PySem.W.Looks.here (s := { s with toks := s.toks + 1 }) (looks_clsIn X hc) ?_))))))
 rw [hd']
 refine wpAny_pure (a := some dx) (wpAny_bind (wpAny_pure (wpAny_bind ?_)))
 refine wpAny_nsSet1 (s := { s with toks := s.toks + 1 }) I.ns fun h' hn2 hs2 => ?_
 obtain ⟨oD, esD, epD, hoD, hdD, hcD⟩ := hn2.count (PySem.Within.cons name v hw)
 refine wpAny_bind (wpAny_lookBehind hoD (by rw [hdD]; exact pastItsLine_dict (Nat.le_trans hcD (by rw [List.length_cons]; omega))) ?_)
 exact wpAny_pure (h _ ⟨(hs2.2 _ (Ne.symm I.ne)).trans I.obj, hn2, I.ne⟩ hs2)
theorem vj {R : Result -> Shared -> Prop} {vs : List Value} {kw : List (Str × Value)} (X : K.In s.heap) (hm : PySem.W.makesIn K C = true)
  (hi : findIn K (.ref C) "__init__" = some (some (.ref f))) (hf : PySem.W.typeIn K (.ref f) = some (.type "function"))
  (h : codeAny (model prog w) (A.under (.builtin "type.__call__" ⟨.ref C :: vs, kw⟩)) (.call (.ref f) ⟨.ref (s.heap.objs.size + 1) :: vs, kw⟩) (PySem.W.InitBack (s.heap.objs.size + 1) R)
   { s with heap := (s.heap.push emptyDict).push (instObj C s.heap.objs.size) }) :
  codeAny (model prog w) A (.call (.ref C) ⟨vs, kw⟩) R s := by
 obtain ⟨hh, g, d, t, os⟩ := s
 exact PySem.W.make_core (PySem.W.makes_of X hm) (looks_findIn X hi) (fun self => PySem.W.bind_fn X self hf) (.inl rfl) h
end
def cS (f : Str) (v : V) : List (Str × V) -> List (Str × V)
 | [] => [(f, v)]
 | (g, x) :: r => if g = f then (g, v) :: r else (g, x) :: cS f v r
theorem kQ (f g : Str) (v : V) : ∀ fs : List (Str × V), (cS f v fs).lookup g = if g = f then some v else fs.lookup g
 | [] => by
  show List.lookup g [(f, v)] = _
  by_cases h : g = f
  ·have hb : (g == f) = true := beq_iff_eq.mpr h
   simp only [List.lookup, hb, if_pos h]
  ·have hb : (g == f) = false := beq_eq_false_iff_ne.mpr h
   simp only [List.lookup, hb, if_neg h]
 | (k, x) :: r => by
  have ih := kQ f g v r
  rw [show cS f v ((k, x) :: r) = (if k = f then (k, v) :: r else (k, x) :: cS f v r) from rfl]
  by_cases hk : k = f
  ·rw [if_pos hk]
   by_cases h : g = k
   ·have hb : (g == k) = true := beq_iff_eq.mpr h
    simp only [List.lookup, hb, if_pos (h.trans hk)]
   ·have hb : (g == k) = false := beq_eq_false_iff_ne.mpr h
    simp only [List.lookup, hb, if_neg (fun e : g = f => h (e.trans hk.symm))]
  ·rw [if_neg hk]
   by_cases h : g = k
   ·have hb : (g == k) = true := beq_iff_eq.mpr h
    simp only [List.lookup, hb, if_neg (fun e : g = f => hk (h.symm.trans e))]
   ·have hb : (g == k) = false := beq_eq_false_iff_ne.mpr h
    simp only [List.lookup, hb]
    exact ih
theorem jR (f : Str) (v : V) : ∀ fs : List (Str × V), f ∈ (cS f v fs).map (·.1) /\ ∀ g, g ∈ fs.map (·.1) -> g ∈ (cS f v fs).map (·.1)
 | [] => ⟨by simp [cS], fun g h => by simp at h⟩
 | (k, x) :: r => by
  obtain ⟨i1, i2⟩ := jR f v r
  rw [show cS f v ((k, x) :: r) = (if k = f then (k, v) :: r else (k, x) :: cS f v r) from rfl]
  by_cases hk : k = f
  ·rw [if_pos hk]
   subst hk
   exact ⟨by simp, fun g h => by simpa using h⟩
  ·rw [if_neg hk]
   refine ⟨?_, fun g h => ?_⟩
   ·rw [List.map_cons]
    exact List.mem_cons_of_mem _ i1
   ·rw [List.map_cons] at h ⊢
    rcases List.mem_cons.mp h with e | e
    ·exact List.mem_cons.mpr (.inl e)
    ·exact List.mem_cons_of_mem _ (i2 g e)
theorem kR (f : Str) (v : V) : ∀ fs : List (Str × V), (cS f v fs).length <= fs.length + 1
 | [] => by simp [cS]
 | (k, x) :: r => by
  have ih := kR f v r
  rw [show cS f v ((k, x) :: r) = (if k = f then (k, v) :: r else (k, x) :: cS f v r) from rfl]
  by_cases hk : k = f
  ·rw [if_pos hk, List.length_cons, List.length_cons]; omega
  ·rw [if_neg hk, List.length_cons, List.length_cons]; omega
theorem ij.some_of {v : V} {o : Option Value} (r : ij (some v) o) : ∃ u, o = some u /\ aS v u := by
 cases o with
 | none => exact (show False from r).elim
 | some u => exact ⟨u, rfl, r⟩
theorem ij.none_of {o : Option Value} (r : ij none o) : o = none := by
 cases o with
 | none => rfl
 | some u => exact (show False from r).elim
theorem ue {v : V} {u : Value} (r : aS v u) : PySem.W.handedIn u = true := by
 cases v with
 | non => cases (show u = Value.none from r); rfl
 | bl b => cases (show u = Value.bool b from r); rfl
 | int i => obtain ⟨t, e⟩ := (show ∃ t, u = Value.int i t from r); cases e; rfl
 | str x => obtain ⟨t, e⟩ := (show ∃ t, u = Value.str x t from r); cases e; rfl
 | byt b => obtain ⟨t, e⟩ := (show ∃ t, u = Value.bytes b t from r); cases e; rfl
 | flt b => obtain ⟨t, e⟩ := (show ∃ t, u = Value.float b t from r); cases e; rfl
 | ref a => cases (show u = Value.ref a from r); rfl
 | ty n => cases (show u = Value.type n from r); rfl
section
variable {P : Program} {w : World} {H H' : Hp} {h h' : Heap} {a C dx : Addr} {fs fs' : List (Str × V)}
theorem iD (hok : HOk P w H h) (e : H a = some (.ins C dx fs)) : ∃ mA, ObjM h a dx C mA /\ (∀ f, ij (fs.lookup f) (mA f)) /\ PySem.Within mA (fs.map (·.1)) /\ fs.length <= 1000 /\ H dx = some (.own a) := by
 obtain ⟨d, z, ne, ob, mA, n, r, q⟩ := (show bo P w H h a (.ins C dx fs) from hok a _ e)
 exact ⟨mA, ⟨ob, n, ne⟩, r, q, z, d⟩
end
structure Cls (K : Frag) (C : Addr) : Prop where
 pg : plainGet K C Str.empty = true
 hd : hasDictIn K C = true
 po : PySem.W.plainOver K C = true
 sa : findIn K (.ref C) "__setattr__" = some (some (.builtin "object.__setattr__"))
theorem Cls.get {K : Frag} {C : Addr} (c : Cls K C) (f : Str) : plainGet K C f = true := c.pg
def fq (K : Frag) (C : Addr) (f : Str) : Prop := findIn K (.ref C) f = some none
theorem fq.taker {K : Frag} {C : Addr} {f : Str} (n : fq K C f) : takerIn K C f = some none := by
 unfold takerIn
 rw [show findIn K (.ref C) f = some none from n]
 rfl
structure Meth (K : Frag) (C : Addr) (m : Str) (f : Addr) : Prop where
 at_ : findIn K (.ref C) m = some (some (.ref f))
 fn : isFn K (.ref f) = true
 kp : keepIn K (.ref f) = true
section
variable {X : Cx} {pins : List (Addr × Obj)} {σ : St} {H : Hp} {s : Shared} {a C dx : Addr} {fs : List (Str × V)} {f : Str} {v : V} {A : Around} {E : Value -> Shared -> Prop}
theorem su {b : Bool} {Q : Value -> Shared -> Prop} (I : Inv X pins σ H s) (e : H a = some (.ins C dx fs)) (c : Cls X.K C) (n : fq X.K C f) (l : fs.lookup f = some v)
  (h : ∀ u s', Inv X pins σ H s' -> aS v u -> Q u s') : wpAny (model X.prog X.w) A (getAttr (.ref a) f b) Q E s := by
 obtain ⟨mA, O, r, _, _, _⟩ := iD I.hok e
 obtain ⟨u, hu, ru⟩ := ij.some_of (v := v) (o := mA f) (by rw [← l]; exact r f)
 exact xY I.kIn O (c.get f) c.hd n hu (ue ru) (h u _ (I.tok _) ru)
theorem l6 {m : Str} {g : Addr} {pl : Sem Bool} {Q : Value × List Value -> Shared -> Prop} (I : Inv X pins σ H s) (e : H a = some (.ins C dx fs)) (c : Cls X.K C) (k : Meth X.K C m g) (l : fs.lookup m = none)
  (h : Q (.ref g, [.ref a]) s) : wpAny (model X.prog X.w) A (getMethod (.ref a) m pl) Q E s := by
 obtain ⟨mA, O, r, _, _, _⟩ := iD I.hok e
 have hn : mA m = none := ij.none_of (by rw [← l]; exact r m)
 exact vF I.kIn O (c.get m) k.at_ k.fn hn h
theorem rE {y : V} {u : Value} {Q : Unit -> Shared -> Prop} (I : Inv X pins σ H s) (e : H a = some (.ins C dx fs)) (c : Cls X.K C) (n : fq X.K C f) (hl : fs.length < 1000) (ry : aS y u)
  (h : ∀ s', Inv X pins σ (upd H a (.ins C dx (cS f y fs))) s' -> Q () s') : wpAny (model X.prog X.w) A (setAttr (.ref a) f u) Q E s := by
 obtain ⟨mA, O, r, wi, _, ho⟩ := iD I.hok e
 have hz : (fs.map (·.1)).length <= sizeLine := by rw [List.length_map, sizeLine_eq]; omega
 refine xt I.kIn O c.sa c.po n.taker c.hd wi hz fun h' O' sb => h _ ?_
 have hd : ∃ o, h'.get? dx = some o := let ⟨o, _, _, e', _⟩ := O'.ns; ⟨o, e'⟩
 refine I.write (x := a) (e := dx) (by rw [e]; exact True.intro) (.inr ho) (fun b q hb z => (sb.2 b hb).trans z) hd ?_
 refine ⟨by rw [upd_ne O.ne]; exact ho, ?_, O.ne, O'.obj, _, O'.ns, fun g => ?_, fun g hg => ?_⟩
 ·have := kR f y fs; omega
 ·show ij ((cS f y fs).lookup g) (if g = f then some u else mA g)
  rw [kQ]
  by_cases q : g = f
  ·rw [if_pos q, if_pos q]; exact ry
  ·rw [if_neg q, if_neg q]; exact r g
 ·by_cases q : g = f
  ·rw [q]; exact (jR f y fs).1
  ·refine (jR f y fs).2 g (wi g fun z => hg ?_)
   show (if g = f then some u else mA g) = none
   rw [if_neg q]; exact z
theorem Inv.made (I : Inv X pins σ H s) : Inv X pins σ (upd (upd H s.heap.objs.size (.own (s.heap.objs.size + 1))) (s.heap.objs.size + 1) (.ins C s.heap.objs.size []))
  { s with heap := (s.heap.push emptyDict).push (instObj C s.heap.objs.size) } := by
 have e1 : (s.heap.push emptyDict).get? s.heap.objs.size = some emptyDict := Heap.get?_push_size s.heap rfl
 have e2 : ((s.heap.push emptyDict).push (instObj C s.heap.objs.size)).get? (s.heap.objs.size + 1) = some (instObj C s.heap.objs.size) := by
  have := Heap.get?_push_size (s.heap.push emptyDict) (o := instObj C s.heap.objs.size) rfl
  rwa [Heap.size_push] at this
 have e3 : (s.heap.push emptyDict).Ns s.heap.objs.size (fun _ => none) := ⟨emptyDict, #[], _, e1, rfl, (fun e he => absurd he (by simp)), fun _ => rfl⟩
 have I1 := I.laid (a := s.heap.objs.size) (o := .own (s.heap.objs.size + 1)) (h' := s.heap.push emptyDict) (t' := s.toks) (fun b u q => Heap.get?_push_of_some _ q) (Nat.le_refl _) ⟨_, e1⟩
 refine I1.laid (a := s.heap.objs.size + 1) (o := .ins C s.heap.objs.size []) (t' := s.toks) (fun b u q => Heap.get?_push_of_some _ q) (Nat.le_of_eq (Heap.size_push _ _)) ?_
 have ne : s.heap.objs.size ≠ s.heap.objs.size + 1 := Nat.ne_of_lt (Nat.lt_succ_self _)
 refine ⟨by rw [upd_ne ne, ao], Nat.zero_le _, ne, e2, fun _ => none, (Heap.Ns1.of_empty e3).at fun o q => Heap.get?_push_of_some _ q, fun _ => True.intro, fun y hy => absurd rfl hy⟩
theorem yc {prog : Program} {w : World} {env : Env} {e : Expr} {f : Str} {pos : Pos} {s : Shared} {Q : Value -> Shared -> Prop} (hb : attributeBase e f env (eval e env) = eval e env)
  (h : wpAny (model prog w) A (eval e env) (fun o s₁ => wpAny (model prog w) A (getAttr o f true) Q E s₁) E s) : wpAny (model prog w) A (eval (.Attribute e f pos) env) Q E s :=
 Attribute_any_ h (by rw [arm_eval_Attribute, hb])
end
def tFld (K : Frag) (ta : TE) (f : Str) : TE := fun σ H Q => ta σ H fun x H1 => ∃ a C dx fs v, x = .ref a /\ H1 a = some (.ins C dx fs) /\ Cls K C /\ fq K C f /\ fs.lookup f = some v /\ Q v H1
def yy (K : Frag) (ta tv : TE) (f : Str) : TS := fun D σ H => tv σ H fun y H1 => ta σ H1 fun x H2 => ∃ a C dx fs, x = .ref a /\ H2 a = some (.ins C dx fs) /\ Cls K C /\ fq K C f /\ fs.length < 1000 /\
 D.nx σ (upd H2 a (.ins C dx (cS f y fs)))
section
variable {X : Cx} {o e value : Expr} {f : Str} {pos pos' tpos : Pos} {ta tv : TE}
theorem yO (he : PE X e ta) (hb : attributeBase e f X.env (eval e X.env) = eval e X.env) : PE X (.Attribute e f pos) (tFld X.K ta f) := by
 intro pins s σ H Q I h
 refine yc hb (thn (he pins s σ H _ I h) fun u s1 ⟨x, H1, I1, rx, a, C, dx, fs, v, ex, ea, c, n, l, q⟩ => ?_)
 subst ex
 obtain rfl : u = Value.ref a := rx
 exact su I1 ea c n l fun u' s2 I2 ru => ⟨v, H1, I2, ru, q⟩
theorem yD (ha : PE X o ta) (hv : PE X value tv) (hs : swapsWith value (some (.Attribute o f pos')) pos.line X.env = pure false) : PS X (.Assign [.Attribute o f pos'] value pos) (yy X.K ta tv f) := by
 intro pins s σ H D I h
 refine plainObj_wpAny_Assign_Attribute (thn (hv pins s σ H _ I h) fun u s1 ⟨y, H1, I1, ry, q⟩ => thn (ha pins s1 σ H1 _ I1 q) fun ov s2 ⟨x, H2, I2, rx, a, C, dx, fs, ex, ea, c, n, l, q2⟩ => ?_) hs
 subst ex
 obtain rfl : ov = Value.ref a := rx
 exact rE I2 ea c n l ry fun s3 I3 => ⟨σ, _, I3, q2⟩
end
section
variable {X : Cx} {pins : List (Addr × Obj)} {σ : St} {H : Hp} {s : Shared} {A : Around} {E : Value -> Shared -> Prop} {Q : Value -> Shared -> Prop} {c : Value} {b : Bool}
inductive TyOf (K : Frag) (H : Hp) : V -> Value -> Prop where
 | non : TyOf K H .non (.type "NoneType")
 | bl (x : Bool) : TyOf K H (.bl x) (.type "bool")
 | int (i : Int) : TyOf K H (.int i) (.type "int")
 | str (x : Str) : TyOf K H (.str x) (.type "str")
 | flt (x : UInt64) : TyOf K H (.flt x) (.type "float")
 | lst {a : Addr} {xs : List V} (e : H a = some (.lst xs)) : TyOf K H (.ref a) (.type "list")
 | frz {a : Addr} {o : Obj} {xs : List V} (e : H a = some (.frz o (.lst xs))) : TyOf K H (.ref a) (.type "list")
 | tup {a : Addr} {xs : List V} (e : H a = some (.tup xs)) : TyOf K H (.ref a) (.type "tuple")
 | dK {a : Addr} {kvs : List (Key × V)} (e : H a = some (.dK kvs)) : TyOf K H (.ref a) (.type "dict")
 | dT {a : Addr} {kvs : List (List Key × V)} (e : H a = some (.dT kvs)) : TyOf K H (.ref a) (.type "dict")
 | ins {a C dx : Addr} {fs : List (Str × V)} (e : H a = some (.ins C dx fs)) (cl : Cls K C) (ha : findIn K (.ref C) "__class__" = some (some (.builtin "object.__class__")))
   (hn : specialIn K (.builtin "object.__class__") "__get__" = some (some (.builtin "getset_descriptor.__get__"))) (htk : PySem.W.takesIn K (.builtin "object.__class__") = some true)
   (hm : mroIn K C (.type "object") = some true) : TyOf K H (.ref a) (.ref C)
theorem t8 {x : V} {u t : Value} (I : Inv X pins σ H s) (rx : aS x u) (ty : TyOf X.K H x t) (e : kitOne X.K t c = some b) (h : ∀ tk, Q (.bool b) { s with toks := tk }) :
  wpAny (model X.prog X.w) A (call (.builtin "isinstance") [u, c]) Q E s := by
 cases ty with
 | non => cases (show u = Value.none from rx); exact kia_one PySem.W.kitx_none I.kIn True.intro e (fun z => nomatch z) h
 | bl y => cases (show u = Value.bool y from rx); exact kia_one PySem.W.kitx_bool I.kIn True.intro e (fun z => nomatch z) h
 | int i => obtain ⟨t, q⟩ := (show ∃ t, u = Value.int i t from rx); cases q; exact kia_one PySem.W.kitx_int I.kIn True.intro e (fun z => nomatch z) h
 | str y => obtain ⟨t, q⟩ := (show ∃ t, u = Value.str y t from rx); cases q; exact kia_one PySem.W.kitx_str I.kIn True.intro e (fun z => nomatch z) h
 | flt y => obtain ⟨t, q⟩ := (show ∃ t, u = Value.float y t from rx); cases q; exact kia_one PySem.W.kitx_float I.kIn True.intro e (fun z => nomatch z) h
 | @lst a xs ea =>
  cases (show u = Value.ref a from rx)
  obtain ⟨_, _, n, _, h1⟩ := (show bo X.prog X.w H s.heap a (.lst xs) from I.hok a _ ea)
  exact kia_one kitx_list I.kIn ⟨_, h1, rfl⟩ e (fun z => nomatch z) h
 | @frz a ob xs ea =>
  cases (show u = Value.ref a from rx)
  obtain ⟨_, _, _, n, _, h1⟩ := (show bo X.prog X.w H s.heap a (.frz ob (.lst xs)) from I.hok a _ ea)
  exact kia_one kitx_list I.kIn ⟨_, h1, rfl⟩ e (fun z => nomatch z) h
 | @tup a xs ea =>
  cases (show u = Value.ref a from rx)
  obtain ⟨_, _, _, p⟩ := (show bo X.prog X.w H s.heap a (.tup xs) from I.hok a _ ea)
  obtain ⟨o, h1, h2, _⟩ := p
  exact kia_one kitx_tuple I.kIn ⟨o, h1, h2⟩ e (fun z => nomatch z) h
 | @dK a kvs ea =>
  cases (show u = Value.ref a from rx)
  obtain ⟨_, _, vs, _, p⟩ := (show bo X.prog X.w H s.heap a (.dK kvs) from I.hok a _ ea)
  obtain ⟨o, es, ep, h1, h2, _⟩ := p
  exact kia_one kitx_dict I.kIn ⟨o, h1, h2.1⟩ e (fun z => nomatch z) h
 | @dT a kvs ea =>
  cases (show u = Value.ref a from rx)
  obtain ⟨_, _, xs, _, o, es, ep, h1, h2, _⟩ := (show bo X.prog X.w H s.heap a (.dT kvs) from I.hok a _ ea)
  exact kia_one kitx_dict I.kIn ⟨o, h1, h2.1⟩ e (fun z => nomatch z) h
 | @ins a C dx fs ea cl ha hn htk hm =>
  cases (show u = Value.ref a from rx)
  obtain ⟨mA, O, _⟩ := iD I.hok ea
  obtain ⟨od, J, _⟩ := O.look
  exact kia_one (PySem.W.kitx_own (cl.get _) cl.hd ha hn htk hm) I.kIn J e (fun z => nomatch z) h
end
structure Room (k : Nat) (A : Around) : Prop where
 hd : A.handled = none
 dp : A.depth + 3 * k + 5 < recursionLimit
 un : A.units + 16 * k + 200 < cLine
theorem Room.mono {j k : Nat} {A : Around} (r : Room k A) (h : j <= k) : Room j A := ⟨r.hd, by have := r.dp; omega, by have := r.un; omega⟩
theorem Room.deeper {k : Nat} {A : Around} (r : Room (k + 1) A) (env : Env) : Room k (A.deeper env) :=
 ⟨r.hd, by have := r.dp; show A.depth + 1 + 3 * k + 5 < _; omega, by have := r.un; show A.units + 3 + 16 * k + 200 < _; omega⟩
theorem rX {A : Around} {C : Addr} {us : List Value} {kw : List (Str × Value)} : (A.under (.builtin "type.__call__" ⟨.ref C :: us, kw⟩)).depth = A.depth + 1 := by
 first | rfl | simp [Around.under, Code.weight, Code.isCreation, Code.isGuard, Code.isCaller, Code.frames, Code.isFrame, guardIds]
theorem rW {A : Around} {C : Addr} {us : List Value} {kw : List (Str × Value)} : (A.under (.builtin "type.__call__" ⟨.ref C :: us, kw⟩)).units = A.units + 1 := by
 first | rfl | simp [Around.under, Code.cUnits, Code.frames, Code.isFrame]
theorem Room.make {k : Nat} {A : Around} (r : Room (k + 1) A) (C : Addr) (us : List Value) (kw : List (Str × Value)) : Room k (A.under (.builtin "type.__call__" ⟨.ref C :: us, kw⟩)) :=
 ⟨r.hd, by have := r.dp; rw [rX]; omega, by have := r.un; rw [rW]; omega⟩
theorem Room.depth {k : Nat} {A : Around} (r : Room k A) : A.depth < recursionLimit := by have := r.dp; omega
theorem Room.units {k : Nat} {A : Around} (r : Room k A) : A.units + 64 < cLine := by have := r.un; omega
def uO : TA := fun _ H Q => Q [] H
def wN (ta : TE) (tr : TA) : TA := fun σ H Q => ta σ H fun x H1 => tr σ H1 fun xs H2 => Q (x :: xs) H2
section
variable {X : Cx} {e : Expr} {es : List Expr} {te : TE} {t : TA} {pos : Pos}
theorem ef : PA X [] uO := fun _ _ _ _ H Q I h => Calls.spliced_nil ⟨[], H, I, .nil, h⟩
theorem bv (ha : PE X e te) (hr : PA X es t) (hs : starEach (e :: es) X.env = (false, eval e X.env) :: starEach es X.env := by rfl) : PA X (e :: es) (wN te t) := by
 intro pos pins s σ H Q I h
 rw [hs]
 show wpAny _ _ (spliced ((false, eval e X.env) :: backTo pos (starEach es X.env))) _ _ s
 refine Calls.spliced_cons (thn (ha pins s σ H _ I h) fun u s1 ⟨x, H1, I1, r1, q1⟩ => ?_)
 exact thn (hr pos pins s1 σ H1 _ I1 q1) fun us s2 ⟨xs, H2, I2, r2, q2⟩ => ⟨x :: xs, H2, I2, .cons r1 r2, q2⟩
def tTup (t : TA) : TE := fun σ H Q => t σ H fun xs H1 => xs.length <= sizeLine /\ ∀ p, H1 p = none -> Q (.ref p) (upd H1 p (.tup xs))
def tLst (t : TA) : TE := fun σ H Q => t σ H fun xs H1 => xs.length <= sizeLine /\ ∀ p, H1 p = none -> Q (.ref p) (upd H1 p (.lst xs))
theorem yL {x1} (h : PA X es t) : PE X (.Tuple es x1 pos) (tTup t) := by
 intro pins s σ H Q I hq
 refine wpAny_Tuple_spliced (thn (h pos pins s σ H _ I hq) fun us s1 ⟨xs, H1, I1, r, z, q⟩ => ⟨by rw [← r.length]; exact z, ?_⟩)
 have hf : H1 s1.heap.objs.size = none := I1.hok.fresh (Nat.le_refl _)
 refine ⟨.ref s1.heap.objs.size, upd H1 s1.heap.objs.size (.tup xs), I1.laid (t' := s1.toks) (fun b u e => Heap.get?_push_of_some _ e) (Nat.le_refl _) ?_, rfl, q _ hf⟩
 exact ⟨z, us, r, ⟨_, Heap.get?_push_size _ rfl, rfl, _, rfl⟩⟩
theorem lR (h : PA X es t) : PE X (.List es pos) (tLst t) := by
 intro pins s σ H Q I hq
 refine wpAny_List_spliced (thn (h pos pins s σ H _ I hq) fun us s1 ⟨xs, H1, I1, r, z, q⟩ => ⟨by rw [← r.length]; exact z, ?_⟩)
 have hf : H1 s1.heap.objs.size = none := I1.hok.fresh (Nat.le_refl _)
 refine ⟨.ref s1.heap.objs.size, upd H1 s1.heap.objs.size (.lst xs), I1.laid (t' := s1.toks) (fun b u e => Heap.get?_push_of_some _ e) (Nat.le_refl _) ?_, rfl, q _ hf⟩
 exact ⟨z, us, 0, r, Heap.get?_push_size _ rfl⟩
end
abbrev Sp := List V -> Hp -> VK -> XK -> Prop
abbrev CXT := List Env -> Hp -> Shared -> XK -> Value -> Shared -> Prop
structure Env0 (P : Program) (w : World) (K : Frag) (mg : Str -> Option Value) (base : Heap) (A : Around) (outer : List Env) (s : Shared) (H : Hp) : Prop where
 frames : A.frames = some outer
 mod : Mod K mg base
 bs : ∀ b o, base.get? b = some o -> s.heap.get? b = some o /\ H b = none
 bsz : base.objs.size <= s.heap.objs.size
 funs : s.heap.FunFrames base outer
 frf : ∀ b ∈ frs outer, H b = none
 hok : HOk P w H s.heap
 bare : AllBare s.gens
def CE (outer : List Env) (P : Program) (w : World) (H : Hp) (s : Shared) (Q : VK) (u : Value) (s' : Shared) : Prop :=
 ∃ v H', s'.os = s.os /\ AllBare s'.gens /\ Un (frs outer) [] H H' s.heap s'.heap /\ HOk P w H' s'.heap /\ aS v u /\ Q v H'
def CR (CX : CXT) (outer : List Env) (P : Program) (w : World) (H : Hp) (s : Shared) (Q : VK) (E : XK) (r : Result) (s' : Shared) : Prop :=
 match r with
 | .ok (.ret u) => CE outer P w H s Q u s'
 | .ok _ => False
 | .error e => CX outer H s E e s'
structure FnOk (P : Program) (w : World) (K : Frag) (mg : Str -> Option Value) (base : Heap) (CX : CXT) (k : Nat) (f : Addr) (fd : FuncData) (ps : List Str) (sp : Sp) : Prop where
 len : ∀ vs H Q E, sp vs H Q E -> vs.length = ps.length
 run : ∀ (A : Around) (outer : List Env) (s : Shared) (H : Hp) (args : Args) (us : List Value) (vs : List V) (Q : VK) (E : XK), Room k A -> Env0 P w K mg base A outer s H -> BindsTo s fd args (ps.zip us) -> ar vs us -> sp vs H Q E ->
  codeAny (model P w) A (.call (.ref f) args) (CR CX outer P w H s Q E) s
theorem FnOk.mono {P : Program} {w : World} {K : Frag} {mg : Str -> Option Value} {base : Heap} {CX : CXT} {j k : Nat} {f : Addr} {fd : FuncData} {ps : List Str} {sp : Sp} (F : FnOk P w K mg base CX j f fd ps sp) (h : j <= k) :
  FnOk P w K mg base CX k f fd ps sp := ⟨F.len, fun A outer s H args us vs Q E hr => F.run A outer s H args us vs Q E (hr.mono h)⟩
theorem Env0.make {P : Program} {w : World} {K : Frag} {mg : Str -> Option Value} {base : Heap} {A : Around} {outer : List Env} {s : Shared} {H : Hp} (e : Env0 P w K mg base A outer s H) (C : Addr) (us : List Value) (kw : List (Str × Value)) :
  Env0 P w K mg base (A.under (.builtin "type.__call__" ⟨.ref C :: us, kw⟩)) outer s H := ⟨by first | exact e.frames | (simpa [Around.under, Code.envs, Code.isFrame, pushEnvs] using e.frames), e.mod, e.bs, e.bsz, e.funs, e.frf, e.hok, e.bare⟩
section
variable {X : Cx} {pins : List (Addr × Obj)} {σ : St} {H : Hp} {s s' : Shared}
theorem Inv.env0 (I : Inv X pins σ H s) : Env0 X.prog X.w X.K X.mg X.base X.A X.stack s H :=
 ⟨I.ok.frames, I.ok.mod, I.bs, Nat.le_trans I.ok.bsz I.sz, I.stack, I.stkFree, I.hok, I.bare⟩
theorem Inv.after {Q : VK} {u : Value} (I : Inv X pins σ H s) (h : CE X.stack X.prog X.w H s Q u s') : EP X pins σ Q u s' := by
 obtain ⟨v, H', os, bare, un, hok, r, q⟩ := h
 obtain ⟨hh, g, d, t, os'⟩ := s'
 obtain rfl : os' = s.os := os
 exact ⟨v, H', I.call (h' := hh) (g' := g) (d' := d) (t' := t) (ch := []) un hok bare (fun b z => absurd z (by simp)), r, q⟩
end
def wO (sp : Sp) (dvs : List V) (E : St -> XK) (t : TA) : TE := fun σ H Q => t σ H fun vs H1 => sp (vs ++ dvs) H1 Q (E σ)
def wL (C : Addr) (m : Str) (sp : Sp) (dvs : List V) (E : St -> XK) (ta : TE) (t : TA) : TE := fun σ H Q => ta σ H fun x H1 => ∃ a dx fs, x = .ref a /\ H1 a = some (.ins C dx fs) /\ fs.lookup m = none /\
 t σ H1 fun vs H2 => sp (x :: (vs ++ dvs)) H2 Q (E σ)
def AM (C : Addr) (sp : Sp) (dvs : List V) (E : St -> XK) (t : TA) : TE := fun σ H Q => t σ H fun vs H1 => ∀ x dx, H1 x = none -> H1 dx = none -> dx ≠ x ->
 sp (.ref x :: (vs ++ dvs)) (upd (upd H1 dx (.own x)) x (.ins C dx [])) (fun v H2 => v = .non /\ Q (.ref x) H2) (E σ)
def aQ (K : Frag) (fd : FuncData) (ps : List Str) (ds : List Value) : Prop :=
 ∀ (s : Shared) (us : List Value), K.In s.heap -> (us ++ ds).length = ps.length -> BindsTo s fd ⟨us, []⟩ (ps.zip (us ++ ds))
theorem aQ.all {K : Frag} {fd : FuncData} {ps : List Str} (h : ∀ us : List Value, us.length = ps.length -> bindArgs fd ⟨us, []⟩ = pure (ps.zip us)) : aQ K fd ps [] := fun s us _ hl => by
 rw [List.append_nil] at hl ⊢
 exact .of_eq (h us hl)
def bJ (CX : CXT) (X : Cx) (E : St -> XK) : Prop := ∀ (pins : List (Addr × Obj)) (σ : St) (H : Hp) (s : Shared) (e : Value) (s' : Shared), Inv X pins σ H s -> CX X.stack H s (E σ) e s' -> X.xe e s'
section
variable {X : Cx} {CX : CXT} {k : Nat} {f C : Addr} {fd : FuncData} {ps : List Str} {sp : Sp} {dvs : List V} {ds : List Value} {E : St -> XK} {x m : Str} {p pos apos : Pos} {e o : Expr} {es : List Expr} {ta : TE} {t : TA}
theorem ph {pins : List (Addr × Obj)} {σ : St} {H : Hp} {s : Shared} {Q : VK} {us : List Value} {vs : List V} (F : FnOk X.prog X.w X.K X.mg X.base CX k f fd ps sp) (hr : Room k X.A) (hb : aQ X.K fd ps ds) (hd : ar dvs ds) (hx : bJ CX X E)
  (I : Inv X pins σ H s) (r : ar vs us) (h : sp (vs ++ dvs) H Q (E σ)) : wpAny (model X.prog X.w) X.A (call (.ref f) us) (EP X pins σ Q) X.xe s := by
 have r2 : ar (vs ++ dvs) (us ++ ds) := r.append hd
 have hl : (us ++ ds).length = ps.length := by rw [← r2.length]; exact F.len _ _ _ _ h
 refine wpAny_call (codeAny_mono (F.run X.A X.stack s H ⟨us, []⟩ (us ++ ds) (vs ++ dvs) Q (E σ) hr I.env0 (hb s us I.kIn hl) r2 h) fun r s' hq => ?_)
 cases r with
 | error e => exact hx pins σ H s e s' I hq
 | ok fl =>
  cases fl with
  | ret u => exact I.after hq
  | next => exact False.elim hq
  | brk => exact False.elim hq
  | cont => exact False.elim hq
theorem kr (F : FnOk X.prog X.w X.K X.mg X.base CX k f fd ps sp) (hr : Room k X.A) (hg : Gl X x) (hm : X.mg x = some (.ref f)) (hk : keepIn X.K (.ref f) = true) (hb : aQ X.K fd ps ds) (hd : ar dvs ds) (hx : bJ CX X E)
  (ha : PA X (e :: es) t) (hdb : (x == ("__debug__" : Str)) = false := by decide) (he : starEach (e :: es) X.env = (false, eval e X.env) :: starEach es X.env := by rfl) (hpl : (backTo pos (starEach es X.env)).any (·.1) = false := by rfl) :
  PE X (.Call (.Name x p) (e :: es) [] pos) (wO sp dvs E t) := by
 intro pins s σ H Q I h
 refine wpAny_Call_Name_kw (gt I hg hm ?_ hdb)
 refine callWith_K (h₀ := X.base) I.ok.mod.kin hk (thn (ha pos pins s σ H _ I h) fun us s1 ⟨vs, H1, I1, r, q⟩ => ⟨I1.kIn, ?_⟩) he hpl
 exact ph F hr hb hd hx I1 r q
theorem u6 {pl : Sem Bool} (he : PE X o ta) (c : Cls X.K C) (hm : Meth X.K C m f) (F : FnOk X.prog X.w X.K X.mg X.base CX k f fd ps sp) (hr : Room k X.A) (hb : aQ X.K fd ps ds) (hd : ar dvs ds) (hx : bJ CX X E)
  (ht : eval (.Call (.Attribute o m apos) [] [] pos) X.env = (do
   let ov ← eval o X.env
   standAt apos.atName
   let (f, first) ← holding [ov] (getMethod ov m pl)
   callWith pos f first (backTo pos (starEach [] X.env)) (backToKw pos (keywordEach [] X.env))) := by rfl) :
  PE X (.Call (.Attribute o m apos) [] [] pos) (wL C m sp dvs E ta uO) := by
 intro pins s σ H Q I h
 refine methodCall_KW (pl := pl) (thn (he pins s σ H _ I h) fun u s1 ⟨x, H1, I1, rx, a, dx, fs, ex, ea, l, q⟩ => ?_) ht
 subst ex
 obtain rfl : u = Value.ref a := rx
 refine l6 I1 ea c hm l ?_
 exact PySem.W.callWith_K0 (first := [.ref a]) I1.kIn hm.kp (ph (us := [.ref a]) (vs := [.ref a]) F hr hb hd hx I1 (.cons rfl .nil) q)
structure Mk (K : Frag) (C f : Addr) : Prop where
 makes : PySem.W.makesIn K C = true
 init : findIn K (.ref C) "__init__" = some (some (.ref f))
 fn : isFn K (.ref f) = true
 kp : keepIn K (.ref C) = true
theorem uT {pins : List (Addr × Obj)} {σ : St} {H : Hp} {s : Shared} {Q : VK} {us : List Value} {vs : List V} (M : Mk X.K C f) (F : FnOk X.prog X.w X.K X.mg X.base CX k f fd ps sp) (hr : Room (k + 1) X.A) (hb : aQ X.K fd ps ds) (hd : ar dvs ds)
  (hx : bJ CX X E) (I : Inv X pins σ H s) (r : ar vs us)
  (h : ∀ x dx, H x = none -> H dx = none -> dx ≠ x -> sp (.ref x :: (vs ++ dvs)) (upd (upd H dx (.own x)) x (.ins C dx [])) (fun v H2 => v = .non /\ Q (.ref x) H2) (E σ)) :
  wpAny (model X.prog X.w) X.A (call (.ref C) us) (EP X pins σ Q) X.xe s := by
 have hq := h (s.heap.objs.size + 1) s.heap.objs.size (I.hok.fresh (Nat.le_succ _)) (I.hok.fresh (Nat.le_refl _)) (Nat.ne_of_lt (Nat.lt_succ_self _))
 have I2 := Inv.made (C := C) I
 have r2 : ar (V.ref (s.heap.objs.size + 1) :: (vs ++ dvs)) (Value.ref (s.heap.objs.size + 1) :: (us ++ ds)) := .cons rfl (r.append hd)
 have hl : (Value.ref (s.heap.objs.size + 1) :: us ++ ds).length = ps.length := by
  have e := r2.length
  rw [F.len _ _ _ _ hq] at e
  exact e.symm
 refine wpAny_call (vj (f := f) I.kIn M.makes M.init (beq_iff_eq.mp M.fn) (codeAny_mono (F.run _ X.stack _ _ ⟨Value.ref (s.heap.objs.size + 1) :: us, []⟩ (Value.ref (s.heap.objs.size + 1) :: (us ++ ds)) _ _ (E σ) (hr.make C us [])
  (I2.env0.make C us []) (hb _ (Value.ref (s.heap.objs.size + 1) :: us) I2.kIn hl) r2 hq) fun r s' hq' => ?_))
 cases r with
 | error e => exact hx pins σ _ _ e s' I2 hq'
 | ok fl =>
  cases fl with
  | ret u =>
   obtain ⟨v, H', I3, rv, ev, q3⟩ := I2.after hq'
   subst ev
   exact ⟨rv, ⟨V.ref (s.heap.objs.size + 1), H', I3, rfl, q3⟩⟩
  | next => exact False.elim hq'
  | brk => exact False.elim hq'
  | cont => exact False.elim hq'
theorem xC (M : Mk X.K C f) (F : FnOk X.prog X.w X.K X.mg X.base CX k f fd ps sp) (hr : Room (k + 1) X.A) (hg : Gl X x) (hm : X.mg x = some (.ref C)) (hb : aQ X.K fd ps ds) (hd : ar dvs ds) (hx : bJ CX X E)
  (ha : PA X (e :: es) t) (hdb : (x == ("__debug__" : Str)) = false := by decide) (he : starEach (e :: es) X.env = (false, eval e X.env) :: starEach es X.env := by rfl) (hpl : (backTo pos (starEach es X.env)).any (·.1) = false := by rfl) :
  PE X (.Call (.Name x p) (e :: es) [] pos) (AM C sp dvs E t) := by
 intro pins s σ H Q I h
 refine wpAny_Call_Name_kw (gt I hg hm ?_ hdb)
 refine callWith_K (h₀ := X.base) I.ok.mod.kin M.kp (thn (ha pos pins s σ H _ I h) fun us s1 ⟨vs, H1, I1, r, q⟩ => ⟨I1.kIn, ?_⟩) he hpl
 exact uT M F hr hb hd hx I1 r q
end
def PK (X : Cx) (kws : List Keyword) (t : TA) : Prop :=
 ∀ (pos : Pos) (pins : List (Addr × Obj)) (s : Shared) (σ : St) (H : Hp) (Q : List V -> Hp -> Prop), Inv X pins σ H s -> t σ H Q -> wpAny (model X.prog X.w) X.A (evalAll ((backToKw pos (keywordEach kws X.env)).map (·.2))) (AP X pins σ Q) X.xe s
section
variable {X : Cx} {CX : CXT} {k : Nat} {f C : Addr} {fd : FuncData} {ps ks : List Str} {sp : Sp} {E : St -> XK} {x m : Str} {p pos apos kpos : Pos} {e o : Expr} {es : List Expr} {kws : List Keyword} {te ta : TE} {t tk : TA} {nm : Option Str}
theorem yE : PK X [] uO := fun _ _ _ _ H Q I h => wpAny_evalAll_nil ⟨[], H, I, .nil, h⟩
theorem xz (ha : PE X e te) (hr : PK X kws t) : PK X (⟨nm, e, kpos⟩ :: kws) (wN te t) := by
 intro pos pins s σ H Q I h
 show wpAny _ _ (evalAll ((do let v ← eval e X.env; standAt pos; pure v) :: (backToKw pos (keywordEach kws X.env)).map (·.2))) _ _ s
 refine wpAny_evalAll_cons (wpAny_bind (thn (ha pins s σ H _ I h) fun u s1 ⟨x, H1, I1, r1, q1⟩ => wpAny_bind (wpAny_standAt (wpAny_pure ?_))))
 exact thn (hr pos pins s1 σ H1 _ I1 q1) fun us s2 ⟨xs, H2, I2, r2, q2⟩ => ⟨x :: xs, H2, I2, .cons r1 r2, q2⟩
structure KBinds (K : Frag) (fd : FuncData) (ps ks : List Str) (g : List Value -> List Value -> List Value) (gV : List V -> List V -> List V) : Prop where
 to : ∀ (s : Shared) (us ws : List Value), K.In s.heap -> (g us ws).length = ps.length -> BindsTo s fd ⟨us, ks.zip ws⟩ (ps.zip (g us ws))
 rel : ∀ {vs : List V} {us : List Value} {zs : List V} {ws : List Value}, ar vs us -> ar zs ws -> ar (gV vs zs) (g us ws)
def yr (sp : Sp) (gV : List V -> List V -> List V) (E : St -> XK) (t tk : TA) : TE := fun σ H Q => t σ H fun vs H1 => tk σ H1 fun zs H2 => sp (gV vs zs) H2 Q (E σ)
variable {g : List Value -> List Value -> List Value} {gV : List V -> List V -> List V}
theorem qx {pins : List (Addr × Obj)} {σ : St} {H : Hp} {s : Shared} {Q : VK} {us ws : List Value} {vs zs : List V} (F : FnOk X.prog X.w X.K X.mg X.base CX k f fd ps sp) (hr : Room k X.A) (hb : KBinds X.K fd ps ks g gV) (hx : bJ CX X E)
  (I : Inv X pins σ H s) (r : ar vs us) (rz : ar zs ws) (h : sp (gV vs zs) H Q (E σ)) : wpAny (model X.prog X.w) X.A (call (.ref f) us (ks.zip ws)) (EP X pins σ Q) X.xe s := by
 have r2 := hb.rel r rz
 have hl : (g us ws).length = ps.length := by rw [← r2.length]; exact F.len _ _ _ _ h
 refine wpAny_call (codeAny_mono (F.run X.A X.stack s H ⟨us, ks.zip ws⟩ (g us ws) (gV vs zs) Q (E σ) hr I.env0 (hb.to s us ws I.kIn hl) r2 h) fun r s' hq => ?_)
 cases r with
 | error e => exact hx pins σ H s e s' I hq
 | ok fl =>
  cases fl with
  | ret u => exact I.after hq
  | next => exact False.elim hq
  | brk => exact False.elim hq
  | cont => exact False.elim hq
theorem u8 (F : FnOk X.prog X.w X.K X.mg X.base CX k f fd ps sp) (hr : Room k X.A) (hg : Gl X x) (hm : X.mg x = some (.ref f)) (hk : keepIn X.K (.ref f) = true) (hb : KBinds X.K fd ps ks g gV) (hx : bJ CX X E)
  (ha : PA X (e :: es) t) (hkw : PK X kws tk) (hall : (backToKw pos (keywordEach kws X.env)).all (·.1.isSome) = true := by rfl) (hks : (backToKw pos (keywordEach kws X.env)).filterMap (·.1) = ks := by rfl)
  (hdb : (x == ("__debug__" : Str)) = false := by decide) (he : starEach (e :: es) X.env = (false, eval e X.env) :: starEach es X.env := by rfl)
  (hpl : ((backTo pos (starEach (e :: es) X.env)).any (·.1) || (backToKw pos (keywordEach kws X.env)).any (·.1.isNone)) = false := by rfl) :
  PE X (.Call (.Name x p) (e :: es) kws pos) (yr sp gV E t tk) := by
 intro pins s σ H Q I h
 refine wpAny_Call_Name_kw (gt I hg hm ?_ hdb)
 refine PySem.W.callWith_KW (h₀ := X.base) I.ok.mod.kin hk hall (thn (ha pos pins s σ H _ I h) fun us s1 ⟨vs, H1, I1, r, q⟩ => ?_) hpl he
 refine thn (hkw pos pins s1 σ H1 _ I1 q) fun ws s2 ⟨zs, H2, I2, rz, q2⟩ => ⟨I2.kIn, ?_⟩
 rw [hks]
 exact qx F hr hb hx I2 r rz q2
end
structure FnScope (N P : List Str) (sc : Scope) : Prop where
 kind : sc.kind = .function
 co : sc.isCoroutine = false
 gen : sc.isGenerator = false
 nd : N.Nodup
 pre : N.take P.length = P
 par : ∀ x ∈ P, sc.names.lookup x = some .local \/ sc.names.lookup x = some .cell
 nofree : ∀ y ∈ sc.names, y.2 ≠ .free
theorem oi {kindOf : Str -> Option NameKind} {x : Str} : ∀ {binds : List (Str × Value)} {m : Str -> Option Value}, (∀ v, (x, v) ∉ binds) -> bindL kindOf binds m x = m x
 | [], _, _ => rfl
 | (n, v) :: r, m, h => by
  unfold bindL
  rw [oi fun w hw => h w (List.mem_cons_of_mem _ hw)]
  split
  ·have : x ≠ n := by rintro rfl; exact h v List.mem_cons_self
   simp [this]
  ·rfl
theorem oo {kindOf : Str -> Option NameKind} {x : Str} : ∀ {binds : List (Str × Value)} {m : Str -> Option Value}, (∀ v, (x, v) ∉ binds) -> bindC kindOf binds m x = m x
 | [], _, _ => rfl
 | (n, v) :: r, m, h => by
  unfold bindC
  rw [oo fun w hw => h w (List.mem_cons_of_mem _ hw)]
  split
  ·rfl
  ·have : x ≠ n := by rintro rfl; exact h v List.mem_cons_self
   simp [this]
theorem oj {kindOf : Str -> Option NameKind} {x : Str} {v : Value} : ∀ {P : List Str} {vs : List Value} {i : Nat} {m : Str -> Option Value}, P.Nodup -> P[i]? = some x -> vs[i]? = some v -> kindOf x = some .local ->
  bindL kindOf (P.zip vs) m x = some v
 | [], _, _, _, _, h, _, _ => by simp at h
 | _ :: _, [], _, _, _, _, h, _ => by simp at h
 | p :: P, w :: vs, 0, m, nd, h1, h2, hk => by
  simp at h1 h2; subst h1; subst h2
  show bindL kindOf ((p, w) :: P.zip vs) m p = _
  unfold bindL
  rw [oi fun v hv => (List.nodup_cons.mp nd).1 (List.of_mem_zip hv).1, if_pos hk]
  simp
 | p :: P, w :: vs, i + 1, m, nd, h1, h2, hk => by
  show bindL kindOf ((p, w) :: P.zip vs) m x = _
  unfold bindL
  exact oj (i := i) (List.nodup_cons.mp nd).2 (by simpa using h1) (by simpa using h2) hk
theorem oq {kindOf : Str -> Option NameKind} {x : Str} {v : Value} : ∀ {P : List Str} {vs : List Value} {i : Nat} {m : Str -> Option Value}, P.Nodup -> P[i]? = some x -> vs[i]? = some v -> kindOf x ≠ some .local ->
  bindC kindOf (P.zip vs) m x = some v
 | [], _, _, _, _, h, _, _ => by simp at h
 | _ :: _, [], _, _, _, _, h, _ => by simp at h
 | p :: P, w :: vs, 0, m, nd, h1, h2, hk => by
  simp at h1 h2; subst h1; subst h2
  show bindC kindOf ((p, w) :: P.zip vs) m p = _
  unfold bindC
  rw [oo fun v hv => (List.nodup_cons.mp nd).1 (List.of_mem_zip hv).1, if_neg hk]
  simp
 | p :: P, w :: vs, i + 1, m, nd, h1, h2, hk => by
  show bindC kindOf ((p, w) :: P.zip vs) m x = _
  unfold bindC
  exact oq (i := i) (List.nodup_cons.mp nd).2 (by simpa using h1) (by simpa using h2) hk
def ei (N : List Str) (vs : List V) : St := vs.map some ++ List.replicate (N.length - vs.length) none
def cI (CX : CXT) (P : Program) (w : World) (K : Frag) (mg : Str -> Option Value) (base : Heap) (N : List Str) (qual : Str) (scope : Scope) (f : Addr) (cd : Value) (A : Around) (outer : List Env) (s : Shared) (H : Hp) (E : XK) : Cx where
 prog := P
 w := w
 K := K
 mg := mg
 base := base
 A := A.deeper (envOfC qual scope s.heap.objs.size f cd)
 N := N
 s₀ := s
 H₀ := H
 env := envOfC qual scope s.heap.objs.size f cd
 outer := outer
 stack := envOfC qual scope s.heap.objs.size f cd :: outer
 ex := []
 calm := true
 fn := fun _ => true
 pn := []
 xe := fun e s' => wpAny (model P w) (A.deeper (envOfC qual scope s.heap.objs.size f cd)) (leaving (envOfC qual scope s.heap.objs.size f cd) e) (fun _ s'' => CX outer H s E e s'') (fun e' s'' => CX outer H s E e' s'') s'
theorem pW {sc : Scope} {n : Nat} {x : Str} (h : sc.names.lookup x = some .cell) : ∃ c, (cellsFrom n sc.names []).lookup x = some c := by
 have q := cellsFrom_some sc.names n [] (.inl h)
 exact Option.isSome_iff_exists.mp q
theorem ua {CX : CXT} {P : Program} {w : World} {K : Frag} {mg : Str -> Option Value} {base : Heap} {N ps : List Str} {qual : Str} {scope : Scope} {f : Addr} {cd : Value} {A : Around} {outer : List Env} {s s1 : Shared} {H : Hp} {E : XK} {us : List Value} {vs : List V}
  (S : FnScope N ps scope) (hd : A.handled = none) (e0 : Env0 P w K mg base A outer s H) (hl : vs.length = ps.length) (r : ar vs us)
  (x : InCallC s s.heap.objs.size (bindL (envOfC qual scope s.heap.objs.size f cd).kindOf (ps.zip us) fun _ => none) (cellsFrom (s.heap.objs.size + 1) scope.names []) (bindC (envOfC qual scope s.heap.objs.size f cd).kindOf (ps.zip us) fun _ => none) s1) :
  Inv (cI CX P w K mg base N qual scope f cd A outer s H E) [] (ei N vs) H s1 := by
 have hpl : ps.length <= N.length := by have := congrArg List.length S.pre; rw [List.length_take] at this; omega
 obtain ⟨h1, tk, rfl, hk⟩ := x.done
 have noA : ∀ b : Addr, b ∉ (cI CX P w K mg base N qual scope f cd A outer s H E).ex := fun b z => absurd (show b ∈ ([] : List Addr) from z) (by simp)
 refine ⟨⟨e0.mod, S.kind, rfl, rfl, Nat.le_refl _, fun y z c h1 h2 => ?_, fun y hy => ?_, fun y c _ h => ?_, fun _ => hd, Around.frames_deeper e0.frames, .inr ⟨rfl, rfl⟩, fun b z => absurd z (noA b), e0.bs, e0.bsz, fun b _ _ => noA b, fun b z => absurd z (noA b), e0.funs, e0.frf⟩,
  rfl, e0.bare, Un.kept hk, ⟨_, x.toInCall.ns, fun i y v h1 h2 h3 => ?_⟩, fun y c h => ⟨_, x.cell y c h⟩, e0.hok.fresh (Nat.le_refl _), fun y c h => ?_, fun p hp => absurd (show p ∈ ([] : List (Addr × Obj)) from hp) (by simp), e0.hok.kept hk, ?_⟩
 ·exact name_of_addr x.apart (PySem.mem_of_lookup h1) (PySem.mem_of_lookup h2)
 ·have hy : scope.names.lookup y = some .cell \/ scope.names.lookup y = some .free := hy
  rcases hy with hy | hy
  ·exact pW hy
  ·exact absurd rfl (S.nofree _ (PySem.mem_of_lookup hy))
 ·exact Nat.le_of_lt (x.above y c (PySem.mem_of_lookup h))
 ·have hi : i < vs.length := by
   unfold ei at h2
   by_cases hi : i < vs.length
   ·exact hi
   ·rw [List.getElem?_append_right (by simpa using hi)] at h2
    rw [List.getElem?_replicate] at h2
    split at h2 <;> cases h2
  have ha : vs[i]? = some v := by
   unfold ei at h2
   rw [List.getElem?_append_left (by simpa using hi), List.getElem?_map] at h2
   cases e : vs[i]? with
   | none => rw [e] at h2; cases h2
   | some a => rw [e] at h2; cases h2; rfl
  obtain ⟨u, hu, rv⟩ := r.get ha
  have hp : ps[i]? = some y := by
   rw [← S.pre, List.getElem?_take_of_lt (by omega)]; exact h1
  have ndP : ps.Nodup := by rw [← S.pre]; exact S.nd.sublist (List.take_sublist _ _)
  refine ⟨u, rv, ?_⟩
  rcases S.par y (List.mem_of_getElem? hp) with k | k
  ·exact .inl ⟨k, oj ndP hp hu k⟩
  ·obtain ⟨c, e⟩ := pW (n := s.heap.objs.size + 1) k
   refine .inr ⟨.inl k, c, e, ?_⟩
   have q := x.cell y c e
   rw [oq ndP hp hu (by show scope.names.lookup y ≠ _; rw [k]; decide)] at q
   exact q
 ·exact e0.hok.fresh (Nat.le_of_lt (x.above y c (PySem.mem_of_lookup h)))
 ·unfold ei
  show _ = N.length
  rw [List.length_append, List.length_map, List.length_replicate]
  omega
theorem w5 {CX : CXT} {P : Program} {w : World} {K : Frag} {mg : Str -> Option Value} {base : Heap} {k : Nat} {f : Addr} {name qual : Str} {params : Arguments} {body : List Stmt} {scope : Scope} {dV kV doc pm cdv ct oc : Value} {an od : Option Addr}
  {osl : Array (Option Value)} {N ps : List Str} {sp : Sp} (lk : K.lookup f = some ⟨oc, od, .func (PySem.W.fnOf name qual params body scope dV kV doc pm an cdv ct), osl⟩) (hcd : PySem.W.codeIn K cdv qual = true) (S : FnScope N ps scope)
  (len : ∀ vs H Q E, sp vs H Q E -> vs.length = ps.length)
  (hbody : ∀ (A : Around) (outer : List Env) (s : Shared) (H : Hp) (vs : List V) (Q : VK) (E : XK), Room k (A.deeper (envOfC qual scope s.heap.objs.size f cdv)) -> sp vs H Q E ->
   ∃ t, PSs (cI CX P w K mg base N qual scope f cdv A outer s H E) body t /\ t { nx := fun _ H' => Q .non H', rt := Q } (ei N vs) H) :
  FnOk P w K mg base CX (k + 1) f (PySem.W.fnOf name qual params body scope dV kV doc pm an cdv ct) ps sp := by
 refine ⟨len, fun A outer s H args us vs Q E hr e0 hb r hsp => ?_⟩
 have hl := len _ _ _ _ hsp
 have KX : K.In s.heap := e0.mod.kin.keeps fun b o e => (e0.bs b o e).1
 have lim : s.heap.NoLimit := e0.mod.nolimit.keeps fun b o e => (e0.bs b o e).1
 have hkind : ∀ y ∈ ps.zip us, scope.names.lookup y.1 = some .local \/ (scope.names.lookup y.1 = some .cell /\ ((cellsFrom (s.heap.objs.size + 1) scope.names []).lookup y.1).isSome = true) := fun ⟨n, v⟩ hy => by
  rcases S.par n (List.of_mem_zip hy).1 with q | q
  ·exact .inl q
  ·exact .inr ⟨q, cellsFrom_some _ _ _ (.inl q)⟩
 refine codeAny_call_function hr.depth (KX _ _ lk) rfl S.co S.gen rfl (PySem.W.codeRec_of KX hcd) (hb _ _ _ _ ?_)
 refine wpAny_newFunctionEnv_cells S.kind hkind fun env he s1 x => ?_
 subst he
 refine ⟨lim.keeps x.toInCall.keep, codeAny_func ?_⟩
 obtain ⟨t, ht, hq⟩ := hbody A outer s H vs Q E (hr.deeper _) hsp
 have I : Inv (cI CX P w K mg base N qual scope f cdv A outer s H E) [] (ei N vs) H s1 := ua S hr.hd e0 hl r x
 refine wpAny_mono (ht [] s1 (ei N vs) H _ I hq) (fun fl s' hs => ?_) fun e s' hs => hs
 have fin : ∀ {σ' : St} {H' : Hp} {v : V} {u : Value}, Inv (cI CX P w K mg base N qual scope f cdv A outer s H E) [] σ' H' s' -> aS v u -> Q v H' -> CE outer P w H s Q u s' :=
  fun {σ' H' v u} J rv q => ⟨v, H', J.os, J.bare, J.base, J.hok, rv, q⟩
 cases fl with
 | ret u =>
  obtain ⟨v, σ', H', J, rv, q⟩ := hs
  exact fin J rv q
 | next =>
  obtain ⟨σ', H', J, q⟩ := hs
  exact fin (v := V.non) (u := Value.none) J rfl q
 | brk =>
  obtain ⟨_, _, _, q⟩ := hs
  exact False.elim q
 | cont =>
  obtain ⟨_, _, _, q⟩ := hs
  exact False.elim q
section
variable {X : Cx} {x : Str} {p pos : Pos} {e : Expr} {es : List Expr} {t : TA} {id T : String} {r : List V -> Hp -> VK -> Prop}
def tCB (r : List V -> Hp -> VK -> Prop) (t : TA) : TE := fun σ H Q => t σ H fun vs H1 => r vs H1 Q
theorem k6 (hc : cQ X (.builtin id) r) (hg : Gl X x) (hm : X.mg x = none) (hv : bootBuiltins x = some (.builtin id)) (ha : PA X (e :: es) t) (hn : x ≠ "__name__" := by decide) (hdb : (x == ("__debug__" : Str)) = false := by decide)
  (he : starEach (e :: es) X.env = (false, eval e X.env) :: starEach es X.env := by rfl) (hpl : (backTo pos (starEach es X.env)).any (·.1) = false := by rfl) : PE X (.Call (.Name x p) (e :: es) [] pos) (tCB r t) := by
 intro pins s σ H Q I h
 refine wpAny_Call_Name_kw (gC I hg hm hv ?_ hn hdb)
 exact PyProof.Rows.callWith_builtin1 (thn (ha pos pins s σ H _ I h) fun us s1 ⟨vs, H1, I1, r1, q1⟩ => hc pins s1 σ H1 vs us Q I1 r1 q1) he hpl
theorem nQ (hc : cQ X (.type T) r) (hg : Gl X x) (hm : X.mg x = none) (hv : bootBuiltins x = some (.type T)) (ha : PA X (e :: es) t) (hn : x ≠ "__name__" := by decide) (hdb : (x == ("__debug__" : Str)) = false := by decide)
  (he : starEach (e :: es) X.env = (false, eval e X.env) :: starEach es X.env := by rfl) (hpl : (backTo pos (starEach es X.env)).any (·.1) = false := by rfl) : PE X (.Call (.Name x p) (e :: es) [] pos) (tCB r t) := by
 intro pins s σ H Q I h
 refine wpAny_Call_Name_kw (gC I hg hm hv ?_ hn hdb)
 exact PyProof.Rows.callWith_type1 (thn (ha pos pins s σ H _ I h) fun us s1 ⟨vs, H1, I1, r1, q1⟩ => hc pins s1 σ H1 vs us Q I1 r1 q1) he hpl
end
end L2
namespace HT
open PySem PyProof.Rows
section
open PySem.SeqAt
open PySem.AutoSeq1 (wpAny_loadPart')
open PySem.MeetsSeq PySem.MeetsSeq2 PySem.MeetsSeq3
end
section
variable {prog : Program} {w : World} {A : Around} {E : Value -> Shared -> Prop} {s : Shared}
theorem cat_tup {t b : Addr} {vs ws : List Value} {Q : Value -> Shared -> Prop} (ht : IsTup s.heap t vs.toArray) (hb : IsTup s.heap b ws.toArray) (hv : vs ≠ [])
  (h1 : ws = [] -> Q (.ref t) s) (h2 : ws ≠ [] -> Q (.ref s.heap.objs.size) { s with heap := s.heap.push { cls := .type "tuple", data := .seq (vs ++ ws).toArray } })
  (hsz : vs.length + ws.length <= sizeLine) : wpAny (model prog w) A (binaryOp .Add (.ref t) (.ref b)) Q E s := by
 obtain ⟨⟨cls, dd, data, sl⟩, ho, hc, n, hd⟩ := id ht
 obtain ⟨⟨cls2, dd2, data2, sl2⟩, ho2, hc2, n2, hd2⟩ := id hb
 simp only at hc hd hc2 hd2
 subst hc hd hc2 hd2
 have e : vs.toArray ++ ws.toArray = (vs ++ ws).toArray := by simp
 by_cases hw : ws = []
 ·exact concat_meets ⟨_, ho, rfl⟩ ⟨_, ho2, rfl⟩ noFill_tuple_add seq_tuple_add PySem.F.slot_tuple_add PySem.F.entry_tuple_add (PySem.F.args_tuple_add_2 _ _)
   (tuple_addW1 t b vs.toArray ws.toArray n n2 dd dd2 sl sl2 (by simpa using hv) (by simp [hw])) ⟨ho, ho2, h1 hw⟩
 ·refine concat_meets ⟨_, ho, rfl⟩ ⟨_, ho2, rfl⟩ noFill_tuple_add seq_tuple_add PySem.F.slot_tuple_add PySem.F.entry_tuple_add (PySem.F.args_tuple_add_2 _ _)
   (tuple_addW2 t b vs.toArray ws.toArray n n2 dd dd2 sl sl2 (by simpa using hv) (by simpa using hw) (by rw [List.size_toArray, List.size_toArray]; exact hsz)) ⟨ho, ho2, ?_⟩
  rw [e]
  exact h2 hw
def sIx (n d : Nat) : Option Int -> Nat
 | none => d
 | some v => if v < 0 then (v + (n : Int)).toNat else min v.toNat n
theorem sIx_none (n d : Nat) : sIx n d none = d := rfl
theorem sIx_nat (n d k : Nat) : sIx n d (some (k : Int)) = min k n := by
 show (if (k : Int) < 0 then ((k : Int) + (n : Int)).toNat else min (k : Int).toNat n) = min k n
 rw [if_neg (by omega), Int.toNat_natCast]
end
end HT
namespace L2
open PySem PySem.Spec PyProof.Rows
abbrev TO := St -> Hp -> (Option Int -> Hp -> Prop) -> Prop
def PO (X : Cx) (e : Option Expr) (t : TO) : Prop :=
 ∀ (pins : List (Addr × Obj)) (s : Shared) (σ : St) (H : Hp) (Q : Option Int -> Hp -> Prop), Inv X pins σ H s -> t σ H Q ->
  wpAny (model X.prog X.w) X.A (evalPart e X.env) (fun u s' => ∃ o H', Inv X pins σ H' s' /\ IsPart u o /\ Q o H') X.xe s
def xq : TO := fun _ H Q => Q none H
def AK (t : TE) : TO := fun σ H Q => t σ H fun x H1 => ∃ i, x = .int i /\ Q (some i) H1
theorem sr {ns : List Int} : ∀ {us : List Value}, ar (ns.map V.int) us -> IntsAre us ns := by
 induction ns with
 | nil => intro us r; rw [List.map_nil] at r; cases r; exact .nil
 | cons n ns ih =>
  intro us r
  rw [List.map_cons] at r
  cases r with
  | cons r1 r2 =>
   obtain ⟨t, e⟩ := r1
   subst e
   exact .cons n t (ih r2)
section
variable {X : Cx} {e : Expr} {te : TE} {lo hi : Option Expr} {tl th : TO} {pos p2 : Pos}
theorem qD : PO X none xq := by
 intro pins s σ H Q I h
 rw [evalPart_none]
 exact wpAny_pure ⟨none, H, I, .none, h⟩
theorem qC (h : PE X e te) : PO X (some e) (AK te) := by
 intro pins s σ H Q I hw
 rw [evalPart_some]
 refine thn (h pins s σ H _ I hw) fun u s1 ⟨x, H1, I1, r1, q1⟩ => ?_
 obtain ⟨i, rfl, q⟩ := q1
 obtain ⟨t, rfl⟩ := r1
 exact ⟨some i, H1, I1, .int i t, q⟩
def SlR (X : Cx) (r : V -> Option Int -> Option Int -> Hp -> VK -> Prop) : Prop :=
 ∀ (pins : List (Addr × Obj)) (s : Shared) (σ : St) (H : Hp) (x : V) (v vl vu : Value) (lo hi : Option Int) (sl : Addr) (Q : VK), Inv X pins σ H s -> aS x v -> s.heap.IsSliceOf sl vl vu .none -> IsPart vl lo -> IsPart vu hi -> r x lo hi H Q ->
  ∃ T id, typeLookup (.type T) "__getitem__" = pure (some (.builtin id)) /\ s.TypeIs v T /\ wpAny (model X.prog X.w) X.A (getItem v (.ref sl)) (EP X pins σ Q) X.xe s
def tSl (r : V -> Option Int -> Option Int -> Hp -> VK -> Prop) (te : TE) (tl th : TO) : TE := fun σ H Q => te σ H fun x H1 => tl σ H1 fun l H2 => th σ H2 fun u H3 => r x l u H3 Q
theorem pz {r : V -> Option Int -> Option Int -> Hp -> VK -> Prop} (hr : SlR X r) (he : PE X e te) (hl : PO X lo tl) (hu : PO X hi th) : PE X (.Subscript e (.Slice lo hi none p2) pos) (tSl r te tl th) := by
 intro pins s σ H Q I h
 refine Subscript_ (thn (he pins s σ H _ I h) fun v s1 ⟨x, H1, I1, r1, q1⟩ => ?_)
 refine wpAny_Slice (thn (hl pins s1 σ H1 _ I1 q1) fun vl s2 ⟨l, H2, I2, pl, q2⟩ => thn (hu pins s2 σ H2 _ I2 q2) fun vu s3 ⟨u, H3, I3, pu, q3⟩ => ?_)
 rw [evalPart_none]
 refine wpAny_pure ?_
 have I4 : Inv X pins σ H3 { s3 with heap := s3.heap.push { cls := .type "slice", data := .fields #[vl, vu, .none] } } := I3.kept (t' := s3.toks) fun b ob q => Heap.get?_push_of_some _ q
 obtain ⟨T, id, hT, ht, hg⟩ := hr pins { s3 with heap := s3.heap.push { cls := .type "slice", data := .fields #[vl, vu, .none] } } σ H3 x v vl vu l u s3.heap.objs.size Q I4 r1 (Heap.IsSliceOf.new ..) pl pu q3
 show wpAny (model X.prog X.w) X.A (subscriptTail e (.Slice lo hi none p2) v (.ref s3.heap.objs.size)) (EP X pins σ Q) X.xe { s3 with heap := s3.heap.push { cls := .type "slice", data := .fields #[vl, vu, .none] } }
 exact tail_any (ops := [.ref s3.heap.objs.size, v]) ht hT hg (by with_unfolding_all rfl)
def j3 (xs : List V) (lo hi : Option Int) : List V := (xs.drop (HT.sIx xs.length 0 lo)).take (HT.sIx xs.length xs.length hi - HT.sIx xs.length 0 lo)
theorem qf (xs : List V) (lo hi : Option Int) : (j3 xs lo hi).length <= xs.length := by
 unfold j3
 rw [List.length_take, List.length_drop]
 omega
def rL (K : Frag) : R2 := fun x y H Q => ∃ a b xs ys, x = .ref a /\ y = .ref b /\ SqT K H a xs /\ SqT K H b ys /\ xs ≠ [] /\ xs.length + ys.length <= sizeLine /\
 (ys = [] -> Q (.ref a) H) /\ (ys ≠ [] -> ∀ p, H p = none -> Q (.ref p) (upd H p (.tup (xs ++ ys))))
theorem ar.nil_iff {xs : List V} {us : List Value} (r : ar xs us) : us = [] ↔ xs = [] := by
 cases r with
 | nil => simp
 | cons _ _ => simp
theorem xJ : OpR X (binaryOp .Add) (rL X.K) := by
 intro pins s σ H x y v u Q I rx ry h
 obtain ⟨a, b, xs, ys, rfl, rfl, ha, hb, hx, hz, q1, q2⟩ := h
 cases rx
 cases ry
 obtain ⟨its, r1, p1, _⟩ := I.tuple ha
 obtain ⟨its2, r2, p2, _⟩ := I.tuple hb
 refine HT.cat_tup p1 p2 (fun z => hx (r1.nil_iff.mp z)) (fun z => ⟨.ref a, H, I, rfl, q1 (r2.nil_iff.mp z)⟩) (fun z => ?_) (by rw [← r1.length, ← r2.length]; exact hz)
 refine ⟨.ref s.heap.objs.size, _, I.laid (t' := s.toks) (o := .tup (xs ++ ys)) (fun b ob q => Heap.get?_push_of_some _ q) (Nat.le_refl _) ?_, rfl, q2 (fun w => z (r2.nil_iff.mpr w)) _ (I.hok.fresh (Nat.le_refl _))⟩
 exact ⟨by rw [List.length_append]; exact hz, _, r1.append r2, IsTup.new _ _⟩
end
def ixN (n : Nat) (i : Int) : Option Nat := if 0 <= i then (if i < n then some i.toNat else none) else if -(n : Int) <= i then some (i + n).toNat else none
def atI {α : Type} (xs : List α) (i : Int) : Option α := (ixN xs.length i).bind fun j => xs[j]?
theorem mW {n : Nat} {i : Int} {j : Nat} (h : ixN n i = some j) : seqIndex? i n = some j /\ j < n /\ -(n : Int) <= i /\ i < n := by
 unfold ixN at h
 by_cases h0 : 0 <= i
 ·rw [if_pos h0] at h
  by_cases h1 : i < n
  ·rw [if_pos h1] at h
   have e : i.toNat = j := Option.some.inj h
   exact ⟨by rw [seqIndex_of h0 h1, e], by omega, by omega, h1⟩
  ·rw [if_neg h1] at h; cases h
 ·rw [if_neg h0] at h
  by_cases h1 : -(n : Int) <= i
  ·rw [if_pos h1] at h
   have e : (i + n).toNat = j := Option.some.inj h
   exact ⟨by rw [seqIndex_neg (by omega) h1, e], by omega, h1, by omega⟩
  ·rw [if_neg h1] at h; cases h
theorem q9 {α : Type} {xs : List α} {i : Int} {v : α} (h : atI xs i = some v) : ∃ j, seqIndex? i xs.length = some j /\ xs[j]? = some v /\ j < xs.length /\ -(xs.length : Int) <= i /\ i < xs.length := by
 unfold atI at h
 cases e : ixN xs.length i with
 | none => rw [e] at h; cases h
 | some j =>
  rw [e] at h
  obtain ⟨h1, h2, h3, h4⟩ := mW e
  exact ⟨j, h1, h, h2, h3, h4⟩
theorem yd {α : Type} {xs : List α} {j : Nat} {v : α} (h : xs[j]? = some v) : atI xs (j : Int) = some v := by
 have hj : j < xs.length := (List.getElem?_eq_some_iff.mp h).1
 have e : ixN xs.length (j : Int) = some j := by
  unfold ixN
  rw [if_pos (by omega), if_pos (by omega)]; simp
 unfold atI; rw [e]; exact h
def re (b : Expr) : Prop := ∀ o i, subscripted b false o i = operate [o, i] (getItem o i)
def IxR (X : Cx) (r : R2) : Prop :=
 ∀ (value slice : Expr) (pins : List (Addr × Obj)) (s : Shared) (σ : St) (H : Hp) (x y : V) (v u : Value) (Q : VK), Inv X pins σ H s -> aS x v -> aS y u -> r x y H Q ->
  subscripted slice false v u = operate [v, u] (getItem v u) -> wpAny (model X.prog X.w) X.A (subscriptTail value slice v u) (EP X pins σ Q) X.xe s
section
variable {X : Cx} {a b : Expr} {ta tb : TE} {pos : Pos}
theorem IxR.or {r r' : R2} (h : IxR X r) (h' : IxR X r') : IxR X (fun x y H Q => r x y H Q \/ r' x y H Q) := by
 intro value slice pins s σ H x y v u Q I rx ry q hs
 rcases q with q | q
 ·exact h value slice pins s σ H x y v u Q I rx ry q hs
 ·exact h' value slice pins s σ H x y v u Q I rx ry q hs
theorem fM {r : R2} (hr : IxR X r) (ha : PE X a ta) (hb : PE X b tb) (hs : re b) : PE X (.Subscript a b pos) (tOp r ta tb) := by
 intro pins s σ H Q I h
 exact Subscript_ (vQ ha hb I h fun v u s2 x y H2 I2 rx ry q => hr a b pins s2 σ H2 x y v u Q I2 rx ry q (hs _ _))
def rK (K : Frag) : R2 := fun x y H Q => ∃ p xs i v, x = .ref p /\ y = .int i /\ SqL K H p xs /\ atI xs i = some v /\ Q v H
def uV (K : Frag) : R2 := fun x y H Q => ∃ p xs i v, x = .ref p /\ y = .int i /\ SqT K H p xs /\ atI xs i = some v /\ Q v H
theorem dy : IxR X (rK X.K) := by
 intro value slice pins s σ H x y v u Q I rx ry h hs
 obtain ⟨p, xs, i, z, rfl, rfl, hq, he, q⟩ := h
 cases rx
 obtain ⟨t, rfl⟩ := ry
 obtain ⟨its, r, pl, hz⟩ := I.list hq
 obtain ⟨j, h1, h2, h3, h4, h5⟩ := q9 he
 obtain ⟨w, ew, rw'⟩ := r.get h2
 have hl := r.length
 have hn := iC
 have fin : EP X pins σ Q w s := ⟨z, H, I, rw', q⟩
 by_cases h0 : 0 <= i
 ·have hj : i.toNat = j := by
   rw [seqIndex_of h0 h5] at h1
   exact Option.some.inj h1
  exact item_listR pl.isList h0 (by omega) (by rw [hj]; simpa using ew) fin hs
 ·have hj : (i + (its.toArray.size : Int)).toNat = j := by
   rw [seqIndex_neg (by omega) h4] at h1
   rw [List.size_toArray, ← hl]
   exact Option.some.inj h1
  exact subscriptTail_builtinR (x := w) pl.isList.typeIs slot_list_getitem.lookup
   (wpAny_getItem_list_neg (Q := fun r s' => r = w /\ EP X pins σ Q r s') pl.isList (by omega) (by rw [List.size_toArray] <;> omega) (by omega) (by rw [hj]; simpa using ew) ⟨rfl, fin⟩) hs
theorem ze : IxR X (uV X.K) := by
 intro value slice pins s σ H x y v u Q I rx ry h hs
 obtain ⟨p, xs, i, z, rfl, rfl, hq, he, q⟩ := h
 cases rx
 obtain ⟨t, rfl⟩ := ry
 obtain ⟨its, r, pl, hz⟩ := I.tuple hq
 obtain ⟨j, h1, h2, h3, h4, h5⟩ := q9 he
 obtain ⟨w, ew, rw'⟩ := r.get h2
 have hl := r.length
 have hn := iC
 have fin : EP X pins σ Q w s := ⟨z, H, I, rw', q⟩
 exact subscriptTail_builtinR (x := w) pl.typeIs slot_tuple_getitem.lookup
  (getItem_tuple (j := j) (Q := fun r s' => r = w /\ EP X pins σ Q r s') pl (by omega) (by omega) (by rw [List.size_toArray, ← hl]; exact h1) (by simpa using ew) ⟨rfl, fin⟩) hs
theorem rV (its : List Value) (n j : Nat) (u : Value) : Obj.mapSeq (·.setIfInBounds j u) { cls := .type "list", data := .seq its.toArray n } = { cls := .type "list", data := .seq (its.set j u).toArray n } := by
 simp [Obj.mapSeq]
theorem Inv.lst {pins : List (Addr × Obj)} {σ : St} {H : Hp} {s : Shared} {p : Addr} {xs : List V} (I : Inv X pins σ H s) (h : H p = some (.lst xs)) :
  ∃ (its : List Value) (n : Nat), ar xs its /\ s.heap.get? p = some { cls := .type "list", data := .seq its.toArray n } /\ xs.length <= sizeLine := by
 obtain ⟨z, its, n, r, e⟩ := I.hok p _ h
 exact ⟨its, n, r, e, z⟩
theorem Inv.lstUpd {pins : List (Addr × Obj)} {σ : St} {H : Hp} {s : Shared} {p : Addr} {xs ys : List V} {its its' : List Value} {n n' : Nat} {f : Obj -> Obj} (I : Inv X pins σ H s) (h : H p = some (.lst xs))
  (ho : s.heap.get? p = some { cls := .type "list", data := .seq its.toArray n }) (hf : f { cls := .type "list", data := .seq its.toArray n } = { cls := .type "list", data := .seq its'.toArray n' }) (r : ar ys its') (hz : ys.length <= sizeLine) (t : Nat) :
  Inv X pins σ (upd H p (.lst ys)) { s with heap := s.heap.update p f, toks := t } := by
 have e : (s.heap.update p f).get? p = some { cls := .type "list", data := .seq its'.toArray n' } := by
  rw [Heap.get?_update_self f ho (by rw [hf] <;> rfl), hf]
 refine I.write (x := p) (e := p) (by rw [h]; trivial) (.inl rfl) (fun b u hb q => (Heap.get?_update_other _ _ (Ne.symm hb)).trans q) ⟨_, e⟩ ?_
 exact ⟨hz, its', n', r, e⟩
def oJ : V -> V -> V -> Hp -> (Hp -> Prop) -> Prop := fun o i v H Q => ∃ p xs k j, o = .ref p /\ i = .int k /\ H p = some (.lst xs) /\ ixN xs.length k = some j /\ Q (upd H p (.lst (xs.set j v)))
theorem cZ : Aw X oJ := by
 intro pins s σ H o i v ov iv u Q I ro ri rv h
 obtain ⟨p, xs, k, j, rfl, rfl, hp, hj, q⟩ := h
 cases ro
 obtain ⟨t, rfl⟩ := ri
 obtain ⟨its, n, r, ho, hz⟩ := I.lst hp
 obtain ⟨h1, h2, h3, h4⟩ := mW hj
 have hl := r.length
 have hn := iC
 have I' : Inv X pins σ (upd H p (.lst (xs.set j v))) { s with heap := s.heap.update p (Obj.mapSeq (·.setIfInBounds j u)) } :=
  I.lstUpd hp ho (rV its n j u) (r.set rv j) (by rw [List.length_set]; exact hz) s.toks
 by_cases h0 : 0 <= k
 ·have hk : k.toNat = j := by
   rw [seqIndex_of h0 h4] at h1
   exact Option.some.inj h1
  exact PySem.W.ki_setAt ho h0 (by omega) (by rw [List.size_toArray, ← hl]; exact h4) (by rw [hk]; exact ⟨_, I', q⟩)
 ·have hk : (k + (its.toArray.size : Int)).toNat = j := by
   rw [seqIndex_neg (by omega) h3] at h1
   rw [List.size_toArray, ← hl]
   exact Option.some.inj h1
  exact PySem.W.ki_setBack ho (by omega) (by rw [List.size_toArray, ← hl]; exact h3) (by omega) (by rw [hk]; exact ⟨_, I', q⟩)
theorem gx (lo hi : Option Int) (n : Nat) : (sliceBounds lo hi none n).1 = ((HT.sIx n 0 lo : Nat) : Int) /\ (sliceBounds lo hi none n).2.1 = ((HT.sIx n n hi : Nat) : Int) /\ (sliceBounds lo hi none n).2.2 = 1 := by
 refine ⟨?_, ?_, rfl⟩
 ·cases lo with
  | none => simp [sliceBounds, HT.sIx]
  | some i =>
   simp only [sliceBounds, HT.sIx, Option.getD_none, show (1 : Int) > 0 by decide, if_true]
   by_cases h : i < 0
   ·simp only [h, if_true] <;> omega
   ·simp only [h, if_false] <;> omega
 ·cases hi with
  | none => simp [sliceBounds, HT.sIx]
  | some i =>
   simp only [sliceBounds, HT.sIx, Option.getD_none, show (1 : Int) > 0 by decide, if_true]
   by_cases h : i < 0
   ·simp only [h, if_true] <;> omega
   ·simp only [h, if_false] <;> omega
theorem ou (its : List Value) (lo hi : Option Int) : slicePick its.toArray lo hi none = ((its.drop (HT.sIx its.length 0 lo)).take (HT.sIx its.length its.length hi - HT.sIx its.length 0 lo)).toArray := by
 obtain ⟨h1, h2, h3⟩ := gx lo hi its.toArray.size
 unfold slicePick
 rw [h1, h2, h3]
 simp only [sliceRange_one, pick_run, List.size_toArray] <;> rfl
def rSlL (K : Frag) : V -> Option Int -> Option Int -> Hp -> VK -> Prop := fun x lo hi H Q => ∃ a xs, x = .ref a /\ SqL K H a xs /\ ∀ p, H p = none -> Q (.ref p) (upd H p (.lst (j3 xs lo hi)))
theorem qr : SlR X (rSlL X.K) := by
 intro pins s σ H x v vl vu lo hi sl Q I rx hs pl pu h
 obtain ⟨a, xs, rfl, hx, q⟩ := h
 cases rx
 obtain ⟨its, r, ht, hz⟩ := I.list hx
 have hlen := r.length
 refine ⟨"list", _, slot_list_getitem.lookup, ht.isList.typeIs, ?_⟩
 refine wpAny_getItem_list_slice ht.isList hs pl pu .none (by simp) ?_ (by rw [List.size_toArray] <;> omega)
 rw [ou, ← hlen]
 refine ⟨.ref s.heap.objs.size, _, I.laid (t' := s.toks) (o := .lst (j3 xs lo hi)) (fun b ob q => Heap.get?_push_of_some _ q) (Nat.le_refl _) ?_, rfl, q _ (I.hok.fresh (Nat.le_refl _))⟩
 exact ⟨Nat.le_trans (qf xs lo hi) hz, _, 0, (r.drop (HT.sIx xs.length 0 lo)).take (HT.sIx xs.length xs.length hi - HT.sIx xs.length 0 lo), Heap.get?_push_size _ rfl⟩
def fQ : V -> Bool
 | .non => true
 | .bl _ => true
 | .int _ => true
 | .str _ => true
 | _ => false
def eqV : V -> V -> Bool
 | .non, .non => true
 | .bl a, .bl b => a == b
 | .bl a, .int b => (if a then 1 else 0) == b
 | .int a, .bl b => a == (if b then 1 else 0)
 | .int a, .int b => a == b
 | .str a, .str b => a == b
 | _, _ => false
theorem zm {A : Around} {s : Shared} {y x : V} {u v : Value} (ry : aS y u) (rx : aS x v) (fy : fQ y = true) (fx : fQ x = true) : SeqAt.EqAt A s u v (eqV y x) := by
 cases y with
 | non =>
  cases ry
  cases x with
  | non => cases rx; exact SeqAt.EqAt.same _
  | bl b => cases rx; exact SeqAt.EqAt.none_bool b
  | int b => obtain ⟨t, rfl⟩ := rx; exact SeqAt.EqAt.none_int b t
  | str b => obtain ⟨t, rfl⟩ := rx; exact SeqAt.EqAt.none_str b t
  | _ => exact absurd (show false = true from fx) Bool.false_ne_true
 | bl a =>
  cases ry
  cases x with
  | non => cases rx; exact SeqAt.EqAt.bool_none a
  | bl b => cases rx; exact SeqAt.EqAt.bool_bool a b
  | int b => obtain ⟨t, rfl⟩ := rx; exact SeqAt.EqAt.bool_int a b t
  | str b => obtain ⟨t, rfl⟩ := rx; exact SeqAt.EqAt.bool_str a b t
  | _ => exact absurd (show false = true from fx) Bool.false_ne_true
 | int a =>
  obtain ⟨t', rfl⟩ := ry
  cases x with
  | non => cases rx; exact SeqAt.EqAt.int_none a t'
  | bl b => cases rx; exact SeqAt.EqAt.int_bool a t' b
  | int b => obtain ⟨t, rfl⟩ := rx; exact SeqAt.EqAt.int_int a t' b t
  | str b => obtain ⟨t, rfl⟩ := rx; exact SeqAt.EqAt.int_str a t' b t
  | _ => exact absurd (show false = true from fx) Bool.false_ne_true
 | str a =>
  obtain ⟨t', rfl⟩ := ry
  cases x with
  | non => cases rx; exact SeqAt.EqAt.str_none a t'
  | bl b => cases rx; exact SeqAt.EqAt.str_bool a t' b
  | int b => obtain ⟨t, rfl⟩ := rx; exact SeqAt.EqAt.str_int a t' b t
  | str b => obtain ⟨t, rfl⟩ := rx; exact SeqAt.EqAt.str_str a t' b t
  | _ => exact absurd (show false = true from fx) Bool.false_ne_true
 | _ => exact absurd (show false = true from fy) Bool.false_ne_true
def eqU (x : V) (u : Value) : Bool := match u with
 | .none => eqV .non x
 | .bool b => eqV (.bl b) x
 | .int i _ => eqV (.int i) x
 | .str z _ => eqV (.str z) x
 | _ => false
theorem ur {x y : V} {u : Value} (r : aS y u) (f : fQ y = true) : eqU x u = eqV y x := by
 cases y with
 | non => cases r; rfl
 | bl b => cases r; rfl
 | int i => obtain ⟨t, rfl⟩ := r; rfl
 | str z => obtain ⟨t, rfl⟩ := r; rfl
 | _ => exact absurd (show false = true from f) Bool.false_ne_true
theorem nu {x : V} : ∀ {xs : List V} {us : List Value}, ar xs us -> xs.all fQ = true -> us.any (eqU x) = xs.any fun y => eqV y x
 | _, _, .nil, _ => rfl
 | y :: xs, u :: us, .cons r t, f => by
  rw [List.all_cons, Bool.and_eq_true] at f
  rw [List.any_cons, List.any_cons, ur r f.1, nu t f.2]
theorem lc {A : Around} {s : Shared} {x : V} {v : Value} (rx : aS x v) (fx : fQ x = true) : ∀ {xs : List V} {us : List Value}, ar xs us -> xs.all fQ = true -> ∀ u ∈ us, SeqAt.EqAt A s u v (eqU x u)
 | _, _, .nil, _ => fun u hu => by cases hu
 | y :: xs, u :: us, .cons r t, f => fun u' hu => by
  rw [List.all_cons, Bool.and_eq_true] at f
  rcases List.mem_cons.mp hu with rfl | hu
  ·rw [ur r f.1]; exact zm r rx f.1 fx
  ·exact lc rx fx t f.2 u' hu
def inV (x : V) (xs : List V) : Bool := xs.any fun y => eqV y x
def rIn (K : Frag) (neg : Bool) : R2 := fun x y H Q => ∃ p xs, y = .ref p /\ (SqL K H p xs \/ SqT K H p xs) /\ fQ x = true /\ xs.all fQ = true /\ Q (.bl (if neg then !inV x xs else inV x xs)) H
theorem pA : OpR X (compareOp .NotIn) (rIn X.K true) := by
 intro pins s σ H x y v u Q I rx ry h
 obtain ⟨p, xs, rfl, hq, fx, fs, q⟩ := h
 cases ry
 rcases hq with hq | hq
 ·obtain ⟨its, r, pl, hz⟩ := I.list hq
  refine SeqAt.notIn_listAt (eqU x) pl.isList (fun w hw => lc rx fx r fs w (by simpa using hw)) ⟨.bl _, H, I, rfl, ?_⟩
  rw [show its.toArray.any (eqU x) = its.any (eqU x) by simp, nu r fs]
  exact q
 ·obtain ⟨its, r, pl, hz⟩ := I.tuple hq
  refine SeqAt.notIn_tupleAt (eqU x) pl (fun w hw => lc rx fx r fs w (by simpa using hw)) ⟨.bl _, H, I, rfl, ?_⟩
  rw [show its.toArray.any (eqU x) = its.any (eqU x) by simp, nu r fs]
  exact q
theorem aB : cQ X (.builtin "len") (fun xs H Q => ∃ p ys, xs = [.ref p] /\ (SqL X.K H p ys \/ SqT X.K H p ys) /\ Q (.int ys.length) H) := by
 intro pins s σ H xs us Q I r h
 obtain ⟨p, ys, rfl, hq, q⟩ := h
 obtain ⟨u, rfl, rx⟩ := rm r
 cases rx
 have hn := iC
 rcases hq with hq | hq
 ·obtain ⟨its, r', pl, hz⟩ := I.list hq
  have hlen := r'.length
  exact Calls.call_len_list pl.isList (by simp only [List.size_toArray] <;> omega) ⟨.int ys.length, H, I.tok _, ⟨s.toks + 1, by rw [List.size_toArray, hlen]⟩, q⟩
 ·obtain ⟨its, r', pl, hz⟩ := I.tuple hq
  have hlen := r'.length
  exact len_tuple pl (by simp only [List.size_toArray] <;> omega) ⟨.int ys.length, H, I.tok _, ⟨s.toks + 1, by rw [List.size_toArray, hlen]⟩, q⟩
theorem bC : cQ X (.type "list") (fun xs H Q => ∃ p ys, xs = [.ref p] /\ (SqL X.K H p ys \/ SqT X.K H p ys) /\ ∀ l, H l = none -> Q (.ref l) (upd H l (.lst ys))) := by
 intro pins s σ H xs us Q I r h
 obtain ⟨p, ys, rfl, hq, q⟩ := h
 obtain ⟨u, rfl, rx⟩ := rm r
 cases rx
 have fin : ∀ (its : List Value), ar ys its -> ys.length <= sizeLine -> ∀ (h' : Heap) (c' : Nat), (∀ b o', s.heap.get? b = some o' -> h'.get? b = some o') ->
   h'.get? s.heap.objs.size = some { cls := .type "list", dict := none, data := .seq its.toArray c', slots := #[] } -> EP X pins σ Q (.ref s.heap.objs.size) { s with heap := h' } := fun its r' hz h' c' kp e =>
  ⟨.ref s.heap.objs.size, _, I.laid (t' := s.toks) kp (Nat.le_refl _) (show bo X.prog X.w _ h' _ (.lst ys) from ⟨hz, its, c', r', e⟩), rfl, q _ (I.hok.fresh (Nat.le_refl _))⟩
 rcases hq with hq | hq
 ·obtain ⟨its, r', pl, hz⟩ := I.list hq
  have hlen := r'.length
  obtain ⟨o, ho, hc, n, hd⟩ := pl.isList
  exact call_list_seq p (.inl rfl) ho hc hd (fun h' c' kp e => fin its r' hz h' c' kp e) (by simp only [List.size_toArray] <;> omega)
 ·obtain ⟨its, r', pl, hz⟩ := I.tuple hq
  have hlen := r'.length
  obtain ⟨o, ho, hc, n, hd⟩ := pl
  exact call_list_seq p (.inr rfl) ho hc hd (fun h' c' kp e => fin its r' hz h' c' kp e) (by simp only [List.size_toArray] <;> omega)
variable {o e : Expr} {es : List Expr} {to : TE} {t : TA} {name : Str} {apos cpos : Pos} {T id : String} {r : V -> List V -> Hp -> VK -> Prop}
/- xs.append(e), list.index on a module's tuple .. are MtR facts of 06m -/
end
theorem ar.eraseIdx : ∀ {xs : List V} {us : List Value} (i : Nat), ar xs us -> ar (xs.eraseIdx i) (us.eraseIdx i)
 | _, _, _, .nil => .nil
 | _, _, 0, .cons _ t => t
 | _, _, i + 1, .cons r t => .cons r (ar.eraseIdx i t)
theorem ar.rep {xs : List V} {us : List Value} (h : ar xs us) : ∀ k : Nat, ar (List.replicate k xs).flatten (List.replicate k us).flatten
 | 0 => .nil
 | k + 1 => by
  rw [List.replicate_succ, List.replicate_succ, List.flatten_cons, List.flatten_cons]
  exact ar.append h (ar.rep h k)
theorem nY (its : List Value) : ∀ (k : Nat) (acc : List Value),
  List.foldl (fun x1 x2 => x1 ++ x2) acc.toArray (List.replicate k its.toArray) = (acc ++ (List.replicate k its).flatten).toArray
 | 0, acc => by simp
 | k + 1, acc => by
  have e : acc.toArray ++ its.toArray = (acc ++ its).toArray := by simp
  have e2 : (acc ++ its) ++ (List.replicate k its).flatten = acc ++ (List.replicate (k + 1) its).flatten := by
   rw [List.replicate_succ, List.flatten_cons, List.append_assoc]
  rw [← e2, ← nY its k (acc ++ its), ← e, List.replicate_succ, List.foldl_cons]
section
variable {X : Cx} {pins : List (Addr × Obj)} {σ : St} {H : Hp} {s : Shared} {l b : Addr} {xs ys zs : List V}
theorem Inv.lset {its its' : List Value} {n : Nat} {f : Array Value -> Array Value} {t' : Nat} (I : Inv X pins σ H s) (hH : H l = some (.lst xs))
  (e : s.heap.get? l = some { cls := .type "list", data := .seq its.toArray n }) (hf : f its.toArray = its'.toArray) (hv : ar ys its') (hz : ys.length <= sizeLine) :
  Inv X pins σ (upd H l (.lst ys)) { s with heap := s.heap.update l (Obj.mapSeq f), toks := t' } := by
 have q := PySem.IsL.update e f
 rw [hf] at q
 refine I.write (x := l) (e := l) (by rw [hH]; exact trivial) (.inl rfl) (fun b' u hb hu => (Heap.get?_update_other s.heap (Obj.mapSeq f) (Ne.symm hb)).trans hu) ⟨_, q⟩ ?_
 exact ⟨hz, its', _, hv, q⟩
theorem Inv.lnew {its : List Value} {t' : Nat} (I : Inv X pins σ H s) (hv : ar ys its) (hz : ys.length <= sizeLine) :
  Inv X pins σ (upd H s.heap.objs.size (.lst ys)) { s with heap := s.heap.push { cls := .type "list", data := .seq its.toArray }, toks := t' } :=
 I.laid (fun _ _ q => Heap.get?_push_of_some _ q) (Nat.le_refl _) ⟨hz, its, 0, hv, Heap.get?_push_size _ rfl⟩
theorem Inv.fresh (I : Inv X pins σ H s) : H s.heap.objs.size = none := I.hok.fresh (Nat.le_refl _)
theorem Inv.lstM (I : Inv X pins σ H s) (hH : H l = some (.lst xs)) : xs.length <= sizeLine /\ ∃ (its : List Value) (n : Nat), ar xs its /\ xs.length = its.length /\ s.heap.get? l = some { cls := .type "list", data := .seq its.toArray n } := by
 obtain ⟨z, its, n, r, e⟩ := I.hok l _ hH
 exact ⟨z, its, n, r, r.length, e⟩
theorem ve {n : Nat} (h : n <= sizeLine) : Builtin.List.listTooLong n = false := by
 unfold Builtin.List.listTooLong
 exact decide_eq_false (by omega)
end
section
variable {X : Cx}
def rCat : R2 := fun x y H Q => ∃ l b xs zs, x = .ref l /\ y = .ref b /\ H l = some (.lst xs) /\ H b = some (.lst zs) /\ xs.length + zs.length <= sizeLine /\ ∀ p, H p = none -> Q (.ref p) (upd H p (.lst (xs ++ zs)))
theorem yV : OpR X (binaryOp .Add) rCat := by
 intro pins s σ H x y v u Q I rx ry h
 obtain ⟨l, b, xs, zs, rfl, rfl, hH, hB, hz, q⟩ := h
 cases rx
 cases ry
 obtain ⟨z, its, n, r, hl, e⟩ := I.lstM hH
 obtain ⟨z2, its2, n2, r2, hl2, e2⟩ := I.lstM hB
 refine PySem.P.add_list e e2 ?_ (by rw [List.size_toArray, List.size_toArray]; omega)
 have ea : its.toArray ++ its2.toArray = (its ++ its2).toArray := by simp
 rw [ea]
 exact ⟨.ref _, _, I.lnew (t' := s.toks) (r.append r2) (by rw [List.length_append]; omega), rfl, q _ I.fresh⟩
def rRep : R2 := fun x y H Q => ∃ l k xs, x = .ref l /\ y = .int k /\ H l = some (.lst xs) /\ -(2 ^ 63) <= k /\ k < 2 ^ 63 /\ xs.length * k.toNat <= sizeLine /\
 ∀ p, H p = none -> Q (.ref p) (upd H p (.lst (List.replicate k.toNat xs).flatten))
theorem xQ {α : Type} (xs : List α) (k : Nat) : (List.replicate k xs).flatten.length = k * xs.length := by
 induction k with
 | zero => simp
 | succ k ih => rw [List.replicate_succ, List.flatten_cons, List.length_append, ih, Nat.succ_mul, Nat.add_comm]
theorem yQ : OpR X (binaryOp .Mult) rRep := by
 intro pins s σ H x y v u Q I rx ry h
 obtain ⟨l, k, xs, rfl, rfl, hH, h1, h2, hz, q⟩ := h
 cases rx
 obtain ⟨t, rfl⟩ := ry
 obtain ⟨z, its, n, r, hl, e⟩ := I.lstM hH
 have hlen : its.toArray.size * k.toNat <= sizeLine := by rw [List.size_toArray, ← hl]; exact hz
 have hcap : ¬ its.toArray.size * k.toNat > (2 ^ 63 - 1) / 8 := by
  have : (sizeLine : Nat) <= (2 ^ 63 - 1) / 8 := by decide
  omega
 have hfit : ¬ (!Builtin.List.listFitsIndex k) = true := by
  rw [fitsIndex_both h1 h2]
  exact Bool.false_ne_true
 have hlong : ¬ Builtin.List.listTooLong (its.toArray.size * k.toNat) = true := by
  rw [ve hlen]
  exact Bool.false_ne_true
 have hnew : List.foldl (fun x1 x2 => x1 ++ x2) #[] (List.replicate (if its.toArray.isEmpty = true then 0 else k.toNat) its.toArray) = (List.replicate k.toNat its).flatten.toArray := by
  have f0 : ∀ m : Nat, List.foldl (fun x1 x2 => x1 ++ x2) #[] (List.replicate m its.toArray) = (List.replicate m its).flatten.toArray := fun m => by
   have := nY its m []
   rw [List.nil_append] at this
   exact this
  rw [f0]
  cases its with
  | nil => simp
  | cons a r' => rw [if_neg (by simp)]
 refine wpAny_binaryOp_repeat_ref (T := "list") (U := "int") (by decide) ⟨_, e, rfl⟩ (fun s' => typeIs_int s' k t) noFill_list_mul F.fills_int_mul F.slot_int_rmul repeat_list F.slot_int_index.lookup
  (call_meets F.slot_int_rmul (typeIs_int s k t) F.entry_int_rmul (F.args_int_rmul_2 _ _) (int___rmul___int_list k t l its.toArray n)
   ⟨e, rfl, ⟨_, e, rfl⟩, call_meets F.slot_list_mul ⟨_, e, rfl⟩ F.entry_list_mul (F.args_list_mul_2 _ _) (AutoListH.list___mul___list_int_3 l its.toArray n k t hfit hcap hlong) ⟨e, ?_⟩⟩)
 rw [hnew]
 exact ⟨.ref _, _, I.lnew (t' := s.toks) (r.rep k.toNat) (by rw [xQ, Nat.mul_comm]; exact hz), rfl, q _ I.fresh⟩
end
section
variable {prog : Program} {w : World} {A : Around} {E : Value -> Shared -> Prop} {s : Shared}
end
section
variable {X : Cx}
end
end L2
namespace Att
open PySem PySem.W PySem.Calls PyProof.Rows
theorem l5 {P : Params} {h : Heap} : ∀ (ns : List Int) (vs : List Value), WellAll P h vs (ns.map WData.int) -> IntsAre vs ns := by
 intro ns
 induction ns with
 | nil =>
  intro vs w
  rw [List.map_nil] at w
  cases w
  exact .nil
 | cons n ns ih =>
  intro vs w
  rw [List.map_cons] at w
  cases w with
  | cons a b =>
   cases a
   exact .cons _ _ (ih _ b)
theorem sW {l : OpenLaw} {n : Nat} (hn : l.most = some n) {P : Params} {h : Heap} {args : List WData} {vals : List Value}
  (hpre : l.row.toRowW.claim.pre args = true) (hwl : WellAll P h vals args) :
  ∃ a vs ns, vals = [Value.ref a] /\ args = [WData.list (ns.map WData.int)] /\ h.get? a = some { cls := .type "list", data := .seq vs.toArray } /\ IntsAre vs ns /\ ns.length <= n := by
 have hsh : WShape.hasAll [] args [.list .int] = true := (pre_splitW hpre).1
 have hc : l.pre.holds [] { args := args } = true := (pre_splitW hpre).2
 obtain ⟨d, r, rfl, h1, h2⟩ := hasAllW_cons hsh
 obtain rfl := hasAllW_nil h2
 obtain ⟨xs, rfl, h3⟩ := hasW_list h1
 obtain ⟨ns, rfl⟩ := items_int h3
 have hlen : ns.length <= n := by
  unfold OpenLaw.pre at hc
  have h4 : (WTm.not (.lt (.lit (.int (n : Int))) (.len (.arg 0)))).holds [] { args := [.list (ns.map .int)] } = true := by
   have h4 := (holds_andW hc).1
   rw [hn] at h4
   exact h4
  have h5 := condW_of h4 (w_not (w_lt w_lit (w_len_list (w_arg rfl))))
  rw [List.length_map] at h5
  refine Nat.le_of_not_lt fun q => ?_
  have q' : (n : Int) < ((ns.length : Nat) : Int) := by omega
  first
   | (rw [decide_eq_true q'] at h5; exact absurd h5 (by decide))
   | (simp at h5; omega)
 cases hwl with
 | cons w1 w2 =>
  cases w2
  cases w1 with
  | list ho hall => exact ⟨_, _, ns, rfl, rfl, ho, l5 ns _ hall, hlen⟩
theorem tz (l : OpenLaw) (args : List WData) : l.row.toRowW.claim.post args (.bool true) args = true :=
 postW_of (r := l.row.toRowW) (X := (true == true))
  (show WShape.has [] (.bool true) .bool = true by first | rfl | decide | simp [WShape.has, WShape.arms, WShape.armsAll])
  (show (WTm.eq .res (.lit (.bool true))).value [] { args := args, res := some (.bool true), after := args } = some (.bool (true == true)) from w_eq_bool (w_res rfl) w_lit) rfl
theorem attach_call {l : OpenLaw} {n : Nat} {q : Program} {loose : List Str} {XP : (Str -> Option Value) -> Heap -> Prop} {YP : World -> Heap -> Prop} {d : DefRec}
  (hn : l.most = some n) (hdf : d.params.defaults = [])
  (call : ∀ (w : World) (s₀ s₁ : Shared) (mg mb : Str -> Option Value) (fa : Addr) (o : Obj) (pm cd doc : Value) (a : Addr) (vs : List Value) (ns : List Int),
   Ground q loose [] XP w s₀ mg mb s₁.heap -> YP w s₁.heap ->
   s₁.heap.get? fa = some o -> o.data = .func (docDef d.name d.params d.body d.scope pm cd doc) -> s₁.heap.CodeRec cd d.name -> mg d.name = some (.ref fa) ->
   s₁.heap.get? a = some { cls := .type "list", data := .seq vs.toArray } -> IntsAre vs ns -> ns.length <= n -> s₁.gens = #[] ->
   codeAny (model l.prog w) callerA (.call (.ref fa) ⟨[.ref a], []⟩) (fun r s' => r = .ok (.ret (.bool true)) /\ OldK s₁.heap s'.heap /\ s'.os = s₁.os /\ AllBare s'.gens) s₁) :
  WalkO q loose XP YP l.row.toRowW d [] (fun f vs => PySem.call f vs) := by
 intro w s₀ s₁ mg mb G Y fa o pm cd doc dV kV ho hd hcd hD hmg hg args vals as hpre hlay hrd hwl hlo
 obtain rfl : dV = .none := Dflts.none hD hdf
 obtain rfl : kV = .none := Dflts.noKw hD
 obtain ⟨a, vs, ns, rfl, rfl, hobj, hints, hlen⟩ := sW hn hpre hwl
 refine enter_call (codeAny_mono (call w s₀ s₁ mg mb fa o pm cd doc a vs ns G Y ho (fd_plain hd) hcd hmg hobj hints hlen hg) fun r s' hq => ?_)
 obtain ⟨rfl, h2, h3, h4⟩ := hq
 exact ⟨.inl ⟨.bool true, .bool true, [], rfl, fun _ => rfl, .bool true, tz l _, fun _ => ⟨List.Pairwise.nil, fun _ hm => (nomatch hm)⟩⟩, h2, h3, h4⟩
section
variable {prog : Program} {w : World} {A : Around} {E : Value -> Shared -> Prop} {s : Shared} {K : Frag}
end
end Att
namespace L2
open PySem PySem.Spec PyProof.Rows
theorem nB : ∀ {vs : List Value} {ns : List Int}, IntsAre vs ns -> ar (ns.map V.int) vs
 | _, _, .nil => .nil
 | _, _, .cons n t h => .cons ⟨t, rfl⟩ (nB h)
def wE (H : Hp) : Prop := ∀ b, H b = none \/ ∃ o xs, H b = some (.frz o (.lst xs))
theorem vt {P : Program} {w : World} {K : Frag} {mg mb : Str -> Option Value} {CX : CXT} {k : Nat} {fa a : Addr} {fd : FuncData} {x : Str} {sp : Sp} {s₁ : Shared} {vs : List Value} {ns : List Int}
  (KX : K.In s₁.heap) (hns : s₁.heap.Ns mainGlobals mg) (hb : s₁.heap.Ns builtinsNs mb) (hbb : ∀ x : Str, x ≠ "__name__" -> mb x = bootBuiltins x) (hlim : s₁.heap.NoLimit) (hg : s₁.gens = #[])
  (ha : s₁.heap.get? a = some { cls := .type "list", data := .seq vs.toArray }) (hi : IntsAre vs ns) (hl : ns.length <= sizeLine) (hr : Room k callerA)
  (F : ∀ base : Heap, K.In base -> base.Ns mainGlobals mg -> FnOk P w K mg base CX k fa fd [x] sp) (hbind : ∀ (s : Shared) (u : Value), BindsTo s fd ⟨[u], []⟩ [(x, u)])
  (hsp : ∀ H : Hp, wE H -> SqL K H a (ns.map V.int) -> sp [.ref a] H (fun v _ => v = .bl true) fun _ _ _ => False)
  (hCX : ∀ H e s', CX [] H s₁ (fun _ _ _ => False) e s' -> False) :
  codeAny (model P w) callerA (.call (.ref fa) ⟨[.ref a], []⟩) (fun r s' => r = .ok (.ret (.bool true)) /\ OldK s₁.heap s'.heap /\ s'.os = s₁.os /\ AllBare s'.gens) s₁ := by
 have rv := nB hi
 have lenV := hi.length
 -- from an abstract heap in which nothing but the script may be tracked
 have core : ∀ H : Hp, wE H -> SqL K H a (ns.map V.int) -> HOk P w H s₁.heap -> (∀ b, H b ≠ none -> b = a) -> (H a ≠ none -> K.lookup a = none) ->
   codeAny (model P w) callerA (.call (.ref fa) ⟨[.ref a], []⟩) (fun r s' => r = .ok (.ret (.bool true)) /\ OldK s₁.heap s'.heap /\ s'.os = s₁.os /\ AllBare s'.gens) s₁ := by
  intro H hO hS hok hA hK
  have base_of : ∀ {b : Addr} {o : Obj}, s₁.heap.get? b = some o -> H b = none -> (i3 s₁.heap H).get? b = some o := fun e n => vD e n
  have noA : ∀ {b : Addr} {o : Obj} {es : Array DictEntry} {ep : Nat}, s₁.heap.get? b = some o -> o.data = .dict es ep -> H b = none := fun {b o es ep} e d => by
   cases q : H b with
   | none => rfl
   | some u =>
    have e' : b = a := hA b (by rw [q]; simp)
    subst e'
    rw [ha] at e; cases e
    have d' : Data.seq vs.toArray _ = Data.dict es ep := d
    cases d'
  have nsK : ∀ {b : Addr} {m : Str -> Option Value}, s₁.heap.Ns b m -> (i3 s₁.heap H).Ns b m := fun {b m} ⟨o, es, ep, e, d, r⟩ => ⟨o, es, ep, base_of e (noA e d), d, r⟩
  have hKb : K.In (i3 s₁.heap H) := fun b o e => base_of (KX b o e) (by
   cases q : H b with
   | none => rfl
   | some u =>
    have e' : b = a := hA b (by rw [q]; simp)
    subst e'
    rw [hK (by rw [q]; simp)] at e; cases e)
  have hM : Mod K mg (i3 s₁.heap H) := ⟨hKb, nsK hns, ⟨mb, nsK hb, hbb⟩, let ⟨mc, h1, h2⟩ := hlim; ⟨mc, nsK h1, h2⟩⟩
  have e0 : Env0 P w K mg (i3 s₁.heap H) callerA [] s₁ H := ⟨rfl, hM, fun b o e => xN e, Nat.le_of_eq (ud _ _), trivial, fun b hb => absurd (show b ∈ ([] : List Addr) from hb) (by simp), hok, .of_eq hg⟩
  refine codeAny_mono ((F _ hKb (nsK hns)).run callerA [] s₁ H ⟨[.ref a], []⟩ [.ref a] [.ref a] _ _ hr e0 (hbind s₁ (.ref a)) (.cons rfl .nil) (hsp H hO hS)) fun r s' h => ?_
  cases r with
  | error e => exact (hCX H e s' h).elim
  | ok fl =>
   cases fl with
   | next => exact False.elim h
   | brk => exact False.elim h
   | cont => exact False.elim h
   | ret u =>
    obtain ⟨v, H', os, bare, un, hok', r', q⟩ := h
    have q' : v = .bl true := q
    subst q'
    obtain rfl : u = Value.bool true := r'
    refine ⟨rfl, OldK.of_keep fun b o e => ?_, os, bare⟩
    cases q : H b with
    | none => exact un.keep b o e q (by intro z; exact absurd (show b ∈ ([] : List Addr) from z) (by simp)) (by simp)
    | some u =>
     rcases hO b with z | ⟨ob, xs, z⟩
     ·rw [q] at z; cases z
     ·have z2 := un.frzs b ob _ z
      obtain ⟨e1, _⟩ := hok b _ z
      obtain ⟨e2, _⟩ := hok' b _ z2
      rw [e] at e1; cases e1
      exact e2
 cases hk : K.lookup a with
 | some o =>
  -- the script is one of the module's own objects
  have e := KX a o hk
  rw [ha] at e
  cases e
  refine core (fun _ => none) (fun _ => .inl rfl) (.inr ⟨_, vs.toArray, _, hk, rfl, rfl, rfl, by rw [List.size_toArray, lenV]; exact hl, by simpa using rv⟩) (fun b u z => by have z' : (none : Option HO) = some u := z; cases z') (fun b z => absurd rfl z) fun z => absurd rfl z
 | none =>
  refine core (fun b => if b = a then some (.frz { cls := .type "list", data := .seq vs.toArray } (.lst (ns.map V.int))) else none) (fun b => ?_) (.inl (.inr ⟨{ cls := .type "list", data := .seq vs.toArray }, if_pos rfl⟩)) (fun b u z => ?_) (fun b z => ?_) fun _ => hk
  ·by_cases hb : b = a
   ·exact .inr ⟨_, _, if_pos hb⟩
   ·exact .inl (if_neg hb)
  ·by_cases hb : b = a
   ·have z' := (if_pos hb).symm.trans z
    cases z'
    subst hb
    exact ⟨ha, by rw [List.length_map]; exact hl, vs, _, rv, ha⟩
   ·have z' := (if_neg hb).symm.trans z
    cases z'
  ·by_cases hb : b = a
   ·exact hb
   ·exact absurd (if_neg hb) z
theorem walk_of {l : PySem.W.OpenLaw} {n k : Nat} {q : Program} {loose : List Str} {XP : (Str -> Option Value) -> Heap -> Prop} {YP : World -> Heap -> Prop} {d : DefRec} {K : Params -> Frag} {CX : World -> CXT} {sp : World -> Sp} {x : Str}
  (hn : l.most = some n) (hn2 : n <= sizeLine) (hdf : d.params.defaults = []) (hr : Room k callerA)
  (hY : ∀ (w : World) (h : Heap), YP w h -> (K w.params).In h)
  (F : ∀ (w : World) (mg : Str -> Option Value) (fa : Addr) (h : Heap), (K w.params).In h -> h.Ns mainGlobals mg -> mg d.name = some (.ref fa) ->
   ∃ fd : FuncData, (∀ (s : Shared) (u : Value), BindsTo s fd ⟨[u], []⟩ [(x, u)]) /\
    ∀ base : Heap, (K w.params).In base -> base.Ns mainGlobals mg -> FnOk l.prog w (K w.params) mg base (CX w) k fa fd [x] (sp w))
  (hsp : ∀ (w : World) (H : Hp) (a : Addr) (ns : List Int), ns.length <= n -> wE H -> SqL (K w.params) H a (ns.map V.int) -> sp w [.ref a] H (fun v _ => v = .bl true) fun _ _ _ => False)
  (hCX : ∀ (w : World) (H : Hp) (s : Shared) (e : Value) (s' : Shared), CX w [] H s (fun _ _ _ => False) e s' -> False) :
  PySem.W.WalkO q loose XP YP l.row.toRowW d [] (fun f vs => PySem.call f vs) := by
 refine Att.attach_call hn hdf fun w s₀ s₁ mg mb fa o pm cd doc a vs ns G Y ho hd hcd hmg hobj hints hlen hg => ?_
 have KX := hY w _ Y
 obtain ⟨fd, hb, hF⟩ := F w mg fa _ KX G.T.g hmg
 exact vt KX G.T.g G.T.b G.T.builtins G.T.nolimit hg hobj hints (Nat.le_trans hlen hn2) hr hF hb (fun H hO hS => hsp w H a ns hlen hO hS) fun H e s' => hCX w H s₁ e s'
end L2
/- THE LAST THEOREM (shape; LID, My.* are yours):
  My.Adr: a structure of the addresses that your layer names (classes, functions); My.Txt K t: a structure (Prop) of the equations over K;
  My.txt_mk : {K} {implicit addresses ..} (e1 : nsIn K mainGlobals "law" = some (some (.ref f))) (e2 : K.lookup f = some ⟨oc, od, .func (fnOf "law" "law" params body scope dV kV doc pm an cdv ct), sl⟩) (e3 : codeIn K cdv "law" = true) .. : ∃ t, My.Txt K t
set_option maxRecDepth 100000 in
set_option maxHeartbeats 0 in
theorem PySem.Challenge.cw_LID_holds : PySem.Challenge.rw_LID.Holds := by
 w_on; o_law; k_head; (case hw => w_witness2)
 k_fill
 refine L2.walk_of (l := PySem.Challenge.rw_LID) (n := 63) (k := 40) (x := "script") (CX := fun w => ..) (sp := fun _ => My.sp_law) rfl (by decide) rfl ⟨rfl, by decide, by decide⟩ (fun w h Y => PySem.W.kIn_of Y) ?F ?S ?C
 case F =>
  intro w mg fa h KX G hmg
  have T : ∃ t, My.Txt (L2.KOf KX) t := by
   dsimp only [L2.KOf]                          -- K must stand as «<heap const> w.params» for k_is
   refine' My.txt_mk ?e1 ?e2 ?e3 ..
   (case e1 => PySem.W.k_is)                    -- in the order: a name -> its address -> its object -> its parts
   (case e2 => PySem.W.k_is)
   ..
  obtain ⟨t, T⟩ := T
  have e0 := hmg.symm.trans (mg_of KX G T.law)
  cases e0                                       -- fa is the law's own address
  exact ⟨_, fun s u => .of_eq rfl, fun base kb nb => My.law_fn T kb nb⟩     -- if «.of_eq rfl» comes too early: refine' ⟨_, ?b, fun base kb nb => My.law_fn T kb nb⟩; exact fun s u => .of_eq rfl
 case S => exact fun w H a ns hl hO hS => ..
 case C => exact ..
(the tactic k_is has no namespace: write k_is) -/
namespace L2
open PySem PySem.Spec PyProof.Rows
def ay (s : Stmt) (j : Nat) : Stmt := match s with
 | .ClassDef _ _ _ body _ _ _ _ _ _ _ => body.getD j (.Pass ⟨0, 0, 0, 0⟩)
 | _ => .Pass ⟨0, 0, 0, 0⟩
def gv (s : Stmt) : Arguments := match s with
 | .FunctionDef _ a _ _ _ _ _ _ _ _ => a
 | _ => { posonlyargs := [], args := [], vararg := none, kwonlyargs := [], kw_defaults := [], kwarg := none, defaults := [] }
def bX (s : Stmt) : List Stmt := match s with
 | .FunctionDef _ _ b _ _ _ _ _ _ _ => b
 | _ => []
def am (s : Stmt) : Scope := match s with
 | .FunctionDef _ _ _ _ _ _ sc _ _ _ => sc
 | _ => { kind := .function, names := [], isGenerator := false, isCoroutine := false }
abbrev E0 : St -> XK := fun _ _ _ _ => False
structure Fun (K : Frag) (x qual : Str) (st : Stmt) (f : Addr) (fd : FuncData) : Prop where
 ex : ∃ (oc : Value) (od : Option Addr) (kV doc pm : Value) (an : Option Addr) (cdv ct : Value) (osl : Array (Option Value)),
  fd = PySem.W.fnOf x qual (gv st) (bX st) (am st) .none kV doc pm an cdv ct /\ K.lookup f = some ⟨oc, od, .func fd, osl⟩ /\ PySem.W.codeIn K cdv qual = true
 kp : keepIn K (.ref f) = true
section
variable {P : Program} {w : World} {K : Frag} {mg : Str -> Option Value} {base : Heap}
end
theorem nK {n : Nat} (h : n <= 1000) : n < sizeLine := Nat.lt_of_le_of_lt h (by decide)
section
variable {X : Cx}
theorem pv (i : Nat) {x : Str} {pos : Pos} (hN : X.N[i]? = some x := by rfl) (hv : Vis X.env.scope x := by first | exact Or.inl rfl | exact Or.inr (Or.inl rfl) | exact Or.inr (Or.inr rfl)) (hd : (x == ("__debug__" : Str)) = false := by decide)
  (hcd : (x == ("__classdict__" : Str)) = false := by decide) : PE X (.Name x pos) (iO i) := yK hN hv hd hcd
end
theorem iteT {A B : Prop} (h : A) : if true = true then A else B := by
 rw [if_pos rfl]
 exact h
theorem ite2 {c A B : Prop} [Decidable c] (h1 : c -> A) (h2 : ¬ c -> B) : if c then A else B := by
 by_cases h : c
 ·rw [if_pos h]
  exact h1 h
 ·rw [if_neg h]
  exact h2 h
def bN (H H' : Hp) : Prop := ∀ b o, H b = some o -> H' b = some o
theorem bN.refl (H : Hp) : bN H H := fun _ _ h => h
theorem bN.trans {H H1 H2 : Hp} (a : bN H H1) (b : bN H1 H2) : bN H H2 := fun c o h => b c o (a c o h)
theorem bN.free {H H' : Hp} (e : bN H H') {l : Addr} (h : H' l = Option.none) : H l = Option.none := by
 cases q : H l with
 | none => rfl
 | some o =>
  rw [e l o q] at h
  cases h
theorem cB : ∀ (names : List (Str × NameKind)) (n : Nat) (acc : List (Str × Addr)), cellsFrom n names acc = cellsFrom n names [] ++ acc
 | [], _, _ => rfl
 | (x, k) :: r, n, acc => by
  unfold cellsFrom
  split
  ·rw [cB r (n + 1) ((x, n) :: acc), cB r (n + 1) [(x, n)], List.append_assoc]
   rfl
  ·exact cB r n acc
theorem f9 : ∀ {names : List (Str × NameKind)} {n : Nat} {x : Str} {c : Addr}, (x, c) ∈ cellsFrom n names [] -> (x, NameKind.cell) ∈ names
 | [], _, _, _, h => by cases h
 | (y, k) :: r, n, x, c, h => by
  unfold cellsFrom at h
  split at h
  ·rename_i hk
   rw [cB] at h
   rcases List.mem_append.mp h with h | h
   ·exact List.mem_cons_of_mem _ (f9 h)
   ·obtain ⟨rfl, _⟩ : x = y /\ c = n := by simpa using h
    obtain rfl : k = .cell := by simpa using hk
    exact List.mem_cons_self
  ·exact List.mem_cons_of_mem _ (f9 h)
def cy (cells : List (Str × Addr)) : List (Str × NameKind) -> List (Str × Addr) -> List (Str × Addr)
 | [], acc => acc
 | (x, k) :: r, acc => if k == .free then cy cells r ((x, (cells.lookup x).getD 0) :: acc) else cy cells r acc
theorem mem_cloF {cells : List (Str × Addr)} : ∀ {names : List (Str × NameKind)} {acc : List (Str × Addr)} {x : Str} {c : Addr}, (x, c) ∈ cy cells names acc -> (x, c) ∈ acc \/ ((x, NameKind.free) ∈ names /\ c = (cells.lookup x).getD 0)
 | [], _, _, _, h => .inl h
 | (y, k) :: r, acc, x, c, h => by
  unfold cy at h
  split at h
  ·rename_i hk
   obtain rfl : k = .free := by simpa using hk
   rcases mem_cloF h with h | ⟨h, e⟩
   ·rcases List.mem_cons.mp h with h | h
    ·cases h
     exact .inr ⟨List.mem_cons_self, rfl⟩
    ·exact .inl h
   ·exact .inr ⟨List.mem_cons_of_mem _ h, e⟩
  ·rcases mem_cloF h with h | ⟨h, e⟩
   ·exact .inl h
   ·exact .inr ⟨List.mem_cons_of_mem _ h, e⟩
theorem ln {cells : List (Str × Addr)} : ∀ {names : List (Str × NameKind)} {acc : List (Str × Addr)} {p : Str × Addr}, p ∈ acc -> p ∈ cy cells names acc
 | [], _, _, h => h
 | (y, k) :: r, acc, p, h => by
  unfold cy
  split
  ·exact ln (List.mem_cons_of_mem _ h)
  ·exact ln h
theorem lm {cells : List (Str × Addr)} : ∀ {names : List (Str × NameKind)} {acc : List (Str × Addr)} {x : Str}, (x, NameKind.free) ∈ names -> (x, (cells.lookup x).getD 0) ∈ cy cells names acc
 | [], _, _, h => by cases h
 | (y, k) :: r, acc, x, h => by
  unfold cy
  rcases List.mem_cons.mp h with h | h
  ·cases h
   rw [if_pos (by decide)]
   exact ln List.mem_cons_self
  ·split
   ·exact lm h
   ·exact lm h
theorem jr {α : Type} : ∀ {l : List (Str × α)} {x : Str} {c : α}, (x, c) ∈ l -> ∃ d, l.lookup x = some d
 | [], _, _, h => by cases h
 | (y, d) :: r, x, c, h => by
  rw [List.lookup_cons]
  cases hb : x == y with
  | true => exact ⟨d, rfl⟩
  | false =>
   rcases List.mem_cons.mp h with h | h
   ·cases h
    simp at hb
   ·exact jr h
theorem cq {α : Type} : ∀ {l : List (Str × α)} {x : Str} {c : α}, (l.map (·.1)).Nodup -> (x, c) ∈ l -> l.lookup x = some c
 | [], _, _, _, h => by cases h
 | (y, d) :: r, x, c, nd, h => by
  rw [List.map_cons] at nd
  obtain ⟨n1, n2⟩ := List.nodup_cons.mp nd
  rw [List.lookup_cons]
  rcases List.mem_cons.mp h with h | h
  ·cases h
   simp
  ·have : x ≠ y := fun e => n1 (e ▸ List.mem_map_of_mem (f := (·.1)) h)
   rw [beq_eq_false_iff_ne.mpr this]
   exact cq n2 h
theorem nq {env : Env} (f : Str × NameKind -> List (Str × Addr) -> Sem (ForInStep (List (Str × Addr))))
  (hf : ∀ name kind cs, f (name, kind) cs = if kind == .free then (do let a ← cellOf env name; pure (.yield ((name, a) :: cs))) else pure (.yield cs)) :
  ∀ (names : List (Str × NameKind)) (acc : List (Str × Addr)), (∀ y ∈ names, y.2 = .free -> ∃ c, env.cells.lookup y.1 = some c) -> forIn names acc f = pure (cy env.cells names acc)
 | [], _, _ => by rw [List.forIn_nil]; rfl
 | (x, k) :: r, acc, h => by
  rw [List.forIn_cons, hf]
  unfold cy
  have hr : ∀ y ∈ r, y.2 = .free -> ∃ c, env.cells.lookup y.1 = some c := fun y hy => h y (List.mem_cons_of_mem _ hy)
  by_cases hk : (k == NameKind.free) = true
  ·rw [if_pos hk, if_pos hk]
   obtain ⟨c, hc⟩ := h (x, k) List.mem_cons_self (by simpa using hk)
   have hc' : env.cells.lookup x = some c := hc
   have e : cellOf env x = pure c := by unfold cellOf; rw [hc']
   rw [e, hc']
   simp only [pure_bind]
   exact nq f hf r _ hr
  ·rw [if_neg hk, if_neg hk]
   simp only [pure_bind]
   exact nq f hf r _ hr
theorem sC {scope : Scope} {env : Env} (h : ∀ y ∈ scope.names, y.2 = .free -> ∃ c, env.cells.lookup y.1 = some c) : closureFor scope env = pure (cy env.cells scope.names []) := by
 simp only [closureFor]
 rw [nq (env := env) _ (fun name kind cs => by cases hk : kind == NameKind.free <;> simp [hk]) scope.names [] h]
 rfl
theorem vM {M : Model} {A : Around} {E : Value -> Shared -> Prop} {s : Shared} {scope : Scope} {globals : Addr} {cl : List (Str × Addr)} {qual : Str} {env : Env} {Q : Env -> Shared -> Prop}
  (hQ : ∀ h' : Heap, h'.Ns s.heap.objs.size (fun _ => none) -> (∀ b o, s.heap.get? b = some o -> h'.get? b = some o) ->
   (∀ n c, (n, c) ∈ cellsFrom (s.heap.objs.size + 1) scope.names [] -> h'.IsCell c none /\ s.heap.objs.size + 1 <= c) ->
   ((cellsFrom (s.heap.objs.size + 1) scope.names []).Pairwise fun x y => x.2 ≠ y.2) ->
   Q (newEnv scope s.heap.objs.size globals (cellsFrom (s.heap.objs.size + 1) scope.names cl) qual none .none (some env) builtinsNs) { s with heap := h' }) :
  wpAny M A (newFunctionEnv scope globals cl [] qual none .none (some env)) Q E s := by
 simp only [newFunctionEnv, Option.isSome_some, if_true]
 refine wpAny_bind (wpAny_alloc ?_)
 refine wpAny_bind (wpAny_layCells _ (fun name kind cells => by cases hkc : kind == NameKind.cell <;> simp [hkc]) _ _ _ _ ?_)
 have ok := cellsFrom_ok scope.names (s.heap.push { cls := .type "dict", data := .dict #[] }) (s.heap.objs.size + 1) [] ⟨fun _ _ hm => (nomatch hm), List.Pairwise.nil⟩ (by rw [Heap.size_push]; exact Nat.le_refl _)
 rw [Heap.size_push] at ok
 rw [show ({ s with heap := s.heap.push { cls := .type "dict", data := .dict #[] } } : Shared).heap.objs.size = s.heap.objs.size + 1 from Heap.size_push ..]
 have fin := hQ (pushCells (s.heap.push { cls := .type "dict", data := .dict #[] }) scope.names) ((Heap.Ns.new s.heap (.type "dict")).keeps (pushCells_keeps _ _)) (fun b o e => pushCells_keeps _ _ b o (Heap.get?_push_of_some _ e)) ok.empty ok.apart
 exact wpAny_bind (wpAny_pure (wpAny_pure fin))
abbrev aZ (X : Cx) (Nc : List Str) (scope : Scope) (cl : List (Str × Addr)) (C : Addr) (fp : List Addr) (s : Shared) (H : Hp) : Cx :=
 { X with N := Nc, s₀ := s, H₀ := H, env := compEnvC scope cl C X.env, outer := X.stack, stack := X.stack, ex := fp, fn := fun x => scope.names.lookup x != some .free, pn := [], xe := fun _ _ => False }
theorem mem_relabel {scope : Scope} {env : Env} {y : Str × NameKind} (h : y ∈ (relabel scope env).names) : y ∈ scope.names \/ (y.2 = .cell /\ (y.1, NameKind.free) ∈ scope.names) := by
 obtain ⟨⟨n, k⟩, hm, e⟩ := List.mem_map.mp h
 dsimp only at e
 split at e
 ·rename_i hk
  cases e
  simp only [Bool.and_eq_true, beq_iff_eq] at hk
  obtain ⟨⟨hk, _⟩, _⟩ := hk
  subst hk
  exact .inr ⟨rfl, hm⟩
 ·cases e
  exact .inl hm
theorem vB {X : Cx} {pins : List (Addr × Obj)} {σ : St} {H : Hp} {s : Shared} {Nc vars : List Str} {caps : List Nat} {scope : Scope} {fp : List Addr} {h' : Heap} (I : Inv X pins σ H s)
  (hk : scope.kind = .function) (hnd : (scope.names.map (·.1)).Nodup) (hfree : ∀ y ∈ scope.names, y.2 = .free -> X.env.kindOf y.1 = some .cell \/ X.env.kindOf y.1 = some .free)
  (hNc : Nc = vars ++ caps.map (fun j => X.N.getD j Str.empty)) (hcap : ∀ j ∈ caps, j < X.N.length /\ scope.names.lookup (X.N.getD j Str.empty) = some .free)
  (hfp : ∀ b ∈ fp, d8 X pins H b) (hfo : ∀ b ∈ fp, ∃ o, s.heap.get? b = some o) (ns : h'.Ns s.heap.objs.size fun _ => none) (keep : ∀ b o, s.heap.get? b = some o -> h'.get? b = some o)
  (ce : ∀ n c, (n, c) ∈ cellsFrom (s.heap.objs.size + 1) scope.names [] -> h'.IsCell c none /\ s.heap.objs.size + 1 <= c) (ca : (cellsFrom (s.heap.objs.size + 1) scope.names []).Pairwise fun x y => x.2 ≠ y.2) :
  Inv (aZ X Nc scope (cellsFrom (s.heap.objs.size + 1) scope.names (cy X.env.cells scope.names [])) s.heap.objs.size fp s H) [] (List.replicate vars.length none ++ caps.map (fun j => σ.getD j none)) H { s with heap := h' } := by
 -- the cells
 have old : ∀ {x : Str} {c : Addr}, (x, c) ∈ cy X.env.cells scope.names [] -> X.env.cells.lookup x = some c /\ (x, NameKind.free) ∈ scope.names := fun {x c} h => by
  rcases mem_cloF h with h | ⟨hm, e⟩
  ·cases h
  ·obtain ⟨d, hd⟩ := I.ok.has x (hfree _ hm rfl)
   rw [hd] at e
   exact ⟨by rw [hd, e]; rfl, hm⟩
 have cases2 : ∀ {x : Str} {c : Addr}, (cellsFrom (s.heap.objs.size + 1) scope.names (cy X.env.cells scope.names [])).lookup x = some c ->
   (x, c) ∈ cellsFrom (s.heap.objs.size + 1) scope.names [] \/ (X.env.cells.lookup x = some c /\ (x, NameKind.free) ∈ scope.names) := fun {x c} h => by
  have h := PySem.mem_of_lookup h
  rw [cB] at h
  rcases List.mem_append.mp h with h | h
  ·exact .inl h
  ·exact .inr (old h)
 have freeC : ∀ {x : Str}, (x, NameKind.free) ∈ scope.names -> ∃ c, X.env.cells.lookup x = some c /\ (cellsFrom (s.heap.objs.size + 1) scope.names (cy X.env.cells scope.names [])).lookup x = some c := fun {x} hm => by
  obtain ⟨d, hd⟩ := I.ok.has x (hfree _ hm rfl)
  have e := lm (cells := X.env.cells) (acc := []) hm
  obtain ⟨c, hc⟩ := jr (l := cellsFrom (s.heap.objs.size + 1) scope.names (cy X.env.cells scope.names [])) (x := x) (c := (X.env.cells.lookup x).getD 0) (by rw [cB]; exact List.mem_append_right _ e)
  rcases cases2 hc with z | ⟨z, _⟩
  ·have z1 := cq hnd (f9 z)
   rw [cq hnd hm] at z1
   cases z1
  ·exact ⟨c, z, hc⟩
 have oldlt : ∀ {x : Str} {c : Addr}, X.env.cells.lookup x = some c -> c < s.heap.objs.size := fun {x c} h => let ⟨v, q⟩ := I.cell x c h; q.lt
 have nofr : H s.heap.objs.size = none := I.hok.fresh (Nat.le_refl _)
 have fsub : ∀ b ∈ frs X.stack, b ∈ X.env.locals :: X.fs := I.stkSub
 refine ⟨⟨I.ok.mod, hk, I.ok.glob, I.ok.blt, Nat.le_refl _, fun x y c h1 h2 => ?_, fun x hx => ?_, fun x c hf h => ?_, I.ok.hd, I.ok.frames, .inl rfl, fun b hb => ⟨?_, fun x c h e => ?_⟩, I.bs, Nat.le_trans I.ok.bsz I.sz, fun b o e hb => ?_, fun b hb hf => ?_, I.stack, I.stkFree⟩,
  rfl, I.bare, Un.kept keep, ⟨_, ns, fun i x v e1 e2 e3 => ?_⟩, fun x c h => ?_, nofr, fun x c h => ?_, fun p hp => absurd hp (by simp), I.hok.kept keep, ?_⟩
 ·rcases cases2 h1 with z1 | ⟨z1, _⟩ <;> rcases cases2 h2 with z2 | ⟨z2, _⟩
  ·exact name_of_addr ca z1 z2
  ·exact absurd (Nat.lt_of_lt_of_le (oldlt z2) (Nat.le_trans (Nat.le_succ _) (ce _ _ z1).2)) (Nat.lt_irrefl _)
  ·exact absurd (Nat.lt_of_lt_of_le (oldlt z1) (Nat.le_trans (Nat.le_succ _) (ce _ _ z2).2)) (Nat.lt_irrefl _)
  ·exact I.ok.inj _ _ _ z1 z2
 ·-- has
  have hx : (relabel scope X.env).names.lookup x = some .cell \/ (relabel scope X.env).names.lookup x = some .free := hx
  have hm : (x, NameKind.cell) ∈ scope.names \/ (x, NameKind.free) ∈ scope.names := by
   rcases hx with hx | hx
   ·rcases mem_relabel (PySem.mem_of_lookup hx) with z | ⟨_, z⟩
    ·exact .inl z
    ·exact .inr z
   ·rcases mem_relabel (PySem.mem_of_lookup hx) with z | ⟨_, z⟩
    ·exact .inr z
    ·exact .inr z
  rcases hm with hm | hm
  ·have q := cellsFrom_some scope.names (s.heap.objs.size + 1) (cy X.env.cells scope.names []) (x := x) (.inl (cq hnd hm))
   exact Option.isSome_iff_exists.mp q
  ·obtain ⟨c, _, hc⟩ := freeC hm
   exact ⟨c, hc⟩
 ·-- cab
  rcases cases2 h with z | ⟨_, z⟩
  ·exact Nat.le_trans (Nat.le_succ _) (ce _ _ z).2
  ·have z' : (scope.names.lookup x != some .free) = true := hf
   rw [cq hnd z] at z'
   exact absurd z' (by decide)
 ·obtain ⟨o, e⟩ := hfo b hb
  exact Nat.ne_of_lt (Heap.lt_size e)
 ·rcases cases2 h with z | ⟨z, _⟩
  ·obtain ⟨o, e'⟩ := hfo b hb
   subst e
   exact absurd (Nat.lt_of_lt_of_le (Heap.lt_size e') (Nat.le_trans (Nat.le_succ _) (ce _ _ z).2)) (Nat.lt_irrefl _)
  ·exact (hfp b hb).2.2.2.2.1 x c z e
 ·obtain ⟨_, _, _, h4, _⟩ := hfp b hb
  rcases h4 with z | z
  ·exact I.ok.noex b o e z
  ·exact absurd (Nat.lt_of_lt_of_le (Heap.lt_size (I.ok.bs b o e).1) z) (Nat.lt_irrefl _)
 ·obtain ⟨_, h2, h3, _⟩ := hfp b hb
  rcases List.mem_cons.mp (fsub b hf) with z | z
  ·exact h2 z
  ·exact h3 z
 ·-- the names' values
  have hi : ¬ i < vars.length := fun hi => by
   rw [List.getElem?_append_left (by simpa using hi), List.getElem?_replicate] at e2
   split at e2 <;> cases e2
  have e1' : (vars ++ caps.map (fun j => X.N.getD j Str.empty))[i]? = some x := by rw [← hNc]; exact e1
  rw [List.getElem?_append_right (by omega)] at e1'
  rw [List.getElem?_append_right (by simpa using hi)] at e2
  rw [List.length_replicate] at e2
  cases q : caps[i - vars.length]? with
  | none => rw [List.getElem?_map, q] at e2; cases e2
  | some j =>
   rw [List.getElem?_map, q] at e1' e2
   have e1'' : X.N.getD j Str.empty = x := Option.some.inj e1'
   have e2' : σ.getD j none = some v := Option.some.inj e2
   obtain ⟨hj, hfr⟩ := hcap j (List.mem_of_getElem? q)
   rw [e1''] at hfr
   obtain ⟨c, hc, hc'⟩ := freeC (PySem.mem_of_lookup hfr)
   have hNj : X.N[j]? = some x := by
    rw [← e1'', List.getD_eq_getElem?_getD, List.getElem?_eq_getElem hj]; rfl
   have hσj : σ[j]? = some (some v) := by
    have hl : j < σ.length := by rw [I.len]; exact hj
    rw [List.getD_eq_getElem?_getD, List.getElem?_eq_getElem hl] at e2'
    rw [List.getElem?_eq_getElem hl]
    exact congrArg some e2'
   have hkx := hfree _ (PySem.mem_of_lookup hfr) rfl
   obtain ⟨m, hn, hl⟩ := I.loc
   obtain ⟨u, r, l⟩ := hl j x v hNj hσj (hkx.elim (fun z => .inr (.inl z)) fun z => .inr (.inr z))
   refine ⟨u, r, .inr ⟨?_, c, hc', ?_⟩⟩
   ·rcases e3 with z | z | z
    ·exfalso
     rcases mem_relabel (PySem.mem_of_lookup z) with y | ⟨y, _⟩
     ·rw [cq hnd y] at hfr; cases hfr
     ·cases y
    ·exact .inl z
    ·exact .inr z
   ·rcases l with ⟨l, _⟩ | ⟨_, c', e, z⟩
    ·exfalso
     rcases hkx with y | y
     ·have y' : X.env.kindOf x = some .cell := y
      rw [l] at y'; cases y'
     ·have y' : X.env.kindOf x = some .free := y
      rw [l] at y'; cases y'
    ·rw [hc] at e
     cases e
     exact z.keeps keep
 ·rcases cases2 h with z | ⟨z, _⟩
  ·exact ⟨none, (ce _ _ z).1⟩
  ·obtain ⟨v, q⟩ := I.cell x c z
   exact ⟨v, q.keeps keep⟩
 ·rcases cases2 h with z | ⟨z, _⟩
  ·exact I.hok.fresh (Nat.le_trans (Nat.le_succ _) (ce _ _ z).2)
  ·exact I.freeC x c z
 ·show _ = Nc.length
  rw [hNc, List.length_append, List.length_append, List.length_replicate, List.length_map, List.length_map]
abbrev TB := St -> Hp -> (St -> Hp -> Prop) -> Prop
def iH (elt : Expr) (gens : List Comprehension) (scope : Scope) (pos : Pos) (d : Nat) (acc : Value) (env : Env) (k : Sem PySem.Fin) : Sem PySem.Fin :=
 match gens[d + 1]? with
 | some g' => do
  let x ← eval g'.iter env
  standAt g'.iter.pos
  let x ← if g'.is_async != 0 then foldedIterable g'.iter x else foldedSetIterable g'.iter env x
  let _ ← runOwn (.compStart (.ListComp elt gens scope pos) (d + 1) (← holding [x] (if g'.is_async != 0 then asyncIter x else pyIter x)) acc env) env
  k
 | none => do
  (do let _ ← call (.builtin "list.append") [acc, ← eval elt env])
  k
theorem pU {elt target iter : Expr} {ifs : List Expr} {gens : List Comprehension} {scope : Scope} {pos : Pos} {d : Nat} {it acc : Value} {env : Env} (hg : gens[d]? = some ⟨target, iter, ifs, 0⟩) :
  compTurn (.ListComp elt gens scope pos) d it acc env = (do
   standAt iter.pos
   match ← pyNext it with
   | none => pure (.done .next)
   | some v =>
    letOwnedTupleGo target it v
    assign target env v
    let mut ok := true
    for c in ifs do
     if ok then ok ← isTrue c env (eval c env)
    if ok then iH elt gens scope pos d acc env (again (.compLoop (.ListComp elt gens scope pos) d it acc env))
    else again (.compLoop (.ListComp elt gens scope pos) d it acc env)) := by
 unfold compTurn iH
 dsimp only
 rw [hg]
 dsimp only
 cases gens[d + 1]? <;> rfl
section
variable {prog : Program} {w : World} {A : Around} {R : Result -> Shared -> Prop} {s : Shared}
theorem vo {elt target iter : Expr} {ifs : List Expr} {gens : List Comprehension} {scope : Scope} {pos : Pos} {d : Nat} {it acc : Value} {env : Env} (hg : gens[d]? = some ⟨target, iter, ifs, 0⟩) (I : Nat -> Shared -> Prop)
  (turn : ∀ n s, I n s -> wpAny (model prog w) A (pyNext it) (fun r s₁ => match r with
   | none => R (.ok .next) s₁
   | some v => wpAny (model prog w) A (letOwnedTupleGo target it v) (fun _ s₁' => wpAny (model prog w) A (assign target env v) (fun _ s₂ =>
     wpAny (model prog w) A (forIn ifs true fun c r => if r = true then do let ok ← isTrue c env (eval c env); pure (ForInStep.yield ok) else pure (ForInStep.yield r)) (fun ok s₃ =>
      if ok = true then ∀ (k : Sem PySem.Fin) (Q' : PySem.Fin -> Shared -> Prop) (E' : Value -> Shared -> Prop), (∀ s₄ m, m < n -> I m s₄ -> wpAny (model prog w) A k Q' E' s₄) -> wpAny (model prog w) A (iH elt gens scope pos d acc env k) Q' E' s₃
      else ∃ m, m < n /\ I m s₃) (fun _ _ => False) s₂) (fun _ _ => False) s₁') (fun _ _ => False) s₁) (fun _ _ => False) s)
  (n : Nat) (h : I n s) :
  codeAny (model prog w) A (.compLoop (.ListComp elt gens scope pos) d it acc env) R s := by
 refine codeAny_loop rfl I (fun n s hI => ?_) n h
 show wpAny _ A ((compTurn (.ListComp elt gens scope pos) d it acc env).onRaise (fun x => do noteFrame x env; theTreesLotGoes x)) _ _ s
 refine wpAny_noted ?_
 rw [pU hg]
 refine wpAny_bind (wpAny_standAt (wpAny_bind (wpAny_mono (turn n s hI) (fun r s₁ h₁ => ?_) fun _ _ h' => h'.elim)))
 cases r with
 | none => exact wpAny_pure h₁
 | some v =>
  refine wpAny_bind (wpAny_mono h₁ (fun _ s₁' h₁' => ?_) fun _ _ h' => h'.elim)
  refine wpAny_bind (wpAny_mono h₁' (fun _ s₂ h₂ => wpAny_bind (wpAny_mono h₂ (fun ok s₃ h₃ => ?_) fun _ _ h' => h'.elim)) fun _ _ h' => h'.elim)
  cases ok with
  | false => exact wpAny_pure ⟨rfl, h₃⟩
  | true => exact h₃ _ _ _ fun s₄ m hm hI => wpAny_pure ⟨rfl, m, hm, hI⟩
theorem sV {elt target iter : Expr} {ifs : List Expr} {gens : List Comprehension} {scope : Scope} {pos : Pos} {d : Nat} {it acc : Value} {env : Env} (hg : gens[d]? = some ⟨target, iter, ifs, 0⟩)
  (h0 : codeAny (model prog w) A (.compLoop (.ListComp elt gens scope pos) d it acc env) R s)
  (h : wpAny (model prog w) A (pyIter it) (fun it' s' => codeAny (model prog w) A (.compLoop (.ListComp elt gens scope pos) d it' acc env) R s') (fun _ _ => False) s) :
  codeAny (model prog w) A (.compStart (.ListComp elt gens scope pos) d it acc env) R s := by
 refine codeAny_of_tree ?_
 show wpAny _ _ ((compStart (.ListComp elt gens scope pos) d it acc env).onRaise (fun x => do noteFrame x env; standAt theWindowsPlace)) _ _ s
 refine wpAny_notedAt ?_
 unfold compStart
 have hg' : (clausesOf (.ListComp elt gens scope pos))[d]? = some ⟨target, iter, ifs, 0⟩ := hg
 generalize (clausesOf (.ListComp elt gens scope pos))[d]? = og at hg' ⊢
 subst hg'
 show wpAny _ _ (ask >>= _) _ _ s
 refine wpAny_bind (wpAny_askSetting (wpAny_ite ?_))
 split
 ·first
   | exact wpAny_bind (wpAny_pure (wpAny_pure (And.intro rfl h0)))
   | exact wpAny_pure (And.intro rfl h0)
 ·first
   | exact wpAny_bind (wpAny_rule (wpAny_bind (wpAny_standAt (wpAny_bind (wpAny_mono h (fun it' s' h' => wpAny_pure (And.intro rfl h')) fun _ _ x => x.elim)))))
   | (refine wpAny_bind (wpAny_rule ?_); show wpAny _ _ (standAt iter.pos >>= _) _ _ s; exact wpAny_bind (wpAny_standAt (wpAny_bind (wpAny_mono h (fun it' s' h' => wpAny_pure (And.intro rfl h')) fun _ _ x => x.elim))))
end
def fJ (X : Cx) (ifs : List Expr) (t : TT) : Prop :=
 ∀ (pins : List (Addr × Obj)) (s : Shared) (σ : St) (H : Hp) (Q : Bool -> Hp -> Prop), Inv X pins σ H s -> t σ H Q ->
  wpAny (model X.prog X.w) X.A (forIn ifs true fun c r => if r = true then do let ok ← isTrue c X.env (eval c X.env); pure (ForInStep.yield ok) else pure (ForInStep.yield r)) (TP X pins σ Q) X.xe s
def yo : TT := fun _ H Q => Q true H
theorem pw {X : Cx} : fJ X [] yo := fun _ _ _ H _ I h => wpAny_pure ⟨H, I, h⟩
def PB (X : Cx) (elt : Expr) (gens : List Comprehension) (scope : Scope) (pos : Pos) (d : Nat) (D : Addr) (t : TB) : Prop :=
 ∀ (pins : List (Addr × Obj)) (s : Shared) (σ : St) (H : Hp) (Q : St -> Hp -> Prop), Inv X pins σ H s -> t σ H Q ->
  ∀ (k : Sem PySem.Fin) (Q' : PySem.Fin -> Shared -> Prop) (E' : Value -> Shared -> Prop), (∀ s' σ' H', Inv X pins σ' H' s' -> Q σ' H' -> wpAny (model X.prog X.w) X.A k Q' E' s') -> wpAny (model X.prog X.w) X.A (iH elt gens scope pos d (.ref D) X.env k) Q' E' s
def eE (J : It) (g : TG) (tt : TT) (tb : TB) : TB := fun σ H Q => ∃ W : Nat -> Nat -> St -> Hp -> Prop, (∃ m, W 0 m σ H) /\ ∀ i m σ H, W i m σ H ->
 (J.stop i H /\ Q σ H) \/ (J.go i H /\ ∃ N : St -> Hp -> Prop, (∀ σ' H', N σ' H' -> ∃ m', m' < m /\ W (i + 1) m' σ' H') /\ ∀ x H', J.yld i H x H' -> g x σ H' fun σ2 H2 => tt σ2 H2 fun b H3 => if b = true then tb σ2 H3 N else N σ2 H3)
def sF (D : Addr) (te : TE) : TB := fun σ H Q => te σ H fun v H1 => ∃ xs, H1 D = some (.lst xs) /\ xs.length < sizeLine /\ Q σ (upd H1 D (.lst (xs ++ [v])))
def w9 (wi : TI) (lp : It -> TB) : TB := fun σ H Q => wi σ H fun J H1 => lp J σ H1 Q
section
variable {X : Cx} {elt target iter : Expr} {ifs : List Expr} {gens : List Comprehension} {scope : Scope} {pos : Pos} {d : Nat} {D : Addr}
theorem n5 {g : TG} {tt : TT} {tb : TB} (hg : gens[d]? = some ⟨target, iter, ifs, 0⟩) (hc : X.calm = true) (hxe : X.xe = fun _ _ => False) (hgt : PG X target g) (hts : fJ X ifs tt) (hb : PB X elt gens scope pos d D tb)
  {it : Addr} {fp : List Addr} {tn : Nat -> Heap -> Prop} {J : It} {pins : List (Addr × Obj)} {s : Shared} {σ : St} {H : Hp} {Q : St -> Hp -> Prop}
  (I : Inv X pins σ H s) (T : Turn X.prog X.w X.K target J fp it tn) (st : tn 0 s.heap) (hf : ∀ b ∈ fp, d8 X pins H b) (h : eE J g tt tb σ H Q) :
  codeAny (model X.prog X.w) X.A (.compStart (.ListComp elt gens scope pos) d (.ref it) (.ref D) X.env) (fun r s' => r = .ok .next /\ ∃ σ' H', Inv X pins σ' H' s' /\ Q σ' H') s := by
 obtain ⟨W, ⟨m0, w0⟩, turn⟩ := h
 have stat : ∀ {H' : Hp}, (∀ b ∈ fp, H' b = none) -> ∀ b ∈ fp, d8 X pins H' b := fun hn b hb => ⟨hn b hb, (hf b hb).2⟩
 have loop : codeAny (model X.prog X.w) X.A (.compLoop (.ListComp elt gens scope pos) d (.ref it) (.ref D) X.env) (fun r s' => r = .ok .next /\ ∃ σ' H', Inv X pins σ' H' s' /\ Q σ' H') s := by
  refine vo hg (fun n s' => ∃ i σ' H', Inv X pins σ' H' s' /\ tn i s'.heap /\ (∀ b ∈ fp, H' b = none) /\ W i n σ' H') ?_ m0 ⟨0, σ, H, I, st, fun b hb => (hf b hb).1, w0⟩
  rintro n s3 ⟨i, σ3, H3, I3, st3, fr3, w3⟩
  rcases turn i n σ3 H3 w3 with ⟨stop, qn⟩ | ⟨go, N, hN, step⟩
  ·refine thn (T.done X rfl rfl rfl hc i pins s3 σ3 H3 _ I3 (stat fr3) st3 stop) fun r s4 ⟨hr, I4⟩ => ?_
   subst hr
   exact ⟨rfl, σ3, H3, I4, qn⟩
  ·refine thn (T.item X rfl rfl rfl hc i pins s3 σ3 H3 _ I3 (stat fr3) st3 go) fun r s4 ⟨u, hr, h4⟩ => ?_
   subst hr
   refine thn h4 fun _ s5 ⟨x, H5, I5, r5, y5, st5, fr5⟩ => ?_
   have I5' := I5.pinned (stat fr5) (T.obj _ _ st5)
   have again : ∀ {σ7 : St} {H7 : Hp} {s7 : Shared}, Inv X (pins ++ jI fp s5.heap) σ7 H7 s7 -> N σ7 H7 -> ∃ m, m < n /\ ∃ i σ' H', Inv X pins σ' H' s7 /\ tn i s7.heap /\ (∀ b ∈ fp, H' b = none) /\ W i m σ' H' := fun {σ7 H7 s7} I7 n7 => by
    obtain ⟨m', hm, w7⟩ := hN σ7 H7 n7
    refine ⟨m', hm, i + 1, σ7, H7, I7.unpinned, T.keep _ _ _ st5 fun b hb o e => (I7.pin (b, o) (List.mem_append_right _ (List.mem_append_right _ (gm hb e)))).1, fun b hb => ?_, w7⟩
    obtain ⟨o, e, d⟩ := T.obj _ _ st5 b hb
    exact (I7.pin (b, o) (List.mem_append_right _ (List.mem_append_right _ (gm hb e)))).2.1
   have h6 := hgt _ s5 σ3 H5 x u _ I5' r5 (step x H5 y5)
   rw [hxe] at h6
   refine thn h6 fun _ s6 ⟨σ6, H6, I6, q6⟩ => ?_
   have h7 := hts _ s6 σ6 H6 _ I6 q6
   rw [hxe] at h7
   refine thn h7 fun b s7 ⟨H7, I7, q7⟩ => ?_
   cases b with
   | true =>
    rw [if_pos rfl] at q7 ⊢
    intro k Q' E' hk
    refine hb _ s7 σ6 H7 N I7 q7 k Q' E' fun s8 σ8 H8 I8 n8 => ?_
    obtain ⟨m, hm, z⟩ := again I8 n8
    exact hk s8 m hm z
   | false =>
    rw [if_neg Bool.false_ne_true] at q7 ⊢
    exact again I7 q7
 exact sV hg loop (T.self X.A 0 s _ _ st loop)
theorem aR {te : TE} (hg : gens[d + 1]? = none) (he : PE X elt te) (hxe : X.xe = fun _ _ => False) : PB X elt gens scope pos d D (sF D te) := by
 intro pins s σ H Q I h k Q' E' hk
 unfold iH
 rw [hg]
 have h1 := he pins s σ H _ I h
 rw [hxe] at h1
 refine wpAny_bind (wpAny_bind (wpAny_mono h1 (fun u s1 ⟨v, H1, I1, r, xs, hD, hz, q⟩ => ?_) fun _ _ f => f.elim))
 obtain ⟨z, its, n, rv, hl, e⟩ := I1.lstM hD
 refine wpAny_bind (call_meets F.slot_list_append ⟨_, e, rfl⟩ F.entry_list_append (F.args_list_append_2 _ _) (PySem.list_append D its.toArray n u (by rw [List.size_toArray]; omega)) ⟨e, ?_⟩)
 refine wpAny_pure (hk _ σ _ (I1.lset (its' := its ++ [u]) hD e (by simp) (rv.append (.cons r .nil)) ?_) q)
 rw [List.length_append, List.length_singleton]
 omega
theorem qF {target' iter' : Expr} {ifs' : List Expr} {g : TG} {tt : TT} {tb : TB} {wi : TI} (hg : gens[d + 1]? = some ⟨target', iter', ifs', 0⟩) (hc : X.calm = true) (hxe : X.xe = fun _ _ => False) (hi : PI X target' iter' wi)
  (hgt : PG X target' g) (hts : fJ X ifs' tt) (hb : PB X elt gens scope pos (d + 1) D tb) (hs : ∀ x, foldedSetIterable iter' X.env x = pure x := by intro _; rfl) : PB X elt gens scope pos d D (w9 wi fun J => eE J g tt tb) := by
 intro pins s σ H Q I h k Q' E' hk
 unfold iH
 rw [hg]
 have h1 := hi pins s σ H _ I h
 rw [hxe] at h1
 refine wpAny_bind (wpAny_mono h1 (fun v s1 h1 => wpAny_bind (wpAny_standAt ?_)) fun _ _ f => f.elim)
 show wpAny _ _ (foldedSetIterable iter' X.env v >>= _) _ _ _
 refine wpAny_bind (wpAny_of_eq (hs v) ?_)
 show wpAny _ _ (holding [v] (pyIter v) >>= _) _ _ _
 refine wpAny_bind (wpAny_holding (wpAny_mono h1 (fun itv s2 h2 => ?_) fun _ _ f => f.elim))
 obtain ⟨it, fp, tn, J, H2, e, I2, T, st2, f2, q⟩ := h2
 subst e
 refine wpAny_bind (wpAny_runOwn (codeAny_mono (n5 hg hc hxe hgt hts hb I2 T st2 f2 q) fun r s' ⟨hr, z⟩ => ?_))
 subst hr
 obtain ⟨σ', H', I', q'⟩ := z
 exact hk s' σ' H' I' q'
end
def j8 (vars : List Str) (caps : List Nat) (σ : St) : St := List.replicate vars.length none ++ caps.map (fun j => σ.getD j none)
def lE (vars : List Str) (caps : List Nat) (wi : TI) (lp : Addr -> It -> TB) : TE := fun σ H Q => wi σ H fun J H1 => ∀ D, H1 D = none -> lp D J (j8 vars caps σ) (upd H1 D (.lst [])) fun _ H' => Q (.ref D) H'
structure CmpScope (X : Cx) (scope : Scope) (Nc vars : List Str) (caps : List Nat) : Prop where
 kind : scope.kind = .function
 nd : (scope.names.map (·.1)).Nodup
 free : ∀ y ∈ scope.names, y.2 = .free -> X.env.kindOf y.1 = some .cell \/ X.env.kindOf y.1 = some .free
 names : Nc = vars ++ caps.map (fun j => X.N.getD j Str.empty)
 cap : ∀ j ∈ caps, j < X.N.length /\ scope.names.lookup (X.N.getD j Str.empty) = some .free
section
variable {X : Cx} {elt target iter : Expr} {ifs : List Expr} {rest : List Comprehension} {scope : Scope} {pos : Pos} {Nc vars : List Str} {caps : List Nat} {g : TG} {tt : TT} {tb : Addr -> TB} {wi : TI}
def Ax (X : Cx) (pins : List (Addr × Obj)) (H : Hp) (C : Addr) : Prop := H C = none /\ C ≠ X.env.locals /\ X.s₀.heap.objs.size <= C /\ (∀ x c, X.env.cells.lookup x = some c -> c ≠ C) /\ ∀ p ∈ X.pn ++ pins, p.1 ≠ C
theorem n6 {pins : List (Addr × Obj)} {σ : St} {H : Hp} {s : Shared} {it : Addr} {fp : List Addr} {tn : Nat -> Heap -> Prop} {J : It} {E : Value -> Shared -> Prop} {QQ : Addr -> Hp -> Prop} {RR : Value -> Addr -> Result -> Shared -> Prop}
  (hc : X.calm = true) (S : CmpScope X scope Nc vars caps)
  (hb : ∀ (cl : List (Str × Addr)) (C : Addr) (fp : List Addr) (s : Shared) (H : Hp), PG (aZ X Nc scope cl C fp s H) target g /\ fJ (aZ X Nc scope cl C fp s H) ifs tt /\ ∀ D, PB (aZ X Nc scope cl C fp s H) elt (⟨target, iter, ifs, 0⟩ :: rest) scope pos 0 D (tb D))
  (I : Inv X pins σ H s) (T : Turn X.prog X.w X.K target J fp it tn) (st : tn 0 s.heap) (hf : ∀ b ∈ fp, d8 X pins H b)
  (q : ∀ D, H D = none -> eE J g tt (tb D) (j8 vars caps σ) (upd H D (.lst [])) fun _ H' => QQ D H')
  (hRR : ∀ (D C : Addr) (s' : Shared) (H' : Hp) (m : Str -> Option Value), Inv X pins σ H' s' -> s'.heap.Ns C m -> Ax X pins H' C -> QQ D H' -> RR (.ref D) C (.ok .next) s') :
  wpAny (model X.prog X.w) X.A (newList []) (fun acc s₃ => wpAny (model X.prog X.w) X.A (newFunctionEnv scope X.env.globals (cy X.env.cells scope.names []) [] X.env.qual none .none (some X.env)) (fun cenv s₄ =>
   codeAny (model X.prog X.w) X.A (.compStart (.ListComp elt (⟨target, iter, ifs, 0⟩ :: rest) scope pos) 0 (.ref it) acc { cenv with scope := relabel scope X.env }) (RR acc cenv.locals) s₄) E s₃) E s := by
 refine wpAny_newObj_type ?_
 have hD : H s.heap.objs.size = none := I.fresh
 have I3 : Inv X pins σ (upd H s.heap.objs.size (.lst [])) { s with heap := s.heap.push { cls := .type "list", data := .seq ([] : List Value).toArray } } := I.lnew (t' := s.toks) .nil (Nat.zero_le _)
 generalize hs3 : ({ s with heap := s.heap.push { cls := .type "list", data := .seq ([] : List Value).toArray } } : Shared) = s3 at I3
 have q3 := q s.heap.objs.size hD
 have kp3 : ∀ b o, s.heap.get? b = some o -> s3.heap.get? b = some o := fun b o e => by rw [← hs3]; exact Heap.get?_push_of_some _ e
 have fo3 : ∀ b ∈ fp, ∃ o, s3.heap.get? b = some o := fun b hb => let ⟨o, e, _⟩ := T.obj _ _ st b hb; ⟨o, kp3 b o e⟩
 have f3 : ∀ b ∈ fp, d8 X pins (upd H s.heap.objs.size (.lst [])) b := fun b hb' => ⟨by
  rw [upd_ne]
  ·exact (hf b hb').1
  ·obtain ⟨o, e, _⟩ := T.obj _ _ st b hb'
   exact Nat.ne_of_lt (Heap.lt_size e), (hf b hb').2⟩
 generalize hH3 : upd H s.heap.objs.size (.lst []) = H3 at I3 q3 f3
 generalize s.heap.objs.size = D at hD hH3 q3 ⊢
 refine vM fun h' ns keep ce ca => ?_
 have Ic := vB I3 S.kind S.nd S.free S.names S.cap f3 fo3 ns keep ce ca
 obtain ⟨b1, b2, b3⟩ := hb (cellsFrom (s3.heap.objs.size + 1) scope.names (cy X.env.cells scope.names [])) s3.heap.objs.size fp s3 H3
 have st4 : tn 0 h' := T.keep _ _ _ st fun b hb o e => keep b o (kp3 b o e)
 have f4 : ∀ b ∈ fp, d8 (aZ X Nc scope (cellsFrom (s3.heap.objs.size + 1) scope.names (cy X.env.cells scope.names [])) s3.heap.objs.size fp s3 H3) [] H3 b := fun b hb' =>
  ⟨(f3 b hb').1, (Ic.ok.exf b hb').1, Ic.ok.exfs b hb', .inl hb', (Ic.ok.exf b hb').2, fun p hp => absurd hp (by simp)⟩
 refine codeAny_mono (n5 (X := aZ X Nc scope (cellsFrom (s3.heap.objs.size + 1) scope.names (cy X.env.cells scope.names [])) s3.heap.objs.size fp s3 H3) (gens := ⟨target, iter, ifs, 0⟩ :: rest) (d := 0) rfl hc rfl b1 b2 (b3 D) Ic T st4 f4 q3) fun r s' ⟨hr, σ', H', I', q'⟩ => ?_
 subst hr
 obtain ⟨m, hm, _⟩ := I'.loc
 have C1 : X.env.locals < s3.heap.objs.size := I3.lt
 refine hRR D _ s' H' m (I3.call' (ch := fp) I'.os I'.base I'.hok I'.bare fun b hb' => ?_) hm ⟨I'.free, Nat.ne_of_gt C1, I3.sz, fun x c e z => ?_, fun p hp z => ?_⟩ q'
 ·obtain ⟨_, h2, h3, h4, h5, h6⟩ := hf b hb'
  exact ⟨h4, h2, h5, h6⟩
 ·obtain ⟨v, e'⟩ := I3.cell x c e
  exact absurd (z ▸ e'.lt) (Nat.lt_irrefl _)
 ·have := Heap.lt_size (I3.pin p hp).1
  rw [z] at this
  exact absurd this (Nat.lt_irrefl _)
theorem Inv.letgo {pins : List (Addr × Obj)} {σ : St} {H : Hp} {s : Shared} {C : Addr} {h' : Heap} (I : Inv X pins σ H s) (o : Ax X pins H C) (hs : Heap.SameBut C s.heap h') : Inv X pins σ H { s with heap := h' } :=
 I.turned (t' := s.toks) (fun b ob hb e => (hs.2 b hb).trans e) o.1 (Ne.symm (Ne.symm o.2.1)) (.inr o.2.2.1) o.2.2.2.1 o.2.2.2.2
theorem CmpScope.clo (S : CmpScope X scope Nc vars caps) (ok : X.Ok) : closureFor scope X.env = pure (cy X.env.cells scope.names []) := sC fun y hy hk => ok.has y.1 (S.free y hy hk)
theorem CmpScope.loc (S : CmpScope X scope Nc vars caps) : ∀ x ∈ scope.names, x.2 = .local -> scope.names.lookup x.1 = some .local := fun x hx hk => cq S.nd (by rw [← hk]; exact hx)
theorem kq (hc : X.calm = true) (S : CmpScope X scope Nc vars caps) (hi : PI X target iter wi)
  (hb : ∀ (cl : List (Str × Addr)) (C : Addr) (fp : List Addr) (s : Shared) (H : Hp), PG (aZ X Nc scope cl C fp s H) target g /\ fJ (aZ X Nc scope cl C fp s H) ifs tt /\ ∀ D, PB (aZ X Nc scope cl C fp s H) elt (⟨target, iter, ifs, 0⟩ :: rest) scope pos 0 D (tb D))
  (hs : ∀ x, foldedSetIterable iter X.env x = pure x := by intro _; rfl) : PE X (.ListComp elt (⟨target, iter, ifs, 0⟩ :: rest) scope pos) (lE vars caps wi fun D J => eE J g tt (tb D)) := by
 intro pins s σ H Q I h
 rw [eval_ListComp]
 refine wpAny_comprehension_free (use := none) rfl hs (S.clo I.ok) S.kind S.loc (wpAny_mono (hi pins s σ H _ I h) (fun v s1 h1 => wpAny_mono h1 (fun itv s2 h2 => ?_) fun _ _ x => x) fun _ _ x => x)
 obtain ⟨it, fp, tn, J, H2, e, I2, T, st2, f2, q⟩ := h2
 subst e
 refine n6 (RR := fun acc C => compPost (model X.prog X.w) X.A X.xe none _ acc C) hc S hb I2 T st2 f2 q fun D C s' H' m I' ns oc q' => ?_
 exact ⟨m, ns, fun h' hs' => ⟨.ref D, H', I'.letgo oc hs', rfl, q'⟩⟩
theorem mI {i : Nat} {x : Str} {pos' spos : Pos} (hN : X.N.Nodup) (hi' : X.N[i]? = some x) (hx : Loc X.env.scope x) (hc : X.calm = true) (S : CmpScope X scope Nc vars caps) (hi : PI X target iter wi)
  (hb : ∀ (cl : List (Str × Addr)) (C : Addr) (fp : List Addr) (s : Shared) (H : Hp), PG (aZ X Nc scope cl C fp s H) target g /\ fJ (aZ X Nc scope cl C fp s H) ifs tt /\ ∀ D, PB (aZ X Nc scope cl C fp s H) elt (⟨target, iter, ifs, 0⟩ :: rest) scope pos 0 D (tb D))
  (hsw : swapsWith (.ListComp elt (⟨target, iter, ifs, 0⟩ :: rest) scope pos) (some (.Name x pos')) spos.line X.env = pure true := by rfl)
  (hs : ∀ x, foldedSetIterable iter X.env x = pure x := by intro _; rfl) (hf : X.fn x = true \/ X.env.scope.names.lookup x = some .local := by first | exact .inl rfl | exact .inr rfl | assumption) :
  PS X (.Assign [.Name x pos'] (.ListComp elt (⟨target, iter, ifs, 0⟩ :: rest) scope pos) spos) (fA (lE vars caps wi fun D J => eE J g tt (tb D)) (eD i)) := by
 intro pins s σ H D I h
 rw [exec_Assign_Name_used _ _ _ _ hsw]
 refine wpAny_bind (wpAny_standAt (wpAny_bind ?_))
 show wpAny _ X.A (do let _ ← comprehension (.ListComp elt (⟨target, iter, ifs, 0⟩ :: rest) scope pos) scope X.env _ (newList []) false (eval iter X.env) (some (assign (.Name x pos') X.env))) _ _ s
 refine wpAny_bind (wpAny_mono (wpAny_comprehension_free (use := some (assign (.Name x pos') X.env)) (Q := fun _ s' => SP X pins D .next s') rfl hs (S.clo I.ok) S.kind S.loc
  (wpAny_mono (hi pins s σ H _ I h) (fun v s1 h1 => wpAny_mono h1 (fun itv s2 h2 => ?_) fun _ _ e => e) fun _ _ e => e)) (fun _ s' hq => wpAny_pure (wpAny_pure hq)) fun _ _ e => e)
 obtain ⟨it, fp, tn, J, H2, e, I2, T, st2, f2, q⟩ := h2
 subst e
 refine n6 (RR := fun acc C => compPost (model X.prog X.w) X.A X.xe (some (assign (.Name x pos') X.env)) _ acc C) hc S hb I2 T st2 f2 q fun A C s' H' m I' ns oc q' => ?_
 show wpAny _ X.A (assign (.Name x pos') X.env (.ref A)) _ _ s'
 refine wpAny_assign_Name (nJ I' hN hi' hx (v := .ref A) rfl (fun s2 I2 ⟨a, sb, ha⟩ => ?_) hf)
 have hCa : C ≠ a := by
  rcases ha with rfl | ha
  ·exact oc.2.1
  ·exact fun z => oc.2.2.2.1 x a ha z.symm
 exact ⟨m, ns.sameBut sb hCa, fun h' hs' => ⟨_, H', I2.letgo oc hs', q'⟩⟩
end
end L2
namespace L2
open PySem PySem.Spec
open Sem (wp)
open Builtin Builtin.ObjectAttr
abbrev cr (C : Addr) (dx : Option Addr) (t : Addr) : Obj := { cls := .ref C, dict := dx, data := .fields #[.ref t, .none, .none, .none, .bool false, .none] }
structure XShape (h : Heap) (C : Addr) (bm : List Value) : Prop where
 at_ : ∃ (nm q : Str) (N : Addr) (bs : List Value) (hdct : Bool) (sn : List Str) (sub : List Value) (ab : Bool) (col : Option Bool) (dd : Option Addr) (k0 k1 k2 k3 k5 : Option Value),
  h.get? C = some (excClassObj nm q C N bs bm hdct sn sub ab col dd k0 k1 k2 k3 k5 "ValueError.__new__")
 val : bm.contains (.type "ValueError") = true
 bas : bm.contains (.type "BaseException") = true
 att : bm.contains (.type "AttributeError") = false
 nam : bm.contains (.type "NameError") = false
section
variable {prog : Program} {w : World} {A : Around} {E : Value -> Shared -> Prop} {h : Heap} {g : Array GenState} {d : Drawn} {t : Nat} {os : OsState} {C : Addr} {bm rest : List Value}
theorem x6 {R : Result -> Shared -> Prop} (S : XShape h C bm)
  (hq : R (.ok (.ret (.ref (h.objs.size + 1)))) ⟨(h.push { cls := .type "tuple", data := .seq rest.toArray }).push (cr C none h.objs.size), g, d, t, os⟩) (hrest : rest.length <= sizeLine) :
  codeAny (model prog w) A (.builtin "ValueError.__new__" ⟨.ref C :: rest, []⟩) R ⟨h, g, d, t, os⟩ := by
 obtain ⟨⟨nm, q, N, bs, hdct, sn, sub, ab, col, dd, k0, k1, k2, k3, k5, hC⟩, hV, hB, hA, hN⟩ := S
 have Fv := PySem.F.excBase_ValueError
 have hends := Fv.ends
 have hcB : (Value.ref C :: bm).contains (.type "ValueError") = true := by rw [List.contains_cons, hV, Bool.or_true]
 have hcA : (Value.ref C :: bm).contains (.type "AttributeError") = false := by rw [List.contains_cons, hA]; rfl
 have hcN : (Value.ref C :: bm).contains (.type "NameError") = false := by rw [List.contains_cons, hN]; rfl
 refine codeAny_builtinAt Fv.entry ?_
 unfold Builtin.«BaseException.__new__»
 refine wpAt_bind ?_
 show wpAt _ _ _ (stack >>= _) _ _ _
 refine wpAt_bind (wpAt_stack fun p below => wpAt_of_wpAny ?_)
 wp_walk
 refine wpAt_of_wpAny ?_
 rw [Fv.owner]
 repeat (first | with_reducible refine wpAny_madeHere_exc Fv.canon hC ?_ | with_reducible refine wpAny_loadPart_at hC ?_ | (with_reducible refine wpAny_isSubtype_exc hC ?_; first | rw [hcB] | rw [hcA] | rw [hcN]) | wp_step)
 show R _ _
 rw [Heap.size_push]
 exact hq
theorem oE {K : Frag} {fI : Addr} {Q : PySem.Fin -> Shared -> Prop} (X : K.In h) (S : XShape h C bm) (hi : findIn K (.ref C) "__init__" = some (some (.ref fI))) (hf : isFn K (.ref fI) = true) (hrest : rest.length <= sizeLine)
  (hq : wpAny (model prog w) A (call (.ref fI) (.ref (h.objs.size + 1) :: rest)) (fun r s' => r = .none /\ Q (.done (.ret (.ref (h.objs.size + 1)))) s') E
   ⟨(h.push { cls := .type "tuple", data := .seq rest.toArray }).push { cls := .ref C, data := .fields #[.ref h.objs.size, .none, .none, .none, .bool false, .none] }, g, d, t, os⟩) :
  wpAny (model prog w) A (Builtin.«type.__call__» ⟨.ref C :: rest, []⟩) Q E ⟨h, g, d, t, os⟩ := by
 have S' := S
 obtain ⟨⟨nm, q, N, bs, hdct, sn, sub, ab, col, dd, k0, k1, k2, k3, k5, hC⟩, hV, hB, hA, hN⟩ := S
 have Fv := PySem.F.excBase_ValueError
 repeat (first | with_reducible refine wpAny_loadPart_at hC ?_ | with_reducible refine wpAny_madeBy_exc hC ?_ | wp_step)
 refine codeAny_call_builtin_code (Code.quiet_builtin _ Fv.quiet) (wpAny_check_new_subU Fv hV (OwnTail.base (bmB := bm)) hC ?_)
 refine x6 S' ?_ hrest
 show wpAny _ _ _ _ _ _
 have keep : ∀ b o, h.get? b = some o -> ((h.push { cls := .type "tuple", data := .seq rest.toArray }).push { cls := .ref C, data := .fields #[.ref h.objs.size, .none, .none, .none, .bool false, .none] }).get? b = some o := fun b o e => Heap.get?_push_of_some _ (Heap.get?_push_of_some _ e)
 have hC1 := keep _ _ hC
 have X1 := X.keeps keep
 have hget : ((h.push { cls := .type "tuple", data := .seq rest.toArray }).push { cls := .ref C, data := .fields #[.ref h.objs.size, .none, .none, .none, .bool false, .none] }).get? (h.objs.size + 1) = some { cls := .ref C, data := .fields #[.ref h.objs.size, .none, .none, .none, .bool false, .none] } := by heap_get
 have hcC : (Value.ref C :: bm).contains (.ref C) = true := by simp
 unfold isInstance
 repeat (first | with_reducible refine wpAny_loadPart_at hget ?_ | (with_reducible refine wpAny_isSubtype_exc hC1 ?_; rw [hcC]) | wp_step)
 show wpAny _ _ (typeLookup (.ref C) _) _ _ _
 refine (looks_findIn X1 hi).here ?_
 refine wpAny_holding (wpAny_bind ((PySem.W.bind_fn X1 (.ref (h.objs.size + 1)) (beq_iff_eq.mp hf)).here ?_))
 refine wpAny_bind (wpAny_mono hq (fun r s' hr => ?_) fun _ _ x => x)
 obtain ⟨rfl, hQ⟩ := hr
 wp_walk
 exact hQ
theorem vK {K : Frag} {fI : Addr} {Q : Value -> Shared -> Prop} (X : K.In h) (S : XShape h C bm) (hi : findIn K (.ref C) "__init__" = some (some (.ref fI))) (hf : isFn K (.ref fI) = true) (hrest : rest.length <= sizeLine)
  (hq : wpAny (model prog w) (A.under (.builtin "type.__call__" ⟨.ref C :: rest, []⟩)) (call (.ref fI) (.ref (h.objs.size + 1) :: rest)) (fun r s' => r = .none /\ Q (.ref (h.objs.size + 1)) s') E
   ⟨(h.push { cls := .type "tuple", data := .seq rest.toArray }).push { cls := .ref C, data := .fields #[.ref h.objs.size, .none, .none, .none, .bool false, .none] }, g, d, t, os⟩) :
  wpAny (model prog w) A (call (.ref C) rest) Q E ⟨h, g, d, t, os⟩ := by
 have S' := S
 obtain ⟨⟨nm, q, N, bs, hdct, sn, sub, ab, col, dd, k0, k1, k2, k3, k5, hC⟩, hV, hB, hA, hN⟩ := S
 have f1 := tc_lookup
 have f2 := tc_bind (.ref C)
 have hT : (⟨h, g, d, t, os⟩ : Shared).TypeIs (.ref C) "type" := ⟨_, hC, rfl⟩
 refine wpAny_call (codeAny_of_tree ?_)
 show wpAny _ _ (callAny (.ref C) _) _ _ _
 repeat (any_goals (first | assumption | with_reducible refine wpAny_loadPart_at hC ?_ | wp_step))
 refine ⟨rfl, ?_⟩
 exact codeAny_call_builtin_at (Code.quiet_builtin _ (by decide +kernel)) entry_typeCall (wpAny_check_type_call_sub hC (oE X S' hi hf hrest hq))
theorem m9 {oe : Obj} {M : Model} {e : Addr} {Q : Unit -> Shared -> Prop} (S : XShape h C bm) (he : h.get? e = some oe) (hcls : oe.cls = .ref C) (hq : Q () ⟨h, g, d, t, os⟩) :
  wpAny M A (checkBuiltinCall "ValueError.__init__" ⟨.ref e :: rest, []⟩) Q E ⟨h, g, d, t, os⟩ := by
 obtain ⟨⟨nm, q, N, bs, hdct, sn, sub, ab, col, dd, k0, k1, k2, k3, k5, hC⟩, hV, hB, hA, hN⟩ := S
 have Fv := PySem.F.excBase_ValueError
 have hcB : (Value.ref C :: bm).contains (.type "ValueError") = true := by rw [List.contains_cons, hV, Bool.or_true]
 have hshort := Fv.noStar
 simp only [checkBuiltinCall, Fv.initKind, Fv.initSplit, Fv.initRow]
 repeat (first | (with_reducible refine wpAny_loadPart_at he ?_; rw [hcls]) | with_reducible refine wpAny_loadPart_at hC ?_ | (with_reducible refine wpAny_isSubtype_exc hC ?_; rw [hcB]) | wp_step)
 refine wpAny_onRaise ?_
 have star : ∀ (a b : String) (n : Nat), Bind.check ⟨.positional, "*", "ValueError", .self, [⟨"args", .varPos, false⟩]⟩ a b n (List.map (fun x => x.fst) ({ pos := Value.ref e :: rest } : Args).kw) = pure () := fun a b n => check_star_args _ _ _ _ _ _
 rw [star]
 exact wpAny_pure hq
theorem um {dx : Option Addr} {t0 e : Addr} {Q : Value -> Shared -> Prop} (S : XShape h C bm) (he : h.get? e = some (cr C dx t0)) (hrest : rest.length <= sizeLine)
  (hq : ∀ h' : Heap, h'.get? e = some (cr C dx h.objs.size) -> (∀ b o, b ≠ e -> h.get? b = some o -> h'.get? b = some o) -> Q .none ⟨h', g, d, t, os⟩) :
  wpAny (model prog w) A (call (.builtin "ValueError.__init__") (.ref e :: rest)) Q E ⟨h, g, d, t, os⟩ := by
 have Fv := PySem.F.excBase_ValueError
 refine wpAny_call (codeAny_call_builtin Fv.init.plain Fv.initEntry (m9 S he rfl ?_))
 have he2 := Heap.get?_push_of_some { cls := .type "tuple", data := .seq rest.toArray } he
 unfold Builtin.«BaseException.__init__»
 dsimp only
 refine wpAny_bind ?_
 refine wpAny_newTuple ?_ hrest
 unfold Builtin.BaseException.bexcPut
 refine wpAny_bind (wpAny_bind (wpAny_field he2 rfl (x := .ref t0) rfl ?_))
 refine wpAny_bind (wpAny_setField he2 rfl (by simp) ?_)
 dsimp only
 refine wpAny_letGo (wpAny_pure ?_)
 refine hq _ ?_ fun b o hb e1 => ?_
 ·rw [Heap.get?_update_self _ he2 rfl]
  rfl
 ·rw [Heap.get?_update_other _ _ (Ne.symm hb)]
  exact Heap.get?_push_of_some _ e1
end
def dX : List Value -> Bool
 | [.type a, .type b, .type c, .type d] => a == "ValueError" && b == "Exception" && c == "BaseException" && d == "object"
 | .ref _ :: r => dX r
 | _ => false
theorem pq (self : Value) : refuseLoop self "__setattr__" [.type "ValueError", .type "Exception", .type "BaseException", .type "object"] = pure () := by kernel_rfl
theorem lN (self : Value) : ∀ {l : List Value}, dX l = true -> refuseLoop self "__setattr__" l = pure ()
 | [.type a, .type b, .type c, .type d], e => by
  simp only [dX, Bool.and_eq_true, beq_iff_eq] at e
  obtain ⟨⟨⟨rfl, rfl⟩, rfl⟩, rfl⟩ := e
  exact pq self
 | .ref c :: r, e => by rw [refuseLoop_ref]; exact lN self (by cases r <;> exact e)
theorem qT : ∀ {l : List Value}, dX l = true -> l.contains (.type "object") = true
 | [.type a, .type b, .type c, .type d], e => by
  simp only [dX, Bool.and_eq_true, beq_iff_eq] at e
  obtain ⟨⟨⟨rfl, rfl⟩, rfl⟩, rfl⟩ := e
  decide
 | .ref c :: r, e => by rw [List.contains_cons, qT (l := r) (by cases r <;> exact e), Bool.or_true]
section
variable {prog : Program} {w : World} {A : Around} {E : Value -> Shared -> Prop} {s : Shared} {C e : Addr} {K : Frag} {cd : ClassData} {name : Str} {v : Value}
theorem vJ {R : Result -> Shared -> Prop} {tk : Tok} {oe : Obj} (X : K.In s.heap) (he : s.heap.get? e = some oe) (hcls : oe.cls = .ref C) (hc : clsIn K C = some cd) (hl : dX cd.mro = true) (ht : findIn K (.ref C) name = some none)
  (h : ∀ b, wpAny (model prog w) A.in1 (storeInOwnDict (.ref e) (.ref C) (.str name tk) name v b)
   (fun fin s' => match fin with | .done f => R (.ok f) s' | .again c' => c'.quiet = true /\ codeAny (model prog w) A c' R s') (fun x s' => R (.error x) s') s) :
  codeAny (model prog w) A (.call (.builtin "object.__setattr__") ⟨[.ref e, .str name tk, v], []⟩) R s := by
 have SF := PySem.F.store_object
 have tp : Looks (model prog w) s.heap (typeOf (.ref e)) (.ref C) := by
  have := (PySem.W.Looks.ld (M := model prog w) (part := some headPart) he)
  exact this.andThen (by rw [hcls]; exact .now)
 have ne : cd.mro.isEmpty = false := by cases q : cd.mro with | nil => rw [q] at hl; cases hl | cons _ _ => rfl
 have sub : Looks (model prog w) s.heap (isInstance (.ref e) (.type "object")) true := tp.andThen (PySem.W.looks_mroIn X (by unfold mroIn; rw [hc, Option.bind_some, if_neg (by rw [ne]; decide), qT hl]))
 refine codeAny_call_builtin SF.slot.plain SF.entry (@PySem.W.check_slot (model prog w) _ _ s "object.__setattr__" "object" "__setattr__" (.ref e) [.str name tk, v] [] _ SF.kind SF.split sub (SF.args (.ref e) (.str name tk) v) ?_)
 have hm : Looks (model prog w) s.heap (mroOf (.ref C)) cd.mro := (looks_clsIn X hc).andThen .now
 rw [PySem.W.osa_eq, refuse_eq]
 refine wpAny_bind (wpAny_bind (tp.here (wpAny_bind (hm.here ?_))))
 rw [lN _ hl]
 refine wpAny_pure (wpAny_bind (tp.here (wpAny_bind ((looks_findIn X ht).here (wpAny_bind (wpAny_pure ?_))))))
 exact h _
theorem uq {oe : Obj} {Q : Unit -> Shared -> Prop} (X : K.In s.heap) (he : s.heap.get? e = some oe) (hcls : oe.cls = .ref C) (hs : findIn K (.ref C) "__setattr__" = some (some (.builtin "object.__setattr__")))
  (h : codeAny (model prog w) A (.call (.builtin "object.__setattr__") ⟨[.ref e, .str name s.toks, v], []⟩) (fun r s' => match r with | .ok (.ret _) => Q () s' | .ok _ => False | .error x => E x s') { s with toks := s.toks + 1 }) :
  wpAny (model prog w) A (setAttr (.ref e) name v) Q E s := by
 have tp : Looks (model prog w) s.heap (typeOf (.ref e)) (.ref C) := by
  have := (PySem.W.Looks.ld (M := model prog w) (part := some headPart) he)
  exact this.andThen (by rw [hcls]; exact .now)
 refine wpAny_bind (wpAny_mkText (wpAny_bind (wpAny_bind (wpAny_bind (tp _ _ _ _ (fun _ _ e => e) (looks_findIn X hs _ _ _ _ (fun _ _ e => e) (wpAny_holding ?_)))))))
 rw [PySem.F.store_object.slot.bind]
 refine wpAny_bind (wpAny_pure (wpAny_bind (wpAny_call (codeAny_mono h fun r s' z => ?_))))
 rcases r with x | (v | _ | _ | _) <;> first | exact z | exact wpAny_pure (wpAny_pure z)
theorem vI {t0 : Addr} {Q : Unit -> Shared -> Prop} (X : K.In s.heap) (he : s.heap.get? e = some (cr C none t0))
  (hs : findIn K (.ref C) "__setattr__" = some (some (.builtin "object.__setattr__"))) (hc : clsIn K C = some cd) (hd : cd.hasDict = true) (hl : dX cd.mro = true) (ht : findIn K (.ref C) name = some none)
  (hq : ∀ h' : Heap, h'.get? e = some (cr C (some s.heap.objs.size) t0) -> h'.Ns1 s.heap.objs.size (fun y => if y = name then some v else none) ->
   (∀ b o, b ≠ e -> s.heap.get? b = some o -> h'.get? b = some o) -> Q () { s with heap := h', toks := s.toks + 2 }) :
  wpAny (model prog w) A (setAttr (.ref e) name v) Q E s := by
 refine uq X he rfl hs (vJ (s := { s with toks := s.toks + 1 }) X he rfl hc hl ht fun b => ?_)
 refine wpAny_bind (wpAny_pure (wpAny_bind (wpAny_bind (wpAny_loadPart he (wpAny_bind (PySem.W.Looks.here (s := { s with toks := s.toks + 1 }) (looks_clsIn X hc) ?_))))))
 rw [hd]
 refine wpAny_bind (wpAny_alloc ?_)
 have he2 := Heap.get?_push_of_some { cls := .type "dict", data := .dict #[] } he
 refine wpAny_bind (wpAny_update he2 (wpAny_pure ?_))
 have hu : ((s.heap.push { cls := .type "dict", data := .dict #[] }).update e fun o => { o with dict := some s.heap.objs.size }).get? e = some (cr C (some s.heap.objs.size) t0) := Heap.get?_update_self _ he2 rfl
 have hne : s.heap.objs.size ≠ e := Nat.ne_of_gt (Heap.lt_size he)
 have hn : ((s.heap.push { cls := .type "dict", data := .dict #[] }).update e fun o => { o with dict := some s.heap.objs.size }).Ns1 s.heap.objs.size fun _ => none := by
  refine Heap.Ns1.of_empty ((Heap.Ns.new s.heap (.type "dict")).sameBut (Heap.SameBut.update ..) hne)
 refine wpAny_bind (wpAny_pure (wpAny_bind ?_))
 refine wpAny_nsSet1 hn fun h' hn2 hs2 => ?_
 obtain ⟨oD, esD, epD, hoD, hdD, hcD⟩ := hn2.count (PySem.Within.cons name v PySem.Within.nil)
 refine wpAny_bind (wpAny_lookBehind hoD (by rw [hdD]; exact pastItsLine_dict (Nat.le_trans hcD (by show 1 <= sizeLine + 1; decide))) ?_)
 refine wpAny_pure (hq h' ((hs2.2 _ (Ne.symm hne)).trans hu) hn2 fun b o hb e1 => ?_)
 have hbs : b ≠ s.heap.objs.size := Nat.ne_of_lt (Heap.lt_size e1)
 refine (hs2.2 _ hbs).trans ?_
 rw [Heap.get?_update_other _ _ (Ne.symm hb)]
 exact Heap.get?_push_of_some _ e1
theorem uo {bm : List Value} {dx : Option Addr} {t0 : Addr} {env : Env} {M : Model} {x : Sem Value} {Q : Flow -> Shared -> Prop} (hh : A.handled = none)
  (h : wpAny M A x (fun v s₁ => ∃ e t0 dx C bm, v = .ref e /\ XShape s₁.heap C bm /\ s₁.heap.get? e = some (cr C dx t0) /\ E (.ref e) s₁) E s) : wpAny M A (raiseStmt env (some x) none) Q E s := by
 unfold raiseStmt
 refine wpAny_bind (wpAny_mono h (fun v s₁ h₁ => ?_) fun _ _ x => x)
 obtain ⟨e, t0, dx, C, bm, rfl, S, he, hE⟩ := h₁
 obtain ⟨⟨nm, q, N, bs, hdct, sn, sub, ab, col, dd, k0, k1, k2, k3, k5, hC⟩, hV, hB, hA, hN⟩ := S
 have hcB : (Value.ref C :: bm).contains (.type "BaseException") = true := by rw [List.contains_cons, hB, Bool.or_true]
 have he' : s₁.heap.get? e = some { cls := .ref C, dict := dx, data := .fields #[.ref t0, .none, .none, .none, .bool false, .none] } := he
 obtain ⟨hp, g, d, tk, os⟩ := s₁
 repeat (first | with_reducible refine wpAny_loadPart_at he' ?_ | with_reducible refine wpAny_loadPart_at hC ?_ | (with_reducible refine wpAny_isSubtype_exc hC ?_; rw [hcB]) | wp_step)
 exact wpAny_raiseNew_none hh hE
end
end L2
namespace L2
open PySem PySem.Spec PyProof.Rows
def de (C x : Addr) (dx : Option Addr) : HO := .ext fun h => ∃ t, h.get? x = some (cr C dx t)
theorem bo.there {P : Program} {w : World} {H : Hp} {h : Heap} {a : Addr} {o : HO} (x : bo P w H h a o) : ∃ ob, h.get? a = some ob := by
 cases o with
 | lst xs => obtain ⟨_, _, _, _, e⟩ := x; exact ⟨_, e⟩
 | tup xs => obtain ⟨_, _, _, _, e, _⟩ := x; exact ⟨_, e⟩
 | dK kvs => obtain ⟨_, _, _, _, o, _, _, e, _⟩ := x; exact ⟨_, e⟩
 | dT kvs => obtain ⟨_, _, _, _, o, _, _, e, _⟩ := x; exact ⟨_, e⟩
 | set S n => obtain ⟨o, _, _, _, e, _⟩ := x; exact ⟨_, e⟩
 | ins C dx fs => obtain ⟨_, _, _, e, _⟩ := x; exact ⟨_, e⟩
 | own y => exact x
 | xd fs => obtain ⟨_, ⟨_, _, _, e, _⟩, _⟩ := x; exact ⟨_, e⟩
 | rng lo hi => obtain ⟨_, _, _, e⟩ := x; exact ⟨_, e⟩
 | frz ob u => obtain ⟨e, _⟩ := x; exact ⟨_, e⟩
 | tbl ps => exact ⟨_, (show h.get? a = some _ from x)⟩
 | met f y => exact ⟨_, (show h.get? a = some _ from x)⟩
 | ext φ => obtain ⟨_, e, _⟩ := x; exact e
theorem nc {P : Program} {w : World} {H : Hp} {h : Heap} {C x t : Addr} {dx : Option Addr} (e : h.get? x = some (cr C dx t)) : bo P w H h x (de C x dx) :=
 ⟨⟨t, e⟩, ⟨_, e⟩, fun _ _ ⟨t, e1⟩ k => ⟨t, k _ e1⟩⟩
theorem i7 {P : Program} {w : World} {H : Hp} {h : Heap} {C x : Addr} {dx : Option Addr} (q : bo P w H h x (de C x dx)) : ∃ t, h.get? x = some (cr C dx t) := q.1
def eG (H : Hp) (x : Addr) : Hp := fun b => if b = x then none else H b
theorem uv {H : Hp} {x : Addr} : eG H x x = none := by unfold eG; rw [if_pos rfl]
theorem gu {H : Hp} {x b : Addr} (h : b ≠ x) : eG H x b = H b := by unfold eG; rw [if_neg h]
theorem uu {H : Hp} {x b : Addr} {o : HO} (h : eG H x b = some o) : b ≠ x /\ H b = some o := by
 unfold eG at h
 split at h
 ·cases h
 ·exact ⟨by assumption, h⟩
structure Flown (P : Program) (w : World) (outer : List Env) (H : Hp) (s : Shared) (E : XK) (x C : Addr) (H' : Hp) (s' : Shared) : Prop where
 os : s'.os = s.os
 bare : AllBare s'.gens
 un : Un (frs outer) [] H H' s.heap s'.heap
 hok : HOk P w H' s'.heap
 tr : ∃ (oe : Obj) (vs : Array Value) (T : Addr) (oT : Obj) (ts : Array Value) (a0 : Value), s'.heap.get? x = some oe /\ (oe.cls = .ref C /\ vs[0]? = some a0) /\ oe.data = .fields vs /\ vs[1]? = some (.ref T) /\ T ≠ x /\ s'.heap.get? T = some oT /\ oT.data = .fields ts /\ ts[3]? = some .none /\ H' T = none /\ s.heap.get? T = none
 xn : H' x = none
 xs : s.heap.get? x = none
 wish : E (.ref C) none H'
def CXE (P : Program) (w : World) : CXT := fun outer H s E e s' => ∃ x C H', e = .ref x /\ Flown P w outer H s E x C H' s'
theorem nU {X : Cx} {pins : List (Addr × Obj)} {σ : St} {H H' : Hp} {s s' : Shared} {h' : Heap} {ext : List Addr} {x C : Addr} {a0 : Value} {E : XK} (I : Inv X pins σ H s) (hst : X.stack = X.env :: X.outer) (hfr : X.env.frame = some X.env.locals) (hex : X.ex = [])
  (os : s'.os = X.s₀.os) (bare : AllBare s'.gens) (U0 : Un (frs X.stack) [] X.H₀ H' X.s₀.heap s'.heap) (hok : HOk X.prog X.w H' s'.heap) (hfn : ∀ b ∈ frs X.stack, H' b = none)
  (hext : ∀ b ∈ ext, X.s₀.heap.get? b = none /\ H' b = none) (hx : x ∈ ext) (wish : E (.ref C) none H')
  (L : Heap.LeftW (hideAll s'.heap (ext ++ frs X.stack)) (X.env :: X.outer) x (.ref C) a0 s'.heap h') : Flown X.prog X.w X.outer X.H₀ X.s₀ E x C H' { s' with heap := h' } := by
 obtain ⟨L1, L2, L3, L4⟩ := L
 have fsub : ∀ b ∈ frs X.outer, b ∈ frs X.stack := fun b hb => by
  rw [hst]; unfold frs; rw [List.filterMap_cons, hfr]; exact List.mem_cons_of_mem _ hb
 have fcase : ∀ b ∈ frs X.stack, b = X.env.locals \/ b ∈ frs X.outer := fun b hb => by
  rw [hst] at hb; unfold frs at hb; rw [List.filterMap_cons, hfr] at hb
  exact List.mem_cons.mp hb
 have nel : ∀ b o, X.s₀.heap.get? b = some o -> b ≠ X.env.locals := fun b o e => Nat.ne_of_lt (Nat.lt_of_lt_of_le (Heap.lt_size e) I.ok.above)
 have stay : ∀ b o, s'.heap.get? b = some o -> b ∉ ext -> b ∉ frs X.stack -> h'.get? b = some o := fun b o e h1 h2 =>
  L1 b o (hideAll_get _ e fun hm => (List.mem_append.mp hm).elim h1 h2)
 have nex : ∀ b o, X.s₀.heap.get? b = some o -> b ∉ ext := fun b o e hb => by rw [(hext b hb).1] at e; cases e
 have mem2 : ∀ b ∈ frs X.stack, ∃ o, h'.get? b = some o /\ ∀ vs, o.data ≠ .fields vs := fun b hb => (L2.mem (by rw [← hst]; exact hb)).2
 obtain ⟨oe, vs, T, oT, ts, he, hc, hd, h1, hnT, hTe, hT, hdT, h3⟩ := L3
 have hTT : H' T = none /\ X.s₀.heap.get? T = none := by
  by_cases hm : T ∈ ext ++ frs X.stack
  ·rcases List.mem_append.mp hm with hm | hm
   ·exact ⟨(hext T hm).2, (hext T hm).1⟩
   ·obtain ⟨o, e, nf⟩ := mem2 T hm
    rw [hT] at e; cases e
    exact absurd hdT (nf ts)
  ·have hs : s'.heap.get? T = none := by
    cases q : s'.heap.get? T with
    | none => rfl
    | some o => rw [hideAll_get _ q hm] at hnT; cases hnT
   constructor
   ·cases q : H' T with
    | none => rfl
    | some o => obtain ⟨ob, e⟩ := (hok T o q).there; rw [hs] at e; cases e
   ·cases q : X.s₀.heap.get? T with
    | none => rfl
    | some o => obtain ⟨ob, e⟩ := U0.there T o q (by simp); rw [hs] at e; cases e
 refine ⟨os, bare, ⟨fun b o e n hb _ => ?_, fun b o e n hb _ => ?_, fun b o e n hb => U0.free b o e n hb, fun b o e _ => ?_, U0.tups, U0.frzs, U0.tbls⟩, fun a o e => ?_, ⟨oe, vs, T, oT, ts, a0, he, hc, hd, h1, hTe, hT, hdT, h3, hTT.1, hTT.2⟩, (hext x hx).2, (hext x hx).1, wish⟩
 ·have nf : b ∉ frs X.stack := fun z => (fcase b z).elim (nel b o e) hb
  exact stay b o (U0.keep b o e n nf (by simp)) (nex b o e) nf
 ·obtain ⟨sl, e1⟩ := U0.slot b o e n (fsub b hb) (by simp)
  obtain ⟨_, o', e2, nf⟩ := I.ok.funs.mem hb
  rw [e] at e2; cases e2
  obtain ⟨sl', e3⟩ := L4 b _ e1 nf
  exact ⟨sl', e3⟩
 ·obtain ⟨o', e1⟩ := U0.there b o e (by simp)
  by_cases hb : b ∈ frs X.stack
  ·obtain ⟨o2, e2, _⟩ := mem2 b hb
   exact ⟨o2, e2⟩
  ·exact ⟨o', stay b o' e1 (nex b o e) hb⟩
 ·refine (hok a o e).stay (fun b u hb e1 => ?_) (fun _ q => q) fun _ _ q => q
  have hb' : H' b ≠ none := by
   rcases hb with rfl | hb
   ·rw [e]; simp
   ·rw [hb]; simp
  exact stay b u e1 (fun z => hb' (hext b z).2) fun z => hb' (hfn b z)
theorem nX {h base : Heap} {as : List Addr} {l : List Env} (hl : h.FunFrames base l) (hin : ∀ b ∈ frs l, b ∈ as) : h.FunFrames (hideAll h as) l :=
 PySem.W.funFrames_hide hl fun env he a ha => hin a (by unfold frs; exact List.mem_filterMap.mpr ⟨env, he, ha⟩)
theorem xG {X : Cx} {E E' : XK} (hst : X.stack = X.env :: X.outer) (hfr : X.env.frame = some X.env.locals) (hex : X.ex = []) (hE : ∀ cls dx H, E' cls dx H -> E cls dx H)
  {pins : List (Addr × Obj)} {σ : St} {H : Hp} {s s' : Shared} {e : Value} (I : Inv X pins σ H s) (h : CXE X.prog X.w X.stack H s E' e s') {E1 : Value -> Shared -> Prop} :
  wpAny (model X.prog X.w) X.A (leaving X.env e) (fun _ s'' => CXE X.prog X.w X.outer X.H₀ X.s₀ E e s'') E1 s' := by
 obtain ⟨x, C, H', rfl, os, bare, un, hok, ⟨oe, vs, T, oT, ts, a0, he, hc, hd, h1, hTe, hT, hdT, h3, hTn, hTs⟩, xn, xs, wish⟩ := h
 have nofs : ∀ b ∈ X.fs, b ∈ frs X.stack := fun b hb => by
  rw [hst]; unfold frs; rw [List.filterMap_cons, hfr]; exact List.mem_cons_of_mem _ hb
 have hU : Un (frs X.stack) [] X.H₀ H X.s₀.heap s.heap := by
  have b := I.base
  rw [hex] at b
  exact b.mono nofs fun _ z => z
 have U0 := hU.trans un
 have old : ∀ b, s.heap.get? b = none -> X.s₀.heap.get? b = none := fun b e => by
  cases q : X.s₀.heap.get? b with
  | none => rfl
  | some o => obtain ⟨o', e'⟩ := hU.there b o q (by simp); rw [e] at e'; cases e'
 have hstk := I.stack
 have hfun : s'.heap.FunFrames X.base X.stack := by
  have all : ∀ (l : List Env), (∀ b ∈ frs l, b ∈ frs X.stack) -> s.heap.FunFrames X.base l -> s'.heap.FunFrames X.base l := by
   intro l
   induction l with
   | nil => intro _ _; trivial
   | cons env r ih =>
    intro hs hl
    obtain ⟨hk, ⟨L, o, hf, hn, ho, hdd⟩, hr⟩ := hl
    have hL : L ∈ frs X.stack := hs L (by unfold frs; rw [List.filterMap_cons, hf]; exact List.mem_cons_self)
    obtain ⟨sl, e⟩ := un.slot L o ho (I.stkFree L hL) hL (by simp)
    exact ⟨hk, ⟨L, _, hf, hn, e, hdd⟩, ih (fun b hb => hs b (by unfold frs; rw [List.filterMap_cons, hf]; exact List.mem_cons_of_mem _ hb)) hr⟩
  exact all X.stack (fun _ hb => hb) hstk
 have hfn : ∀ b ∈ frs X.stack, H' b = none := fun b hb => by
  obtain ⟨_, o, ho, _⟩ := hstk.mem hb
  exact un.free b o ho (I.stkFree b hb) (by simp)
 have hin : ∀ b ∈ frs X.stack, b ∈ [x, T] ++ frs X.stack := fun b hb => List.mem_append_right _ hb
 have hF : s'.heap.FunFrames (hideAll s'.heap ([x, T] ++ frs X.stack)) (X.env :: X.outer) := by
  have z := nX hfun hin
  rw [hst] at z ⊢
  exact z
 refine wpAny_leaving_nextW (base := hideAll s'.heap ([x, T] ++ frs X.stack)) (by rw [← hst]; exact I.ok.frames) hF hfr ⟨oe, vs, T, oT, ts, he, hc, hd, h1, hideAll_none _ (by simp), hTe, hT, hdT, h3⟩ (fun b o q => of_hideAll _ q) (hideAll_none _ (by simp)) fun h' L => ?_
 refine ⟨x, C, H', rfl, nU I hst hfr hex (os.trans I.os) bare U0 hok hfn (fun b hb => ?_) (by simp) (hE _ _ _ wish) L⟩
 rcases List.mem_cons.mp hb with rfl | hb
 ·exact ⟨old _ xs, xn⟩
 ·obtain rfl : b = T := by simpa using hb
  exact ⟨old _ hTs, hTn⟩
theorem u9 {X : Cx} {E : XK} (hst : X.stack = X.env :: X.outer) (hfr : X.env.frame = some X.env.locals) (hex : X.ex = [])
  {pins : List (Addr × Obj)} {σ : St} {H : Hp} {s : Shared} {x C : Addr} {dx : Option Addr} (I : Inv X pins σ H s) (hH : H x = some (de C x dx)) (h0 : X.H₀ x = none) (wish : E (.ref C) none (eG H x)) {E1 : Value -> Shared -> Prop} :
  wpAny (model X.prog X.w) X.A (leaving X.env (.ref x)) (fun _ s'' => CXE X.prog X.w X.outer X.H₀ X.s₀ E (.ref x) s'') E1 s := by
 obtain ⟨t, he⟩ := i7 (I.hok x _ hH)
 have nofs : ∀ b ∈ X.fs, b ∈ frs X.stack := fun b hb => by
  rw [hst]; unfold frs; rw [List.filterMap_cons, hfr]; exact List.mem_cons_of_mem _ hb
 have hU : Un (frs X.stack) [] X.H₀ H X.s₀.heap s.heap := by
  have b := I.base
  rw [hex] at b
  exact b.mono nofs fun _ z => z
 have xs : X.s₀.heap.get? x = none := by
  cases q : X.s₀.heap.get? x with
  | none => rfl
  | some o => have := hU.free x o q h0 (by simp); rw [hH] at this; cases this
 have ne : ∀ b o, H b = some o -> (∀ φ, o ≠ .ext φ) -> b ≠ x := fun b o e hn z => by subst z; rw [hH] at e; cases e; exact hn _ rfl
 have U0 : Un (frs X.stack) [] X.H₀ (eG H x) X.s₀.heap s.heap := by
  refine ⟨hU.keep, hU.slot, fun b o e n hb => ?_, hU.there, fun b ys q => ?_, fun b o u q => ?_, fun b ps q => ?_⟩
  ·unfold eG; split
   ·rfl
   ·exact hU.free b o e n hb
  ·have := hU.tups b ys q
   rw [gu (ne b _ this fun _ z => by cases z)]; exact this
  ·have := hU.frzs b o u q
   rw [gu (ne b _ this fun _ z => by cases z)]; exact this
  ·obtain ⟨more, this⟩ := hU.tbls b ps q
   exact ⟨more, by rw [gu (ne b _ this fun _ z => by cases z)]; exact this⟩
 have hok : HOk X.prog X.w (eG H x) s.heap := fun a o e => by
  obtain ⟨na, e'⟩ := uu e
  refine (I.hok a o e').stay (fun _ _ _ q => q) (fun b q => ?_) fun b ys q => ?_
  ·rw [gu (ne b _ q fun _ z => by cases z)]; exact q
  ·rw [gu (ne b _ q fun _ z => by cases z)]; exact q
 have hstk := I.stack
 have hfn : ∀ b ∈ frs X.stack, eG H x b = none := fun b hb => by
  unfold eG; split
  ·rfl
  ·exact I.stkFree b hb
 have hF : s.heap.FunFrames (hideAll s.heap ([x] ++ frs X.stack)) (X.env :: X.outer) := by
  have z := nX hstk (as := [x] ++ frs X.stack) fun b hb => List.mem_append_right _ hb
  rw [hst] at z ⊢
  exact z
 refine wpAny_leaving_firstW (base := hideAll s.heap ([x] ++ frs X.stack)) (a0 := .ref t) (by rw [← hst]; exact I.ok.frames) hF hfr he (fun b o q => of_hideAll _ q) (hideAll_none _ (by simp)) rfl rfl rfl fun h' L => ?_
 refine ⟨x, C, eG H x, rfl, nU (ext := [x]) I hst hfr hex I.os I.bare U0 hok hfn (fun b hb => ?_) (by simp) wish L⟩
 obtain rfl : b = x := by simpa using hb
 exact ⟨xs, uv⟩
section
variable {X : Cx} {pins : List (Addr × Obj)} {σ : St} {H H' : Hp} {s s' : Shared} {E : XK} {x C : Addr}
end
section
variable {X : Cx}
end
section
variable {X : Cx}
end
structure XC (K : Frag) (C : Addr) : Prop where
 sh : ∃ bm, ∀ h : Heap, K.In h -> XShape h C bm
 sa : findIn K (.ref C) "__setattr__" = some (some (.builtin "object.__setattr__"))
 cd : ∃ cd, clsIn K C = some cd /\ cd.hasDict = true /\ dX cd.mro = true
theorem rh {K : Frag} {C N : Addr} {nm q : Str} {bs bm : List Value} {hdct : Bool} {sn : List Str} {sub : List Value} {ab : Bool} {col : Option Bool} {dd : Option Addr} {k0 k1 k2 k3 k5 : Option Value} {cd : ClassData}
  (l : K.lookup C = some (excClassObj nm q C N bs bm hdct sn sub ab col dd k0 k1 k2 k3 k5 "ValueError.__new__")) (sa : findIn K (.ref C) "__setattr__" = some (some (.builtin "object.__setattr__"))) (c : clsIn K C = some cd)
  (h1 : (bm.contains (.type "ValueError") && bm.contains (.type "BaseException") && !bm.contains (.type "AttributeError") && !bm.contains (.type "NameError") && cd.hasDict && dX cd.mro) = true) : XC K C := by
 simp only [Bool.and_eq_true, Bool.not_eq_true'] at h1
 obtain ⟨⟨⟨⟨⟨a, b⟩, c'⟩, d⟩, e⟩, f⟩ := h1
 exact ⟨⟨bm, fun h X => ⟨⟨nm, q, N, bs, hdct, sn, sub, ab, col, dd, k0, k1, k2, k3, k5, X _ _ l⟩, a, b, c', d⟩⟩, sa, cd, c, e, f⟩
structure XMk (K : Frag) (C f : Addr) : Prop where
 xc : XC K C
 init : findIn K (.ref C) "__init__" = some (some (.ref f))
 fn : isFn K (.ref f) = true
 kp : keepIn K (.ref C) = true
section
variable {X : Cx} {CX : CXT} {k : Nat} {f C : Addr} {fd : FuncData} {ps : List Str} {sp : Sp} {dvs : List V} {ds : List Value} {E : St -> XK} {x m : Str} {p pos apos : Pos} {e o : Expr} {es : List Expr} {ta : TE} {t : TA}
def yq (C : Addr) (sp : Sp) (dvs : List V) (E : St -> XK) (t : TA) : TE := fun σ H Q => t σ H fun vs H1 => vs.length <= sizeLine /\ ∀ x, H1 x = none ->
 sp (.ref x :: (vs ++ dvs)) (upd H1 x (de C x none)) (fun v H2 => v = .non /\ Q (.ref x) H2) (E σ)
theorem xx {pins : List (Addr × Obj)} {σ : St} {H : Hp} {s : Shared} {Q : VK} {us : List Value} {vs : List V} (M : XMk X.K C f) (F : FnOk X.prog X.w X.K X.mg X.base CX k f fd ps sp) (hr : Room (k + 1) X.A) (hb : aQ X.K fd ps ds) (hd : ar dvs ds)
  (hx : bJ CX X E) (I : Inv X pins σ H s) (r : ar vs us) (hz : vs.length <= sizeLine)
  (h : ∀ x, H x = none -> sp (.ref x :: (vs ++ dvs)) (upd H x (de C x none)) (fun v H2 => v = .non /\ Q (.ref x) H2) (E σ)) :
  wpAny (model X.prog X.w) X.A (call (.ref C) us) (EP X pins σ Q) X.xe s := by
 have hq := h (s.heap.objs.size + 1) (I.hok.fresh (Nat.le_succ _))
 obtain ⟨bm, sh⟩ := M.xc.sh
 have I1 : Inv X pins σ H { s with heap := s.heap.push { cls := .type "tuple", data := .seq us.toArray } } := I.kept (t' := s.toks) fun b o q => Heap.get?_push_of_some _ q
 have eX : ((s.heap.push { cls := .type "tuple", data := .seq us.toArray }).push (cr C none s.heap.objs.size)).get? (s.heap.objs.size + 1) = some (cr C none s.heap.objs.size) := by
  have := Heap.get?_push_size (s.heap.push { cls := .type "tuple", data := .seq us.toArray }) (o := cr C none s.heap.objs.size) rfl
  rwa [Heap.size_push] at this
 have I2 : Inv X pins σ (upd H (s.heap.objs.size + 1) (de C (s.heap.objs.size + 1) none)) { s with heap := (s.heap.push { cls := .type "tuple", data := .seq us.toArray }).push (cr C none s.heap.objs.size) } :=
  I1.laid (a := s.heap.objs.size + 1) (o := de C (s.heap.objs.size + 1) none) (t' := s.toks) (fun b u q => Heap.get?_push_of_some _ q) (Nat.le_of_eq (Heap.size_push _ _)) (nc eX)
 have r2 : ar (V.ref (s.heap.objs.size + 1) :: (vs ++ dvs)) (Value.ref (s.heap.objs.size + 1) :: (us ++ ds)) := .cons rfl (r.append hd)
 have hl : (Value.ref (s.heap.objs.size + 1) :: us ++ ds).length = ps.length := by
  have e := r2.length
  rw [F.len _ _ _ _ hq] at e
  exact e.symm
 have hcall : wpAny (model X.prog X.w) (X.A.under (.builtin "type.__call__" ⟨.ref C :: us, []⟩)) (call (.ref f) (.ref (s.heap.objs.size + 1) :: us)) (fun r s' => r = .none /\ EP X pins σ Q (.ref (s.heap.objs.size + 1)) s') X.xe
   { s with heap := (s.heap.push { cls := .type "tuple", data := .seq us.toArray }).push (cr C none s.heap.objs.size) } := by
  refine wpAny_call (codeAny_mono (F.run _ X.stack _ _ ⟨Value.ref (s.heap.objs.size + 1) :: us, []⟩ (Value.ref (s.heap.objs.size + 1) :: (us ++ ds)) _ _ (E σ) (hr.make C us [])
   (I2.env0.make C us []) (hb _ (Value.ref (s.heap.objs.size + 1) :: us) I2.kIn hl) r2 hq) fun r s' hq' => ?_)
  cases r with
  | error e => exact hx pins σ _ _ e s' I2 hq'
  | ok fl =>
   cases fl with
   | ret u =>
    obtain ⟨v, H', I3, rv, ev, q3⟩ := I2.after hq'
    subst ev
    exact ⟨rv, ⟨V.ref (s.heap.objs.size + 1), H', I3, rfl, q3⟩⟩
   | next => exact False.elim hq'
   | brk => exact False.elim hq'
   | cont => exact False.elim hq'
 obtain ⟨hh, g, d, tk, os⟩ := s
 exact vK I.kIn (sh _ I.kIn) M.init M.fn (by rw [← r.length]; exact hz) hcall
theorem d9 (M : XMk X.K C f) (F : FnOk X.prog X.w X.K X.mg X.base CX k f fd ps sp) (hr : Room (k + 1) X.A) (hg : Gl X x) (hm : X.mg x = some (.ref C)) (hb : aQ X.K fd ps ds) (hd : ar dvs ds) (hx : bJ CX X E)
  (ha : PA X (e :: es) t) (hdb : (x == ("__debug__" : Str)) = false := by decide) (he : starEach (e :: es) X.env = (false, eval e X.env) :: starEach es X.env := by rfl) (hpl : (backTo pos (starEach es X.env)).any (·.1) = false := by rfl) :
  PE X (.Call (.Name x p) (e :: es) [] pos) (yq C sp dvs E t) := by
 intro pins s σ H Q I h
 refine wpAny_Call_Name_kw (gt I hg hm ?_ hdb)
 refine callWith_K (h₀ := X.base) I.ok.mod.kin M.kp (thn (ha pos pins s σ H _ I h) fun us s1 ⟨vs, H1, I1, r, hz, q⟩ => ⟨I1.kIn, ?_⟩) he hpl
 exact xx M F hr hb hd hx I1 r hz q
structure ClsFn (K : Frag) (D : Addr) (m : Str) (f : Addr) : Prop where
 ga : specialIn K (.ref D) "__getattribute__" = some (some (.builtin "type.__getattribute__"))
 rd : PySem.W.readsIn K D (.type "type") = true
 fnd : PySem.W.findCls K (.ref D) (.type "type") m = some (.val (.ref f))
 kp : keepIn K (.ref f) = true
theorem iS {D : Addr} {pl : Sem Bool} (c : ClsFn X.K D m f) (F : FnOk X.prog X.w X.K X.mg X.base CX k f fd ps sp) (hr : Room k X.A) (hg : Gl X x) (hm : X.mg x = some (.ref D)) (hb : aQ X.K fd ps ds) (hd : ar dvs ds) (hx : bJ CX X E)
  (ha : PA X (e :: es) t) (hdb : (x == ("__debug__" : Str)) = false := by decide) (hst : starEach (e :: es) X.env = (false, eval e X.env) :: starEach es X.env := by rfl) (hpl : (backTo pos (starEach es X.env)).any (·.1) = false := by rfl)
  (ht : eval (.Call (.Attribute (.Name x p) m apos) (e :: es) [] pos) X.env = (do
   let ov ← eval (.Name x p) X.env
   standAt apos.atName
   let (f, first) ← holding [ov] (getMethod ov m pl)
   callWith pos f first (backTo pos (starEach (e :: es) X.env)) (backToKw pos (keywordEach [] X.env))) := by rfl) :
  PE X (.Call (.Attribute (.Name x p) m apos) (e :: es) [] pos) (wO sp dvs E t) := by
 intro pins s σ H Q I h
 refine methodCall_KW (pl := pl) (gt I hg hm ?_ hdb) ht
 refine PySem.W.method_cls I.kIn c.ga (PySem.W.cls_value I.kIn c.rd c.fnd rfl ?_)
 have I1 := I.tok (s.toks + 1)
 refine callWith_K (first := []) (h₀ := X.base) I.ok.mod.kin c.kp (thn (ha pos pins _ σ H _ I1 h) fun us s2 ⟨vs, H2, I2, r, q2⟩ => ⟨I2.kIn, ?_⟩) hst hpl
 exact ph F hr hb hd hx I2 r q2
def tVin (K : Frag) (t : TA) : TE := fun σ H Q => t σ H fun vs H1 => ∃ x C dx rest, vs = .ref x :: rest /\ rest.length <= sizeLine /\ H1 x = some (de C x dx) /\ XC K C /\ Q .non (upd H1 x (de C x dx))
theorem sE {pins : List (Addr × Obj)} {σ : St} {H : Hp} {s : Shared} {Q : VK} {us : List Value} {vs : List V} (I : Inv X pins σ H s) (r : ar vs us)
  (h : ∃ x C dx rest, vs = .ref x :: rest /\ rest.length <= sizeLine /\ H x = some (de C x dx) /\ XC X.K C /\ Q .non (upd H x (de C x dx))) : wpAny (model X.prog X.w) X.A (call (.builtin "ValueError.__init__") us) (EP X pins σ Q) X.xe s := by
 obtain ⟨x, C, dx, rest, rfl, hz, hx, c, q⟩ := h
 cases r with
 | cons r1 r2 =>
  cases r1
  obtain ⟨t0, he⟩ := i7 (I.hok x _ hx)
  obtain ⟨bm, sh⟩ := c.sh
  obtain ⟨hh, g, d, tk, os⟩ := s
  refine um (sh _ I.kIn) he (by rw [← r2.length]; exact hz) fun h' e1 keep => ?_
  have I2 : Inv X pins σ (upd H x (de C x dx)) ⟨h', g, d, tk, os⟩ := I.write (t' := tk) (x := x) (e := x) (by rw [hx]; exact True.intro) (.inl rfl) (fun b u hb q => keep b u hb q) ⟨_, e1⟩ (nc e1)
  exact ⟨.non, _, I2, rfl, q⟩
theorem xi : typeOf (.type "ValueError") = pure (.type "type") := by kernel_rfl
theorem xj : Manifest.isStub "ValueError" = false := by decide +kernel
theorem xk {K : Frag} : PySem.W.findCls K (.type "ValueError") (.type "type") "__init__" = some (.val (.builtin "ValueError.__init__")) := by kernel_rfl
set_option maxHeartbeats 4000000 in
theorem u4 {pl : Sem Bool} (hg : Gl X "ValueError") (hm : X.mg "ValueError" = none) (ha : PA X (e :: es) t) (hst : starEach (e :: es) X.env = (false, eval e X.env) :: starEach es X.env := by rfl) (hpl : (backTo pos (starEach es X.env)).any (·.1) = false := by rfl)
  (ht : eval (.Call (.Attribute (.Name "ValueError" p) "__init__" apos) (e :: es) [] pos) X.env = (do
   let ov ← eval (.Name "ValueError" p) X.env
   standAt apos.atName
   let (f, first) ← holding [ov] (getMethod ov "__init__" pl)
   callWith pos f first (backTo pos (starEach (e :: es) X.env)) (backToKw pos (keywordEach [] X.env))) := by rfl) :
  PE X (.Call (.Attribute (.Name "ValueError" p) "__init__" apos) (e :: es) [] pos) (tVin X.K t) := by
 intro pins s σ H Q I h
 obtain ⟨m, F⟩ := I.fr
 refine methodCall_KW (pl := pl) (gC I hg hm PyProof.Rows.Boot.«ValueError» ?_) ht
 refine PySem.W.method_type (v := .builtin "ValueError.__init__") F I.mod.kin xi xj xk rfl ?_
 have I1 := I.tok (s.toks + 1)
 exact PyProof.Rows.callWith_builtin1 (thn (ha pos pins _ σ H _ I1 h) fun us s1 ⟨vs, H1, I2, r1, q1⟩ => sE I2 r1 q1) hst hpl
def yx (K : Frag) (ta tv : TE) (f : Str) : TS := fun D σ H => tv σ H fun y H1 => ta σ H1 fun x H2 => ∃ a C, x = .ref a /\ H2 a = some (de C a none) /\ XC K C /\ findIn K (.ref C) f = some none /\
 ∀ d, H2 d = none -> d ≠ a -> D.nx σ (upd (upd H2 d (.xd [(f, y)])) a (de C a (some d)))
theorem uY {o value : Expr} {f : Str} {pos' : Pos} {tv : TE} (ha : PE X o ta) (hv : PE X value tv) (hs : swapsWith value (some (.Attribute o f pos')) pos.line X.env = pure false) : PS X (.Assign [.Attribute o f pos'] value pos) (yx X.K ta tv f) := by
 intro pins s σ H D I h
 refine plainObj_wpAny_Assign_Attribute (thn (hv pins s σ H _ I h) fun u s1 h1_ => ?_) hs
 obtain ⟨y, H1, I1, ry, q⟩ := h1_
 refine thn (ha pins s1 σ H1 _ I1 q) fun ov s2 h_ => ?_
 obtain ⟨x, H2, I2, rx, a, C, ex, ea, c, n, q2⟩ := h_
 subst ex
 obtain rfl : ov = Value.ref a := rx
 obtain ⟨t0, he⟩ := i7 (I2.hok a _ ea)
 obtain ⟨cd, c1, c2, c3⟩ := c.cd
 refine vI I2.kIn he c.sa c1 c2 c3 n fun h' e1 n1 keep => ?_
 have hd : H2 s2.heap.objs.size = none := I2.fresh
 have hda : s2.heap.objs.size ≠ a := Nat.ne_of_gt (Heap.lt_size he)
 have od : ∃ o, h'.get? s2.heap.objs.size = some o := let ⟨o, _, _, e, _⟩ := n1; ⟨o, e⟩
 have ne2 : ∀ b o, H2 b = some o -> (∀ φ, o ≠ .ext φ) -> b ≠ a := fun b o e hn z => by subst z; rw [ea] at e; cases e; exact hn _ rfl
 refine ⟨σ, _, I2.un (h' := h') (t' := s2.toks + 2) ⟨fun b o e nb _ _ => keep b o (fun z => by subst z; rw [ea] at nb; cases nb) e, fun b o e nb _ _ => ⟨o.slots, keep b o (fun z => by subst z; rw [ea] at nb; cases nb) e⟩, fun b o e nb _ => ?_, fun b o e _ => ?_, fun b ys e => ?_, fun b o ys e => ?_, fun b ys e => ?_⟩ fun b o e => ?_, q2 _ hd hda⟩
 ·rw [upd_ne (fun z => by subst z; rw [ea] at nb; cases nb), upd_ne (Nat.ne_of_lt (Heap.lt_size e))]; exact nb
 ·by_cases z : b = a
  ·subst z; exact ⟨_, e1⟩
  ·exact ⟨o, keep b o z e⟩
 ·rw [upd_ne (ne2 b _ e fun _ z => by cases z), upd_ne (ne_of_none e hd)]; exact e
 ·rw [upd_ne (ne2 b _ e fun _ z => by cases z), upd_ne (ne_of_none e hd)]; exact e
 ·exact ⟨#[], by rw [upd_ne (ne2 b _ e fun _ z => by cases z), upd_ne (ne_of_none e hd), e]; simp⟩
 ·by_cases z : b = a
  ·subst z
   rw [ao] at e; cases e
   exact nc e1
  ·rw [upd_ne z] at e
   by_cases z2 : b = s2.heap.objs.size
   ·subst z2
    rw [ao] at e; cases e
    refine ⟨_, n1, fun g => ?_⟩
    by_cases q : g = f
    ·subst q
     simp only [List.lookup_cons, beq_self_eq_true, if_true]
     exact ry
    ·have hb : (g == f) = false := beq_eq_false_iff_ne.mpr q
     simp only [List.lookup_cons, hb, List.lookup_nil, if_neg q]
     trivial
   ·rw [upd_ne z2] at e
    refine (I2.hok b o e).stay (fun c v hc q => keep c v ?_ q) (fun c q => ?_) fun c ys q => ?_
    ·rcases hc with rfl | hc
     ·exact z
     ·exact ne2 c _ hc fun _ z => by cases z
    ·rw [upd_ne (ne2 c _ q fun _ z => by cases z), upd_ne (ne_of_none q hd)]; exact q
    ·rw [upd_ne (ne2 c _ q fun _ z => by cases z), upd_ne (ne_of_none q hd)]; exact q
end
def sT (H₀ : Hp) (K : Frag) (E : XK) (te : TE) : TS := fun _ σ H => te σ H fun v H1 => ∃ x C dx, v = .ref x /\ H1 x = some (de C x dx) /\ H₀ x = none /\ XC K C /\ E (.ref C) none (eG H1 x)
section
variable {P : Program} {w : World} {K : Frag} {mg : Str -> Option Value} {base : Heap} {N : List Str} {qual : Str} {scope : Scope} {f : Addr} {cd : Value} {A : Around} {outer : List Env} {s : Shared} {H : Hp} {E : XK}
theorem az : bJ (CXE P w) (cI (CXE P w) P w K mg base N qual scope f cd A outer s H E) (fun _ => E) := fun pins σ H1 s1 e s' I h => xG (X := cI (CXE P w) P w K mg base N qual scope f cd A outer s H E) rfl rfl rfl (fun _ _ _ z => z) I h
theorem cw {X : Cx} : bJ (CXE P w) X E0 := fun _ _ _ _ _ _ _ h => by
 obtain ⟨_, _, _, _, F⟩ := h
 exact F.wish.elim
theorem mJ : PassesOwn (model P w) (A.deeper (envOfC qual scope s.heap.objs.size f cd)) (envOfC qual scope s.heap.objs.size f cd) (cI (CXE P w) P w K mg base N qual scope f cd A outer s H E).xe := PassesOwn.leaving
theorem cG {e : Expr} {pos : Pos} {te : TE} (hd : A.handled = none) (he : PE (cI (CXE P w) P w K mg base N qual scope f cd A outer s H E) e te) : PS (cI (CXE P w) P w K mg base N qual scope f cd A outer s H E) (.Raise (some e) none pos) (sT H K E te) := by
 intro pins s1 σ H1 D I h
 rw [arm_exec_Raise]
 refine wpAny_bind (wpAny_standAt ?_)
 refine uo (env := (cI (CXE P w) P w K mg base N qual scope f cd A outer s H E).env) (bm := []) (dx := none) (t0 := 0) hd ?_
 refine wpAny_bind (thn (he pins s1 σ H1 _ I h) fun u s2 h_ => ?_)
 obtain ⟨v, H2, I2, r, x, C, dx, ev, ex, h0, c, q⟩ := h_
 refine wpAny_bind (wpAny_standAt (wpAny_pure ?_))
 subst ev
 obtain rfl : u = Value.ref x := r
 obtain ⟨t0, hex⟩ := i7 (I2.hok x _ ex)
 obtain ⟨bm, sh⟩ := c.sh
 exact ⟨x, t0, dx, C, bm, rfl, sh _ I2.kIn, hex, u9 (X := cI (CXE P w) P w K mg base N qual scope f cd A outer s H E) rfl rfl rfl I2 ex h0 q⟩
end
structure FunD (K : Frag) (x qual : Str) (st : Stmt) (f : Addr) (fd : FuncData) : Prop where
 ex : ∃ (oc : Value) (od : Option Addr) (dV kV doc pm : Value) (an : Option Addr) (cdv ct : Value) (osl : Array (Option Value)),
  fd = PySem.W.fnOf x qual (gv st) (bX st) (am st) dV kV doc pm an cdv ct /\ K.lookup f = some ⟨oc, od, .func fd, osl⟩ /\ PySem.W.codeIn K cdv qual = true
 kp : keepIn K (.ref f) = true
theorem x3 {K : Frag} {x qual : Str} {st : Stmt} {f : Addr} {oc dV : Value} {od an : Option Addr} {osl : Array (Option Value)} {kV doc pm cdv ct : Value} (l : K.lookup f = some ⟨oc, od, .func (PySem.W.fnOf x qual (gv st) (bX st) (am st) dV kV doc pm an cdv ct), osl⟩)
  (c : PySem.W.codeIn K cdv qual = true) (k : keepIn K (.ref f) = true) : FunD K x qual st f (PySem.W.fnOf x qual (gv st) (bX st) (am st) dV kV doc pm an cdv ct) := ⟨⟨oc, od, dV, kV, doc, pm, an, cdv, ct, osl, rfl, l, c⟩, k⟩
section
variable {P : Program} {w : World} {K : Frag} {mg : Str -> Option Value} {base : Heap}
theorem FunD.okE {x qual : Str} {st : Stmt} {f : Addr} {fd : FuncData} {N ps : List Str} {k : Nat} {sp : Sp} (F : FunD K x qual st f fd) (S : FnScope N ps (am st)) (len : ∀ vs H Q E, sp vs H Q E -> vs.length = ps.length)
  (hbody : ∀ (cdv : Value) (A : Around) (outer : List Env) (s : Shared) (H : Hp) (vs : List V) (Q : VK) (E : XK), Room k (A.deeper (envOfC qual (am st) s.heap.objs.size f cdv)) -> sp vs H Q E ->
   ∃ t, PSs (cI (CXE P w) P w K mg base N qual (am st) f cdv A outer s H E) (bX st) t /\ t { nx := fun _ H' => Q .non H', rt := Q } (ei N vs) H) : FnOk P w K mg base (CXE P w) (k + 1) f fd ps sp := by
 obtain ⟨oc, od, dV, kV, doc, pm, an, cdv, ct, osl, rfl, lk, hcd⟩ := F.ex
 exact w5 lk hcd S len fun A outer s H vs Q E hr hsp => hbody cdv A outer s H vs Q E hr hsp
theorem FunD.ok {x qual : Str} {st : Stmt} {f : Addr} {fd : FuncData} {N ps : List Str} {k : Nat} {sp : Sp} (F : FunD K x qual st f fd) (S : FnScope N ps (am st)) (len : ∀ vs H Q E, sp vs H Q E -> vs.length = ps.length)
  (hbody : ∀ (cdv : Value) (A : Around) (outer : List Env) (s : Shared) (H : Hp) (vs : List V) (Q : VK) (E : XK), Room k (A.deeper (envOfC qual (am st) s.heap.objs.size f cdv)) -> sp vs H Q E ->
   ∃ t, PSs (cI (CXE P w) P w K mg base N qual (am st) f cdv A outer s H E).nox (bX st) t /\ t { nx := fun _ H' => Q .non H', rt := Q } (ei N vs) H) : FnOk P w K mg base (CXE P w) (k + 1) f fd ps sp := by
 obtain ⟨oc, od, dV, kV, doc, pm, an, cdv, ct, osl, rfl, lk, hcd⟩ := F.ex
 refine w5 lk hcd S len fun A outer s H vs Q E hr hsp => ?_
 obtain ⟨t, h, q⟩ := hbody cdv A outer s H vs Q E hr hsp
 exact ⟨t, h.nox, q⟩
end
abbrev TJ := St -> Hp -> Nat -> (Nat -> Hp -> Prop) -> Prop
def PJ (X : Cx) (es : List Expr) (t : TJ) : Prop :=
 ∀ (pins : List (Addr × Obj)) (s : Shared) (σ : St) (H : Hp) (acc : Str) (Q : VK) , Inv X pins σ H s -> acc.length <= sizeLine -> (t σ H acc.length fun n H' => n <= sizeLine /\ ∀ z : Str, z.length <= n -> Q (.str z) H') ->
  wpAny (model X.prog X.w) X.A (joinParts acc (evalEach es X.env)) (EP X pins σ Q) X.xe s
def jNil : TJ := fun _ H n Q => Q n H
def jStr (m : Nat) (t : TJ) : TJ := fun σ H n Q => n + m <= sizeLine /\ t σ H (n + m) Q
def jInt (te : TE) (t : TJ) : TJ := fun σ H n Q => te σ H fun v H1 => ∃ i, v = .int i /\ i.natAbs.log2 < 1920 /\ n + 1921 <= sizeLine /\ ∀ m, m <= n + 1921 -> t σ H1 m Q
def AN (t : TJ) : TE := fun σ H Q => t σ H 0 fun n H' => n <= sizeLine /\ ∀ z : Str, z.length <= n -> Q (.str z) H'
section
variable {X : Cx} {es : List Expr} {t : TJ} {pos : Pos}
theorem yG : PJ X [] jNil := fun pins s σ H acc Q I hz h => joinParts_nil ⟨.str acc, H, I.tok _, ⟨_, rfl⟩, h.2 acc (Nat.le_refl _)⟩ hz
theorem yF {x : Str} {j : Nat} {p : Pos} (h : PJ X es t) (he : evalEach (.Constant (.str x) j p :: es) X.env = eval (.Constant (.str x) j p) X.env :: evalEach es X.env := by rfl) : PJ X (.Constant (.str x) j p :: es) (jStr x.length t) := by
 intro pins s σ H acc Q I hz hq
 rw [he]
 obtain ⟨h1, h2⟩ := hq
 refine joinParts_cons (Calls.Constant_str ?_)
 have e : (acc ++ x).length = acc.length + x.length := strLen_append acc x
 exact ⟨by rw [e]; exact h1, h pins _ σ H (acc ++ x) Q (I.tok _) (by rw [e]; exact h1) (by rw [e]; exact h2)⟩
theorem yH {v : Expr} {p : Pos} {te : TE} (hv : PE X v te) (h : PJ X es t) (he : evalEach (.FormattedValue v (-1) none p :: es) X.env = eval (.FormattedValue v (-1) none p) X.env :: evalEach es X.env := by rfl) : PJ X (.FormattedValue v (-1) none p :: es) (jInt te t) := by
 intro pins s σ H acc Q I hz hq
 rw [he]
 refine joinParts_cons (FormattedValue_plain (thn (hv pins s σ H _ I hq) fun u s1 ⟨y, H1, I1, r, i, ey, hi, hl, q⟩ => ?_))
 subst ey
 obtain ⟨tk, rfl⟩ := r
 refine wpAny_formatField_int hi ?_
 have e : (acc ++ Str.ofString (toString i)).length = acc.length + (Str.ofString (toString i)).length := strLen_append acc _
 have hb := int_text_len_1921 hi
 have hz2 : (acc ++ Str.ofString (toString i)).length <= sizeLine := by rw [e]; omega
 refine ⟨hz2, h pins _ σ H1 _ Q (I1.tok _) hz2 ?_⟩
 rw [e]
 exact q _ (by omega)
theorem xE {v1 v2 : Expr} {rest : List Expr} (h : PJ X (v1 :: v2 :: rest) t) : PE X (.JoinedStr (v1 :: v2 :: rest) pos) (AN t) := fun pins s σ H Q I hq =>
 JoinedStr_many (h pins s σ H Str.empty Q I (by decide) hq)
end
section
variable {X : Cx}
theorem uz (hc : X.calm = true) : cQ X (.builtin "sum") (fun xs H Q => ∃ (a : Addr) (ns : List Int), xs = [.ref a] /\ SqL X.K H a (ns.map V.int) /\ Q (.int ns.sum) H) := by
 intro pins s σ H xs us Q I r h
 obtain ⟨a, ns, rfl, hq, q⟩ := h
 cases r with
 | cons r1 r2 =>
  cases r1
  cases r2
  obtain ⟨its, rv, p, hz⟩ := I.list hq
  have hi := sr rv
  obtain ⟨xs, ex⟩ := hi.allInts.items
  have hl := p.isList
  rw [ex] at hl
  refine sum_intListG (I.ok.hd hc) hl fun h' tk t' hk => ?_
  have e : preSum (numAt xs) xs.size = ns.sum := by
   have e1 := hi.numsOf
   have e2 : its = (intItems xs).toList := by rw [← ex]
   rw [e2, nums_intItems] at e1
   rw [preSum_eq, List.take_of_length_le (by simp), e1]
  rw [e]
  exact ⟨.int ns.sum, H, I.kept hk, ⟨_, rfl⟩, q⟩
theorem sP : ∀ {cs : List String} {us : List Value}, ar (cs.map V.ty) us -> us = cs.map Value.type
 | [], _, r => by cases r; rfl
 | c :: cs, _, r => by
  cases r with
  | cons r1 r2 =>
   cases r1
   rw [sP r2]
   rfl
end
section
variable {K : Frag}
end
theorem sD {K : Frag} {a : Addr} {xs : List V} {g : TG} {tt : TT} {tb : TB} {σ : St} {H : Hp} {Q : St -> Hp -> Prop} (Pv : Nat -> St -> Hp -> Prop) (h0 : Pv 0 σ H) (hl : ∀ i σ H, i <= xs.length -> Pv i σ H -> SqL K H a xs)
  (turn : ∀ i x σ H, xs[i]? = some x -> Pv i σ H -> g x σ H fun σ2 H2 => tt σ2 H2 fun b H3 => if b = true then tb σ2 H3 (Pv (i + 1)) else Pv (i + 1) σ2 H3) (fin : ∀ σ H, Pv xs.length σ H -> Q σ H) : eE (Itl K a) g tt tb σ H Q := by
 refine ⟨fun i m σ H => i <= xs.length /\ m + i = xs.length /\ Pv i σ H, ⟨xs.length, Nat.zero_le _, by omega, h0⟩, fun i m σ H ⟨hi, hm, hp⟩ => ?_⟩
 by_cases hlt : i < xs.length
 ·refine .inr ⟨⟨xs, xs[i], hl i σ H hi hp, List.getElem?_eq_getElem hlt⟩, Pv (i + 1), fun σ' H' q => ⟨m - 1, by omega, by omega, by omega, q⟩, fun x H' ⟨e, hx⟩ => ?_⟩
  subst e
  exact turn i x σ H' (hx xs (hl i σ H' hi hp)) hp
 ·obtain rfl : i = xs.length := by omega
  exact .inl ⟨⟨xs, hl _ σ H hi hp, Nat.le_refl _⟩, fin σ H hp⟩
theorem CmpScope.plain {X : Cx} {scope : Scope} {vars : List Str} (k : scope.kind = .function) (nd : (scope.names.map (·.1)).Nodup) (f : ∀ y ∈ scope.names, y.2 ≠ .free) : CmpScope X scope vars vars [] :=
 ⟨k, nd, fun y hy e => absurd e (f y hy), by simp, fun j hj => absurd hj (by simp)⟩
theorem bN.upd {H : Hp} {a : Addr} {o : HO} (h : H a = none) : bN H (upd H a o) := fun b u e => by rw [upd_ne (ne_of_none e h)]; exact e
end L2
namespace L2.Pu
open PySem PySem.Spec PyProof.Rows
theorem ex6 {α γ ε : Sort _} {P Q R : α -> γ -> ε -> Prop} {C : Prop} (h : ∃ a b c, P a b c /\ Q a b c /\ R a b c) (k : ∀ a b c, P a b c -> Q a b c -> R a b c -> C) : C := by
 obtain ⟨a, b, c, x, y, z⟩ := h
 exact k a b c x y z
theorem ex5 {α γ : Sort _} {P Q R : α -> γ -> Prop} {C : Prop} (h : ∃ a b, P a b /\ Q a b /\ R a b) (k : ∀ a b, P a b -> Q a b -> R a b -> C) : C := by
 obtain ⟨a, b, x, y, z⟩ := h
 exact k a b x y z
inductive D where
 | non | bl (b : Bool) | int (i : Int) | str (x : Str) | ty (n : String) | txt
 | lst (xs : List D) | tup (xs : List D) | scr (xs : List Int) | obj (C : Addr) (ns : List Str) (xs : List D) | bag | adr (a : Addr)
structure Bg where
 cells : List Int
 i : Int
 j : Int
structure Fx where
 A : Addr -> Prop
 bg : Option (Addr × Addr)
def KL (K : Frag) (a : Addr) (xs : List V) : Prop :=
 ∃ (o : Obj) (its : Array Value) (n : Nat), K.lookup a = some o /\ o.cls = .type "list" /\ o.dict = none /\ o.data = .seq its n /\ its.size <= sizeLine /\ ar xs its.toList
def KT (K : Frag) (a : Addr) (xs : List V) : Prop :=
 ∃ (o : Obj) (its : Array Value) (n : Nat), K.lookup a = some o /\ o.cls = .type "tuple" /\ o.data = .seq its n /\ its.size <= sizeLine /\ ar xs its.toList
mutual
def Den (K : Frag) (F : Fx) (H : Hp) : D -> V -> Prop
 | .non, v => v = .non
 | .bl b, v => v = .bl b
 | .int i, v => v = .int i
 | .str x, v => v = .str x
 | .ty n, v => v = .ty n
 | .txt, v => ∃ z, v = .str z
 | .lst ds, v => ∃ a xs, v = .ref a /\ (¬ F.A a /\ Rd H a (.lst xs)) /\ DenL K F H ds xs
 | .scr ns, v => ∃ a, v = .ref a /\ ((¬ F.A a /\ Rd H a (.lst (ns.map V.int))) \/ KL K a (ns.map V.int))
 | .tup ds, v => ∃ a xs, v = .ref a /\ ((¬ F.A a /\ Rd H a (.tup xs)) \/ KT K a xs) /\ DenL K F H ds xs
 | .obj C ns ds, v => ∃ a dx xs, v = .ref a /\ ¬ F.A a /\ H a = some (.ins C dx (ns.zip xs)) /\ ns.length = xs.length /\ DenL K F H ds xs
 | .bag, v => ∃ b l, F.bg = some (b, l) /\ v = .ref b
 | .adr a, v => v = .ref a
def DenL (K : Frag) (F : Fx) (H : Hp) : List D -> List V -> Prop
 | [], xs => xs = []
 | d :: ds, xs => ∃ x r, xs = x :: r /\ Den K F H d x /\ DenL K F H ds r
end
structure Tr (F : Fx) (H : Hp) (F2 : Fx) (H2 : Hp) : Prop where
 av : ∀ a, ¬ F.A a -> H a ≠ none -> ¬ F2.A a
 kp : ∀ a o, ¬ F.A a -> H a = some o -> H2 a = some o
 bg : F2.bg = F.bg
theorem Tr.refl (F : Fx) (H : Hp) : Tr F H F H := ⟨fun _ h _ => h, fun _ _ _ h => h, rfl⟩
theorem Tr.trans {F F1 F2 : Fx} {H H1 H2 : Hp} (a : Tr F H F1 H1) (b : Tr F1 H1 F2 H2) : Tr F H F2 H2 :=
 ⟨fun x h1 h2 => b.av x (a.av x h1 h2) (by
   cases q : H x with
   | none => exact absurd q h2
   | some o => rw [a.kp x o h1 q]; simp),
  fun x o h1 h2 => b.kp x o (a.av x h1 (by rw [h2]; simp)) (a.kp x o h1 h2), b.bg.trans a.bg⟩
theorem Rd.tr {F F2 : Fx} {H H2 : Hp} {a : Addr} {u : HO} (t : Tr F H F2 H2) (h : ¬ F.A a) (r : Rd H a u) : ¬ F2.A a /\ Rd H2 a u := by
 rcases r with r | ⟨o, r⟩
 ·exact ⟨t.av a h (by rw [r]; simp), .inl (t.kp a _ h r)⟩
 ·exact ⟨t.av a h (by rw [r]; simp), .inr ⟨o, t.kp a _ h r⟩⟩
mutual
theorem Den.tr {K : Frag} {F F2 : Fx} {H H2 : Hp} (t : Tr F H F2 H2) : ∀ (d : D) (v : V), Den K F H d v -> Den K F2 H2 d v
 | .non, v, h => h
 | .bl b, v, h => h
 | .int i, v, h => h
 | .str x, v, h => h
 | .ty n, v, h => h
 | .txt, v, h => h
 | .lst ds, v, h => by
  unfold Den at h ⊢
  obtain ⟨a, xs, e, h1, h2⟩ := h
  exact ⟨a, xs, e, Rd.tr t h1.1 h1.2, DenL.tr t ds xs h2⟩
 | .scr ns, v, h => by
  unfold Den at h ⊢
  obtain ⟨a, e, h1⟩ := h
  exact ⟨a, e, h1.imp (fun ⟨p, q⟩ => Rd.tr t p q) id⟩
 | .tup ds, v, h => by
  unfold Den at h ⊢
  obtain ⟨a, xs, e, h1, h2⟩ := h
  exact ⟨a, xs, e, h1.imp (fun ⟨p, q⟩ => Rd.tr t p q) id, DenL.tr t ds xs h2⟩
 | .obj C ns ds, v, h => by
  unfold Den at h ⊢
  obtain ⟨a, dx, xs, e, h1, h2, h3, h4⟩ := h
  exact ⟨a, dx, xs, e, t.av a h1 (by rw [h2]; simp), t.kp a _ h1 h2, h3, DenL.tr t ds xs h4⟩
 | .bag, v, h => by
  unfold Den at h ⊢
  rw [t.bg]; exact h
 | .adr a, v, h => by
  unfold Den at h ⊢
  exact h
theorem DenL.tr {K : Frag} {F F2 : Fx} {H H2 : Hp} (t : Tr F H F2 H2) : ∀ (ds : List D) (xs : List V), DenL K F H ds xs -> DenL K F2 H2 ds xs
 | [], xs, h => h
 | d :: ds, xs, h => by
  unfold DenL at h ⊢
  obtain ⟨x, r, e, h1, h2⟩ := h
  exact ⟨x, r, e, Den.tr t d x h1, DenL.tr t ds r h2⟩
end
section
variable {K : Frag} {F : Fx} {H : Hp}
theorem DenL.nil : DenL K F H [] [] := rfl
theorem DenL.cons {d : D} {ds : List D} {x : V} {xs : List V} (h : Den K F H d x) (t : DenL K F H ds xs) : DenL K F H (d :: ds) (x :: xs) := ⟨x, xs, rfl, h, t⟩
theorem DenL.length : ∀ {ds : List D} {xs : List V}, DenL K F H ds xs -> ds.length = xs.length
 | [], xs, h => by have e : xs = [] := h; subst e; rfl
 | d :: ds, xs, h => by
  obtain ⟨x, r, e, _, h2⟩ := h
  subst e
  rw [List.length_cons, List.length_cons, DenL.length h2]
theorem DenL.get : ∀ {ds : List D} {xs : List V} {i : Nat} {d : D}, DenL K F H ds xs -> ds[i]? = some d -> ∃ x, xs[i]? = some x /\ Den K F H d x
 | [], _, _, _, _, e => by simp at e
 | c :: ds, xs, 0, d, h, e => by
  obtain ⟨x, r, q, h1, h2⟩ := h
  subst q
  simp at e
  subst e
  exact ⟨x, rfl, h1⟩
 | c :: ds, xs, i + 1, d, h, e => by
  obtain ⟨x, r, q, h1, h2⟩ := h
  subst q
  obtain ⟨y, h3, h4⟩ := DenL.get (i := i) (d := d) h2 (by simpa using e)
  exact ⟨y, by simpa using h3, h4⟩
theorem DenL.getV : ∀ {ds : List D} {xs : List V} {i : Nat} {x : V}, DenL K F H ds xs -> xs[i]? = some x -> ∃ d, ds[i]? = some d /\ Den K F H d x
 | [], xs, _, _, h, e => by have q : xs = [] := h; subst q; simp at e
 | c :: ds, xs, 0, d, h, e => by
  obtain ⟨x, r, q, h1, h2⟩ := h
  subst q
  simp at e
  subst e
  exact ⟨c, rfl, h1⟩
 | c :: ds, xs, i + 1, d, h, e => by
  obtain ⟨x, r, q, h1, h2⟩ := h
  subst q
  obtain ⟨y, h3, h4⟩ := DenL.getV (i := i) (x := d) h2 (by simpa using e)
  exact ⟨y, by simpa using h3, h4⟩
theorem DenL.append : ∀ {ds es : List D} {xs ys : List V}, DenL K F H ds xs -> DenL K F H es ys -> DenL K F H (ds ++ es) (xs ++ ys)
 | [], _, xs, _, h, h' => by have q : xs = [] := h; subst q; exact h'
 | c :: ds, es, xs, ys, h, h' => by
  obtain ⟨x, r, q, h1, h2⟩ := h
  subst q
  exact ⟨x, r ++ ys, rfl, h1, DenL.append h2 h'⟩
theorem DenL.take : ∀ {ds : List D} {xs : List V} (n : Nat), DenL K F H ds xs -> DenL K F H (ds.take n) (xs.take n)
 | [], xs, n, h => by have q : xs = [] := h; subst q; simp; rfl
 | c :: ds, xs, 0, h => by simp; rfl
 | c :: ds, xs, n + 1, h => by
  obtain ⟨x, r, q, h1, h2⟩ := h
  subst q
  exact ⟨x, r.take n, rfl, h1, DenL.take n h2⟩
theorem DenL.drop : ∀ {ds : List D} {xs : List V} (n : Nat), DenL K F H ds xs -> DenL K F H (ds.drop n) (xs.drop n)
 | [], xs, n, h => by have q : xs = [] := h; subst q; simp; rfl
 | c :: ds, xs, 0, h => h
 | c :: ds, xs, n + 1, h => by
  obtain ⟨x, r, q, h1, h2⟩ := h
  subst q
  exact DenL.drop n h2
theorem DenL.set : ∀ {ds : List D} {xs : List V} (i : Nat) {d : D} {x : V}, DenL K F H ds xs -> Den K F H d x -> DenL K F H (ds.set i d) (xs.set i x)
 | [], xs, i, _, _, h, _ => by have q : xs = [] := h; subst q; simp; rfl
 | c :: ds, xs, 0, d, x, h, hd => by
  obtain ⟨y, r, q, h1, h2⟩ := h
  subst q
  exact ⟨x, r, rfl, hd, h2⟩
 | c :: ds, xs, i + 1, d, x, h, hd => by
  obtain ⟨y, r, q, h1, h2⟩ := h
  subst q
  exact ⟨y, r.set i x, rfl, h1, DenL.set i h2 hd⟩
theorem Den.sqL {ds : List D} {v : V} (h : Den K F H (.lst ds) v) : ∃ a xs, v = .ref a /\ SqL K H a xs /\ DenL K F H ds xs := by
 unfold Den at h
 obtain ⟨a, xs, e, h1, h2⟩ := h
 exact ⟨a, xs, e, .inl h1.2, h2⟩
theorem Den.rdL {ds : List D} {v : V} (h : Den K F H (.lst ds) v) : ∃ a xs, v = .ref a /\ Rd H a (.lst xs) /\ DenL K F H ds xs := by
 unfold Den at h
 obtain ⟨a, xs, e, h1, h2⟩ := h
 exact ⟨a, xs, e, h1.2, h2⟩
theorem Den.scr {ns : List Int} {v : V} (h : Den K F H (.scr ns) v) : ∃ a, v = .ref a /\ SqL K H a (ns.map V.int) := by
 unfold Den at h
 obtain ⟨a, e, h1⟩ := h
 exact ⟨a, e, h1.imp (fun p => p.2) id⟩
theorem Den.sqT {ds : List D} {v : V} (h : Den K F H (.tup ds) v) : ∃ a xs, v = .ref a /\ SqT K H a xs /\ DenL K F H ds xs := by
 unfold Den at h
 obtain ⟨a, xs, e, h1, h2⟩ := h
 exact ⟨a, xs, e, h1.imp (fun p => p.2) id, h2⟩
theorem Den.int {i : Int} {v : V} (h : Den K F H (.int i) v) : v = .int i := h
theorem Den.bl {i : Bool} {v : V} (h : Den K F H (.bl i) v) : v = .bl i := h
theorem Den.str {i : Str} {v : V} (h : Den K F H (.str i) v) : v = .str i := h
theorem Den.non {v : V} (h : Den K F H .non v) : v = .non := h
theorem Den.ty {n : String} {v : V} (h : Den K F H (.ty n) v) : v = .ty n := h
theorem DenL.ints : ∀ (ns : List Int) {xs : List V}, DenL K F H (ns.map D.int) xs -> xs = ns.map V.int
 | [], xs, h => h
 | n :: ns, xs, h => by
  obtain ⟨x, r, e, h1, h2⟩ := h
  rw [e, DenL.ints ns h2]
  have q : x = .int n := h1
  rw [q]; rfl
theorem DenL.ofInts : ∀ (ns : List Int), DenL K F H (ns.map D.int) (ns.map V.int)
 | [] => rfl
 | n :: ns => ⟨.int n, ns.map V.int, rfl, rfl, DenL.ofInts ns⟩
end
structure Fr (F : Fx) (H : Hp) (β : Bg) : Prop where
 occ : ∀ a, F.A a -> H a ≠ none
 bgA : ∀ b l, F.bg = some (b, l) -> F.A b /\ F.A l /\ b ≠ l
 bag : ∀ b l, F.bg = some (b, l) -> H b = some (.lst [.ref l, .int β.i, .int β.j]) /\ H l = some (.lst (β.cells.map V.int))
structure To (F : Fx) (H H' : Hp) (β' : Bg) : Prop where
 kp : ∀ a o, H a = some o -> (∀ b l, F.bg = some (b, l) -> a ≠ b /\ a ≠ l) -> H' a = some o
 fr : Fr F H' β'
theorem To.refl {F : Fx} {H : Hp} {β : Bg} (fr : Fr F H β) : To F H H β := ⟨fun _ _ h _ => h, fr⟩
theorem To.trans {F : Fx} {H H1 H2 : Hp} {β1 β2 : Bg} (a : To F H H1 β1) (b : To F H1 H2 β2) : To F H H2 β2 := ⟨fun x o h n => b.kp x o (a.kp x o h n) n, b.fr⟩
theorem Fr.same {F : Fx} {H H' : Hp} {β : Bg} (fr : Fr F H β) (s : bN H H') : To F H H' β :=
 ⟨fun a o h _ => s a o h, ⟨fun a h q => (by
  cases e : H a with
  | none => exact fr.occ a h e
  | some o => exact absurd ((s a o e).symm.trans q) (by simp)), fr.bgA, fun b l e => ⟨s _ _ (fr.bag b l e).1, s _ _ (fr.bag b l e).2⟩⟩⟩
theorem Fr.upd {F : Fx} {H : Hp} {β : Bg} (fr : Fr F H β) {p : Addr} (o : HO) (h : H p = none) : To F H (upd H p o) β := fr.same (bN.upd h)
theorem Fr.fresh {F : Fx} {H : Hp} {β : Bg} (fr : Fr F H β) {p : Addr} (h : H p = none) : ¬ F.A p := fun q => fr.occ p q h
theorem To.tr {F : Fx} {H H' : Hp} {β β' : Bg} (fr : Fr F H β) (t : To F H H' β') : Tr F H F H' :=
 ⟨fun _ h _ => h, fun a o h e => t.kp a o e fun b l q => ⟨fun z => h (z ▸ (fr.bgA b l q).1), fun z => h (z ▸ (fr.bgA b l q).2.1)⟩, rfl⟩
abbrev Dn := List (Option D)
structure VOk (K : Frag) (F : Fx) (H : Hp) (δ : Dn) (σ : St) : Prop where
 len : δ.length = σ.length
 tell : ∀ (i : Nat) (d : D), δ[i]? = some (some d) -> ∃ v, σ[i]? = some (some v) /\ Den K F H d v
theorem VOk.tr {K : Frag} {F F2 : Fx} {H H2 : Hp} {δ : Dn} {σ : St} (t : Tr F H F2 H2) (h : VOk K F H δ σ) : VOk K F2 H2 δ σ := ⟨h.len, fun i d e => let ⟨v, h1, h2⟩ := h.tell i d e; ⟨v, h1, Den.tr t d v h2⟩⟩
theorem VOk.set {K : Frag} {F : Fx} {H : Hp} {δ : Dn} {σ : St} {i : Nat} {d : D} {v : V} (h : VOk K F H δ σ) (hd : Den K F H d v) : VOk K F H (δ.set i (some d)) (σ.set i (some v)) := by
 refine ⟨by rw [List.length_set, List.length_set, h.len], fun j c e => ?_⟩
 rw [List.getElem?_set] at e
 rw [List.getElem?_set]
 by_cases q : i = j
 ·subst q
  rw [if_pos rfl] at e ⊢
  split at e
  ·rename_i hl
   cases e
   rw [if_pos (by rw [← h.len]; exact hl)]
   exact ⟨v, rfl, hd⟩
  ·cases e
 ·rw [if_neg q] at e ⊢
  exact h.tell j c e
def Sub (δ δ1 : Dn) : Prop := ∀ (i : Nat) (d : D), δ[i]? = some (some d) -> δ1[i]? = some (some d)
theorem VOk.sub {K : Frag} {F : Fx} {H : Hp} {δ δ1 : Dn} {σ : St} (h : VOk K F H δ1 σ) (s : Sub δ δ1) (l : δ.length = δ1.length) : VOk K F H δ σ := ⟨l.trans h.len, fun i d e => h.tell i d (s i d e)⟩
abbrev M (α : Type) := Bg -> Option (Except Addr α × Bg)
def M.ret {α : Type} (a : α) : M α := fun β => some (.ok a, β)
def M.bind {α γ : Type} (m : M α) (k : α -> M γ) : M γ := fun β => match m β with
 | none => none
 | some (.error C, β1) => some (.error C, β1)
 | some (.ok a, β1) => k a β1
def M.ofO {α : Type} (o : Option α) : M α := fun β => match o with
 | some a => some (.ok a, β)
 | none => none
def M.fail {α : Type} : M α := fun _ => none
theorem M.bind_some {α γ : Type} (a : α) (k : α -> M γ) : M.bind (M.ofO (some a)) k = k a := rfl
theorem M.bind_ok {α γ : Type} {m : M α} {k : α -> M γ} {β β1 : Bg} {a : α} (h : m β = some (.ok a, β1)) : M.bind m k β = k a β1 := by unfold M.bind; rw [h]
theorem M.bind_err {α γ : Type} {m : M α} {k : α -> M γ} {β β1 : Bg} {C : Addr} (h : m β = some (.error C, β1)) : M.bind m k β = some (.error C, β1) := by unfold M.bind; rw [h]
def run {α γ : Type} (R : Hp -> α -> γ -> Prop) (F : Fx) (E : St -> XK) (σ : St) (m : M α) (H : Hp) (Q : γ -> Hp -> Prop) (β : Bg) : Prop :=
 ∃ r β', m β = some (r, β') /\ match r with
  | .ok d => ∀ v H', To F H H' β' -> R H' d v -> Q v H'
  | .error C => ∀ H', To F H H' β' -> E σ (.ref C) none H'
theorem run.mono {α γ : Type} {R : Hp -> α -> γ -> Prop} {F : Fx} {E : St -> XK} {σ : St} {m : M α} {H : Hp} {Q Q' : γ -> Hp -> Prop} {β : Bg} (h : run R F E σ m H Q β) (f : ∀ v H', Q v H' -> Q' v H') : run R F E σ m H Q' β := by
 obtain ⟨r, β', e, h⟩ := h
 refine ⟨r, β', e, ?_⟩
 cases r with
 | ok d => exact fun v H' t q => f v H' (h v H' t q)
 | error C => exact h
theorem run.bind {α γ ε ζ : Type} {R : Hp -> α -> γ -> Prop} {R2 : Hp -> ε -> ζ -> Prop} {F : Fx} {E : St -> XK} {σ : St} {m : M α} {k : α -> M ε} {H : Hp} {Q : ζ -> Hp -> Prop} {β : Bg} (h : run R2 F E σ (M.bind m k) H Q β) :
  run R F E σ m H (fun v H1 => ∃ d β1, To F H H1 β1 /\ R H1 d v /\ run R2 F E σ (k d) H1 Q β1) β := by
 obtain ⟨r, β', e, h⟩ := h
 cases q : m β with
 | none => unfold M.bind at e; rw [q] at e; cases e
 | some z =>
  obtain ⟨r1, β1⟩ := z
  refine ⟨r1, β1, q, ?_⟩
  cases r1 with
  | error C =>
   rw [M.bind_err q] at e
   cases e
   exact h
  | ok d =>
   rw [M.bind_ok q] at e
   intro v H1 t hd
   refine ⟨d, β1, t, hd, r, β', e, ?_⟩
   cases r with
   | ok d2 => exact fun v2 H2 t2 h2 => h v2 H2 (t.trans t2) h2
   | error C => exact fun H2 t2 => h H2 (t.trans t2)
theorem run.ret {α γ : Type} {R : Hp -> α -> γ -> Prop} {F : Fx} {E : St -> XK} {σ : St} {a : α} {v : γ} {H : Hp} {Q : γ -> Hp -> Prop} {β : Bg} (fr : Fr F H β) (h : run R F E σ (M.ret a) H Q β) (r : R H a v) : Q v H := by
 obtain ⟨_, _, e, h⟩ := h
 cases e
 exact h v H (To.refl fr) r
theorem run.ofO {α γ : Type} {R : Hp -> α -> γ -> Prop} {F : Fx} {E : St -> XK} {σ : St} {o : Option α} {H : Hp} {Q : γ -> Hp -> Prop} {β : Bg} (h : run R F E σ (M.ofO o) H Q β) : ∃ a, o = some a /\ ∀ v H', To F H H' β -> R H' a v -> Q v H' := by
 obtain ⟨_, _, e, h⟩ := h
 cases o with
 | none => cases e
 | some a => cases e; exact ⟨a, rfl, h⟩
abbrev FD := Dn -> M D
abbrev FL := Dn -> M (List D)
def tV (K : Frag) (f : FD) (E : St -> XK) : TE := fun σ H Q => ∃ F δ β, Fr F H β /\ VOk K F H δ σ /\ run (Den K F) F E σ (f δ) H Q β
def tVA (K : Frag) (f : FL) (E : St -> XK) : TA := fun σ H Q => ∃ F δ β, Fr F H β /\ VOk K F H δ σ /\ run (DenL K F) F E σ (f δ) H Q β
def tVT (K : Frag) (f : Dn -> M Bool) (E : St -> XK) : TT := fun σ H Q => ∃ F δ β, Fr F H β /\ VOk K F H δ σ /\ run (fun _ (a b : Bool) => b = a) F E σ (f δ) H Q β
theorem _root_.L2.PE.imp {X : Cx} {e : Expr} {t t' : TE} (h : PE X e t) (f : ∀ σ H Q, t' σ H Q -> t σ H Q) : PE X e t' := fun pins s σ H Q I q => h pins s σ H Q I (f σ H Q q)
theorem _root_.L2.PT.imp {X : Cx} {e : Expr} {t t' : TT} (h : PT X e t) (f : ∀ σ H Q, t' σ H Q -> t σ H Q) : PT X e t' := fun pins s σ H Q I q => h pins s σ H Q I (f σ H Q q)
theorem _root_.L2.PW.imp {X : Cx} {e : Expr} {t t' : TT} (h : PW X e t) (f : ∀ σ H Q, t' σ H Q -> t σ H Q) : PW X e t' := fun wh pins s σ H Q I q => h wh pins s σ H Q I (f σ H Q q)
theorem _root_.L2.PA.imp {X : Cx} {e : List Expr} {t t' : TA} (h : PA X e t) (f : ∀ σ H Q, t' σ H Q -> t σ H Q) : PA X e t' := fun pos pins s σ H Q I q => h pos pins s σ H Q I (f σ H Q q)
def ad (i : Nat) : FD := fun δ => M.ofO (δ.getD i none)
def fC (d : D) : FD := fun _ => M.ret d
def f1 (op : D -> Option D) (f : FD) : FD := fun δ => M.bind (f δ) fun a => M.ofO (op a)
def f2 (op : D -> D -> Option D) (f g : FD) : FD := fun δ => M.bind (f δ) fun a => M.bind (g δ) fun b => M.ofO (op a b)
def ah : FL := fun _ => M.ret []
def ac (f : FD) (g : FL) : FL := fun δ => M.bind (f δ) fun a => M.bind (g δ) fun as => M.ret (a :: as)
def ai (op : List D -> Option D) (g : FL) : FD := fun δ => M.bind (g δ) fun as => M.ofO (op as)
def au (m : List D -> M D) (g : FL) : FD := fun δ => M.bind (g δ) fun as => m as
section
variable {X : Cx} {E : St -> XK} {e a b : Expr} {es : List Expr} {pos : Pos}
theorem ae (i : Nat) {x : Str} (h : PE X (.Name x pos) (iO i)) : PE X (.Name x pos) (tV X.K (ad i) E) := h.imp fun σ H Q h_ => by
 obtain ⟨F, δ, β, fr, vk, r⟩ := h_
 obtain ⟨d, e, r⟩ := run.ofO r
 have e2 : δ[i]? = some (some d) := by
  rw [List.getD_eq_getElem?_getD] at e
  cases q : δ[i]? with
  | none => rw [q] at e; cases e
  | some z => rw [q] at e; simp at e; rw [e]
 obtain ⟨v, h1, h2⟩ := vk.tell i d e2
 exact ⟨v, h1, r v H (To.refl fr) h2⟩
theorem v_c {d : D} {v : V} (h : PE X e (tC v)) (hd : ∀ F H, Den X.K F H d v) : PE X e (tV X.K (fC d) E) := h.imp fun σ H Q h_ => by obtain ⟨F, δ, β, fr, vk, r⟩ := h_; exact run.ret fr r (hd F H)
theorem aE {i j pos} : PE X (.Constant (.int i) j pos) (tV X.K (fC (.int i)) E) := v_c bH fun _ _ => rfl
theorem iM {i j pos} : PE X (.Constant (.bool i) j pos) (tV X.K (fC (.bl i)) E) := v_c AU fun _ _ => rfl
theorem rn {j pos} : PE X (.Constant .none j pos) (tV X.K (fC .non) E) := v_c yN fun _ _ => rfl
theorem wK {i j pos} : PE X (.Constant (.str i) j pos) (tV X.K (fC (.str i)) E) := v_c lQ fun _ _ => rfl
theorem ag : PA X [] (tVA X.K ah E) := ef.imp fun σ H Q h_ => by obtain ⟨F, δ, β, fr, vk, r⟩ := h_; exact run.ret fr r DenL.nil
theorem aa {f : FD} {g : FL} (ha : PE X e (tV X.K f E)) (hr : PA X es (tVA X.K g E)) (hs : starEach (e :: es) X.env = (false, eval e X.env) :: starEach es X.env := by rfl) : PA X (e :: es) (tVA X.K (ac f g) E) :=
 (bv ha hr hs).imp fun σ H Q h_ => ex6 h_ fun F δ β fr vk r => ⟨F, δ, β, fr, vk, (run.bind (R := Den X.K F) r).mono fun v H1 ⟨d, β1, t, hd, r1⟩ =>
  ⟨F, δ, β1, t.fr, vk.tr (t.tr fr), (run.bind (R := DenL X.K F) r1).mono fun vs H2 h_ => ex5 h_ fun ds β2 t2 hds r2 => run.ret t2.fr r2 (DenL.cons (Den.tr (t2.tr t.fr) _ _ hd) hds)⟩⟩
def bd (K : Frag) (r : R2) (op : D -> D -> Option D) : Prop := ∀ (F : Fx) (H : Hp) (β : Bg) (Q : VK) (d1 d2 d : D) (v1 v2 : V), Fr F H β -> Den K F H d1 v1 -> Den K F H d2 v2 -> op d1 d2 = some d ->
 (∀ v H', To F H H' β -> Den K F H' d v -> Q v H') -> r v1 v2 H Q
def dZ (K : Frag) (r : List V -> Hp -> VK -> Prop) (op : List D -> Option D) : Prop := ∀ (F : Fx) (H : Hp) (β : Bg) (Q : VK) (ds : List D) (d : D) (vs : List V), Fr F H β -> DenL K F H ds vs -> op ds = some d ->
 (∀ v H', To F H H' β -> Den K F H' d v -> Q v H') -> r vs H Q
theorem lD {r : R2} {op : D -> D -> Option D} {f g : FD} {K : Frag} (l : bd K r op) {σ : St} {H : Hp} {Q : VK} (h : tV K (f2 op f g) E σ H Q) : tOp r (tV K f E) (tV K g E) σ H Q := by
 obtain ⟨F, δ, β, fr, vk, h⟩ := h
 refine ⟨F, δ, β, fr, vk, (run.bind (R := Den K F) h).mono fun v H1 h_ => ex5 h_ fun d β1 t hd r1 => ⟨F, δ, β1, t.fr, vk.tr (t.tr fr), (run.bind (R := Den K F) r1).mono fun v2 H2 h_ => ex5 h_ fun d2 β2 t2 hd2 r2 => ?_⟩⟩
 obtain ⟨d3, e3, k⟩ := run.ofO r2
 exact l F H2 β2 Q d d2 d3 v v2 t2.fr (Den.tr (t2.tr t.fr) _ _ hd) hd2 e3 k
theorem bt {op : Operator} {r : R2} {o : D -> D -> Option D} {f g : FD} (ho : OpR X (binaryOp op) r) (l : bd X.K r o) (ha : PE X a (tV X.K f E)) (hb : PE X b (tV X.K g E)) : PE X (.BinOp a op b pos) (tV X.K (f2 o f g) E) :=
 (c7 ho ha hb).imp fun _ _ _ => lD l
theorem gO {op : CmpOp} {r : R2} {o : D -> D -> Option D} {f g : FD} (ho : OpR X (compareOp op) r) (l : bd X.K r o) (ha : PE X a (tV X.K f E)) (hb : PE X b (tV X.K g E)) (hm : behindInMarks op b = false := by first | exact pF _ | rfl) : PE X (.Compare a [op] [b] pos) (tV X.K (f2 o f g) E) :=
 (xF ho ha hb hm).imp fun _ _ _ => lD l
theorem bD {r : R2} {o : D -> D -> Option D} {f g : FD} (hr : IxR X r) (l : bd X.K r o) (ha : PE X a (tV X.K f E)) (hb : PE X b (tV X.K g E)) (hs : re b := by exact fun _ _ => rfl) : PE X (.Subscript a b pos) (tV X.K (f2 o f g) E) :=
 (fM hr ha hb hs).imp fun _ _ _ => lD l
theorem sU {K : Frag} {r : List V -> Hp -> VK -> Prop} {op : List D -> Option D} {g : FL} (l : dZ K r op) {σ : St} {H : Hp} {Q : VK} (h : tV K (ai op g) E σ H Q) : tCB r (tVA K g E) σ H Q := by
 obtain ⟨F, δ, β, fr, vk, h⟩ := h
 refine ⟨F, δ, β, fr, vk, (run.bind (R := DenL K F) h).mono fun v H1 h_ => ex5 h_ fun d β1 t hd r1 => ?_⟩
 obtain ⟨d3, e3, k⟩ := run.ofO r1
 exact l F H1 β1 Q d d3 v t.fr hd e3 k
theorem aA {x : Str} {p : Pos} {id : String} {r : List V -> Hp -> VK -> Prop} {op : List D -> Option D} {g : FL} (hc : cQ X (.builtin id) r) (l : dZ X.K r op) (hg : Gl X x) (hm : X.mg x = none) (hv : bootBuiltins x = some (.builtin id)) (ha : PA X (e :: es) (tVA X.K g E)) (hn : x ≠ "__name__" := by decide) (hdb : (x == ("__debug__" : Str)) = false := by decide)
  (he : starEach (e :: es) X.env = (false, eval e X.env) :: starEach es X.env := by rfl) (hpl : (backTo pos (starEach es X.env)).any (·.1) = false := by rfl) : PE X (.Call (.Name x p) (e :: es) [] pos) (tV X.K (ai op g) E) :=
 (k6 hc hg hm hv ha hn hdb he hpl).imp fun _ _ _ => sU l
theorem dJ {x : Str} {p : Pos} {T : String} {r : List V -> Hp -> VK -> Prop} {op : List D -> Option D} {g : FL} (hc : cQ X (.type T) r) (l : dZ X.K r op) (hg : Gl X x) (hm : X.mg x = none) (hv : bootBuiltins x = some (.type T)) (ha : PA X (e :: es) (tVA X.K g E)) (hn : x ≠ "__name__" := by decide) (hdb : (x == ("__debug__" : Str)) = false := by decide)
  (he : starEach (e :: es) X.env = (false, eval e X.env) :: starEach es X.env := by rfl) (hpl : (backTo pos (starEach es X.env)).any (·.1) = false := by rfl) : PE X (.Call (.Name x p) (e :: es) [] pos) (tV X.K (ai op g) E) :=
 (nQ hc hg hm hv ha hn hdb he hpl).imp fun _ _ _ => sU l
def bz (ds : List D) : Option D := if ds.length <= sizeLine then some (.tup ds) else none
def dD (ds : List D) : Option D := if ds.length <= sizeLine then some (.lst ds) else none
theorem Den.newT {K : Frag} {F : Fx} {H : Hp} {β : Bg} {p : Addr} {ds : List D} {xs : List V} (fr : Fr F H β) (h : H p = none) (hd : DenL K F H ds xs) : Den K F (upd H p (.tup xs)) (.tup ds) (.ref p) :=
 ⟨p, xs, rfl, .inl ⟨fr.fresh h, .inl ao⟩, DenL.tr ((fr.upd _ h).tr fr) _ _ hd⟩
theorem Den.newL {K : Frag} {F : Fx} {H : Hp} {β : Bg} {p : Addr} {ds : List D} {xs : List V} (fr : Fr F H β) (h : H p = none) (hd : DenL K F H ds xs) : Den K F (upd H p (.lst xs)) (.lst ds) (.ref p) :=
 ⟨p, xs, rfl, ⟨fr.fresh h, .inl ao⟩, DenL.tr ((fr.upd _ h).tr fr) _ _ hd⟩
theorem gl {x1} {g : FL} (h : PA X es (tVA X.K g E)) : PE X (.Tuple es x1 pos) (tV X.K (ai bz g) E) :=
 (yL h).imp fun σ H Q h_ => ex6 h_ fun F δ β fr vk r => ⟨F, δ, β, fr, vk, (run.bind (R := DenL X.K F) r).mono fun vs H1 h_ => by
  obtain ⟨ds, β1, t, hd, r1⟩ := h_
  obtain ⟨d3, e3, k⟩ := run.ofO r1
  unfold bz at e3
  split at e3
  ·cases e3
   exact ⟨by rw [← hd.length]; assumption, fun p hp => k _ _ (t.fr.upd _ hp) (Den.newT t.fr hp hd)⟩
  ·cases e3⟩
theorem oG {g : FL} (h : PA X es (tVA X.K g E)) : PE X (.List es pos) (tV X.K (ai dD g) E) :=
 (lR h).imp fun σ H Q h_ => ex6 h_ fun F δ β fr vk r => ⟨F, δ, β, fr, vk, (run.bind (R := DenL X.K F) r).mono fun vs H1 h_ => by
  obtain ⟨ds, β1, t, hd, r1⟩ := h_
  obtain ⟨d3, e3, k⟩ := run.ofO r1
  unfold dD at e3
  split at e3
  ·cases e3
   exact ⟨by rw [← hd.length]; assumption, fun p hp => k _ _ (t.fr.upd _ hp) (Den.newL t.fr hp hd)⟩
  ·cases e3⟩
end
def spF (K : Frag) (n : Nat) (m : List D -> M D) : Sp := fun vs H Q E => vs.length = n /\ ∃ F ds β, Fr F H β /\ DenL K F H ds vs /\ run (Den K F) F (fun _ => E) [] (m ds) H Q β
section
variable {X : Cx} {E : St -> XK} {e : Expr} {es : List Expr} {pos p : Pos} {x : Str} {k n : Nat} {f : Addr} {fd : FuncData} {ps : List Str}
theorem run.toE {α γ : Type} {R : Hp -> α -> γ -> Prop} {F : Fx} {E : St -> XK} {σ : St} {m : M α} {H : Hp} {Q : γ -> Hp -> Prop} {β : Bg} (h : run R F E σ m H Q β) : run R F (fun _ => E σ) [] m H Q β := h
theorem ax {m : List D -> M D} {g : FL} (G : FnOk X.prog X.w X.K X.mg X.base (CXE X.prog X.w) k f fd ps (spF X.K n m)) (hr : Room k X.A) (hg : Gl X x) (hm : X.mg x = some (.ref f)) (hk : keepIn X.K (.ref f) = true) (hb : aQ X.K fd ps []) (hx : bJ (CXE X.prog X.w) X E)
  (ha : PA X (e :: es) (tVA X.K g E)) (hn : ∀ δ β r β', g δ β = some (.ok r, β') -> r.length = n) (hdb : (x == ("__debug__" : Str)) = false := by decide) (he : starEach (e :: es) X.env = (false, eval e X.env) :: starEach es X.env := by rfl) (hpl : (backTo pos (starEach es X.env)).any (·.1) = false := by rfl) :
  PE X (.Call (.Name x p) (e :: es) [] pos) (tV X.K (au m g) E) :=
 (kr G hr hg hm hk hb .nil hx ha hdb he hpl).imp fun σ H Q h_ => ex6 h_ fun F δ β fr vk r => ⟨F, δ, β, fr, vk, by
  obtain ⟨r0, β0, e0, h0⟩ := run.bind (R := DenL X.K F) r
  refine ⟨r0, β0, e0, ?_⟩
  cases r0 with
  | error C => exact h0
  | ok ds =>
   intro vs H1 t hd
   obtain ⟨d', β1, t1, hd1, r1⟩ := h0 vs H1 t hd
   have hl := hn _ _ _ _ e0
   refine ⟨by rw [List.append_nil, ← hd.length, hl], F, d', β1, t1.fr, by rw [List.append_nil]; exact hd1, run.toE r1⟩⟩
end
theorem wB {δ : Dn} {β β' : Bg} {r : List D} (h : ah δ β = some (.ok r, β')) : r.length = 0 := by cases h; rfl
theorem af {f : FD} {g : FL} {n : Nat} (hg : ∀ δ β r β', g δ β = some (.ok r, β') -> r.length = n) : ∀ δ β r β', ac f g δ β = some (.ok r, β') -> r.length = n + 1 := by
 intro δ β r β' h
 unfold ac M.bind at h
 split at h
 ·cases h
 ·cases h
 ·dsimp only at h
  split at h
  ·cases h
  ·cases h
  ·rename_i as _ hq
   cases h
   rw [List.length_cons, hg _ _ _ _ hq]
section
variable {X : Cx} {K : Frag}
def opI (g : Int -> Int -> Option D) : D -> D -> Option D
 | .int i, .int j => g i j
 | _, _ => none
theorem k7 {g : Int -> Int -> Option D} {a b d : D} (h : opI g a b = some d) : ∃ i j, a = .int i /\ b = .int j /\ g i j = some d := by
 cases a <;> cases b <;> first | (exact ⟨_, _, rfl, rfl, h⟩) | (cases h)
theorem tU {g : Int -> Int -> Int} : bd K (rI0 fun i j => .int (g i j)) (opI fun i j => some (.int (g i j))) := fun F H β Q d1 d2 d v1 v2 fr h1 h2 e k => by
 obtain ⟨i, j, rfl, rfl, e⟩ := k7 e
 cases e
 exact ⟨i, j, h1, h2, k _ H (To.refl fr) rfl⟩
theorem iW {g : Int -> Int -> Bool} : bd K (rI0 fun i j => .bl (g i j)) (opI fun i j => some (.bl (g i j))) := fun F H β Q d1 d2 d v1 v2 fr h1 h2 e k => by
 obtain ⟨i, j, rfl, rfl, e⟩ := k7 e
 cases e
 exact ⟨i, j, h1, h2, k _ H (To.refl fr) rfl⟩
theorem tS {C : Int -> Int -> Prop} {c : Int -> Int -> Bool} {g : Int -> Int -> Int} (hc : ∀ i j, c i j = true -> C i j) : bd K (rI C fun i j => .int (g i j)) (opI fun i j => if c i j = true then some (.int (g i j)) else none) := fun F H β Q d1 d2 d v1 v2 fr h1 h2 e k => by
 obtain ⟨i, j, rfl, rfl, e2⟩ := k7 e
 split at e2
 ·cases e2
  exact ⟨i, j, h1, h2, hc _ _ (by assumption), k _ H (To.refl fr) rfl⟩
 ·cases e2
def mz : D -> D -> Option D := opI fun i j => some (.int (i - j))
def vf : D -> D -> Option D := opI fun i j => if decide (0 < j) = true then some (.int (i % j)) else none
def ltD : D -> D -> Option D := opI fun i j => some (.bl (decide (i < j)))
def leD : D -> D -> Option D := opI fun i j => some (.bl (decide (i <= j)))
def gtD : D -> D -> Option D := opI fun i j => some (.bl (decide (j < i)))
def geD : D -> D -> Option D := opI fun i j => some (.bl (decide (j <= i)))
theorem oN : bd K (rI0 fun i j => .int (i - j)) mz := tU
theorem vv : bd K (rI0 fun i j => .bl (decide (i < j))) ltD := iW
theorem ia : bd K (rI0 fun i j => .bl (decide (i <= j))) leD := iW
theorem y8 : bd K (rI0 fun i j => .bl (decide (j < i))) gtD := iW
theorem A2 : bd K (rI (fun _ j => 0 < j) fun i j => .int (i % j)) vf := tS fun i j h => of_decide_eq_true h
def rM : R2 := fun x y H Q => ∃ l b xs zs, x = .ref l /\ y = .ref b /\ Rd H l (.lst xs) /\ Rd H b (.lst zs) /\ xs.length + zs.length <= sizeLine /\ ∀ p, H p = none -> Q (.ref p) (upd H p (.lst (xs ++ zs)))
theorem xK : OpR X (binaryOp .Add) rM := by
 intro pins s σ H x y v u Q I rx ry h
 obtain ⟨l, b, xs, zs, rfl, rfl, hH, hB, hz, q⟩ := h
 cases rx
 cases ry
 obtain ⟨z, its, n, r, e⟩ := hH.ok I.hok
 obtain ⟨z2, its2, n2, r2, e2⟩ := hB.ok I.hok
 have l1 := r.length
 have l2 := r2.length
 refine PySem.P.add_list e e2 ?_ (by simp only [List.size_toArray]; omega)
 rw [show its.toArray ++ its2.toArray = (its ++ its2).toArray by simp]
 exact ⟨.ref _, _, I.lnew (t' := s.toks) (r.append r2) (by rw [List.length_append]; omega), rfl, q _ I.fresh⟩
def rN (K : Frag) : R2 := fun x y H Q => ∃ a b ys, x = .ref a /\ y = .ref b /\ SqT K H a [] /\ SqT K H b ys /\ Q (.ref b) H
theorem xL : OpR X (binaryOp .Add) (rN X.K) := by
 intro pins s σ H x y v u Q I rx ry h
 obtain ⟨a, b, ys, rfl, rfl, ha, hb, q⟩ := h
 cases rx
 cases ry
 obtain ⟨its, r1, p1, _⟩ := I.tuple ha
 obtain ⟨its2, r2, p2, _⟩ := I.tuple hb
 cases r1
 obtain ⟨⟨c1, d1, dt1, sl1⟩, ho, hc, n, hd⟩ := p1
 obtain ⟨⟨c2, d2, dt2, sl2⟩, ho2, hc2, n2, hd2⟩ := p2
 simp only at hc hd hc2 hd2
 subst hc hd hc2 hd2
 exact PySem.concat_meets ⟨_, ho, rfl⟩ ⟨_, ho2, rfl⟩ noFill_tuple_add seq_tuple_add PySem.F.slot_tuple_add PySem.F.entry_tuple_add (PySem.F.args_tuple_add_2 _ _) (tuple_addW0 a b _ _ n n2 d1 d2 sl1 sl2 (by simp)) ⟨ho, ho2, ⟨.ref b, H, I, rfl, q⟩⟩
def bK : D -> D -> Option D
 | .int i, .int j => some (.int (i + j))
 | .tup [], .tup b => some (.tup b)
 | .lst a, .lst b => if a.length + b.length <= sizeLine then some (.lst (a ++ b)) else none
 | .tup (c :: a), .tup b => if (c :: a).length + b.length <= sizeLine then some (.tup (c :: a ++ b)) else none
 | _, _ => none
theorem bP : bd K (fun x y H Q => (rI0 fun i j => .int (i + j)) x y H Q \/ rM x y H Q \/ rL K x y H Q \/ rN K x y H Q) bK := fun F H β Q d1 d2 d v1 v2 fr h1 h2 e k => by
 unfold bK at e
 split at e
 ·cases e
  exact .inl ⟨_, _, h1, h2, k _ H (To.refl fr) rfl⟩
 ·cases e
  obtain ⟨a, xs, rfl, r1, dl1⟩ := Den.sqT h1
  obtain ⟨b, ys, rfl, r2, dl2⟩ := Den.sqT h2
  have q : xs = [] := dl1
  subst q
  exact .inr (.inr (.inr ⟨a, b, ys, rfl, rfl, r1, r2, k _ H (To.refl fr) h2⟩))
 ·split at e
  ·cases e
   obtain ⟨a, xs, rfl, r1, dl1⟩ := Den.rdL h1
   obtain ⟨b, ys, rfl, r2, dl2⟩ := Den.rdL h2
   exact .inr (.inl ⟨a, b, xs, ys, rfl, rfl, r1, r2, by rw [← dl1.length, ← dl2.length]; assumption, fun p hp => k _ _ (fr.upd _ hp) (Den.newL fr hp (dl1.append dl2))⟩)
  ·cases e
 ·split at e
  ·cases e
   obtain ⟨a, xs, rfl, r1, dl1⟩ := Den.sqT h1
   obtain ⟨b, ys, rfl, r2, dl2⟩ := Den.sqT h2
   have n1 := dl1.length
   have n2 := dl2.length
   refine .inr (.inr (.inl ⟨a, b, xs, ys, rfl, rfl, r1, r2, (fun z => by subst z; cases n1), by rw [← n1, ← n2]; assumption, fun z => ?_, fun _ p hp => k _ _ (fr.upd _ hp) (Den.newT fr hp (dl1.append dl2))⟩))
   subst z
   have z2 := List.length_eq_zero_iff.mp n2
   subst z2
   rw [List.append_nil] at k
   exact k _ H (To.refl fr) h1
  ·cases e
 ·cases e
theorem aT : OpR X (binaryOp .Add) (fun x y H Q => (rI0 fun i j => .int (i + j)) x y H Q \/ rM x y H Q \/ rL X.K x y H Q \/ rN X.K x y H Q) := lT.or (xK.or (xJ.or xL))
def eqS : D -> D -> Option Bool
 | .non, .non => some true
 | .int i, .int j => some (decide (i = j))
 | .bl i, .bl j => some (decide (i = j))
 | .str i, .str j => some (decide (i = j))
 | .int _, .str _ => some false
 | .str _, .int _ => some false
 | .bl _, .str _ => some false
 | .str _, .bl _ => some false
 | .non, .int _ => some false
 | .int _, .non => some false
 | .non, .str _ => some false
 | .str _, .non => some false
 | _, _ => none
theorem ut {F : Fx} {H : Hp} {a b : D} {v w : V} {c : Bool} (h : eqS a b = some c) (h1 : Den K F H a v) (h2 : Den K F H b w) : uR v w = true /\ decide (v = w) = c := by
 unfold eqS at h
 split at h <;> first
  | (cases h; cases h1.int; cases h2.int; exact ⟨rfl, by simp⟩)
  | (cases h; cases h1.bl; cases h2.bl; exact ⟨rfl, by simp⟩)
  | (cases h; cases h1.str; cases h2.str; exact ⟨rfl, by simp⟩)
  | (cases h; cases h1.non; cases h2.non; exact ⟨rfl, by simp⟩)
  | (cases h; cases h1.int; cases h2.str; exact ⟨rfl, rfl⟩)
  | (cases h; cases h1.str; cases h2.int; exact ⟨rfl, rfl⟩)
  | (cases h; cases h1.bl; cases h2.str; exact ⟨rfl, rfl⟩)
  | (cases h; cases h1.str; cases h2.bl; exact ⟨rfl, rfl⟩)
  | (cases h; cases h1.non; cases h2.int; exact ⟨rfl, rfl⟩)
  | (cases h; cases h1.int; cases h2.non; exact ⟨rfl, rfl⟩)
  | (cases h; cases h1.non; cases h2.str; exact ⟨rfl, rfl⟩)
  | (cases h; cases h1.str; cases h2.non; exact ⟨rfl, rfl⟩)
  | cases h
def isN : D -> Bool
 | .non => true
 | _ => false
theorem zf {F : Fx} {H : Hp} {d : D} {v : V} (h : Den K F H d v) : decide (v = .non) = isN d := by
 cases d with
 | non => cases h.non; rfl
 | bl b => cases h.bl; rfl
 | int b => cases h.int; rfl
 | str b => cases h.str; rfl
 | ty b => cases h.ty; rfl
 | txt => unfold Den at h; obtain ⟨z, rfl⟩ := h; rfl
 | lst ds => obtain ⟨a, xs, rfl, _⟩ := Den.sqL h; rfl
 | tup ds => obtain ⟨a, xs, rfl, _⟩ := Den.sqT h; rfl
 | scr ds => obtain ⟨a, rfl, _⟩ := Den.scr h; rfl
 | obj C ns ds =>
  unfold Den at h
  obtain ⟨a, _, _, rfl, _⟩ := h; rfl
 | bag =>
  unfold Den at h
  obtain ⟨a, _, _, rfl⟩ := h; rfl
 | adr a =>
  unfold Den at h
  obtain rfl := h; rfl
def fG : D -> D -> Option D
 | a, .non => some (.bl (isN a))
 | _, _ => none
def ku : D -> D -> Option D
 | a, .non => some (.bl (!isN a))
 | _, _ => none
theorem sd : bd K (fun x y H Q => y = .non /\ Q (.bl (decide (x = .non))) H) fG := fun F H β Q d1 d2 d v1 v2 fr h1 h2 e k => by
 unfold fG at e
 split at e
 ·cases e
  exact ⟨h2, by rw [zf h1]; exact k _ H (To.refl fr) rfl⟩
 ·cases e
def dW : D -> Bool
 | .int _ => true | .bl _ => true | .str _ => true | .non => true | _ => false
def eqF : D -> D -> Bool
 | .non, .non => true
 | .bl a, .bl b => a == b
 | .bl a, .int b => (if a then 1 else 0) == b
 | .int a, .bl b => a == (if b then 1 else 0)
 | .int a, .int b => a == b
 | .str a, .str b => a == b
 | _, _ => false
def eW : D -> Option (List D)
 | .lst a => some a
 | .tup a => some a
 | _ => none
def inB (x : D) (ys : List D) : Bool := ys.any fun y => eqF y x
def inD (neg : Bool) (x y : D) : Option D := (eW y).bind fun ys => if (dW x && ys.all dW) = true then some (.bl (if neg then !inB x ys else inB x ys)) else none
theorem m7 {F : Fx} {H : Hp} {d : D} {v : V} (f : dW d = true) (h : Den K F H d v) : fQ v = true := by
 cases d <;> first | (cases h.int; rfl) | (cases h.bl; rfl) | (cases h.str; rfl) | (cases h.non; rfl) | cases f
theorem zk {F : Fx} {H : Hp} {a b : D} {v w : V} (fa : dW a = true) (fb : dW b = true) (h1 : Den K F H a v) (h2 : Den K F H b w) : eqV v w = eqF a b := by
 cases a <;> cases b <;> first
  | (cases h1.int; cases h2.int; rfl) | (cases h1.int; cases h2.bl; rfl) | (cases h1.int; cases h2.str; rfl) | (cases h1.int; cases h2.non; rfl)
  | (cases h1.bl; cases h2.int; rfl) | (cases h1.bl; cases h2.bl; rfl) | (cases h1.bl; cases h2.str; rfl) | (cases h1.bl; cases h2.non; rfl)
  | (cases h1.str; cases h2.int; rfl) | (cases h1.str; cases h2.bl; rfl) | (cases h1.str; cases h2.str; rfl) | (cases h1.str; cases h2.non; rfl)
  | (cases h1.non; cases h2.int; rfl) | (cases h1.non; cases h2.bl; rfl) | (cases h1.non; cases h2.str; rfl) | (cases h1.non; cases h2.non; rfl)
  | (exfalso; exact Bool.false_ne_true fa) | (exfalso; exact Bool.false_ne_true fb)
theorem pO {F : Fx} {H : Hp} {x : D} {v : V} (fx : dW x = true) (hx : Den K F H x v) : ∀ {ds : List D} {vs : List V}, ds.all dW = true -> DenL K F H ds vs -> vs.all fQ = true /\ inV v vs = inB x ds
 | [], vs, _, h => by have q : vs = [] := h; subst q; exact ⟨rfl, rfl⟩
 | d :: ds, vs, f, h => by
  obtain ⟨y, r, q, h1, h2⟩ := h
  subst q
  rw [List.all_cons, Bool.and_eq_true] at f
  obtain ⟨i1, i2⟩ := pO fx hx f.2 h2
  refine ⟨by rw [List.all_cons, m7 f.1 h1, i1]; rfl, ?_⟩
  unfold inV inB at i2 ⊢
  rw [List.any_cons, List.any_cons, i2, zk f.1 fx h1 hx]
theorem l_in {neg : Bool} : bd K (rIn K neg) (inD neg) := fun F H β Q d1 d2 d v1 v2 fr h1 h2 e k => by
 unfold inD at e
 cases q : eW d2 with
 | none => rw [q] at e; cases e
 | some ys =>
  rw [q] at e
  simp only [Option.bind_some] at e
  split at e
  ·rename_i hf
   rw [Bool.and_eq_true] at hf
   cases e
   cases d2 <;> first | (cases q; obtain ⟨a, xs, rfl, r1, dl⟩ := Den.sqL h2; obtain ⟨i1, i2⟩ := pO hf.1 h1 hf.2 dl; exact ⟨a, xs, rfl, .inl r1, m7 hf.1 h1, i1, by rw [i2]; exact k _ H (To.refl fr) rfl⟩) | (cases q; obtain ⟨a, xs, rfl, r1, dl⟩ := Den.sqT h2; obtain ⟨i1, i2⟩ := pO hf.1 h1 hf.2 dl; exact ⟨a, xs, rfl, .inr r1, m7 hf.1 h1, i1, by rw [i2]; exact k _ H (To.refl fr) rfl⟩) | cases q
  ·cases e
def ixD : D -> D -> Option D
 | .lst xs, .int i => atI xs i
 | .tup xs, .int i => atI xs i
 | _, _ => none
theorem uE {F : Fx} {H : Hp} {ds : List D} {vs : List V} {i : Int} {d : D} (h : DenL K F H ds vs) (e : atI ds i = some d) : ∃ v, atI vs i = some v /\ Den K F H d v := by
 unfold atI at e ⊢
 rw [← h.length]
 cases q : ixN ds.length i with
 | none => rw [q] at e; cases e
 | some j =>
  rw [q] at e
  exact h.get e
theorem bF : bd K (fun x y H Q => rK K x y H Q \/ uV K x y H Q) ixD := fun F H β Q d1 d2 d v1 v2 fr h1 h2 e k => by
 unfold ixD at e
 split at e
 ·obtain ⟨a, xs, rfl, r1, dl⟩ := Den.sqL h1
  obtain ⟨v, e2, hd⟩ := uE dl e
  exact .inl ⟨a, xs, _, v, rfl, h2, r1, e2, k _ H (To.refl fr) hd⟩
 ·obtain ⟨a, xs, rfl, r1, dl⟩ := Den.sqT h1
  obtain ⟨v, e2, hd⟩ := uE dl e
  exact .inr ⟨a, xs, _, v, rfl, h2, r1, e2, k _ H (To.refl fr) hd⟩
 ·cases e
theorem aN : IxR X (fun x y H Q => rK X.K x y H Q \/ uV X.K x y H Q) := dy.or ze
def aY : List D -> Option D
 | [.lst xs] => some (.int xs.length)
 | [.tup xs] => some (.int xs.length)
 | _ => none
theorem DenL.one {F : Fx} {H : Hp} {d : D} {vs : List V} (h : DenL K F H [d] vs) : ∃ v, vs = [v] /\ Den K F H d v := by
 obtain ⟨x, r, e, h1, h2⟩ := h
 have q : r = [] := h2
 subst q
 exact ⟨x, e, h1⟩
theorem DenL.two {F : Fx} {H : Hp} {d c : D} {vs : List V} (h : DenL K F H [d, c] vs) : ∃ v w, vs = [v, w] /\ Den K F H d v /\ Den K F H c w := by
 obtain ⟨x, r, e, h1, h2⟩ := h
 obtain ⟨y, rfl, h3⟩ := DenL.one h2
 exact ⟨x, y, e, h1, h3⟩
theorem bB : dZ K (fun xs H Q => ∃ p ys, xs = [.ref p] /\ (SqL K H p ys \/ SqT K H p ys) /\ Q (.int ys.length) H) aY := fun F H β Q ds d vs fr h e k => by
 unfold aY at e
 split at e
 ·cases e
  obtain ⟨v, rfl, g⟩ := DenL.one h
  obtain ⟨a, xs, rfl, r, dl⟩ := Den.sqL g
  exact ⟨a, xs, rfl, .inl r, by rw [← dl.length]; exact k _ H (To.refl fr) rfl⟩
 ·cases e
  obtain ⟨v, rfl, g⟩ := DenL.one h
  obtain ⟨a, xs, rfl, r, dl⟩ := Den.sqT g
  exact ⟨a, xs, rfl, .inr r, by rw [← dl.length]; exact k _ H (To.refl fr) rfl⟩
 ·cases e
def ny : List D -> Option D
 | [.int i] => some (.int (if i < 0 then -i else i))
 | _ => none
def h9 : List D -> Option D
 | [.int i, .int j] => some (.int (if j < i then j else i))
 | _ => none
def mS : List D -> Option D
 | [.int i, .int j] => some (.int (if j > i then j else i))
 | _ => none
theorem oO : dZ K (fun xs H Q => ∃ i j, xs = [.int i, .int j] /\ Q (.int (if j < i then j else i)) H) h9 := fun F H β Q ds d vs fr h e k => by
 unfold h9 at e
 split at e
 ·cases e
  obtain ⟨v, w, rfl, g, g'⟩ := DenL.two h
  cases g.int
  cases g'.int
  exact ⟨_, _, rfl, k _ H (To.refl fr) rfl⟩
 ·cases e
theorem wX : dZ K (fun xs H Q => ∃ i j, xs = [.int i, .int j] /\ Q (.int (if j > i then j else i)) H) mS := fun F H β Q ds d vs fr h e k => by
 unfold mS at e
 split at e
 ·cases e
  obtain ⟨v, w, rfl, g, g'⟩ := DenL.two h
  cases g.int
  cases g'.int
  exact ⟨_, _, rfl, k _ H (To.refl fr) rfl⟩
 ·cases e
def fc : List D -> Option (List Int)
 | [] => some []
 | .int i :: r => (fc r).map (i :: ·)
 | _ => none
theorem intsOf_eq : ∀ {ds : List D} {ns : List Int}, fc ds = some ns -> ds = ns.map D.int
 | [], ns, h => by cases h; rfl
 | d :: ds, ns, h => by
  cases d with
  | int i =>
   unfold fc at h
   cases q : fc ds with
   | none => rw [q] at h; cases h
   | some ms => rw [q] at h; cases h; rw [intsOf_eq q]; rfl
  | _ => cases h
def uP : List D -> Option D
 | [.lst xs] => (fc xs).map fun ns => .int ns.sum
 | _ => none
theorem A1 : dZ K (fun xs H Q => ∃ (a : Addr) (ns : List Int), xs = [.ref a] /\ SqL K H a (ns.map V.int) /\ Q (.int ns.sum) H) uP := fun F H β Q ds d vs fr h e k => by
 unfold uP at e
 split at e
 ·rename_i xs
  cases q : fc xs with
  | none => rw [q] at e; cases e
  | some ns =>
   rw [q] at e; cases e
   obtain ⟨v, rfl, g⟩ := DenL.one h
   obtain ⟨a, ys, rfl, r, dl⟩ := Den.sqL g
   rw [intsOf_eq q] at dl
   have e2 := DenL.ints ns dl
   subst e2
   exact ⟨a, ns, rfl, r, k _ H (To.refl fr) rfl⟩
 ·cases e
def eA : List D -> Option D
 | [.lst xs] => some (.lst xs)
 | [.tup xs] => some (.lst xs)
 | _ => none
theorem fX : dZ K (fun xs H Q => ∃ p ys, xs = [.ref p] /\ (SqL K H p ys \/ SqT K H p ys) /\ ∀ l, H l = none -> Q (.ref l) (upd H l (.lst ys))) eA := fun F H β Q ds d vs fr h e k => by
 unfold eA at e
 split at e
 ·cases e
  obtain ⟨v, rfl, g⟩ := DenL.one h
  obtain ⟨a, xs, rfl, r, dl⟩ := Den.sqL g
  exact ⟨a, xs, rfl, .inl r, fun l hl => k _ _ (fr.upd _ hl) (Den.newL fr hl dl)⟩
 ·cases e
  obtain ⟨v, rfl, g⟩ := DenL.one h
  obtain ⟨a, xs, rfl, r, dl⟩ := Den.sqT g
  exact ⟨a, xs, rfl, .inr r, fun l hl => k _ _ (fr.upd _ hl) (Den.newL fr hl dl)⟩
 ·cases e
end
def asB : D -> Option Bool
 | .bl b => some b
 | _ => none
theorem gM {d : D} {b : Bool} (h : asB d = some b) : d = .bl b := by cases d <;> first | (cases h; rfl) | cases h
def iN : D -> Option Bool
 | .non => some false
 | .bl b => some b
 | .int i => some (i != 0)
 | .lst xs => some (!xs.isEmpty)
 | .tup xs => some (!xs.isEmpty)
 | _ => none
def fB (f : FD) : Dn -> M Bool := fun δ => M.bind (f δ) fun d => M.ofO (asB d)
def bZ (f : FD) : Dn -> M Bool := fun δ => M.bind (f δ) fun d => M.ofO (iN d)
def kC (f g : Dn -> M Bool) : Dn -> M Bool := fun δ => M.bind (f δ) fun c => if c = true then g δ else M.ret false
def db (f g : Dn -> M Bool) : Dn -> M Bool := fun δ => M.bind (f δ) fun c => if c = true then M.ret true else g δ
def bW (f : Dn -> M Bool) : Dn -> M Bool := fun δ => M.bind (f δ) fun c => M.ret (!c)
def i6 (f g : FD) : FD := fun δ => M.bind (f δ) fun d => M.bind (M.ofO (asB d)) fun c => if c = true then g δ else M.ret (.bl false)
def fOr (f g : FD) : FD := fun δ => M.bind (f δ) fun d => M.bind (M.ofO (asB d)) fun c => if c = true then M.ret (.bl true) else g δ
def m8 (f : FD) : FD := fun δ => M.bind (f δ) fun d => M.bind (M.ofO (asB d)) fun c => M.ret (.bl (!c))
def fIf (t : Dn -> M Bool) (f g : FD) : FD := fun δ => M.bind (t δ) fun c => if c = true then f δ else g δ
def bQ (o o' : D -> D -> Option D) (f g h : FD) : FD := fun δ => M.bind (f δ) fun a => M.bind (g δ) fun b => M.bind (M.ofO (o a b)) fun z => M.bind (M.ofO (asB z)) fun c => if c = true then M.bind (h δ) (fun w => M.ofO (o' b w)) else M.ret (.bl false)
section
variable {X : Cx} {E : St -> XK} {a b c : Expr} {rest : List Expr} {pos : Pos} {K : Frag}
theorem M.ofO_bind {α γ : Type} {o : Option α} {k : α -> M γ} {β : Bg} {z : Except Addr γ × Bg} (h : M.bind (M.ofO o) k β = some z) : ∃ a, o = some a /\ k a β = some z := by
 cases o with
 | none => cases h
 | some a => exact ⟨a, rfl, h⟩
theorem run.ofO_bind {α γ ζ : Type} {R : Hp -> γ -> ζ -> Prop} {F : Fx} {σ : St} {o : Option α} {k : α -> M γ} {H : Hp} {Q : ζ -> Hp -> Prop} {β : Bg} (h : run R F E σ (M.bind (M.ofO o) k) H Q β) : ∃ a, o = some a /\ run R F E σ (k a) H Q β := by
 obtain ⟨r, β', e, h⟩ := h
 obtain ⟨a, q, e⟩ := M.ofO_bind e
 exact ⟨a, q, r, β', e, h⟩
theorem run.bOk {F : Fx} {σ : St} {d : D} {v : V} {H : Hp} {Q : Bool -> Hp -> Prop} {β : Bg} (fr : Fr F H β) (hd : Den K F H d v) (h : run (fun _ (a b : Bool) => b = a) F E σ (M.ofO (asB d)) H Q β) : ∃ k, v = .bl k /\ Q k H := by
 obtain ⟨b, e, k⟩ := run.ofO h
 rw [gM e] at hd
 exact ⟨b, hd, k b H (To.refl fr) rfl⟩
theorem kW {f : FD} {σ : St} {H : Hp} {Q : Bool -> Hp -> Prop} (h : tVT K (fB f) E σ H Q) : tV K f E σ H fun x H' => ∃ k, x = .bl k /\ Q k H' := by
 obtain ⟨F, δ, β, fr, vk, h⟩ := h
 exact ⟨F, δ, β, fr, vk, (run.bind (R := Den K F) h).mono fun v H1 h_ => ex5 h_ fun d β1 t hd r1 => run.bOk t.fr hd r1⟩
theorem cu {op : CmpOp} {r : R2} {o : D -> D -> Option D} {f g : FD} (ho : OpR X (compareOp op) r) (l : bd X.K r o) (ha : PE X a (tV X.K f E)) (hb : PE X b (tV X.K g E)) (hm : behindInMarks op b = false := by first | exact pF _ | rfl) : PT X (.Compare a [op] [b] pos) (tVT X.K (fB (f2 o f g)) E) :=
 (qA ho ha hb hm).imp fun σ H Q h => lD l (kW h)
theorem nG {r r' : R2} {o o' : D -> D -> Option D} {f g h : FD} (l : bd K r o) (l' : bd K r' o') {σ : St} {H : Hp} {Q : VK} (hw : tV K (bQ o o' f g h) E σ H Q) : o3 r r' (tV K f E) (tV K g E) (tV K h E) σ H Q := by
 obtain ⟨F, δ, β, fr, vk, hw⟩ := hw
 refine ⟨F, δ, β, fr, vk, (run.bind (R := Den K F) hw).mono fun v H1 h_ => ex5 h_ fun d β1 t hd r1 => ⟨F, δ, β1, t.fr, vk.tr (t.tr fr), (run.bind (R := Den K F) r1).mono fun v2 H2 h_ => ex5 h_ fun d2 β2 t2 hd2 r2 => ?_⟩⟩
 obtain ⟨z, ez, r3⟩ := run.ofO_bind r2
 obtain ⟨c, ec, r4⟩ := run.ofO_bind r3
 rw [gM ec] at ez
 refine l F H2 β2 _ d d2 _ v v2 t2.fr (Den.tr (t2.tr t.fr) _ _ hd) hd2 ez fun vz H3 t3 hz => ⟨c, hz, ?_⟩
 cases c with
 | true =>
  rw [if_pos rfl] at r4
  refine ⟨F, δ, β2, t3.fr, vk.tr ((t.tr fr).trans ((t2.tr t.fr).trans (t3.tr t2.fr))), ?_⟩
  have r5 : run (Den K F) F E σ (M.bind (h δ) fun w => M.ofO (o' d2 w)) H3 Q β2 := by
   obtain ⟨rr, β', e, q⟩ := r4
   refine ⟨rr, β', e, ?_⟩
   cases rr with
   | ok d => exact fun v H' tt => q v H' (t3.trans tt)
   | error C => exact fun H' tt => q H' (t3.trans tt)
  refine (run.bind (R := Den K F) r5).mono fun w H4 h_ => ex5 h_ fun dw β4 t4 hdw r6 => ?_
  obtain ⟨d3, e3, k⟩ := run.ofO r6
  exact l' F H4 β4 Q d2 dw d3 v2 w t4.fr (Den.tr ((t3.tr t2.fr).trans (t4.tr t3.fr)) _ _ hd2) hdw e3 k
 | false =>
  rw [if_neg Bool.false_ne_true] at r4
  obtain ⟨rr, β', e, q⟩ := r4
  cases e
  exact q _ H3 t3 rfl
theorem xl {op op' : CmpOp} {r r' : R2} {o o' : D -> D -> Option D} {f g h : FD} (ho : OpR X (compareOp op) r) (ho' : OpR X (compareOp op') r') (l : bd X.K r o) (l' : bd X.K r' o') (ha : PE X a (tV X.K f E)) (hb : PE X b (tV X.K g E)) (hc : PE X c (tV X.K h E)) (hm : lastMarks [op, op'] [b, c] = false := by with_unfolding_all rfl) :
  PE X (.Compare a [op, op'] [b, c] pos) (tV X.K (bQ o o' f g h) E) := (u7 ho ho' ha hb hc hm).imp fun _ _ _ => nG l l'
theorem mx {op op' : CmpOp} {r r' : R2} {o o' : D -> D -> Option D} {f g h : FD} (ho : OpR X (compareOp op) r) (ho' : OpR X (compareOp op') r') (l : bd X.K r o) (l' : bd X.K r' o') (ha : PE X a (tV X.K f E)) (hb : PE X b (tV X.K g E)) (hc : PE X c (tV X.K h E)) (hm : lastMarks [op, op'] [b, c] = false := by with_unfolding_all rfl) :
  PT X (.Compare a [op, op'] [b, c] pos) (tVT X.K (fB (bQ o o' f g h)) E) := (uX ho ho' ha hb hc hm).imp fun σ H Q q => nG l l' (kW q)
theorem xo {F : Fx} {H : Hp} {d : D} {v : V} {k : Bool} (h : iN d = some k) (hd : Den K F H d v) : wC K v H k := by
 cases d with
 | non => cases h; cases hd.non; rfl
 | bl b => cases h; cases hd.bl; rfl
 | int i => cases h; cases hd.int; rfl
 | lst xs =>
  cases h
  obtain ⟨a, ys, rfl, r, dl⟩ := Den.sqL hd
  refine .inl ⟨ys, r, ?_⟩
  have := dl.length
  cases xs <;> cases ys <;> first | rfl | (simp at this)
 | tup xs =>
  cases h
  obtain ⟨a, ys, rfl, r, dl⟩ := Den.sqT hd
  refine .inr (.inl ⟨ys, r, ?_⟩)
  have := dl.length
  cases xs <;> cases ys <;> first | rfl | (simp at this)
 | _ => cases h
theorem dC {f : FD} (ha : PE X a (tV X.K f E)) (he : ∀ whole, isTrue a X.env whole = (do let v ← whole; standAt a.pos; holding [v] (truthy v)) := by intro _; rfl) : PT X a (tVT X.K (bZ f) E) :=
 (uW ha he).imp fun σ H Q h_ => ex6 h_ fun F δ β fr vk h => ⟨F, δ, β, fr, vk, (run.bind (R := Den X.K F) h).mono fun v H1 h_ => by
  obtain ⟨d, β1, t, hd, r1⟩ := h_
  obtain ⟨k, e, q⟩ := run.ofO r1
  exact ⟨k, xo e hd, q k H1 (To.refl t.fr) rfl⟩⟩
theorem fK {f : Dn -> M Bool} (ha : PT X a (tVT X.K f E)) : PT X (.UnaryOp .Not a pos) (tVT X.K (bW f) E) :=
 (yC ha).imp fun σ H Q h_ => ex6 h_ fun F δ β fr vk h => ⟨F, δ, β, fr, vk, (run.bind (R := fun _ (a b : Bool) => b = a) h).mono fun v H1 h_ => by
  obtain ⟨d, β1, t, hd, r1⟩ := h_
  subst hd
  exact run.ret t.fr r1 rfl⟩
theorem ym {f g : Dn -> M Bool} {σ : St} {H : Hp} {Q : Bool -> Hp -> Prop} (h : tVT K (db f g) E σ H Q) : tOr (tVT K f E) (tVT K g E) σ H Q := by
 obtain ⟨F, δ, β, fr, vk, h⟩ := h
 refine ⟨F, δ, β, fr, vk, (run.bind (R := fun _ (a b : Bool) => b = a) h).mono fun v H1 h_ => ex5 h_ fun d β1 t hd r1 => ?_⟩
 subst hd
 cases v with
 | false => rw [if_neg Bool.false_ne_true] at r1 ⊢; exact ⟨F, δ, β1, t.fr, vk.tr (t.tr fr), r1⟩
 | true => rw [if_pos rfl] at r1 ⊢; exact run.ret t.fr r1 rfl
theorem lA {f : Dn -> M Bool} (ha : PT X a (tVT X.K f E)) : PW X (.BoolOp .Or [a] pos) (tVT X.K f E) := yB ha
theorem oY {f g : Dn -> M Bool} (ha : PT X a (tVT X.K f E)) (hb : PW X (.BoolOp .Or (b :: rest) pos) (tVT X.K g E)) : PW X (.BoolOp .Or (a :: b :: rest) pos) (tVT X.K (db f g) E) := (AT ha hb).imp fun _ _ _ => ym
theorem jz {e : Expr} {f : Dn -> M Bool} (h : PW X e (tVT X.K f E)) : PT X e (tVT X.K f E) := PW.pt h
theorem AG {op} {f : FD} (h : PE X a (tV X.K f E)) : PE X (.BoolOp op [a] pos) (tV X.K f E) := yM h
theorem run.asB {F : Fx} {σ : St} {d : D} {v : V} {k : Bool -> M D} {H : Hp} {Q : VK} {β : Bg} (hd : Den K F H d v) (h : run (Den K F) F E σ (M.bind (M.ofO (asB d)) k) H Q β) : ∃ c, v = .bl c /\ run (Den K F) F E σ (k c) H Q β := by
 obtain ⟨c, e, h⟩ := run.ofO_bind h
 rw [gM e] at hd
 exact ⟨c, hd, h⟩
theorem AH {f g : FD} (ha : PE X a (tV X.K f E)) (hb : PE X (.BoolOp .And (b :: rest) pos) (tV X.K g E)) : PE X (.BoolOp .And (a :: b :: rest) pos) (tV X.K (i6 f g) E) :=
 (yP ha hb).imp fun σ H Q h_ => ex6 h_ fun F δ β fr vk h => ⟨F, δ, β, fr, vk, (run.bind (R := Den X.K F) h).mono fun v H1 h_ => by
  obtain ⟨d, β1, t, hd, r1⟩ := h_
  obtain ⟨c, e, r2⟩ := run.asB hd r1
  refine ⟨c, e, ?_⟩
  cases c with
  | true => rw [if_pos rfl] at r2 ⊢; exact ⟨F, δ, β1, t.fr, vk.tr (t.tr fr), r2⟩
  | false => rw [if_neg Bool.false_ne_true] at r2 ⊢; exact run.ret t.fr r2 rfl⟩
def tyD : D -> Option String
 | .non => some "NoneType" | .bl _ => some "bool" | .int _ => some "int" | .str _ => some "str" | .lst _ => some "list" | .tup _ => some "tuple" | _ => none
def ic : String -> String -> Option Bool
 | "int", "str" => some false | "int", "bool" => some false | "int", "list" => some false | "int", "tuple" => some false | "int", "int" => some true
 | "bool", "str" => some false | "bool", "bool" => some true | "bool", "list" => some false | "bool", "tuple" => some false
 | "str", "str" => some true | "str", "bool" => some false | "str", "list" => some false | "str", "tuple" => some false
 | "NoneType", "str" => some false | "NoneType", "bool" => some false | "NoneType", "list" => some false | "NoneType", "tuple" => some false
 | "list", "list" => some true | "list", "tuple" => some false | "list", "str" => some false | "list", "bool" => some false
 | "tuple", "list" => some false | "tuple", "tuple" => some true | "tuple", "str" => some false | "tuple", "bool" => some false
 | _, _ => none
def ib : String -> String -> String -> Option Bool
 | "int", "list", "tuple" => some false | "bool", "list", "tuple" => some false | "str", "list", "tuple" => some false | "NoneType", "list", "tuple" => some false | "list", "list", "tuple" => some true | "tuple", "list", "tuple" => some true
 | "int", "int", "str" => some true | "bool", "int", "str" => some true | "str", "int", "str" => some true | "NoneType", "int", "str" => some false | "list", "int", "str" => some false | "tuple", "int", "str" => some false
 | _, _, _ => none
theorem xS {a b : String} {c : Bool} (h : ic a b = some c) : kitOne K (.type a) (.type b) = some c := by
 unfold ic at h
 split at h <;> first | (cases h; kernel_rfl) | cases h
theorem xR {a b b' : String} {c : Bool} (h : ib a b b' = some c) : PySem.W.kitAny K (.type a) ([b, b'].map Value.type) = some c := by
 unfold ib at h
 split at h <;> first | (cases h; kernel_rfl) | cases h
def TyG (K : Frag) (H : Hp) (x : V) (t : Value) : Prop := TyOf K H x t \/ (∃ a ys, x = .ref a /\ SqL K H a ys /\ t = .type "list") \/ (∃ a ys, x = .ref a /\ SqT K H a ys /\ t = .type "tuple")
def wT (K : Frag) : List V -> Hp -> VK -> Prop := fun xs H Q => ∃ x c t b, xs = [x, .ty c] /\ TyG K H x t /\ kitOne K t (.type c) = some b /\ Q (.bl b) H
theorem cW : cQ X (.builtin "isinstance") (wT X.K) := by
 intro pins s σ H xs us Q I r h
 obtain ⟨x, c, t, b, rfl, ty, e, q⟩ := h
 cases r with
 | cons r1 r2 =>
  cases r2 with
  | cons r2 r3 =>
   cases r3
   cases r2
   rcases ty with ty | ⟨a, ys, rfl, sq, rfl⟩ | ⟨a, ys, rfl, sq, rfl⟩
   ·exact t8 I r1 ty e fun tk => ⟨.bl b, H, I.tok _, rfl, q⟩
   ·cases r1
    obtain ⟨its, _, pl, _⟩ := I.list sq
    obtain ⟨o, ho, hc, _⟩ := pl.isList
    exact kia_one kitx_list I.kIn ⟨o, ho, hc⟩ e (fun z => nomatch z) fun tk => ⟨.bl b, H, I.tok _, rfl, q⟩
   ·cases r1
    obtain ⟨its, _, pl, _⟩ := I.tuple sq
    obtain ⟨o, ho, hc, _⟩ := pl
    exact kia_one kitx_tuple I.kIn ⟨o, ho, hc⟩ e (fun z => nomatch z) fun tk => ⟨.bl b, H, I.tok _, rfl, q⟩
theorem sQ {F : Fx} {H : Hp} {d : D} {v : V} {t : String} (h : tyD d = some t) (hd : Den K F H d v) : TyG K H v (.type t) := by
 cases d with
 | non => cases h; cases hd.non; exact .inl .non
 | bl b => cases h; cases hd.bl; exact .inl (.bl b)
 | int b => cases h; cases hd.int; exact .inl (.int b)
 | str b => cases h; cases hd.str; exact .inl (.str b)
 | lst ds => cases h; obtain ⟨a, xs, rfl, sq, _⟩ := Den.sqL hd; exact .inr (.inl ⟨a, xs, rfl, sq, rfl⟩)
 | tup ds => cases h; obtain ⟨a, xs, rfl, sq, _⟩ := Den.sqT hd; exact .inr (.inr ⟨a, xs, rfl, sq, rfl⟩)
 | _ => cases h
def cc : List D -> Option D
 | [x, .ty c] => (tyD x).bind fun t => (ic t c).map D.bl
 | _ => none
theorem g0 : dZ K (wT K) cc := fun F H β Q ds d vs fr h e k => by
 unfold cc at e
 split at e
 ·rename_i x c
  cases q : tyD x with
  | none => rw [q] at e; cases e
  | some t =>
   rw [q] at e
   simp only [Option.bind_some] at e
   cases q2 : ic t c with
   | none => rw [q2] at e; cases e
   | some b =>
    rw [q2] at e; cases e
    obtain ⟨v, w, rfl, h1, h2⟩ := DenL.two h
    cases h2.ty
    exact ⟨v, c, _, b, rfl, sQ q h1, xS q2, k _ H (To.refl fr) rfl⟩
 ·cases e
def tu (K : Frag) : List V -> Hp -> VK -> Prop := fun xs H Q => ∃ (x : V) (tp : Addr) (cs : List String) (t : Value) (b : Bool), xs = [x, .ref tp] /\ SqT K H tp (cs.map V.ty) /\ TyG K H x t /\ PySem.W.kitAny K t (cs.map Value.type) = some b /\ Q (.bl b) H
theorem mh : cQ X (.builtin "isinstance") (tu X.K) := by
 intro pins s σ H xs us Q I r h
 obtain ⟨x, tp, cs, t, b, rfl, htp, ty, e, q⟩ := h
 cases r with
 | cons r1 r2 =>
  cases r2 with
  | cons r2 r3 =>
   cases r3
   cases r2
   obtain ⟨its, rv, ⟨⟨oc, od, odt, osl⟩, ho, hoc, n, hod⟩, _⟩ := I.tuple htp
   rw [sP rv] at hod
   dsimp only at hoc hod
   subst hoc hod
   have fin : ∀ tk, EP X pins σ Q (.bool b) { s with toks := tk } := fun tk => ⟨.bl b, H, I.tok _, rfl, q⟩
   rcases ty with ty | ⟨a, ys, rfl, sq, rfl⟩ | ⟨a, ys, rfl, sq, rfl⟩
   ·cases ty with
    | non => cases r1; exact kia_tup PySem.W.kitx_none I.kIn True.intro ho e (fun z => nomatch z) fin
    | bl y => cases r1; exact kia_tup PySem.W.kitx_bool I.kIn True.intro ho e (fun z => nomatch z) fin
    | int i => obtain ⟨t, rfl⟩ := r1; exact kia_tup PySem.W.kitx_int I.kIn True.intro ho e (fun z => nomatch z) fin
    | str y => obtain ⟨t, rfl⟩ := r1; exact kia_tup PySem.W.kitx_str I.kIn True.intro ho e (fun z => nomatch z) fin
    | flt y => obtain ⟨t, rfl⟩ := r1; exact kia_tup PySem.W.kitx_float I.kIn True.intro ho e (fun z => nomatch z) fin
    | @lst a xs ea =>
     cases r1
     obtain ⟨_, _, n, _, h1⟩ := (show bo X.prog X.w H s.heap a (.lst xs) from I.hok a _ ea)
     exact kia_tup kitx_list I.kIn ⟨_, h1, rfl⟩ ho e (fun z => nomatch z) fin
    | @frz a ob xs ea =>
     cases r1
     obtain ⟨_, _, _, n, _, h1⟩ := (show bo X.prog X.w H s.heap a (.frz ob (.lst xs)) from I.hok a _ ea)
     exact kia_tup kitx_list I.kIn ⟨_, h1, rfl⟩ ho e (fun z => nomatch z) fin
    | @tup a xs ea =>
     cases r1
     obtain ⟨_, _, _, p⟩ := (show bo X.prog X.w H s.heap a (.tup xs) from I.hok a _ ea)
     obtain ⟨o, h1, h2, _⟩ := p
     exact kia_tup kitx_tuple I.kIn ⟨o, h1, h2⟩ ho e (fun z => nomatch z) fin
    | @dK a kvs ea =>
     cases r1
     obtain ⟨_, _, vs, _, p⟩ := (show bo X.prog X.w H s.heap a (.dK kvs) from I.hok a _ ea)
     obtain ⟨o, es, ep, h1, h2, _⟩ := p
     exact kia_tup kitx_dict I.kIn ⟨o, h1, h2.1⟩ ho e (fun z => nomatch z) fin
    | @dT a kvs ea =>
     cases r1
     obtain ⟨_, _, xs, _, o, es, ep, h1, h2, _⟩ := (show bo X.prog X.w H s.heap a (.dT kvs) from I.hok a _ ea)
     exact kia_tup kitx_dict I.kIn ⟨o, h1, h2.1⟩ ho e (fun z => nomatch z) fin
    | @ins a C dx fs ea cl ha hn htk hm =>
     cases r1
     obtain ⟨mA, O, _⟩ := iD I.hok ea
     obtain ⟨od, J, _⟩ := O.look
     exact kia_tup (PySem.W.kitx_own (cl.get _) cl.hd ha hn htk hm) I.kIn J ho e (fun z => nomatch z) fin
   ·cases r1
    obtain ⟨its, _, pl, _⟩ := I.list sq
    obtain ⟨o, ho', hc, _⟩ := pl.isList
    exact kia_tup kitx_list I.kIn ⟨o, ho', hc⟩ ho e (fun z => nomatch z) fin
   ·cases r1
    obtain ⟨its, _, pl, _⟩ := I.tuple sq
    obtain ⟨o, ho', hc, _⟩ := pl
    exact kia_tup kitx_tuple I.kIn ⟨o, ho', hc⟩ ho e (fun z => nomatch z) fin
def eC : List D -> Option D
 | [x, .tup [.ty a, .ty b]] => (tyD x).bind fun t => (ib t a b).map D.bl
 | _ => none
theorem tZ : dZ K (tu K) eC := fun F H β Q ds d vs fr h e k => by
 unfold eC at e
 split at e
 ·rename_i x a b
  cases q : tyD x with
  | none => rw [q] at e; cases e
  | some t =>
   rw [q] at e
   simp only [Option.bind_some] at e
   cases q2 : ib t a b with
   | none => rw [q2] at e; cases e
   | some c =>
    rw [q2] at e; cases e
    obtain ⟨v, w, rfl, h1, h2⟩ := DenL.two h
    obtain ⟨p, xs, rfl, sq, dl⟩ := Den.sqT h2
    obtain ⟨y, z, rfl, g1, g2⟩ := DenL.two dl
    cases g1.ty
    cases g2.ty
    exact ⟨v, p, [a, b], _, c, rfl, sq, sQ q h1, xR q2, k _ H (To.refl fr) rfl⟩
 ·cases e
end
def ItD (K : Frag) (J : It) (F : Fx) (H : Hp) (ds : List D) : Prop := ∀ (F2 : Fx) (H2 : Hp) (β2 : Bg), Tr F H F2 H2 -> Fr F2 H2 β2 -> ∀ i, (∀ d, ds[i]? = some d -> J.go i H2 /\ ∀ x H3, J.yld i H2 x H3 -> bN H2 H3 /\ Den K F2 H3 d x) /\ (i = ds.length -> J.stop i H2)
theorem ItD.tr {K : Frag} {J : It} {F F2 : Fx} {H H2 : Hp} {ds : List D} (t : Tr F H F2 H2) (h : ItD K J F H ds) : ItD K J F2 H2 ds := fun F3 H3 β3 t3 fr => h F3 H3 β3 (t.trans t3) fr
def iV (K : Frag) (f : FL) (E : St -> XK) : TI := fun σ H R => ∃ F δ β, Fr F H β /\ VOk K F H δ σ /\ run (fun H' (ds : List D) (J : It) => ItD K J F H' ds) F E σ (f δ) H R β
theorem _root_.L2.PI.imp {X : Cx} {tg e : Expr} {t t' : TI} (h : PI X tg e t) (f : ∀ σ H Q, t' σ H Q -> t σ H Q) : PI X tg e t' := fun pins s σ H Q I q => h pins s σ H Q I (f σ H Q q)
section
variable {X : Cx} {E : St -> XK} {tg : Expr} {K : Frag}
def iSeq (K : Frag) (tl : TE) : TI := fun σ H R => tl σ H fun x H1 => (∃ a, x = .ref a /\ (∃ xs, SqL K H1 a xs) /\ R (Itl K a) H1) \/ (∃ a, x = .ref a /\ (∃ xs, SqT K H1 a xs) /\ R (Itt K a) H1)
theorem yJ {l : Expr} {tl : TE} (hl : PE X l tl) : PI X tg l (iSeq X.K tl) := by
 intro pins s σ H R I h
 refine thn (hl pins s σ H _ I h) fun v s1 ⟨x, H1, I1, r1, q1⟩ => ?_
 have own : ∀ b ∈ [s1.heap.objs.size], d8 X pins H1 b := fun b hb => by
  obtain rfl : b = s1.heap.objs.size := by simpa using hb
  exact I1.fpOk (Nat.le_refl _) (I1.hok.fresh (Nat.le_refl _))
 rcases q1 with ⟨a, e, ⟨xs, hq⟩, q⟩ | ⟨a, e, ⟨xs, hq⟩, q⟩
 ·subst e
  cases r1
  obtain ⟨its, rv, p, hz⟩ := I1.list hq
  exact wpAny_pyIter_list p.isList ⟨s1.heap.objs.size, [s1.heap.objs.size], _, _, H1, rfl, I1.kept (t' := s1.toks) fun b o e => Heap.get?_push_of_some _ e, nC a _, ⟨_, Heap.get?_push_size _ rfl, rfl, rfl⟩, own, q⟩
 ·subst e
  cases r1
  obtain ⟨its, rv, p, hz⟩ := I1.tuple hq
  exact wpAny_pyIter_tuple (show s1.heap.IsTuple a its.toArray from p) ⟨s1.heap.objs.size, [s1.heap.objs.size], _, _, H1, rfl, I1.kept (t' := s1.toks) fun b o e => Heap.get?_push_of_some _ e, rp a _, ⟨_, Heap.get?_push_size _ rfl, rfl, rfl⟩, own, q⟩
theorem vy {F : Fx} {H : Hp} {ds : List D} {a : Addr} (h : Den K F H (.lst ds) (.ref a)) : ItD K (Itl K a) F H ds := fun F2 H2 β2 t fr i => by
 have h2 := Den.tr t _ _ h
 obtain ⟨a', xs, e, sq, dl⟩ := Den.sqL h2
 cases e
 refine ⟨fun d hd => ?_, fun hi => ⟨xs, sq, by rw [← dl.length, hi]; exact Nat.le_refl _⟩⟩
 obtain ⟨x, hx, _⟩ := dl.get hd
 refine ⟨⟨xs, x, sq, hx⟩, fun y H3 hy => ?_⟩
 obtain ⟨rfl, hy⟩ := hy
 obtain ⟨d', e', hd'⟩ := dl.getV (hy xs sq)
 rw [hd] at e'
 cases e'
 exact ⟨bN.refl _, hd'⟩
theorem xW {F : Fx} {H : Hp} {ds : List D} {a : Addr} (h : Den K F H (.tup ds) (.ref a)) : ItD K (Itt K a) F H ds := fun F2 H2 β2 t fr i => by
 have h2 := Den.tr t _ _ h
 obtain ⟨a', xs, e, sq, dl⟩ := Den.sqT h2
 cases e
 refine ⟨fun d hd => ?_, fun hi => ⟨xs, sq, by rw [← dl.length, hi]; exact Nat.le_refl _⟩⟩
 obtain ⟨x, hx, _⟩ := dl.get hd
 refine ⟨⟨xs, x, sq, hx⟩, fun y H3 hy => ?_⟩
 obtain ⟨rfl, hy⟩ := hy
 obtain ⟨d', e', hd'⟩ := dl.getV (hy xs sq)
 rw [hd] at e'
 cases e'
 exact ⟨bN.refl _, hd'⟩
def bc (f : FD) : FL := fun δ => M.bind (f δ) fun d => M.ofO (eW d)
theorem cf {l : Expr} {f : FD} (hl : PE X l (tV X.K f E)) : PI X tg l (iV X.K (bc f) E) :=
 (yJ hl).imp fun σ H R h_ => ex6 h_ fun F δ β fr vk h => ⟨F, δ, β, fr, vk, (run.bind (R := Den X.K F) h).mono fun v H1 h_ => by
  obtain ⟨d, β1, t, hd, r1⟩ := h_
  obtain ⟨ds, e, k⟩ := run.ofO r1
  cases d <;> first
   | (cases e; obtain ⟨a, xs, rfl, sq, dl⟩ := Den.sqL hd; exact .inl ⟨a, rfl, ⟨xs, sq⟩, k _ H1 (To.refl t.fr) (vy hd)⟩)
   | (cases e; obtain ⟨a, xs, rfl, sq, dl⟩ := Den.sqT hd; exact .inr ⟨a, rfl, ⟨xs, sq⟩, k _ H1 (To.refl t.fr) (xW hd)⟩)
   | cases e⟩
def dh (lo : Int) (n : Nat) : List D := (List.range n).map fun (i : Nat) => .int (lo + (i : Int))
theorem t7 {F : Fx} {H : Hp} {lo : Int} {n : Nat} : ItD K (Itr lo n) F H (dh lo n) := fun F2 H2 β2 t fr i => by
 refine ⟨fun d hd => ?_, fun hi => ?_⟩
 ·unfold dh at hd
  have hi : i < n := by
   have := (List.getElem?_eq_some_iff.mp hd).1
   simpa using this
  rw [List.getElem?_map, List.getElem?_range hi] at hd
  cases hd
  exact ⟨hi, fun x H3 ⟨e1, e2⟩ => by subst e1 e2; exact ⟨bN.refl _, rfl⟩⟩
 ·show n <= i
  rw [hi]
  simp [dh]
def dA : List D -> Option (List D)
 | [.int j] => if (decide (-(2 ^ 62) <= j) && decide (j < 2 ^ 62)) = true then some (dh 0 j.toNat) else none
 | _ => none
def bA (op : List D -> Option (List D)) (g : FL) : FL := fun δ => M.bind (g δ) fun as => M.ofO (op as)
theorem da {a : Expr} {g : FL} {p pos : Pos} (hg : Gl X "range") (hm : X.mg "range" = none) (ha : PA X [a] (tVA X.K g E)) (hs : starEach [a] X.env = [(false, eval a X.env)] := by rfl) : PI X tg (.Call (.Name "range" p) [a] [] pos) (iV X.K (bA dA g) E) :=
 (tB hg hm ha hs).imp fun σ H R h_ => ex6 h_ fun F δ β fr vk h => ⟨F, δ, β, fr, vk, (run.bind (R := DenL X.K F) h).mono fun vs H1 h_ => by
  obtain ⟨ds, β1, t, hd, r1⟩ := h_
  obtain ⟨l, e, k⟩ := run.ofO r1
  unfold dA at e
  split at e
  ·split at e
   ·rename_i hj
    cases e
    simp only [Bool.and_eq_true, decide_eq_true_eq] at hj
    obtain ⟨v, rfl, h1⟩ := DenL.one hd
    cases h1.int
    exact ⟨_, rfl, hj.1, hj.2, k _ H1 (To.refl t.fr) t7⟩
   ·cases e
  ·cases e⟩
abbrev TgF := D -> Dn -> Option Dn
abbrev gN := List D -> Dn -> Option Dn
def dg (K : Frag) (g : TG) (tg : TgF) : Prop := ∀ (F : Fx) (H : Hp) (δ δ1 : Dn) (σ : St) (d : D) (v : V) (Q : St -> Hp -> Prop), VOk K F H δ σ -> Den K F H d v -> tg d δ = some δ1 -> (∀ σ1, VOk K F H δ1 σ1 -> Q σ1 H) -> g v σ H Q
def mq (K : Frag) (g : TGs) (tg : gN) : Prop := ∀ (F : Fx) (H : Hp) (δ δ1 : Dn) (σ : St) (ds : List D) (vs : List V) (Q : St -> Hp -> Prop), VOk K F H δ σ -> DenL K F H ds vs -> tg ds δ = some δ1 -> (∀ σ1, VOk K F H δ1 σ1 -> Q σ1 H) -> g vs σ H Q
def tgC (i : Nat) : TgF := fun d δ => if (δ.getD i (some .non)).isNone then some (δ.set i (some d)) else none
def cR : gN := fun ds δ => match ds with
 | [] => some δ
 | _ => none
def bp (t : TgF) (u : gN) : gN := fun ds δ => match ds with
 | [] => none
 | d :: r => (t d δ).bind fun δ1 => u r δ1
def tgT (t : gN) : TgF := fun d δ => match d with
 | .tup ds => t ds δ
 | _ => none
theorem oZ {i : Nat} {d : D} {δ δ1 : Dn} (h : tgC i d δ = some δ1) : δ[i]? = some none /\ δ1 = δ.set i (some d) := by
 unfold tgC at h
 split at h
 ·rename_i q
  cases h
  refine ⟨?_, rfl⟩
  rw [List.getD_eq_getElem?_getD] at q
  cases e : δ[i]? with
  | none => rw [e] at q; cases q
  | some z =>
   rw [e] at q
   cases z with
   | none => rfl
   | some w => cases q
 ·cases h
theorem aD {i : Nat} : dg K (eD i) (tgC i) := fun F H δ δ1 σ d v Q vk hd e k => by
 obtain ⟨_, rfl⟩ := oZ e
 exact k _ (vk.set hd)
theorem dQ : mq K gNil cR := fun F H δ δ1 σ ds vs Q vk hd e k => by
 cases ds with
 | nil => cases e; exact ⟨hd, k _ vk⟩
 | cons _ _ => cases e
theorem bj {t : TG} {u : TGs} {tf : TgF} {uf : gN} (h1 : dg K t tf) (h2 : mq K u uf) : mq K (sy t u) (bp tf uf) := fun F H δ δ1 σ ds vs Q vk hd e k => by
 cases ds with
 | nil => cases e
 | cons d r =>
  obtain ⟨x, xr, rfl, hx, hr⟩ := hd
  have e' : (tf d δ).bind (fun δ1 => uf r δ1) = some δ1 := e
  cases q : tf d δ with
  | none => rw [q] at e'; cases e'
  | some δ2 =>
   rw [q] at e'
   exact ⟨x, xr, rfl, h1 F H δ δ2 σ d x _ vk hx q fun σ1 vk1 => h2 F H δ2 δ1 σ1 r xr Q vk1 hr e' k⟩
theorem e8 {n : Nat} {t : TGs} {tf : gN} (h : mq K t tf) (hn : ∀ ds δ δ1, tf ds δ = some δ1 -> ds.length = n) : dg K (vG K n t) (tgT tf) := fun F H δ δ1 σ d v Q vk hd e k => by
 cases d <;> first
  | (obtain ⟨a, xs, rfl, sq, dl⟩ := Den.sqT hd; exact ⟨a, xs, rfl, sq, by rw [← dl.length]; exact hn _ _ _ e, h F H δ δ1 σ _ xs Q vk dl e k⟩)
  | cases e
theorem cY : ∀ ds δ δ1, cR ds δ = some δ1 -> ds.length = 0 := fun ds δ δ1 h => by
 cases ds with
 | nil => rfl
 | cons _ _ => cases h
theorem bh {t : TgF} {u : gN} {n : Nat} (h : ∀ ds δ δ1, u ds δ = some δ1 -> ds.length = n) : ∀ ds δ δ1, bp t u ds δ = some δ1 -> ds.length = n + 1 := fun ds δ δ1 e => by
 cases ds with
 | nil => cases e
 | cons d r =>
  have e' : (t d δ).bind (fun δ1 => u r δ1) = some δ1 := e
  cases q : t d δ with
  | none => rw [q] at e'; cases e'
  | some δ2 => rw [q] at e'; rw [List.length_cons, h _ _ _ e']
def eJ (tg : TgF) : Prop := ∀ d δ δ1, tg d δ = some δ1 -> Sub δ δ1 /\ δ.length = δ1.length
def oR (tg : gN) : Prop := ∀ d δ δ1, tg d δ = some δ1 -> Sub δ δ1 /\ δ.length = δ1.length
theorem aG {i : Nat} : eJ (tgC i) := fun d δ δ1 e => by
 obtain ⟨q, rfl⟩ := oZ e
 refine ⟨fun j c ej => ?_, by rw [List.length_set]⟩
 rw [List.getElem?_set]
 by_cases z : i = j
 ·subst z; rw [q] at ej; cases ej
 ·rw [if_neg z]; exact ej
theorem dP : oR cR := fun ds δ δ1 e => by
 cases ds with
 | nil => cases e; exact ⟨fun _ _ h => h, rfl⟩
 | cons _ _ => cases e
theorem bi {t : TgF} {u : gN} (h1 : eJ t) (h2 : oR u) : oR (bp t u) := fun ds δ δ1 e => by
 cases ds with
 | nil => cases e
 | cons d r =>
  have e' : (t d δ).bind (fun δ1 => u r δ1) = some δ1 := e
  cases q : t d δ with
  | none => rw [q] at e'; cases e'
  | some δ2 =>
   rw [q] at e'
   obtain ⟨a1, a2⟩ := h1 _ _ _ q
   obtain ⟨b1, b2⟩ := h2 _ _ _ e'
   exact ⟨fun i c h => b1 i c (a1 i c h), a2.trans b2⟩
theorem eV {t : gN} (h : oR t) : eJ (tgT t) := fun d δ δ1 e => by
 cases d <;> first | exact h _ _ _ e | cases e
structure ToD (F : Fx) (D : Addr) (H H' : Hp) (β' : Bg) : Prop where
 kp : ∀ a o, H a = some o -> a ≠ D -> (∀ b l, F.bg = some (b, l) -> a ≠ b /\ a ≠ l) -> H' a = some o
 fr : Fr F H' β'
theorem ToD.trans {F : Fx} {D : Addr} {H H1 H2 : Hp} {β1 β2 : Bg} (a : ToD F D H H1 β1) (b : ToD F D H1 H2 β2) : ToD F D H H2 β2 := ⟨fun x o h n m => b.kp x o (a.kp x o h n m) n m, b.fr⟩
theorem To.toD {F : Fx} {H H' : Hp} {β' : Bg} (t : To F H H' β') (D : Addr) : ToD F D H H' β' := ⟨fun a o h _ m => t.kp a o h m, t.fr⟩
theorem ToD.tr {F : Fx} {D : Addr} {H H' : Hp} {β β' : Bg} (fr : Fr F H β) (hD : F.A D) (t : ToD F D H H' β') : Tr F H F H' :=
 ⟨fun _ h _ => h, fun a o h e => t.kp a o e (fun z => h (z ▸ hD)) fun b l q => ⟨fun z => h (z ▸ (fr.bgA b l q).1), fun z => h (z ▸ (fr.bgA b l q).2.1)⟩, rfl⟩
def fR (K : Frag) (D : Addr) (tb : TB) (f : Dn -> M (List Pu.D)) : Prop := ∀ (F : Fx) (H : Hp) (δ : Dn) (β β' : Bg) (σ : St) (acc : List V) (as os : List Pu.D) (Q : St -> Hp -> Prop), Fr F H β -> F.A D -> (∀ b l, F.bg = some (b, l) -> D ≠ b /\ D ≠ l) -> VOk K F H δ σ -> H D = some (.lst acc) -> DenL K F H as acc ->
 f δ β = some (.ok os, β') -> as.length + os.length <= sizeLine -> (∀ σ1 H1 acc1, ToD F D H H1 β' -> VOk K F H1 δ σ1 -> H1 D = some (.lst acc1) -> DenL K F H1 (as ++ os) acc1 -> Q σ1 H1) -> tb σ H Q
def cEm (f : Dn -> M Pu.D) : Dn -> M (List Pu.D) := fun δ => M.bind (f δ) fun d => M.ret [d]
theorem M.bind_inv {α γ : Type} {m : M α} {k : α -> M γ} {β β' : Bg} {r : γ} (h : M.bind m k β = some (.ok r, β')) : ∃ a β1, m β = some (.ok a, β1) /\ k a β1 = some (.ok r, β') := by
 unfold M.bind at h
 split at h
 ·cases h
 ·cases h
 ·rename_i a β1 e
  exact ⟨a, β1, e, h⟩
theorem E0.run {α γ : Type} {R : Hp -> α -> γ -> Prop} {F : Fx} {σ : St} {m : M α} {H : Hp} {Q : γ -> Hp -> Prop} {β β' : Bg} {a : α} (e : m β = some (.ok a, β')) (h : ∀ v H', To F H H' β' -> R H' a v -> Q v H') : run R F E0 σ m H Q β := ⟨.ok a, β', e, h⟩
theorem aX {D : Addr} {f : Dn -> M Pu.D} : fR K D (sF D (tV K f E0)) (cEm f) := fun F H δ β β' σ acc as os Q fr hA hb vk hD hd e hz k => by
 obtain ⟨d, β1, e1, e2⟩ := M.bind_inv e
 cases e2
 refine ⟨F, δ, β, fr, vk, E0.run e1 fun v H1 t hv => ?_⟩
 have hD1 := t.kp D _ hD hb
 have dl := DenL.tr (t.tr fr) _ _ hd
 refine ⟨acc, hD1, by rw [← hd.length]; simp at hz; omega, ?_⟩
 have tD : ToD F D H1 (upd H1 D (.lst (acc ++ [v]))) β' := by
  refine ⟨fun a o h n _ => by rw [upd_ne n]; exact h, fun a h q => ?_, fr.bgA, fun b l q => ?_⟩
  ·by_cases z : a = D
   ·subst z; rw [ao] at q; cases q
   ·rw [upd_ne z] at q; exact t.fr.occ a h q
  ·rw [upd_ne (hb b l q).1.symm, upd_ne (hb b l q).2.symm]
   exact t.fr.bag b l q
 have tt := tD.tr t.fr hA
 exact k σ _ _ ((t.toD D).trans tD) (vk.tr ((t.tr fr).trans tt)) ao (DenL.append (DenL.tr tt _ _ dl) ⟨v, [], rfl, Den.tr tt _ _ hv, rfl⟩)
def cLp (tg : TgF) (tt : Dn -> M Bool) (b : Dn -> M (List Pu.D)) : List Pu.D -> Dn -> M (List Pu.D)
 | [], _ => M.ret []
 | d :: ds, δ => match tg d δ with
  | none => M.fail
  | some δ1 => M.bind (tt δ1) fun c => M.bind (if c = true then b δ1 else M.ret []) fun o => M.bind (cLp tg tt b ds δ) fun os => M.ret (o ++ os)
theorem mV {D : Addr} {J : It} {g : TG} {tg : TgF} {tt : Dn -> M Bool} {tb : TB} {b : Dn -> M (List Pu.D)} (hg : dg K g tg) (sg : eJ tg) (hb : fR K D tb b) {F : Fx} {H : Hp} {δ : Dn} {β β' : Bg} {σ : St} {acc : List V} {as os ds : List Pu.D} {Q : St -> Hp -> Prop} (fr : Fr F H β) (hA : F.A D) (hn : ∀ b l, F.bg = some (b, l) -> D ≠ b /\ D ≠ l) (vk : VOk K F H δ σ) (hD : H D = some (.lst acc)) (hd : DenL K F H as acc)
  (it : ItD K J F H ds) (e : cLp tg tt b ds δ β = some (.ok os, β')) (hz : as.length + os.length <= sizeLine) (k : ∀ σ1 H1 acc1, ToD F D H H1 β' -> VOk K F H1 δ σ1 -> H1 D = some (.lst acc1) -> DenL K F H1 (as ++ os) acc1 -> Q σ1 H1) : eE J g (tVT K tt E0) tb σ H Q := by
 refine ⟨fun i m σ1 H1 => m + i = ds.length /\ ∃ β1 acc1 as1 os1, ToD F D H H1 β1 /\ VOk K F H1 δ σ1 /\ H1 D = some (.lst acc1) /\ DenL K F H1 as1 acc1 /\ cLp tg tt b (ds.drop i) δ β1 = some (.ok os1, β') /\ as1 ++ os1 = as ++ os,
  ⟨ds.length, by omega, β, acc, as, os, ⟨fun _ _ h _ _ => h, fr⟩, vk, hD, hd, e, rfl⟩, ?_⟩
 rintro i m σ1 H1 ⟨hm, β1, acc1, as1, os1, t1, vk1, hD1, hd1, e1, ea⟩
 have tr1 := t1.tr fr hA
 obtain ⟨iy, is⟩ := it F H1 β1 tr1 t1.fr i
 cases hi : ds[i]? with
 | none =>
  have hl : ds.length <= i := List.getElem?_eq_none_iff.mp hi
  rw [List.drop_eq_nil_of_le hl] at e1
  cases e1
  refine .inl ⟨is (by omega), k σ1 H1 acc1 t1 vk1 hD1 ?_⟩
  rw [← ea, List.append_nil]
  exact hd1
 | some d =>
  have hl : i < ds.length := (List.getElem?_eq_some_iff.mp hi).1
  obtain ⟨go, yl⟩ := iy d hi
  have ed : ds.drop i = d :: ds.drop (i + 1) := by
   rw [List.drop_eq_getElem_cons hl]
   congr 1
   exact Option.some.inj ((List.getElem?_eq_getElem hl).symm.trans hi)
  rw [ed] at e1
  unfold cLp at e1
  cases q : tg d δ with
  | none => rw [q] at e1; cases e1
  | some δ1 =>
   rw [q] at e1
   obtain ⟨c, β2, e2, e3⟩ := M.bind_inv e1
   obtain ⟨o, β3, e4, e5⟩ := M.bind_inv e3
   obtain ⟨os2, β4, e6, e7⟩ := M.bind_inv e5
   cases e7
   obtain ⟨s1, s2⟩ := sg _ _ _ q
   refine .inr ⟨go, fun σ9 H9 => ∃ acc9, ToD F D H H9 β3 /\ VOk K F H9 δ σ9 /\ H9 D = some (.lst acc9) /\ DenL K F H9 (as1 ++ o) acc9, ?_, fun x H2 hy => ?_⟩
   ·rintro σ9 H9 ⟨acc9, t9, vk9, hD9, hd9⟩
    exact ⟨m - 1, by omega, by omega, β3, acc9, as1 ++ o, os2, t9, vk9, hD9, hd9, e6, by rw [List.append_assoc]; exact ea⟩
   ·obtain ⟨sm, dx⟩ := yl x H2 hy
    have t2 : To F H1 H2 β1 := t1.fr.same sm
    have tr2 := t2.tr t1.fr
    refine hg F H2 δ δ1 σ1 d x _ (vk1.tr tr2) dx q fun σ2 vk2 => ⟨F, δ1, β1, t2.fr, vk2, E0.run e2 fun c' H3 t3 ec => ?_⟩
    subst ec
    have hDn := hn
    have hD2 := sm _ _ hD1
    have hD3 := t3.kp D _ hD2 hn
    have tr3 := t3.tr t2.fr
    have d3 := DenL.tr (tr2.trans tr3) _ _ hd1
    have tt3 : ToD F D H H3 β2 := t1.trans ((t2.trans t3).toD D)
    have hle : as1.length + (o ++ os2).length <= sizeLine := by
     have := congrArg List.length ea
     simp only [List.length_append] at this ⊢
     omega
    cases c' with
    | true =>
     rw [if_pos rfl] at e4 ⊢
     refine hb F H3 δ1 β2 β3 σ2 acc1 as1 o _ t3.fr hA hn (vk2.tr tr3) hD3 d3 e4 (by rw [List.length_append] at hle; omega) fun σ4 H4 acc4 t4 vk4 hD4 hd4 => ?_
     exact ⟨acc4, tt3.trans t4, vk4.sub s1 s2, hD4, hd4⟩
    | false =>
     rw [if_neg Bool.false_ne_true] at e4 ⊢
     cases e4
     exact ⟨acc1, tt3, (vk2.tr tr3).sub s1 s2, hD3, by rw [List.append_nil]; exact d3⟩
def cNx (it : Dn -> M (List Pu.D)) (tg : TgF) (tt : Dn -> M Bool) (b : Dn -> M (List Pu.D)) : Dn -> M (List Pu.D) := fun δ => M.bind (it δ) fun ds => cLp tg tt b ds δ
theorem qO {D : Addr} {it : Dn -> M (List Pu.D)} {g : TG} {tg : TgF} {tt : Dn -> M Bool} {tb : TB} {b : Dn -> M (List Pu.D)} (hg : dg K g tg) (sg : eJ tg) (hb : fR K D tb b) : fR K D (w9 (iV K it E0) fun J => eE J g (tVT K tt E0) tb) (cNx it tg tt b) := fun F H δ β β' σ acc as os Q fr hA hn vk hD hd e hz k => by
 obtain ⟨ds, β1, e1, e2⟩ := M.bind_inv e
 refine ⟨F, δ, β, fr, vk, E0.run e1 fun J H1 t hJ => ?_⟩
 exact mV hg sg hb t.fr hA hn (vk.tr (t.tr fr)) (t.kp D _ hD hn) (DenL.tr (t.tr fr) _ _ hd) hJ e2 hz fun σ1 H1 acc1 t1 => k σ1 H1 acc1 ((t.toD D).trans t1)
def cSt (nv : Nat) (caps : List Nat) (δ : Dn) : Dn := List.replicate nv none ++ caps.map fun j => δ.getD j none
def aM (nv : Nat) (caps : List Nat) (it : Dn -> M (List Pu.D)) (tg : TgF) (tt : Dn -> M Bool) (b : Dn -> M (List Pu.D)) : Dn -> M Pu.D := fun δ β => match it δ β with
 | none => none
 | some (.error C, β1) => some (.error C, β1)
 | some (.ok ds, β1) => match cLp tg tt b ds (cSt nv caps δ) β1 with
  | some (.ok os, β2) => if os.length <= sizeLine then some (.ok (.lst os), β2) else none
  | _ => none
theorem pX {F : Fx} {H : Hp} {δ : Dn} {σ : St} {vars : List Str} {caps : List Nat} (vk : VOk K F H δ σ) : VOk K F H (cSt vars.length caps δ) (j8 vars caps σ) := by
 refine ⟨by simp [cSt, j8], fun i d e => ?_⟩
 unfold cSt at e
 unfold j8
 rw [List.getElem?_append] at e ⊢
 rw [List.length_replicate] at e ⊢
 by_cases hi : i < vars.length
 ·rw [if_pos hi, List.getElem?_replicate, if_pos hi] at e
  cases e
 ·rw [if_neg hi, List.getElem?_map] at e ⊢
  cases q : caps[i - vars.length]? with
  | none => rw [q] at e; cases e
  | some j =>
   rw [q] at e
   simp only [Option.map_some, Option.some.injEq] at e ⊢
   rw [List.getD_eq_getElem?_getD] at e
   cases z : δ[j]? with
   | none => rw [z] at e; cases e
   | some w =>
    rw [z] at e
    have ew : w = some d := e
    subst ew
    obtain ⟨v, h1, h2⟩ := vk.tell j d z
    exact ⟨v, by rw [List.getD_eq_getElem?_getD, h1]; rfl, h2⟩
theorem o0 {vars : List Str} {caps : List Nat} {it : Dn -> M (List Pu.D)} {g : TG} {tg : TgF} {tt : Dn -> M Bool} {tb : Addr -> TB} {b : Dn -> M (List Pu.D)} (hg : dg K g tg) (sg : eJ tg) (hb : ∀ D, fR K D (tb D) b) {σ : St} {H : Hp} {Q : VK} (h : tV K (aM vars.length caps it tg tt b) E σ H Q) :
  lE vars caps (iV K it E) (fun D J => eE J g (tVT K tt E0) (tb D)) σ H Q := by
 obtain ⟨F, δ, β, fr, vk, r, β', e, h⟩ := h
 unfold aM at e
 refine ⟨F, δ, β, fr, vk, ?_⟩
 split at e
 ·cases e
 ·rename_i C β1 q
  cases e
  exact ⟨.error C, _, q, h⟩
 ·rename_i ds β1 q
  split at e
  ·rename_i os β2 q2
   split at e
   ·rename_i hz
    cases e
    refine ⟨.ok ds, β1, q, fun J H1 t hJ D hD => ?_⟩
    have hDA : ¬ F.A D := t.fr.fresh hD
    have nb : ∀ b l, F.bg = some (b, l) -> D ≠ b /\ D ≠ l := fun b l z => ⟨fun w => hDA (w ▸ (fr.bgA b l z).1), fun w => hDA (w ▸ (fr.bgA b l z).2.1)⟩
    have t2 := t.fr.upd (.lst []) hD
    have fr2 : Fr ⟨fun a => F.A a \/ a = D, F.bg⟩ (upd H1 D (.lst [])) β1 := by
     refine ⟨fun a ha z => ?_, fun b l z => let ⟨x, y, w⟩ := fr.bgA b l z; ⟨.inl x, .inl y, w⟩, t2.fr.bag⟩
     rcases ha with ha | ha
     ·exact t2.fr.occ a ha z
     ·subst ha; rw [ao] at z; cases z
    have tr2 : Tr F H1 ⟨fun a => F.A a \/ a = D, F.bg⟩ (upd H1 D (.lst [])) := ⟨fun a ha hs z => by
     rcases z with z | z
     ·exact ha z
     ·subst z; exact hs hD, fun a o ha z => by rw [upd_ne (ne_of_none z hD)]; exact z, rfl⟩
    refine mV (D := D) (as := []) (os := os) hg sg (hb D) fr2 (.inr rfl) nb (pX (vk.tr ((t.tr fr).trans tr2))) ao rfl (hJ.tr tr2) q2 (by simpa using hz) fun σ1 H2 acc1 t3 vk3 hD3 hd3 => ?_
    have tf : To F H1 H2 β' := by
     refine ⟨fun a o z n => t3.kp a o (by rw [upd_ne (ne_of_none z hD)]; exact z) (ne_of_none z hD) n, fun a ha z => t3.fr.occ a (Or.inl ha) z, fr.bgA, t3.fr.bag⟩
    refine h _ H2 (t.trans tf) ⟨D, acc1, rfl, ⟨hDA, .inl hD3⟩, DenL.tr (F := ⟨fun a => F.A a \/ a = D, F.bg⟩) ⟨fun a ha _ z => ha (Or.inl z), fun a o _ z => z, rfl⟩ _ _ hd3⟩
   ·cases e
  ·cases e
end
inductive Sl where
 | sh (d : D) | own (ds : List D) | grd (rows : List (List D))
abbrev Ds := List (Option Sl)
inductive Out where
 | nx (δ : Ds) | rt (d : D) | bk (δ : Ds) | ct (δ : Ds) | ex (C : Addr) (δ : Ds) | rg (rows : List (List D))
abbrev G := Ds -> Bg -> Option (Out × Bg)
abbrev Ow := Addr -> Option Nat
def FxB (B : Ow) (bg : Option (Addr × Addr)) : Fx := ⟨fun a => B a ≠ none, bg⟩
def FxA (B : Ow) (bg : Option (Addr × Addr)) : Fx := ⟨fun a => B a = some 0 \/ B a = some 1, bg⟩
def RowL (K : Frag) (F : Fx) (H : Hp) (P : Addr -> Prop) : List (List D) -> List Addr -> Prop
 | [], [] => True
 | ds :: rows, r :: rs => P r /\ (∃ xs, H r = some (.lst xs) /\ DenL K F H ds xs) /\ RowL K F H P rows rs
 | _, _ => False
theorem RowL.tr {K : Frag} {F F2 : Fx} {H H2 : Hp} {P P2 : Addr -> Prop} (t : Tr F H F2 H2) : ∀ {rows : List (List D)} {rs : List Addr}, RowL K F H P rows rs -> (∀ r xs, r ∈ rs -> P r -> H r = some (.lst xs) -> P2 r /\ H2 r = some (.lst xs)) -> RowL K F2 H2 P2 rows rs
 | [], [], _, _ => trivial
 | ds :: rows, r :: rs, h, f => by
  obtain ⟨h1, ⟨xs, h2, h3⟩, h4⟩ := h
  obtain ⟨p, q⟩ := f r xs List.mem_cons_self h1 h2
  exact ⟨p, ⟨xs, q, DenL.tr t _ _ h3⟩, RowL.tr t h4 fun r' xs' hr => f r' xs' (List.mem_cons_of_mem _ hr)⟩
 | [], _ :: _, h, _ => h.elim
 | _ :: _, [], h, _ => h.elim
theorem RowL.all {K : Frag} {F : Fx} {H : Hp} {P : Addr -> Prop} : ∀ {rows : List (List D)} {rs : List Addr}, RowL K F H P rows rs -> ∀ r ∈ rs, P r /\ ∃ xs, H r = some (.lst xs)
 | [], [], _, r, hr => by cases hr
 | ds :: rows, r0 :: rs, h, r, hr => by
  obtain ⟨h1, ⟨xs, h2, h3⟩, h4⟩ := h
  rcases List.mem_cons.mp hr with rfl | hr
  ·exact ⟨h1, xs, h2⟩
  ·exact RowL.all h4 r hr
 | [], _ :: _, h, _, _ => h.elim
 | _ :: _, [], h, _, _ => h.elim
theorem RowL.den {K : Frag} {F F2 : Fx} {H : Hp} {P : Addr -> Prop} (t : Tr F H F2 H) : ∀ {rows : List (List D)} {rs : List Addr}, RowL K F H P rows rs -> (∀ r, r ∈ rs -> P r -> ¬ F2.A r) -> DenL K F2 H (rows.map D.lst) (rs.map V.ref)
 | [], [], _, _ => rfl
 | ds :: rows, r :: rs, h, f => by
  obtain ⟨h1, ⟨xs, h2, h3⟩, h4⟩ := h
  exact DenL.cons ⟨r, xs, rfl, ⟨f r List.mem_cons_self h1, .inl h2⟩, DenL.tr t _ _ h3⟩ (RowL.den t h4 fun r' hr => f r' (List.mem_cons_of_mem _ hr))
 | [], _ :: _, h, _ => h.elim
 | _ :: _, [], h, _ => h.elim
theorem RowL.len {K : Frag} {F : Fx} {H : Hp} {P : Addr -> Prop} : ∀ {rows : List (List D)} {rs : List Addr}, RowL K F H P rows rs -> rows.length = rs.length
 | [], [], _ => rfl
 | ds :: rows, r :: rs, h => by simp [RowL.len h.2.2]
 | [], _ :: _, h => h.elim
 | _ :: _, [], h => h.elim
def f6 (K : Frag) (F : Fx) (H0 H : Hp) (rows : List (List D)) (v : V) : Prop := ∃ a rs, v = .ref a /\ H0 a = none /\ H a = some (.lst (rs.map V.ref)) /\ (a :: rs).Nodup /\ RowL K F H (fun r => H0 r = none) rows rs
def DenS (K : Frag) (B : Ow) (bg : Option (Addr × Addr)) (H : Hp) (i : Nat) : Sl -> V -> Prop
 | .sh d, v => Den K (FxB B bg) H d v
 | .own ds, v => ∃ a xs, v = .ref a /\ B a = some (i + 2) /\ H a = some (.lst xs) /\ DenL K (FxB B bg) H ds xs
 | .grd rows, v => ∃ a rs, v = .ref a /\ B a = some (i + 2) /\ H a = some (.lst (rs.map V.ref)) /\ (a :: rs).Nodup /\ RowL K (FxB B bg) H (fun r => B r = some (i + 2)) rows rs
structure SOk (K : Frag) (H₀ : Hp) (B : Ow) (bg : Option (Addr × Addr)) (H : Hp) (δ : Ds) (β : Bg) (σ : St) : Prop where
 fr : Fr (FxB B bg) H β
 bgt : ∀ b l, bg = some (b, l) -> B b = some 1 /\ B l = some 1
 len : δ.length = σ.length
 cov : ∀ a, H₀ a ≠ none -> H a ≠ none
 new : ∀ a k, B a = some (k + 2) -> H₀ a = none
 lst : ∀ a k, B a = some (k + 2) -> ∃ xs, H a = some (.lst xs)
 tell : ∀ (i : Nat) (s : Sl), δ[i]? = some (some s) -> ∃ v, σ[i]? = some (some v) /\ DenS K B bg H i s v
structure Stp (B : Ow) (H : Hp) (B' : Ow) (H' : Hp) : Prop where
 kp : ∀ a o, H a = some o -> (B a = none \/ B a = some 0) -> H' a = some o
 tg : ∀ a, B a = some 0 \/ B a = some 1 -> B' a = B a
 nn : ∀ a o, H a = some o -> B a = none -> B' a = none
 al : ∀ a, H a ≠ none -> H' a ≠ none
theorem Stp.refl (B : Ow) (H : Hp) : Stp B H B H := ⟨fun _ _ h _ => h, fun _ _ => rfl, fun _ _ _ h => h, fun _ h => h⟩
theorem Stp.trans {B B1 B2 : Ow} {H H1 H2 : Hp} (a : Stp B H B1 H1) (b : Stp B1 H1 B2 H2) : Stp B H B2 H2 := by
 refine ⟨fun x o h n => b.kp x o (a.kp x o h n) ?_, fun x h => ?_, fun x o h n => b.nn x o (a.kp x o h (.inl n)) (a.nn x o h n), fun x h => b.al x (a.al x h)⟩
 ·rcases n with n | n
  ·exact .inl (a.nn x o h n)
  ·exact .inr ((a.tg x (.inl n)).trans n)
 ·have e := a.tg x h
  rw [← e] at h
  exact (b.tg x h).trans e
def h8 (K : Frag) (H₀ : Hp) (bg : Option (Addr × Addr)) (E : St -> XK) (Dn : Ends) (B : Ow) (H : Hp) (o : Out) (β' : Bg) : Prop := match o with
 | .nx δ' => ∀ σ' B' H', Stp B H B' H' -> SOk K H₀ B' bg H' δ' β' σ' -> Dn.nx σ' H'
 | .bk δ' => ∀ σ' B' H', Stp B H B' H' -> SOk K H₀ B' bg H' δ' β' σ' -> Dn.bk σ' H'
 | .ct δ' => ∀ σ' B' H', Stp B H B' H' -> SOk K H₀ B' bg H' δ' β' σ' -> Dn.ct σ' H'
 | .rt d => ∀ v B' H', Stp B H B' H' -> Fr (FxB B' bg) H' β' -> Den K (FxB B' bg) H' d v -> Dn.rt v H'
 | .rg rows => ∀ v B' H', Stp B H B' H' -> Fr (FxB B' bg) H' β' -> f6 K (FxB B' bg) H₀ H' rows v -> Dn.rt v H'
 | .ex C δ' => ∀ σ' B' H', Stp B H B' H' -> SOk K H₀ B' bg H' δ' β' σ' -> E σ' (.ref C) none H'
theorem h8.pre {K : Frag} {H₀ : Hp} {bg : Option (Addr × Addr)} {E : St -> XK} {Dn : Ends} {B B1 : Ow} {H H1 : Hp} {o : Out} {β' : Bg} (s : Stp B H B1 H1) (h : h8 K H₀ bg E Dn B H o β') : h8 K H₀ bg E Dn B1 H1 o β' := by
 cases o with
 | nx δ => exact fun σ' B' H' t => h σ' B' H' (s.trans t)
 | bk δ => exact fun σ' B' H' t => h σ' B' H' (s.trans t)
 | ct δ => exact fun σ' B' H' t => h σ' B' H' (s.trans t)
 | rt d => exact fun v B' H' t => h v B' H' (s.trans t)
 | rg d => exact fun v B' H' t => h v B' H' (s.trans t)
 | ex C δ => exact fun σ' B' H' t => h σ' B' H' (s.trans t)
def tG (K : Frag) (H₀ : Hp) (g : G) (E : St -> XK) : TS := fun Dn σ H => ∃ B bg δ β o β', SOk K H₀ B bg H δ β σ /\ g δ β = some (o, β') /\ h8 K H₀ bg E Dn B H o β'
theorem _root_.L2.PS.imp {X : Cx} {e : Stmt} {t t' : TS} (h : PS X e t) (f : ∀ D σ H, t' D σ H -> t D σ H) : PS X e t' := fun pins s σ H D I q => h pins s σ H D I (f D σ H q)
theorem _root_.L2.PSs.imp {X : Cx} {e : List Stmt} {t t' : TS} (h : PSs X e t) (f : ∀ D σ H, t' D σ H -> t D σ H) : PSs X e t' := fun pins s σ H D I q => h pins s σ H D I (f D σ H q)
def vw (δ : Ds) : Dn := δ.map fun s => match s with
 | some (.sh d) => some d
 | _ => none
def vwA (δ : Ds) : Dn := δ.map fun s => match s with
 | some (.sh d) => some d
 | some (.own ds) => some (.lst ds)
 | some (.grd rows) => some (.lst (rows.map D.lst))
 | none => none
section
variable {K : Frag} {H₀ : Hp} {B : Ow} {bg : Option (Addr × Addr)} {H H' : Hp} {δ : Ds} {β β' : Bg} {σ : St}
theorem AF {i : Nat} {d : D} (e : (vw δ)[i]? = some (some d)) : δ[i]? = some (some (.sh d)) := by
 unfold vw at e
 rw [List.getElem?_map] at e
 cases q : δ[i]? with
 | none => rw [q] at e; cases e
 | some z =>
  rw [q] at e
  cases z with
  | none => cases e
  | some s =>
   cases s with
   | sh c => cases e; rfl
   | own ds => cases e
   | grd rows => cases e
theorem SOk.view (h : SOk K H₀ B bg H δ β σ) : VOk K (FxB B bg) H (vw δ) σ := ⟨by unfold vw; rw [List.length_map, h.len], fun i d e => h.tell i _ (AF e)⟩
theorem trA : Tr (FxB B bg) H (FxA B bg) H := ⟨fun a h _ z => by
 have h' : ¬ (B a ≠ none) := h
 rcases z with z | z
 ·exact h' (by rw [z]; simp)
 ·exact h' (by rw [z]; simp), fun _ _ _ h => h, rfl⟩
theorem SOk.frA (h : SOk K H₀ B bg H δ β σ) : Fr (FxA B bg) H β := ⟨fun a ha => h.fr.occ a (by
 show B a ≠ none
 rcases ha with z | z <;> rw [z] <;> simp), fun b l e => ⟨.inr (h.bgt b l e).1, .inr (h.bgt b l e).2, (h.fr.bgA b l e).2.2⟩, h.fr.bag⟩
theorem SOk.viewA (h : SOk K H₀ B bg H δ β σ) : VOk K (FxA B bg) H (vwA δ) σ := by
 refine ⟨by unfold vwA; rw [List.length_map, h.len], fun i d e => ?_⟩
 unfold vwA at e
 rw [List.getElem?_map] at e
 cases q : δ[i]? with
 | none => rw [q] at e; cases e
 | some z =>
  rw [q] at e
  cases z with
  | none => cases e
  | some s =>
   obtain ⟨v, h1, h2⟩ := h.tell i s q
   cases s with
   | sh c => cases e; exact ⟨v, h1, Den.tr trA _ _ h2⟩
   | own ds =>
    cases e
    obtain ⟨a, xs, e1, e2, e3, e4⟩ := h2
    refine ⟨v, h1, a, xs, e1, ⟨fun z => ?_, .inl e3⟩, DenL.tr trA _ _ e4⟩
    have z' : B a = some 0 \/ B a = some 1 := z
    rw [e2] at z'
    rcases z' with z' | z' <;> cases z'
   | grd rows =>
    cases e
    obtain ⟨a, rs, e1, e2, e3, e4, e5⟩ := h2
    have na : ∀ c, B c = some (i + 2) -> ¬ (FxA B bg).A c := fun c hc z => by
     have z' : B c = some 0 \/ B c = some 1 := z
     rw [hc] at z'
     rcases z' with z' | z' <;> cases z'
    exact ⟨v, h1, a, _, e1, ⟨na a e2, .inl e3⟩, RowL.den trA e5 fun r _ hr => na r hr⟩
theorem SOk.to {F : Fx} (h : SOk K H₀ B bg H δ β σ) (hF : F.bg = bg) (t : To F H H' β') : SOk K H₀ B bg H' δ β' σ /\ Stp B H B H' := by
 have nb : ∀ a, B a ≠ some 1 -> ∀ b l, F.bg = some (b, l) -> a ≠ b /\ a ≠ l := fun a ha b l e => by
  rw [hF] at e
  exact ⟨fun z => ha (z ▸ (h.bgt b l e).1), fun z => ha (z ▸ (h.bgt b l e).2)⟩
 have kp : ∀ a o, H a = some o -> B a ≠ some 1 -> H' a = some o := fun a o e n => t.kp a o e (nb a n)
 have fr : Fr (FxB B bg) H' β' := ⟨fun a ha z => (by
  by_cases hb : B a = some 1
  ·by_cases hh : ∃ b l, bg = some (b, l) /\ (a = b \/ a = l)
   ·obtain ⟨b, l, e, q⟩ := hh
    obtain ⟨z1, z2⟩ := t.fr.bag b l (hF.trans e)
    rcases q with rfl | rfl
    ·rw [z1] at z; cases z
    ·rw [z2] at z; cases z
   ·cases q : H a with
    | none => exact h.fr.occ a ha q
    | some o =>
     rw [t.kp a o q fun b l e => ⟨fun w => hh ⟨b, l, hF.symm.trans e, .inl w⟩, fun w => hh ⟨b, l, hF.symm.trans e, .inr w⟩⟩] at z
     cases z
  ·cases q : H a with
   | none => exact h.fr.occ a ha q
   | some o => rw [kp a o q hb] at z; cases z), h.fr.bgA, fun b l e => t.fr.bag b l (hF.trans e)⟩
 have tr : Tr (FxB B bg) H (FxB B bg) H' := ⟨fun _ n _ => n, fun a o n e => kp a o e (fun z => n (by show B a ≠ none; rw [z]; simp)), rfl⟩
 have al : ∀ a, H a ≠ none -> H' a ≠ none := fun a ha z => by
  by_cases hh : ∃ b l, bg = some (b, l) /\ (a = b \/ a = l)
  ·obtain ⟨b, l, e, q⟩ := hh
   obtain ⟨z1, z2⟩ := t.fr.bag b l (hF.trans e)
   rcases q with rfl | rfl
   ·rw [z1] at z; cases z
   ·rw [z2] at z; cases z
  ·cases q : H a with
   | none => exact ha q
   | some o =>
    rw [t.kp a o q fun b l e => ⟨fun w => hh ⟨b, l, hF.symm.trans e, .inl w⟩, fun w => hh ⟨b, l, hF.symm.trans e, .inr w⟩⟩] at z
    cases z
 refine ⟨⟨fr, h.bgt, h.len, fun a ha => al a (h.cov a ha), h.new, fun c k hc => (let ⟨xs, z⟩ := h.lst c k hc; ⟨xs, kp c _ z (by rw [hc]; intro z; cases z)⟩), fun i s e => ?_⟩, fun a o e n => kp a o e (by rcases n with n | n <;> rw [n] <;> simp), fun _ _ => rfl, fun _ _ _ n => n, al⟩
 obtain ⟨v, h1, h2⟩ := h.tell i s e
 refine ⟨v, h1, ?_⟩
 cases s with
 | sh c => exact Den.tr tr _ _ h2
 | own ds =>
  obtain ⟨a, xs, e1, e2, e3, e4⟩ := h2
  exact ⟨a, xs, e1, e2, kp a _ e3 (by rw [e2]; intro z; cases z), DenL.tr tr _ _ e4⟩
 | grd rows =>
  obtain ⟨a, rs, e1, e2, e3, e4, e5⟩ := h2
  exact ⟨a, rs, e1, e2, kp a _ e3 (by rw [e2]; intro z; cases z), e4, RowL.tr tr e5 fun r xs _ p q => ⟨p, kp r _ q (by rw [p]; intro z; cases z)⟩⟩
theorem SOk.set {i : Nat} {d : D} {v : V} (h : SOk K H₀ B bg H δ β σ) (hd : Den K (FxB B bg) H d v) : SOk K H₀ B bg H (δ.set i (some (.sh d))) β (σ.set i (some v)) := by
 refine ⟨h.fr, h.bgt, by rw [List.length_set, List.length_set, h.len], h.cov, h.new, h.lst, fun j c e => ?_⟩
 rw [List.getElem?_set] at e
 rw [List.getElem?_set]
 by_cases q : i = j
 ·subst q
  rw [if_pos rfl] at e ⊢
  split at e
  ·rename_i hl
   cases e
   rw [if_pos (by rw [← h.len]; exact hl)]
   exact ⟨v, rfl, hd⟩
  ·cases e
 ·rw [if_neg q] at e ⊢
  exact h.tell j c e
end
def gNil : G := fun δ β => some (.nx δ, β)
def ak (g h : G) : G := fun δ β => match g δ β with
 | some (.nx δ1, β1) => h δ1 β1
 | r => r
def ba (i : Nat) (f : FD) : G := fun δ β => match f (vw δ) β with
 | some (.ok d, β1) => some (.nx (δ.set i (some (.sh d))), β1)
 | some (.error C, β1) => some (.ex C δ, β1)
 | none => none
def ff (i : Nat) (f : FD) : G := fun δ β => match f (vwA δ) β with
 | some (.ok d, β1) => if dW d = true then some (.nx (δ.set i (some (.sh d))), β1) else none
 | some (.error C, β1) => some (.ex C δ, β1)
 | none => none
def bV (f : FD) : G := fun δ β => match f (vwA δ) β with
 | some (.ok _, β1) => some (.nx δ, β1)
 | some (.error C, β1) => some (.ex C δ, β1)
 | none => none
def aO (f : FD) : G := fun δ β => match f (vwA δ) β with
 | some (.ok d, β1) => some (.rt d, β1)
 | some (.error C, β1) => some (.ex C δ, β1)
 | none => none
def gIf (t : Dn -> M Bool) (g h : G) : G := fun δ β => match t (vwA δ) β with
 | some (.ok true, β1) => g δ β1
 | some (.ok false, β1) => h δ β1
 | some (.error C, β1) => some (.ex C δ, β1)
 | none => none
section
variable {X : Cx} {E : St -> XK} {e : Expr} {st : Stmt} {sts : List Stmt} {pos : Pos}
theorem bf : PSs X [] (tG X.K X.H₀ gNil E) := mH.imp fun D σ H h_ => by
 obtain ⟨B, bg, δ, β, o, β', ok, e, h⟩ := h_
 cases e
 exact h σ B H (Stp.refl B H) ok
theorem aq {g h : G} (h1 : PS X st (tG X.K X.H₀ g E)) (h2 : PSs X sts (tG X.K X.H₀ h E)) : PSs X (st :: sts) (tG X.K X.H₀ (ak g h) E) := (bY h1 h2).imp fun D σ H h_ => by
 obtain ⟨B, bg, δ, β, o, β', ok, e, q⟩ := h_
 unfold ak at e
 split at e
 ·rename_i δ1 β1 e1
  refine ⟨B, bg, δ, β, .nx δ1, β1, ok, e1, fun σ' B' H' s ok' => ⟨B', bg, δ1, β1, o, β', ok', e, h8.pre s ?_⟩⟩
  exact q
 ·rename_i r hr
  refine ⟨B, bg, δ, β, o, β', ok, e, ?_⟩
  cases o with
  | nx δ1 => exact absurd e (hr δ1 β')
  | _ => exact q
theorem aC {g : G} (h1 : PS X st (tG X.K X.H₀ g E)) : PSs X [st] (tG X.K X.H₀ g E) := eP h1
theorem bu {i : Nat} {x : Str} {pos' : Pos} {f : FD} (h : PS X (.Assign [.Name x pos'] e pos) (fA (tV X.K f E) (eD i))) : PS X (.Assign [.Name x pos'] e pos) (tG X.K X.H₀ (ba i f) E) := h.imp fun D σ H h_ => by
 obtain ⟨B, bg, δ, β, o, β', ok, e, q⟩ := h_
 refine ⟨FxB B bg, vw δ, β, ok.fr, ok.view, ?_⟩
 unfold ba at e
 split at e
 ·rename_i d β1 e1
  cases e
  refine ⟨.ok d, _, e1, fun v H' t hd => ?_⟩
  obtain ⟨ok2, s2⟩ := ok.to rfl t
  exact q _ B H' s2 (ok2.set hd)
 ·rename_i C β1 e1
  cases e
  refine ⟨.error C, _, e1, fun H' t => ?_⟩
  obtain ⟨ok2, s2⟩ := ok.to rfl t
  exact q _ B H' s2 ok2
 ·cases e
theorem vH {K : Frag} {F F2 : Fx} {H : Hp} {d : D} {v : V} (hf : dW d = true) (h : Den K F H d v) : Den K F2 H d v := by
 cases d <;> first | exact h | cases hf
theorem yu {i : Nat} {x : Str} {pos' : Pos} {f : FD} (h : PS X (.Assign [.Name x pos'] e pos) (fA (tV X.K f E) (eD i))) : PS X (.Assign [.Name x pos'] e pos) (tG X.K X.H₀ (ff i f) E) := h.imp fun D σ H h_ => by
 obtain ⟨B, bg, δ, β, o, β', ok, e, q⟩ := h_
 refine ⟨FxA B bg, vwA δ, β, ok.frA, ok.viewA, ?_⟩
 unfold ff at e
 split at e
 ·rename_i d β1 e1
  split at e
  ·rename_i hf
   cases e
   refine ⟨.ok d, _, e1, fun v H' t hd => ?_⟩
   obtain ⟨ok2, s2⟩ := ok.to rfl t
   exact q _ B H' s2 (ok2.set (vH hf hd))
  ·cases e
 ·rename_i C β1 e1
  cases e
  refine ⟨.error C, _, e1, fun H' t => ?_⟩
  obtain ⟨ok2, s2⟩ := ok.to rfl t
  exact q _ B H' s2 ok2
 ·cases e
theorem io {f : FD} (h : PS X (.Expr e pos) (wM (tV X.K f E))) : PS X (.Expr e pos) (tG X.K X.H₀ (bV f) E) := h.imp fun D σ H h_ => by
 obtain ⟨B, bg, δ, β, o, β', ok, e, q⟩ := h_
 refine ⟨FxA B bg, vwA δ, β, ok.frA, ok.viewA, ?_⟩
 unfold bV at e
 split at e
 ·rename_i d β1 e1
  cases e
  refine ⟨.ok d, _, e1, fun v H' t hd => ?_⟩
  obtain ⟨ok2, s2⟩ := ok.to rfl t
  exact q _ B H' s2 ok2
 ·rename_i C β1 e1
  cases e
  refine ⟨.error C, _, e1, fun H' t => ?_⟩
  obtain ⟨ok2, s2⟩ := ok.to rfl t
  exact q _ B H' s2 ok2
 ·cases e
def fF (B : Ow) : Ow := fun a => if B a = some 0 \/ B a = some 1 then B a else none
theorem y6 {B : Ow} {bg : Option (Addr × Addr)} {H : Hp} : Tr (FxA B bg) H (FxB (fF B) bg) H := ⟨fun a h _ z => by
 have z' : fF B a ≠ none := z
 unfold fF at z'
 split at z'
 ·rename_i q; exact h q
 ·exact z' rfl, fun _ _ _ h => h, rfl⟩
theorem vp {B : Ow} {H : Hp} : Stp B H (fF B) H := ⟨fun _ _ h _ => h, fun a h => by unfold fF; rw [if_pos h], fun a o h n => by unfold fF; rw [n]; simp, fun _ h => h⟩
theorem aV {f : FD} (h : PS X (.Return (some e) pos) (uN (tV X.K f E))) : PS X (.Return (some e) pos) (tG X.K X.H₀ (aO f) E) := h.imp fun D σ H h_ => by
 obtain ⟨B, bg, δ, β, o, β', ok, e, q⟩ := h_
 refine ⟨FxA B bg, vwA δ, β, ok.frA, ok.viewA, ?_⟩
 unfold aO at e
 split at e
 ·rename_i d β1 e1
  cases e
  refine ⟨.ok d, _, e1, fun v H' t hd => ?_⟩
  obtain ⟨ok2, s2⟩ := ok.to rfl t
  refine q _ (fF B) H' (s2.trans vp) ⟨fun a ha => ok2.fr.occ a ?_, fun b l e => ?_, ok2.fr.bag⟩ (Den.tr y6 _ _ hd)
  ·have ha' : fF B a ≠ none := ha
   show B a ≠ none
   unfold fF at ha'
   split at ha'
   ·exact ha'
   ·exact absurd rfl ha'
  ·refine ⟨?_, ?_, (ok2.fr.bgA b l e).2.2⟩
   ·show fF B b ≠ none
    unfold fF
    rw [if_pos (.inr (ok.bgt b l e).1), (ok.bgt b l e).1]; simp
   ·show fF B l ≠ none
    unfold fF
    rw [if_pos (.inr (ok.bgt b l e).2), (ok.bgt b l e).2]; simp
 ·rename_i C β1 e1
  cases e
  refine ⟨.error C, _, e1, fun H' t => ?_⟩
  obtain ⟨ok2, s2⟩ := ok.to rfl t
  exact q _ B H' s2 ok2
 ·cases e
theorem bE {c : Expr} {a b : List Stmt} {t : Dn -> M Bool} {g h : G} (hc : PT X c (tVT X.K t E)) (ha : PSs X a (tG X.K X.H₀ g E)) (hb : PSs X b (tG X.K X.H₀ h E)) : PS X (.If c a b pos) (tG X.K X.H₀ (gIf t g h) E) := (wU hc ha hb).imp fun D σ H h_ => by
 obtain ⟨B, bg, δ, β, o, β', ok, e, q⟩ := h_
 refine ⟨FxA B bg, vwA δ, β, ok.frA, ok.viewA, ?_⟩
 unfold gIf at e
 split at e
 ·rename_i β1 e1
  refine ⟨.ok true, _, e1, fun v H' t hd => ?_⟩
  subst hd
  obtain ⟨ok2, s2⟩ := ok.to rfl t
  rw [if_pos rfl]
  exact ⟨B, bg, δ, β1, o, β', ok2, e, h8.pre s2 q⟩
 ·rename_i β1 e1
  refine ⟨.ok false, _, e1, fun v H' t hd => ?_⟩
  subst hd
  obtain ⟨ok2, s2⟩ := ok.to rfl t
  rw [if_neg Bool.false_ne_true]
  exact ⟨B, bg, δ, β1, o, β', ok2, e, h8.pre s2 q⟩
 ·rename_i C β1 e1
  cases e
  refine ⟨.error C, _, e1, fun H' t => ?_⟩
  obtain ⟨ok2, s2⟩ := ok.to rfl t
  exact q _ B H' s2 ok2
 ·cases e
abbrev TgS := D -> Ds -> Option Ds
abbrev kd := List D -> Ds -> Option Ds
def mn (K : Frag) (g : TG) (tg : TgS) : Prop := ∀ (H₀ : Hp) (B : Ow) (bg : Option (Addr × Addr)) (H : Hp) (δ δ1 : Ds) (β : Bg) (σ : St) (d : D) (v : V) (Q : St -> Hp -> Prop), SOk K H₀ B bg H δ β σ -> Den K (FxB B bg) H d v -> tg d δ = some δ1 -> (∀ σ1, SOk K H₀ B bg H δ1 β σ1 -> Q σ1 H) -> g v σ H Q
def ml (K : Frag) (g : TGs) (tg : kd) : Prop := ∀ (H₀ : Hp) (B : Ow) (bg : Option (Addr × Addr)) (H : Hp) (δ δ1 : Ds) (β : Bg) (σ : St) (ds : List D) (vs : List V) (Q : St -> Hp -> Prop), SOk K H₀ B bg H δ β σ -> DenL K (FxB B bg) H ds vs -> tg ds δ = some δ1 -> (∀ σ1, SOk K H₀ B bg H δ1 β σ1 -> Q σ1 H) -> g vs σ H Q
def sgN (i : Nat) : TgS := fun d δ => some (δ.set i (some (.sh d)))
def gy : kd := fun ds δ => match ds with
 | [] => some δ
 | _ => none
def eU (t : TgS) (u : kd) : kd := fun ds δ => match ds with
 | [] => none
 | d :: r => (t d δ).bind fun δ1 => u r δ1
def sgT (t : kd) : TgS := fun d δ => match d with
 | .tup ds => t ds δ
 | _ => none
variable {K : Frag}
theorem dr {i : Nat} : mn K (eD i) (sgN i) := fun H₀ B bg H δ δ1 β σ d v Q ok hd e k => by
 cases e
 exact k _ (ok.set hd)
theorem mT : ml K L2.gNil gy := fun H₀ B bg H δ δ1 β σ ds vs Q ok hd e k => by
 cases ds with
 | nil => cases e; exact ⟨hd, k _ ok⟩
 | cons _ _ => cases e
theorem fE {t : TG} {u : TGs} {tf : TgS} {uf : kd} (h1 : mn K t tf) (h2 : ml K u uf) : ml K (sy t u) (eU tf uf) := fun H₀ B bg H δ δ1 β σ ds vs Q ok hd e k => by
 cases ds with
 | nil => cases e
 | cons d r =>
  obtain ⟨x, xr, rfl, hx, hr⟩ := hd
  have e' : (tf d δ).bind (fun δ1 => uf r δ1) = some δ1 := e
  cases q : tf d δ with
  | none => rw [q] at e'; cases e'
  | some δ2 =>
   rw [q] at e'
   exact ⟨x, xr, rfl, h1 H₀ B bg H δ δ2 β σ d x _ ok hx q fun σ1 ok1 => h2 H₀ B bg H δ2 δ1 β σ1 r xr Q ok1 hr e' k⟩
theorem kX : ∀ ds δ δ1, gy ds δ = some δ1 -> ds.length = 0 := fun ds δ δ1 h => by
 cases ds with
 | nil => rfl
 | cons _ _ => cases h
theorem fD {t : TgS} {u : kd} {n : Nat} (h : ∀ ds δ δ1, u ds δ = some δ1 -> ds.length = n) : ∀ ds δ δ1, eU t u ds δ = some δ1 -> ds.length = n + 1 := fun ds δ δ1 e => by
 cases ds with
 | nil => cases e
 | cons d r =>
  have e' : (t d δ).bind (fun δ1 => u r δ1) = some δ1 := e
  cases q : t d δ with
  | none => rw [q] at e'; cases e'
  | some δ2 => rw [q] at e'; rw [List.length_cons, h _ _ _ e']
theorem pJ {n : Nat} {t : TGs} {tf : kd} (h : ml K t tf) (hn : ∀ ds δ δ1, tf ds δ = some δ1 -> ds.length = n) : mn K (vG K n t) (sgT tf) := fun H₀ B bg H δ δ1 β σ d v Q ok hd e k => by
 cases d <;> first
  | (obtain ⟨a, xs, rfl, sq, dl⟩ := Den.sqT hd; exact ⟨a, xs, rfl, sq, by rw [← dl.length]; exact hn _ _ _ e, h H₀ B bg H δ δ1 β σ _ xs Q ok dl e k⟩)
  | cases e
def gL (f : FD) (tg : TgS) : G := fun δ β => match f (vw δ) β with
 | some (.ok d, β1) => (tg d δ).map fun δ1 => (.nx δ1, β1)
 | some (.error C, β1) => some (.ex C δ, β1)
 | none => none
theorem AS {tgt : Expr} {f : FD} {g : TG} {tg : TgS} (l : mn X.K g tg) (h : PS X (.Assign [tgt] e pos) (fA (tV X.K f E) g)) : PS X (.Assign [tgt] e pos) (tG X.K X.H₀ (gL f tg) E) := h.imp fun D σ H h_ => by
 obtain ⟨B, bg, δ, β, o, β', ok, e, q⟩ := h_
 refine ⟨FxB B bg, vw δ, β, ok.fr, ok.view, ?_⟩
 unfold gL at e
 split at e
 ·rename_i d β1 e1
  cases q1 : tg d δ with
  | none => rw [q1] at e; cases e
  | some δ1 =>
   rw [q1] at e
   cases e
   refine ⟨.ok d, _, e1, fun v H' t hd => ?_⟩
   obtain ⟨ok2, s2⟩ := ok.to rfl t
   exact l X.H₀ B bg H' δ δ1 _ σ d v _ ok2 hd q1 fun σ1 ok3 => q σ1 B H' s2 ok3
 ·rename_i C β1 e1
  cases e
  refine ⟨.error C, _, e1, fun H' t => ?_⟩
  obtain ⟨ok2, s2⟩ := ok.to rfl t
  exact q _ B H' s2 ok2
 ·cases e
def m4 (i j : Nat) (f : FL) : G := fun δ β => match f (vw δ) β with
 | some (.ok [c, d], β1) => some (.nx ((δ.set i (some (.sh c))).set j (some (.sh d))), β1)
 | some (.error C, β1) => some (.ex C δ, β1)
 | _ => none
def m6 (i : Nat) (op : D -> D -> Option D) (f : FD) : G := fun δ β => match (vw δ).getD i none with
 | none => none
 | some c => match f (vw δ) β with
  | some (.ok d, β1) => (op c d).map fun z => (.nx (δ.set i (some (.sh z))), β1)
  | some (.error C, β1) => some (.ex C δ, β1)
  | none => none
end
theorem Stp.tr {B B' : Ow} {H H' : Hp} {bg : Option (Addr × Addr)} (s : Stp B H B' H') : Tr (FxB B bg) H (FxB B' bg) H' :=
 ⟨fun a h hs z => by
  have hn : B a = none := by
   cases q : B a with
   | none => rfl
   | some t => exact absurd (show B a ≠ none by rw [q]; simp) h
  cases q : H a with
  | none => exact hs q
  | some o => exact z (s.nn a o q hn), fun a o h e => s.kp a o e (.inl (by
  cases q : B a with
  | none => rfl
  | some t => exact absurd (show B a ≠ none by rw [q]; simp) h)), rfl⟩
section
variable {X : Cx} {E : St -> XK} {e : Expr} {st : Stmt} {sts : List Stmt} {pos : Pos} {K : Frag}
def gLp (tg : TgS) (g : G) : List D -> G
 | [], δ, β => some (.nx δ, β)
 | d :: ds, δ, β => match tg d δ with
  | none => none
  | some δ1 => match g δ1 β with
   | some (.nx δ2, β2) => gLp tg g ds δ2 β2
   | some (.ct δ2, β2) => gLp tg g ds δ2 β2
   | some (.bk δ2, β2) => some (.nx δ2, β2)
   | r => r
def ie (it : FL) (tg : TgS) (g : G) : G := fun δ β => match it (vw δ) β with
 | some (.ok ds, β1) => gLp tg g ds δ β1
 | some (.error C, β1) => some (.ex C δ, β1)
 | none => none
theorem kn {tgt iter : Expr} {body : List Stmt} {it : FL} {tgg : TG} {tg : TgS} {g : G} (l : mn X.K tgg tg) (h : PS X (.For tgt iter body [] pos) (yp (iV X.K it E) tgg (tG X.K X.H₀ g E))) : PS X (.For tgt iter body [] pos) (tG X.K X.H₀ (ie it tg g) E) := h.imp fun D σ H h_ => by
 obtain ⟨B, bg, δ, β, o, β', ok, e, q⟩ := h_
 refine ⟨FxB B bg, vw δ, β, ok.fr, ok.view, ?_⟩
 unfold ie at e
 split at e
 ·rename_i ds β1 e1
  refine ⟨.ok ds, _, e1, fun J H1 t hJ => ?_⟩
  obtain ⟨ok1, s1⟩ := ok.to rfl t
  refine ⟨fun i m σ2 H2 => m + i = ds.length /\ ∃ B2 δ2 β2, Stp B H1 B2 H2 /\ SOk X.K X.H₀ B2 bg H2 δ2 β2 σ2 /\ gLp tg g (ds.drop i) δ2 β2 = some (o, β'), ⟨ds.length, by omega, B, δ, β1, Stp.refl B H1, ok1, e⟩, ?_⟩
  rintro i m σ2 H2 ⟨hm, B2, δ2, β2, s2, ok2, e2⟩
  obtain ⟨iy, is⟩ := hJ (FxB B2 bg) H2 β2 s2.tr ok2.fr i
  cases hi : ds[i]? with
  | none =>
   have hl : ds.length <= i := List.getElem?_eq_none_iff.mp hi
   rw [List.drop_eq_nil_of_le hl] at e2
   cases e2
   exact .inl ⟨is (by omega), q σ2 B2 H2 (s1.trans s2) ok2⟩
  | some d =>
   have hl : i < ds.length := (List.getElem?_eq_some_iff.mp hi).1
   obtain ⟨go, yl⟩ := iy d hi
   have ed : ds.drop i = d :: ds.drop (i + 1) := by
    rw [List.drop_eq_getElem_cons hl]
    congr 1
    exact Option.some.inj ((List.getElem?_eq_getElem hl).symm.trans hi)
   rw [ed] at e2
   unfold gLp at e2
   split at e2
   ·cases e2
   ·rename_i δ3 e3
    refine .inr ⟨go, fun σ9 H9 => ∃ B9 δ9 β9, Stp B H1 B9 H9 /\ SOk X.K X.H₀ B9 bg H9 δ9 β9 σ9 /\ gLp tg g (ds.drop (i + 1)) δ9 β9 = some (o, β'), fun σ9 H9 ⟨B9, δ9, β9, z1, z2, z3⟩ => ⟨m - 1, by omega, by omega, B9, δ9, β9, z1, z2, z3⟩, fun x H3 hy => ?_⟩
    obtain ⟨sm, dx⟩ := yl x H3 hy
    obtain ⟨ok3, s3⟩ := ok2.to rfl (ok2.fr.same sm)
    refine l X.H₀ B2 bg H3 δ2 δ3 β2 σ2 d x _ ok3 dx e3 fun σ4 ok4 => ?_
    have s23 := s2.trans s3
    split at e2
    ·rename_i δ5 β5 e5
     exact ⟨B2, bg, δ3, β2, .nx δ5, β5, ok4, e5, fun σ6 B6 H6 s6 ok6 => ⟨B6, δ5, β5, s23.trans s6, ok6, e2⟩⟩
    ·rename_i δ5 β5 e5
     exact ⟨B2, bg, δ3, β2, .ct δ5, β5, ok4, e5, fun σ6 B6 H6 s6 ok6 => ⟨B6, δ5, β5, s23.trans s6, ok6, e2⟩⟩
    ·rename_i δ5 β5 e5
     cases e2
     exact ⟨B2, bg, δ3, β2, .bk δ5, _, ok4, e5, fun σ6 B6 H6 s6 ok6 => q σ6 B6 H6 (s1.trans (s23.trans s6)) ok6⟩
    ·rename_i x h1 h2 h3
     refine ⟨B2, bg, δ3, β2, o, β', ok4, e2, ?_⟩
     have q2 := h8.pre (s1.trans s23) q
     cases o with
     | nx δ5 => exact absurd e2 (h1 _ _)
     | ct δ5 => exact absurd e2 (h2 _ _)
     | bk δ5 => exact absurd e2 (h3 _ _)
     | rt d => exact q2
     | rg d => exact q2
     | ex C δ5 => exact q2
 ·rename_i C β1 e1
  cases e
  refine ⟨.error C, _, e1, fun H' t => ?_⟩
  obtain ⟨ok2, s2⟩ := ok.to rfl t
  exact q _ B H' s2 ok2
 ·cases e
theorem SOk.writeOwn {H₀ : Hp} {B : Ow} {bg : Option (Addr × Addr)} {H : Hp} {δ : Ds} {β : Bg} {σ : St} {i : Nat} {a : Addr} {ds : List D} {xs ys : List V} (ok : SOk K H₀ B bg H δ β σ) (hs : σ[i]? = some (some (.ref a))) (hB : B a = some (i + 2)) (ha : H a = some (.lst ys)) (hd : DenL K (FxB B bg) H ds xs) :
  SOk K H₀ B bg (upd H a (.lst xs)) (δ.set i (some (.own ds))) β σ /\ Stp B H B (upd H a (.lst xs)) := by
 have stp : Stp B H B (upd H a (.lst xs)) := by
  refine ⟨fun c o h n => ?_, fun _ _ => rfl, fun _ _ _ n => n, fun c hc => ?_⟩
  ·rw [upd_ne]
   ·exact h
   ·intro z; subst z; rw [hB] at n; rcases n with n | n <;> cases n
  ·by_cases z : c = a
   ·subst z; rw [ao]; simp
   ·rw [upd_ne z]; exact hc
 have tr : Tr (FxB B bg) H (FxB B bg) (upd H a (.lst xs)) := stp.tr
 refine ⟨⟨⟨fun c hc z => ?_, ok.fr.bgA, fun b l e => ?_⟩, ok.bgt, by rw [List.length_set, ok.len], fun a ha => stp.al a (ok.cov a ha), ok.new, fun c k hc => (by
  by_cases z : c = a
  ·subst z; exact ⟨xs, ao⟩
  ·rw [upd_ne z]; exact ok.lst c k hc), fun j s e => ?_⟩, stp⟩
 ·by_cases q : c = a
  ·subst q; rw [ao] at z; cases z
  ·rw [upd_ne q] at z; exact ok.fr.occ c hc z
 ·obtain ⟨b1, b2⟩ := ok.bgt b l e
  rw [upd_ne (fun z => by subst z; rw [hB] at b1; cases b1), upd_ne (fun z => by subst z; rw [hB] at b2; cases b2)]
  exact ok.fr.bag b l e
 ·rw [List.getElem?_set] at e
  by_cases q : i = j
  ·subst q
   rw [if_pos rfl] at e
   split at e
   ·cases e
    exact ⟨_, hs, a, xs, rfl, hB, ao, DenL.tr tr _ _ hd⟩
   ·cases e
  ·rw [if_neg q] at e
   obtain ⟨v, h1, h2⟩ := ok.tell j s e
   refine ⟨v, h1, ?_⟩
   cases s with
   | sh d => exact Den.tr tr _ _ h2
   | own cs =>
    obtain ⟨c, zs, e1, e2, e3, e4⟩ := h2
    have na : c ≠ a := fun z => by subst z; rw [hB] at e2; cases e2; exact q rfl
    exact ⟨c, zs, e1, e2, by rw [upd_ne na]; exact e3, DenL.tr tr _ _ e4⟩
   | grd rows =>
    obtain ⟨c, rs, e1, e2, e3, e4, e5⟩ := h2
    have na : ∀ c, B c = some (j + 2) -> c ≠ a := fun c e2 z => by subst z; rw [hB] at e2; cases e2; exact q rfl
    exact ⟨c, rs, e1, e2, by rw [upd_ne (na c e2)]; exact e3, e4, RowL.tr tr e5 fun r zs _ p q => ⟨p, by rw [upd_ne (na r p)]; exact q⟩⟩
theorem cg {α : Type} {δ : List (Option α)} {i : Nat} {s : α} (h : δ.getD i none = some s) : δ[i]? = some (some s) := by
 rw [List.getD_eq_getElem?_getD] at h
 cases z : δ[i]? with
 | none => rw [z] at h; cases h
 | some w => rw [z] at h; simp at h; rw [h]
def stD (n : Nat) (ds : List D) : Ds := ds.map (fun d => some (Sl.sh d)) ++ List.replicate (n - ds.length) none
def aP (n : Nat) (g : G) : List D -> M D := fun ds β => match g (stD n ds) β with
 | some (.rt d, β') => some (.ok d, β')
 | some (.nx _, β') => some (.ok .non, β')
 | some (.ex C _, β') => some (.error C, β')
 | _ => none
theorem o7 {F : Fx} {H : Hp} {β : Bg} {ds : List D} {vs : List V} {N : List Str} (fr : Fr F H β) (hd : DenL K F H ds vs) : ∃ B, SOk K H B F.bg H (stD N.length ds) β (ei N vs) /\ (∀ a, F.A a -> B a = some 0 \/ B a = some 1) /\ (∀ a, B a = some 1 -> ∃ b l, F.bg = some (b, l) /\ (a = b \/ a = l)) /\ (∀ a, B a ≠ none -> F.A a) := by
 classical
 refine ⟨fun a => if F.A a then (if ∃ b l, F.bg = some (b, l) /\ (a = b \/ a = l) then some 1 else some 0) else none, ⟨⟨fun a ha => fr.occ a ?_, fun b l e => ?_, fr.bag⟩, fun b l e => ?_, ?_, fun _ h => h, fun c k hc => (by
  have hc' : (if F.A c then (if ∃ b l, F.bg = some (b, l) /\ (c = b \/ c = l) then some 1 else some 0) else none) = some (k + 2) := hc
  split at hc'
  ·split at hc' <;> cases hc'
  ·cases hc'), fun c k hc => (by
  have hc' : (if F.A c then (if ∃ b l, F.bg = some (b, l) /\ (c = b \/ c = l) then some 1 else some 0) else none) = some (k + 2) := hc
  split at hc'
  ·split at hc' <;> cases hc'
  ·cases hc'), fun i s e => ?_⟩, fun a ha => ?_, fun a ha => ?_, fun a ha => ?_⟩
 ·have ha' : (if F.A a then (if ∃ b l, F.bg = some (b, l) /\ (a = b \/ a = l) then some 1 else some 0) else none) ≠ (none : Option Nat) := ha
  split at ha'
  ·assumption
  ·exact absurd rfl ha'
 ·obtain ⟨a1, a2, a3⟩ := fr.bgA b l e
  refine ⟨?_, ?_, a3⟩
  ·show (if F.A b then (if ∃ b' l, F.bg = some (b', l) /\ (b = b' \/ b = l) then some 1 else some 0) else none) ≠ (none : Option Nat)
   rw [if_pos a1]; split <;> simp
  ·show (if F.A l then (if ∃ b' l', F.bg = some (b', l') /\ (l = b' \/ l = l') then some 1 else some 0) else none) ≠ (none : Option Nat)
   rw [if_pos a2]; split <;> simp
 ·obtain ⟨a1, a2, a3⟩ := fr.bgA b l e
  exact ⟨by rw [if_pos a1, if_pos ⟨b, l, e, .inl rfl⟩], by rw [if_pos a2, if_pos ⟨b, l, e, .inr rfl⟩]⟩
 ·unfold stD ei
  rw [List.length_append, List.length_append, List.length_map, List.length_map, List.length_replicate, List.length_replicate, hd.length]
 ·unfold stD at e
  unfold ei
  rw [List.getElem?_append, List.length_map] at e
  rw [List.getElem?_append, List.length_map, ← hd.length]
  by_cases hi : i < ds.length
  ·rw [if_pos hi, List.getElem?_map] at e
   rw [if_pos hi, List.getElem?_map]
   cases z : ds[i]? with
   | none => rw [z] at e; cases e
   | some d =>
    rw [z] at e
    cases e
    obtain ⟨v, h1, h2⟩ := hd.get z
    refine ⟨v, by rw [h1]; rfl, ?_⟩
    have tr0 : Tr F H (FxB (fun a => if F.A a then (if ∃ b l, F.bg = some (b, l) /\ (a = b \/ a = l) then some 1 else some 0) else none) F.bg) H := by
     refine ⟨fun a ha _ z' => ?_, fun _ _ _ h => h, rfl⟩
     have z2 : (if F.A a then (if ∃ b l, F.bg = some (b, l) /\ (a = b \/ a = l) then some 1 else some 0) else none) ≠ (none : Option Nat) := z'
     rw [if_neg ha] at z2
     exact z2 rfl
    exact Den.tr tr0 _ _ h2
  ·rw [if_neg hi, List.getElem?_replicate] at e
   split at e <;> cases e
 ·simp only [if_pos ha]
  split
  ·exact .inr rfl
  ·exact .inl rfl
 ·simp only at ha
  split at ha
  ·split at ha
   ·assumption
   ·cases ha
  ·cases ha
 ·simp only at ha
  split at ha
  ·assumption
  ·exact absurd rfl ha
end
section
variable {P : Program} {w : World} {K : Frag} {mg : Str -> Option Value} {base : Heap}
theorem x4 {x qual : Str} {st : Stmt} {f : Addr} {fd : FuncData} {N ps : List Str} {k : Nat} {g : G} (F : FunD K x qual st f fd) (S : FnScope N ps (am st))
  (hbody : ∀ (cdv : Value) (A : Around) (outer : List Env) (s : Shared) (H : Hp) (E : XK), Room k (A.deeper (envOfC qual (am st) s.heap.objs.size f cdv)) ->
   PSs (cI (CXE P w) P w K mg base N qual (am st) f cdv A outer s H E) (bX st) (tG K H g (fun _ => E))) : FnOk P w K mg base (CXE P w) (k + 1) f fd ps (spF K ps.length (aP N.length g)) := by
 refine F.okE S (fun vs H Q E h => h.1) fun cdv A outer s H vs Q E hr h => ?_
 obtain ⟨hl, F0, ds, β, fr, hd, r, β', e, h⟩ := h
 refine ⟨_, hbody cdv A outer s H E hr, ?_⟩
 obtain ⟨B, ok, hA, h1, hn⟩ := o7 (N := N) fr hd
 have toF : ∀ {B' : Ow} {H' : Hp}, Stp B H B' H' -> Fr (FxB B' F0.bg) H' β' -> To F0 H H' β' /\ Tr (FxB B' F0.bg) H' F0 H' := fun {B' H'} s fr' => by
  have hs : ∀ a, F0.A a -> B' a ≠ none := fun a ha => by
   rw [s.tg a (hA a ha)]
   rcases hA a ha with z | z <;> rw [z] <;> simp
  refine ⟨⟨fun a o ha n => s.kp a o ha ?_, fun a ha => fr'.occ a (hs a ha), fun b l e => fr.bgA b l e, fr'.bag⟩, fun a ha _ z => ha (hs a z), fun _ _ _ h => h, rfl⟩
  cases q : B a with
  | none => exact .inl rfl
  | some t =>
   have := hA a (hn a (by rw [q]; simp))
   rcases this with z | z
   ·rw [q] at z; exact .inr z
   ·obtain ⟨b, l, e, w⟩ := h1 a z
    obtain ⟨n1, n2⟩ := n b l e
    rcases w with w | w
    ·exact absurd w n1
    ·exact absurd w n2
 unfold aP at e
 split at e
 ·rename_i d β1 e1
  cases e
  refine ⟨B, F0.bg, stD N.length ds, β, .rt d, β', ok, e1, fun v B' H' s fr' hv => ?_⟩
  obtain ⟨t1, t2⟩ := toF s fr'
  exact h v H' t1 (Den.tr t2 _ _ hv)
 ·rename_i δ' β1 e1
  cases e
  refine ⟨B, F0.bg, stD N.length ds, β, .nx δ', β', ok, e1, fun σ' B' H' s ok' => ?_⟩
  obtain ⟨t1, t2⟩ := toF s ok'.fr
  exact h _ H' t1 rfl
 ·rename_i C δ' β1 e1
  cases e
  refine ⟨B, F0.bg, stD N.length ds, β, .ex C δ', β', ok, e1, fun σ' B' H' s ok' => ?_⟩
  obtain ⟨t1, t2⟩ := toF s ok'.fr
  exact h H' t1
 ·cases e
end
section
variable {prog : Program} {w : World} {A : Around}
theorem Bc (hh : A.handled = none) (it t : Addr) (ne : t ≠ it) (items : Array Value) : Draws prog w A it [it, t] items.size (fun i v => items[i]? = some v) (fun i h => h.IsTupleIter it t i /\ h.IsTuple t items) where
 live := fun _ _ st => let ⟨o, e, _⟩ := st.1; ⟨o, e⟩
 frame := fun _ _ _ st k => ⟨st.1.at fun o e => k it (by simp) o e, by
  obtain ⟨o, e, r⟩ := st.2
  exact ⟨o, k t (by simp) o e, r⟩⟩
 item := fun i s Q E hi st hQ => by
  obtain ⟨o, eo, co, dq⟩ := id st.1
  obtain ⟨ot, et, _, nt, dt⟩ := st.2
  have hx : items[i]? = some items[i] := by simp [hi]
  unfold Builtin.SmallTypes.nextOf; refine wpAny_bind (wpAny_callSpecial?_slot (name := Str.ofString "__next__") st.1.typeIs F.slot_tuple_iterator_next (wpAny_call_entry F.slot_tuple_iterator_next st.1.typeIs F.entry_tuple_iterator_next ?_ (F.args_tuple_iterator_next_1 _)))
  show wpAny _ _ (field (.ref it) 0 >>= _) _ _ _; refine wpAny_bind (wpAny_field eo dq (x := .ref t) rfl ?_)
  show wpAny _ _ (if (Value.ref t == Value.none) = true then _ else _) _ _ _; rw [if_neg (show ¬ ((Value.ref t == Value.none) = true) from Bool.false_ne_true)]
  show wpAny _ _ (field (.ref it) 1 >>= _) _ _ _; refine wpAny_bind (wpAny_field eo dq (x := .int i 0) rfl ?_)
  show wpAny _ _ (seqItems? (.ref t) >>= _) _ _ _; refine wpAny_bind (wpAny_seqItems et dt ?_)
  simp only [Int.toNat_natCast, hx]; refine wpAny_bind (wpAny_setField eo dq (by simp) (wpAny_pure ⟨items[i], rfl, wpAny_pure (hQ _ _ s.toks hx ⟨?_, ?_⟩ (Heap.SameBut.update ..))⟩))
  ·exact ⟨_, Heap.get?_update_self _ eo (Obj.isFreed_of_fields (Obj.data_mapFields dq _)), (Obj.cls_mapFields ..).trans co, by rw [Obj.data_mapFields dq]; simp [rawInt]⟩
  ·exact ⟨ot, (Heap.SameBut.update ..).extBut _ _ ne et, by assumption, nt, dt⟩
 done := fun s Q E st hE => by
  obtain ⟨o, eo, co, dq⟩ := id st.1
  obtain ⟨ot, et, _, nt, dt⟩ := st.2
  have hx : items[items.size]? = none := by simp
  unfold Builtin.SmallTypes.nextOf; refine wpAny_bind (wpAny_callSpecial?_slot (name := Str.ofString "__next__") st.1.typeIs F.slot_tuple_iterator_next (wpAny_call_entry F.slot_tuple_iterator_next st.1.typeIs F.entry_tuple_iterator_next ?_ (F.args_tuple_iterator_next_1 _)))
  show wpAny _ _ (field (.ref it) 0 >>= _) _ _ _; refine wpAny_bind (wpAny_field eo dq (x := .ref t) rfl ?_)
  show wpAny _ _ (if (Value.ref t == Value.none) = true then _ else _) _ _ _; rw [if_neg (show ¬ ((Value.ref t == Value.none) = true) from Bool.false_ne_true)]
  show wpAny _ _ (field (.ref it) 1 >>= _) _ _ _; refine wpAny_bind (wpAny_field eo dq (x := .int items.size 0) rfl ?_)
  show wpAny _ _ (seqItems? (.ref t) >>= _) _ _ _; refine wpAny_bind (wpAny_seqItems et dt ?_)
  simp only [Int.toNat_natCast, hx]; refine wpAny_bind (wpAny_rule (wpAny_bind (wpAny_setField eo dq (by simp) ?_)))
  show wpAny _ _ (newExc (.type "StopIteration") [] >>= _) _ _ _; refine wpAny_bind ?_
  simp only [newExc, newTuple]; refine wpAny_bind (wpAny_newObj_type ?_ (by size_fits))
  refine wpAny_bind (m := firstArgMember _ _) (wpAny_of_eq (a := Value.none) (by first | rfl | (simp only [firstArgMember]; rfl)) ?_); refine wpAny_newObj_type ?_ (by size_fits)
  simp only [raiseNew]; refine wpAny_bind (wpAny_handled ?_)
  first | rw [show A.in1.handled = none from hh] | rw [hh]; skip
  refine wpAny_bind (wpAny_pure (wpAny_throw ?_)); exact hE _ _ (((Heap.SameBut.update ..).extBut.push _).push _) ⟨_, Heap.get?_push_size _ rfl, rfl⟩
end
structure Ap (z TI TO i1 i2 : Addr) (f1 f2 : List Addr) : Prop where
 a1 : TI ≠ z
 a2 : TO ≠ z
 a3 : i1 ≠ z
 a4 : i2 ≠ z
 a5 : TI ≠ TO
 a6 : TI ≠ i1
 a7 : TI ≠ i2
 a8 : TO ≠ i1
 a9 : TO ≠ i2
 b1 : i1 ≠ i2
 c1 : z ∉ f1
 c2 : TO ∉ f1
 c3 : i2 ∉ f1
 d1 : z ∉ f2
 d2 : TO ∉ f2
 d3 : i1 ∉ f2
 m1 : i1 ∈ f1
 m2 : i2 ∈ f2
section
variable {prog : Program} {w : World} {A : Around} {E : Value -> Shared -> Prop} {s : Shared}
theorem bR {it : Addr} {f : List Addr} {h h' : Heap} (sb : Heap.SameBut it h h') (n : it ∉ f) : ∀ b ∈ f, ∀ o, h.get? b = some o -> h'.get? b = some o := fun b hb o e => sb.extBut b o (fun q => n (q ▸ hb)) e
theorem sL {z TI TO i1 i2 : Addr} {f1 f2 : List Addr} {n1 n2 k : Nat} {P1 P2 : Nat -> Value -> Prop} {S1 S2 : Nat -> Heap -> Prop} {a b : Value} {Q : Value -> Shared -> Prop} (D1 : Draws prog w A i1 f1 n1 P1 S1) (D2 : Draws prog w A i2 f2 n2 P2 S2) (ap : Ap z TI TO i1 i2 f1 f2)
  (ez : IsZip s.heap z TI TO .none) (eI : IsPair s.heap TI (.ref i1) (.ref i2)) (eO : IsPair s.heap TO a b) (s1 : S1 k s.heap) (s2 : S2 k s.heap) (k1 : k < n1) (k2 : k < n2)
  (hQ : ∀ h' tk x y, P1 k x -> P2 k y -> IsZip h' z TI TO (rawInt s.heap.objs.size) -> IsPair h' TO x y -> S1 (k + 1) h' -> S2 (k + 1) h' -> IsPair h' s.heap.objs.size x y -> h'.objs.size = s.heap.objs.size + 1 -> (∀ c o, c ≠ z -> c ≠ TO -> c ≠ i1 -> c ≠ i2 -> s.heap.get? c = some o -> h'.get? c = some o) -> Q (.ref s.heap.objs.size) { s with heap := h', toks := tk }) :
  wpAny (model prog w) A (Builtin.«zip.__next__» ⟨[.ref z], []⟩) (fun fin s' => ∃ v, fin = .done (.ret v) /\ Q v s') E s := by
 obtain ⟨hp, gg, dd, tk0, os⟩ := s
 show wpAny _ _ (field (.ref z) 2 >>= _) _ _ _; refine wpAny_bind (wpAny_field ez rfl (x := .bool false) rfl ?_)
 show wpAny _ _ (field (.ref z) 3 >>= _) _ _ _; refine wpAny_bind (wpAny_field ez rfl (x := .ref TI) rfl ?_)
 refine wpAny_bind (wpAny_seqItems eI rfl ?_)
 show wpAny _ _ (Builtin.SmallTypes.ownedTupleIsFree (.ref z) >>= _) _ _ _; refine wpAny_bind ?_
 unfold Builtin.SmallTypes.ownedTupleIsFree; refine wpAny_bind (wpAny_field ez rfl (x := .none) rfl (wpAny_pure ?_))
 simp only [if_true]; refine wpAny_bind (wpAny_rule ?_)
 refine wpAny_bind (wpAny_field ez rfl (x := .ref TO) rfl ?_)
 refine wpAny_bind (wpAny_setField_rec ez (by simp) fun g1 ez1 sb1 => ?_)
 replace ez1 : IsZip g1 z TI TO .ellipsis := ez1
 replace sb1 : Heap.SameBut z hp g1 := sb1
 refine wpAny_bind ?_
 simp only [List.zipIdx_cons, List.zipIdx_nil, List.forIn_cons, List.forIn_nil]; refine wpAny_bind (wpAny_bind (wpAny_onRaise ?_))
 show wpAny _ _ (Builtin.SmallTypes.nextOf (.ref i1) >>= _) _ _ _; refine wpAny_bind (D1.item k _ _ _ k1 (D1.frame _ _ _ s1 (bR sb1 ap.c1)) fun x g2 tk2 px st2 sb2 => wpAny_pure ?_)
 replace sb2 : Heap.SameBut i1 g1 g2 := sb2
 have eO2 : IsPair g2 TO a b := sb2.extBut _ _ ap.a8 (sb1.extBut _ _ ap.a2 eO)
 refine wpAny_bind (wpAny_seqItems eO2 rfl ?_); refine wpAny_bind (wpAny_updateSeq_pair eO2 fun g3 eO3 sb3 => ?_)
 replace eO3 : IsPair g3 TO x b := eO3
 replace sb3 : Heap.SameBut TO g2 g3 := sb3
 refine wpAny_bind (wpAny_letGo (wpAny_pure ?_)); refine wpAny_bind (wpAny_bind (wpAny_onRaise ?_))
 show wpAny _ _ (Builtin.SmallTypes.nextOf (.ref i2) >>= _) _ _ _; refine wpAny_bind (D2.item k _ _ _ k2 (D2.frame _ _ _ (D2.frame _ _ _ (D2.frame _ _ _ s2 (bR sb1 ap.d1)) (bR sb2 ap.d3)) (bR sb3 ap.d2)) fun y g4 tk4 py st4 sb4 => wpAny_pure ?_)
 replace sb4 : Heap.SameBut i2 g3 g4 := sb4
 have eO4 : IsPair g4 TO x b := sb4.extBut _ _ ap.a9 eO3
 refine wpAny_bind (wpAny_seqItems eO4 rfl ?_); refine wpAny_bind (wpAny_updateSeq_pair eO4 fun g5 eO5 sb5 => ?_)
 replace eO5 : IsPair g5 TO x y := eO5
 replace sb5 : Heap.SameBut TO g4 g5 := sb5
 refine wpAny_bind (wpAny_letGo (wpAny_pure (wpAny_pure ?_))); refine wpAny_bind (wpAny_seqItems eO5 rfl ?_)
 refine wpAny_bind (wpAny_newTuple ?_)
 have zs : g5.objs.size = hp.objs.size := by rw [sb5.1, sb4.1, sb3.1, sb2.1, sb1.1]
 have ez5 : IsZip g5 z TI TO .ellipsis := sb5.extBut _ _ ap.a2.symm (sb4.extBut _ _ ap.a4.symm (sb3.extBut _ _ ap.a2.symm (sb2.extBut _ _ ap.a3.symm ez1)))
 have kp5 : ∀ c o, c ≠ z -> c ≠ TO -> c ≠ i1 -> c ≠ i2 -> hp.get? c = some o -> g5.get? c = some o := fun c o n1 n2 n3 n4 e => sb5.extBut _ _ n2 (sb4.extBut _ _ n4 (sb3.extBut _ _ n2 (sb2.extBut _ _ n3 (sb1.extBut _ _ n1 e))))
 have st1 : S1 (k + 1) g5 := D1.frame _ _ _ (D1.frame _ _ _ (D1.frame _ _ _ st2 (bR sb3 ap.c2)) (bR sb4 ap.c3)) (bR sb5 ap.c2)
 have st5 : S2 (k + 1) g5 := D2.frame _ _ _ st4 (bR sb5 ap.d2)
 have zl : z < g5.objs.size := Heap.lt_size ez5
 show wpAny _ _ (Builtin.SmallTypes.ownedTupleHandOut (.ref z) (.ref g5.objs.size) >>= _) _ _ _; refine wpAny_bind ?_
 unfold Builtin.SmallTypes.ownedTupleHandOut; have ez6 : IsZip (g5.push { cls := .type "tuple", data := .seq #[x, y] }) z TI TO .ellipsis := Heap.get?_push_of_some _ ez5
 refine wpAny_bind (wpAny_setField_rec ez6 (by simp) fun g7 ez7 sb7 => ?_)
 replace ez7 : IsZip g7 z TI TO (rawInt g5.objs.size) := ez7
 refine wpAny_setField_rec ez7 (by simp) fun g8 ez8 sb8 => ?_
 replace ez8 : IsZip g8 z TI TO (rawInt g5.objs.size) := ez8
 have up : ∀ c o, c ≠ z -> g5.get? c = some o -> g8.get? c = some o := fun c o n e => sb8.extBut _ _ n (sb7.extBut _ _ n (Heap.get?_push_of_some _ e))
 have eT : IsPair g8 g5.objs.size x y := sb8.extBut _ _ (Nat.ne_of_gt zl) (sb7.extBut _ _ (Nat.ne_of_gt zl) (Heap.get?_push_size _ rfl))
 have z8 : g8.objs.size = g5.objs.size + 1 := by rw [sb8.1, sb7.1, Heap.size_push]
 rw [zs] at ez8 eT z8; refine wpAny_pure ⟨_, rfl, ?_⟩
 show Q (.ref g5.objs.size) ⟨g8, gg, dd, _, os⟩
 rw [zs]; exact hQ g8 _ x y px py ez8 (up _ _ ap.a2 eO5) (D1.frame _ _ _ st1 fun b hb o e => up b o (fun q => ap.c1 (q ▸ hb)) e) (D2.frame _ _ _ st5 fun b hb o e => up b o (fun q => ap.d1 (q ▸ hb)) e) eT z8 fun c o n1 n2 n3 n4 e => up c o n1 (kp5 c o n1 n2 n3 n4 e)
theorem uH {z TI TO i1 i2 : Addr} {f1 f2 : List Addr} {n1 n2 k : Nat} {P1 P2 : Nat -> Value -> Prop} {S1 S2 : Nat -> Heap -> Prop} {a b : Value} {Q : Fin -> Shared -> Prop} (D1 : Draws prog w A i1 f1 n1 P1 S1) (D2 : Draws prog w A i2 f2 n2 P2 S2) (ap : Ap z TI TO i1 i2 f1 f2)
  (ez : IsZip s.heap z TI TO .none) (eI : IsPair s.heap TI (.ref i1) (.ref i2)) (eO : IsPair s.heap TO a b) (s1 : S1 k s.heap) (s2 : S2 k s.heap) (k1 : k = n1 \/ (k < n1 /\ k = n2))
  (hE : ∀ h' e tk, (∀ c o, c ≠ z -> c ≠ TO -> c ≠ i1 -> c ≠ i2 -> s.heap.get? c = some o -> h'.get? c = some o) -> (∃ o, h'.get? e = some o /\ o.cls = .type "StopIteration") -> E (.ref e) { s with heap := h', toks := tk }) :
  wpAny (model prog w) A (Builtin.«zip.__next__» ⟨[.ref z], []⟩) Q E s := by
 obtain ⟨hp, gg, dd, tk0, os⟩ := s
 show wpAny _ _ (field (.ref z) 2 >>= _) _ _ _; refine wpAny_bind (wpAny_field ez rfl (x := .bool false) rfl ?_)
 show wpAny _ _ (field (.ref z) 3 >>= _) _ _ _; refine wpAny_bind (wpAny_field ez rfl (x := .ref TI) rfl ?_)
 refine wpAny_bind (wpAny_seqItems eI rfl ?_)
 show wpAny _ _ (Builtin.SmallTypes.ownedTupleIsFree (.ref z) >>= _) _ _ _; refine wpAny_bind ?_
 unfold Builtin.SmallTypes.ownedTupleIsFree; refine wpAny_bind (wpAny_field ez rfl (x := .none) rfl (wpAny_pure ?_))
 simp only [if_true]; refine wpAny_bind (wpAny_rule ?_)
 refine wpAny_bind (wpAny_field ez rfl (x := .ref TO) rfl ?_)
 refine wpAny_bind (wpAny_setField_rec ez (by simp) fun g1 ez1 sb1 => ?_)
 replace ez1 : IsZip g1 z TI TO .ellipsis := ez1
 replace sb1 : Heap.SameBut z hp g1 := sb1
 refine wpAny_bind ?_
 simp only [List.zipIdx_cons, List.zipIdx_nil, List.forIn_cons, List.forIn_nil]; refine wpAny_bind (wpAny_bind (wpAny_onRaise ?_))
 show wpAny _ _ (Builtin.SmallTypes.nextOf (.ref i1) >>= _) _ _ _
 rcases k1 with rfl | ⟨k1, rfl⟩
 ·refine wpAny_bind (D1.done _ _ _ (D1.frame _ _ _ s1 (bR sb1 ap.c1)) fun g2 e sb2 he => ?_)
  replace sb2 : Heap.ExtBut i1 g1 g2 := sb2
  obtain ⟨oe, eoe, ce⟩ := he
  have ez2 : IsZip g2 z TI TO .ellipsis := sb2 _ _ ap.a3.symm ez1
  have nez : e ≠ z := fun q => by subst q; rw [ez2] at eoe; cases eoe; simp at ce
  exact wpAny_setField_rec ez2 (by simp) fun g3 _ sb3 => hE g3 e _ (fun c o n1 _ n3 _ q => sb3.extBut _ _ n1 (sb2 _ _ n3 (sb1.extBut _ _ n1 q))) ⟨oe, sb3.extBut _ _ nez eoe, ce⟩
 ·refine wpAny_bind (D1.item k _ _ _ k1 (D1.frame _ _ _ s1 (bR sb1 ap.c1)) fun x g2 tk2 px st2 sb2 => wpAny_pure ?_)
  replace sb2 : Heap.SameBut i1 g1 g2 := sb2
  have eO2 : IsPair g2 TO a b := sb2.extBut _ _ ap.a8 (sb1.extBut _ _ ap.a2 eO)
  refine wpAny_bind (wpAny_seqItems eO2 rfl ?_); refine wpAny_bind (wpAny_updateSeq_pair eO2 fun g3 eO3 sb3 => ?_)
  replace sb3 : Heap.SameBut TO g2 g3 := sb3
  refine wpAny_bind (wpAny_letGo (wpAny_pure ?_)); refine wpAny_bind (wpAny_bind (wpAny_onRaise ?_))
  show wpAny _ _ (Builtin.SmallTypes.nextOf (.ref i2) >>= _) _ _ _; refine wpAny_bind (D2.done _ _ _ (D2.frame _ _ _ (D2.frame _ _ _ (D2.frame _ _ _ s2 (bR sb1 ap.d1)) (bR sb2 ap.d3)) (bR sb3 ap.d2)) fun g4 e sb4 he => ?_)
  replace sb4 : Heap.ExtBut i2 g3 g4 := sb4
  obtain ⟨oe, eoe, ce⟩ := he
  have ez4 : IsZip g4 z TI TO .ellipsis := sb4 _ _ ap.a4.symm (sb3.extBut _ _ ap.a2.symm (sb2.extBut _ _ ap.a3.symm ez1))
  have nez : e ≠ z := fun q => by subst q; rw [ez4] at eoe; cases eoe; simp at ce
  exact wpAny_setField_rec ez4 (by simp) fun g5 _ sb5 => hE g5 e _ (fun c o n1 n2 n3 n4 q => sb5.extBut _ _ n1 (sb4 _ _ n4 (sb3.extBut _ _ n2 (sb2.extBut _ _ n3 (sb1.extBut _ _ n1 q))))) ⟨oe, sb5.extBut _ _ nez eoe, ce⟩
theorem sK {z TI TO i1 i2 : Addr} {f1 f2 : List Addr} {n1 n2 k : Nat} {P1 P2 : Nat -> Value -> Prop} {S1 S2 : Nat -> Heap -> Prop} {a b : Value} {Q : Option Value -> Shared -> Prop} (D1 : ∀ A' : Around, A'.handled = A.handled -> Draws prog w A' i1 f1 n1 P1 S1) (D2 : ∀ A' : Around, A'.handled = A.handled -> Draws prog w A' i2 f2 n2 P2 S2) (ap : Ap z TI TO i1 i2 f1 f2)
  (ez : IsZip s.heap z TI TO .none) (eI : IsPair s.heap TI (.ref i1) (.ref i2)) (eO : IsPair s.heap TO a b) (s1 : S1 k s.heap) (s2 : S2 k s.heap) (k1 : k < n1) (k2 : k < n2)
  (hQ : ∀ h' tk x y, P1 k x -> P2 k y -> IsZip h' z TI TO (rawInt s.heap.objs.size) -> IsPair h' TO x y -> S1 (k + 1) h' -> S2 (k + 1) h' -> IsPair h' s.heap.objs.size x y -> h'.objs.size = s.heap.objs.size + 1 -> (∀ c o, c ≠ z -> c ≠ TO -> c ≠ i1 -> c ≠ i2 -> s.heap.get? c = some o -> h'.get? c = some o) -> Q (some (.ref s.heap.objs.size)) { s with heap := h', toks := tk }) :
  wpAny (model prog w) A (pyNext (.ref z)) Q E s := by
 have ty : s.TypeIs (.ref z) "zip" := ⟨_, ez, rfl⟩
 unfold pyNext; exact wpAny_bind (wpAny_attempt (wpAny_callSpecial?_slot (name := Str.ofString "__next__") ty F.slot_zip_next (wpAny_call_entry F.slot_zip_next ty F.entry_zip_next (sL (D1 _ rfl) (D2 _ rfl) ap ez eI eO s1 s2 k1 k2 fun h' tk x y a1 a2 a3 a4 a5 a6 a7 a8 a9 => wpAny_pure (hQ h' tk x y a1 a2 a3 a4 a5 a6 a7 a8 a9)) (F.args_zip_next_1 _))))
theorem uG {z TI TO i1 i2 : Addr} {f1 f2 : List Addr} {n1 n2 k : Nat} {P1 P2 : Nat -> Value -> Prop} {S1 S2 : Nat -> Heap -> Prop} {a b : Value} {Q : Option Value -> Shared -> Prop} (D1 : ∀ A' : Around, A'.handled = A.handled -> Draws prog w A' i1 f1 n1 P1 S1) (D2 : ∀ A' : Around, A'.handled = A.handled -> Draws prog w A' i2 f2 n2 P2 S2) (ap : Ap z TI TO i1 i2 f1 f2)
  (ez : IsZip s.heap z TI TO .none) (eI : IsPair s.heap TI (.ref i1) (.ref i2)) (eO : IsPair s.heap TO a b) (s1 : S1 k s.heap) (s2 : S2 k s.heap) (k1 : k = n1 \/ (k < n1 /\ k = n2))
  (hQ : ∀ h' tk, (∀ c o, c ≠ z -> c ≠ TO -> c ≠ i1 -> c ≠ i2 -> s.heap.get? c = some o -> h'.get? c = some o) -> Q none { s with heap := h', toks := tk }) : wpAny (model prog w) A (pyNext (.ref z)) Q E s := by
 have ty : s.TypeIs (.ref z) "zip" := ⟨_, ez, rfl⟩
 unfold pyNext; refine wpAny_bind (wpAny_attempt (wpAny_callSpecial?_slot (name := Str.ofString "__next__") ty F.slot_zip_next (wpAny_call_entry F.slot_zip_next ty F.entry_zip_next (uH (D1 _ rfl) (D2 _ rfl) ap ez eI eO s1 s2 k1 fun h' e tk hk he => ?_) (F.args_zip_next_1 _))))
 obtain ⟨o, eo, ce⟩ := he
 refine wpAny_bind (wpAny_isInstance (T := "StopIteration") (b := true) ⟨o, eo, ce⟩ isSubtype_stop ?_); exact wpAny_pure (hQ _ _ hk)
end
def Src (b : Bool) (h : Heap) (a : Addr) (its : Array Value) : Prop := if b = true then h.IsList a its else h.IsTuple a its
def wZ (b : Bool) : String := if b = true then "list_iterator" else "tuple_iterator"
abbrev lZ (b : Bool) (a : Addr) : Obj := { cls := .type (wZ b), data := .fields #[.ref a, .int 0 0] }
def fm (b : Bool) (h : Heap) (it a : Addr) (k : Nat) : Prop := if b = true then h.IsListIter it a k else h.IsTupleIter it a k
section
variable {prog : Program} {w : World} {A : Around} {E : Value -> Shared -> Prop} {s : Shared}
theorem Src.keep {b : Bool} {h h' : Heap} {a : Addr} {its : Array Value} (x : Src b h a its) (k : ∀ o, h.get? a = some o -> h'.get? a = some o) : Src b h' a its := by
 unfold Src at x ⊢
 split at x
 ·rename_i q; rw [if_pos q]; exact x.at fun o e => k o e
 ·rename_i q; rw [if_neg q]
  obtain ⟨o, e, r⟩ := x
  exact ⟨o, k o e, r⟩
theorem lO {b : Bool} {a : Addr} {its : Array Value} {Q : Value -> Shared -> Prop} (x : Src b s.heap a its) (h : Q (.ref s.heap.objs.size) { s with heap := s.heap.push (lZ b a) }) : wpAny (model prog w) A (pyIter (.ref a)) Q E s := by
 cases b with
 | true => exact wpAny_pyIter_list (show s.heap.IsList a its from x) h
 | false => exact wpAny_pyIter_tuple (show s.heap.IsTuple a its from x) h
theorem oQ (b : Bool) (hh : A.handled = none) (it a : Addr) (ne : a ≠ it) (its : Array Value) : Draws prog w A it [it, a] its.size (fun i v => its[i]? = some v) (fun i h => fm b h it a i /\ Src b h a its) := by
 cases b with
 | true => exact Draws.list hh it a ne its
 | false => exact Bc hh it a ne its
abbrev zH1 (b1 : Bool) (h : Heap) (l1 : Addr) : Heap := h.push (lZ b1 l1)
abbrev zH2 (b1 b2 : Bool) (h : Heap) (l1 l2 : Addr) : Heap := (zH1 b1 h l1).push (lZ b2 l2)
abbrev zH3 (b1 b2 : Bool) (h : Heap) (l1 l2 : Addr) : Heap := (zH2 b1 b2 h l1 l2).push { cls := .type "tuple", data := .seq #[.ref h.objs.size, .ref (zH1 b1 h l1).objs.size] }
abbrev zH4 (b1 b2 : Bool) (h : Heap) (l1 l2 : Addr) : Heap := (zH3 b1 b2 h l1 l2).push { cls := .type "tuple", data := .seq #[.none, .none] }
abbrev zH5 (b1 b2 : Bool) (h : Heap) (l1 l2 : Addr) : Heap := (zH4 b1 b2 h l1 l2).push { cls := .type "zip", data := .fields #[.none, .bool false, .bool false, .ref (zH2 b1 b2 h l1 l2).objs.size, .ref (zH3 b1 b2 h l1 l2).objs.size] }
theorem rU (b1 b2 : Bool) (l1 l2 : Addr) (xs ys : Array Value) :
  Meets (Builtin.«zip.__new__» ⟨[.type "zip", .ref l1, .ref l2], []⟩) (fun _ R s => Src b1 s.heap l1 xs /\ Src b2 s.heap l2 ys /\ R (.ok (.ret (.ref (zH4 b1 b2 s.heap l1 l2).objs.size))) { s with heap := zH5 b1 b2 s.heap l1 l2 }) :=
 .of_wp fun prog w A R s h => by
  obtain ⟨hp, g, d, tk, os⟩ := s; obtain ⟨e1, e2, q⟩ := h
  have hsub := sub_zip
  have x1 : Src b1 (Shared.heap ⟨hp, g, d, tk, os⟩) l1 xs := e1
  have x2 : Src b2 (Shared.heap ⟨hp.push (lZ b1 l1), g, d, tk, os⟩) l2 ys := e2.keep fun o e => Heap.get?_push_of_some _ e
  wp_walk using lO x1, lO x2
  exact ⟨_, rfl, q⟩
theorem uy {b1 b2 : Bool} {l1 l2 : Addr} {xs ys : Array Value} {Q : Value -> Shared -> Prop} (e1 : Src b1 s.heap l1 xs) (e2 : Src b2 s.heap l2 ys)
  (h : ∀ h', IsZip h' (s.heap.objs.size + 4) (s.heap.objs.size + 2) (s.heap.objs.size + 3) .none -> IsPair h' (s.heap.objs.size + 2) (.ref s.heap.objs.size) (.ref (s.heap.objs.size + 1)) -> IsPair h' (s.heap.objs.size + 3) .none .none -> fm b1 h' s.heap.objs.size l1 0 -> fm b2 h' (s.heap.objs.size + 1) l2 0 -> h'.objs.size = s.heap.objs.size + 5 -> (∀ c o, s.heap.get? c = some o -> h'.get? c = some o) -> Q (.ref (s.heap.objs.size + 4)) { s with heap := h' }) :
  wpAny (model prog w) A (call (.type "zip") [.ref l1, .ref l2]) Q E s := by
 refine callType_new F.called_zip (by decide) (F.typeCall_zip_2 _ _) (F.newCall_zip_2 _ _) (fun obj => F.args_object_init_3 obj _ _) F.entry_zip_new (rU b1 b2 l1 l2 xs ys) ⟨e1, e2, ?_⟩
 have y1 : (zH1 b1 s.heap l1).objs.size = s.heap.objs.size + 1 := Heap.size_push ..
 have y2 : (zH2 b1 b2 s.heap l1 l2).objs.size = s.heap.objs.size + 2 := by rw [Heap.size_push, y1]
 have y3 : (zH3 b1 b2 s.heap l1 l2).objs.size = s.heap.objs.size + 3 := by rw [Heap.size_push, y2]
 have y4 : (zH4 b1 b2 s.heap l1 l2).objs.size = s.heap.objs.size + 4 := by rw [Heap.size_push, y3]
 have y5 : (zH5 b1 b2 s.heap l1 l2).objs.size = s.heap.objs.size + 5 := by rw [Heap.size_push, y4]
 have g5 : (zH5 b1 b2 s.heap l1 l2).get? (zH4 b1 b2 s.heap l1 l2).objs.size = some _ := Heap.get?_push_size _ rfl
 have g4 : (zH5 b1 b2 s.heap l1 l2).get? (zH3 b1 b2 s.heap l1 l2).objs.size = some _ := Heap.get?_push_of_some _ (Heap.get?_push_size _ rfl)
 have g3 : (zH5 b1 b2 s.heap l1 l2).get? (zH2 b1 b2 s.heap l1 l2).objs.size = some _ := Heap.get?_push_of_some _ (Heap.get?_push_of_some _ (Heap.get?_push_size _ rfl))
 have g2 : (zH5 b1 b2 s.heap l1 l2).get? (zH1 b1 s.heap l1).objs.size = some _ := Heap.get?_push_of_some _ (Heap.get?_push_of_some _ (Heap.get?_push_of_some _ (Heap.get?_push_size _ rfl)))
 have g1 : (zH5 b1 b2 s.heap l1 l2).get? s.heap.objs.size = some _ := Heap.get?_push_of_some _ (Heap.get?_push_of_some _ (Heap.get?_push_of_some _ (Heap.get?_push_of_some _ (Heap.get?_push_size _ rfl))))
 show _ /\ _
 rw [y2, y3, y4] at g5; rw [y1, y2] at g3; rw [y3] at g4; rw [y1] at g2; rw [y4]
 have it0 : ∀ (b : Bool) (h' : Heap) (p a : Addr), h'.get? p = some (lZ b a) -> fm b h' p a 0 := fun b h' p a e => by
  cases b with
  | true => exact ⟨_, e, rfl, rfl⟩
  | false => exact ⟨_, e, rfl, rfl⟩
 exact ⟨⟨_, g5, rfl⟩, h _ g5 g3 g4 (it0 _ _ _ _ g1) (it0 _ _ _ _ g2) y5 fun c o x => Heap.get?_push_of_some _ (Heap.get?_push_of_some _ (Heap.get?_push_of_some _ (Heap.get?_push_of_some _ (Heap.get?_push_of_some _ x))))⟩
end
def SqS (b : Bool) (K : Frag) (H : Hp) (a : Addr) (xs : List V) : Prop := if b = true then SqL K H a xs else SqT K H a xs
def Itz (b1 b2 : Bool) (K : Frag) (l1 l2 : Addr) : It :=
 ⟨fun i H => ∃ xs ys x y, SqS b1 K H l1 xs /\ SqS b2 K H l2 ys /\ xs[i]? = some x /\ ys[i]? = some y,
  fun i H v H' => ∃ p x y, H p = none /\ v = .ref p /\ H' = upd H p (.tup [x, y]) /\ ∀ xs ys, SqS b1 K H l1 xs -> SqS b2 K H l2 ys -> xs[i]? = some x /\ ys[i]? = some y,
  fun i H => ∃ xs ys, SqS b1 K H l1 xs /\ SqS b2 K H l2 ys /\ (xs.length = i \/ (i < xs.length /\ ys.length = i))⟩
section
variable {X : Cx} {pins : List (Addr × Obj)} {σ : St} {H : Hp} {s : Shared}
theorem Inv.src {b : Bool} {a : Addr} {xs : List V} (I : Inv X pins σ H s) (h : SqS b X.K H a xs) : ∃ its : List Value, ar xs its /\ Src b s.heap a its.toArray := by
 cases b with
 | true =>
  obtain ⟨its, r, p, _⟩ := I.list (show SqL X.K H a xs from h)
  exact ⟨its, r, p.isList⟩
 | false =>
  obtain ⟨its, r, p, _⟩ := I.tuple (show SqT X.K H a xs from h)
  exact ⟨its, r, p⟩
theorem Inv.src_inj {b : Bool} {a : Addr} {xs ys : List V} (I : Inv X pins σ H s) (h : SqS b X.K H a xs) (h' : SqS b X.K H a ys) : xs = ys := by
 cases b with
 | true => exact I.list_inj (show SqL X.K H a xs from h) h'
 | false => exact I.tuple_inj (show SqT X.K H a xs from h) h'
theorem fm.get {b : Bool} {h : Heap} {it a : Addr} {k : Nat} (x : fm b h it a k) : ∃ o, h.get? it = some o /\ o.cls = .type (wZ b) /\ ∃ fs, o.data = .fields fs := by
 cases b with
 | true => obtain ⟨o, e, c, d⟩ := (show h.IsListIter it a k from x); exact ⟨o, e, c, _, d⟩
 | false => obtain ⟨o, e, c, d⟩ := (show h.IsTupleIter it a k from x); exact ⟨o, e, c, _, d⟩
theorem fm.keep {b : Bool} {h h' : Heap} {it a : Addr} {k : Nat} (x : fm b h it a k) (q : ∀ o, h.get? it = some o -> h'.get? it = some o) : fm b h' it a k := by
 cases b with
 | true => exact (show h.IsListIter it a k from x).at fun o e => q o e
 | false => exact (show h.IsTupleIter it a k from x).at fun o e => q o e
end
section
variable {X : Cx} {pins : List (Addr × Obj)} {σ : St} {H : Hp} {s : Shared}
theorem Inv.turnNew {h' : Heap} {t' : Nat} {ch : List Addr} {p : Addr} {o : HO} (I : Inv X pins σ H s) (hf : ∀ b ∈ ch, d8 X pins H b) (k : ∀ b u, b ∉ ch -> s.heap.get? b = some u -> h'.get? b = some u) (hp : s.heap.objs.size <= p) (new : bo X.prog X.w (upd H p o) h' p o) : Inv X pins σ (upd H p o) { s with heap := h', toks := t' } := by
 have hn : H p = none := I.hok.fresh hp
 have nt : ∀ b u, H b = some u -> b ∉ ch := fun b u e z => by rw [(hf b z).1] at e; cases e
 refine I.call' (s' := { s with heap := h', toks := t' }) (ch := ch) rfl ⟨fun b u e _ _ hc => k b u hc e, fun b u e _ _ hc => ⟨u.slots, k b u hc e⟩, fun b u e z hc => ?_, fun b u e hc => ⟨u, k b u hc e⟩, fun b ys e => ?_, fun b u ys e => ?_, fun b ys e => ⟨#[], ?_⟩⟩ (fun b u e => ?_) I.bare fun b hb => ?_
 ·rw [upd_ne (Nat.ne_of_lt (Nat.lt_of_lt_of_le (Heap.lt_size e) hp))]; exact z
 ·rw [upd_ne (ne_of_none e hn)]; exact e
 ·rw [upd_ne (ne_of_none e hn)]; exact e
 ·rw [upd_ne (ne_of_none e hn), e]; simp
 ·by_cases z : b = p
  ·subst z; rw [ao] at e; cases e; exact new
  ·rw [upd_ne z] at e
   refine (I.hok b u e).stay (fun c v hc q => k c v ?_ q) (fun c q => by rw [upd_ne (ne_of_none q hn)]; exact q) fun c xs q => by rw [upd_ne (ne_of_none q hn)]; exact q
   rcases hc with rfl | hc
   ·exact nt _ _ e
   ·exact nt _ _ hc
 ·obtain ⟨f0, f1, f2, f3, f4, f5⟩ := hf b hb
  exact ⟨f3, f1, f4, f5⟩
theorem Inv.turnL {h' : Heap} {t' : Nat} {ch : List Addr} (I : Inv X pins σ H s) (hf : ∀ b ∈ ch, d8 X pins H b) (k : ∀ b u, b ∉ ch -> s.heap.get? b = some u -> h'.get? b = some u) : Inv X pins σ H { s with heap := h', toks := t' } := by
 have nt : ∀ b u, H b = some u -> b ∉ ch := fun b u e z => by rw [(hf b z).1] at e; cases e
 refine I.call' (s' := { s with heap := h', toks := t' }) (ch := ch) rfl ⟨fun b u e _ _ hc => k b u hc e, fun b u e _ _ hc => ⟨u.slots, k b u hc e⟩, fun b u e z hc => z, fun b u e hc => ⟨u, k b u hc e⟩, fun b ys e => e, fun b u ys e => e, fun b ys e => ⟨#[], by rw [e]; simp⟩⟩ (fun b u e => ?_) I.bare fun b hb => ?_
 ·refine (I.hok b u e).stay (fun c v hc q => k c v ?_ q) (fun c q => q) fun c xs q => q
  rcases hc with rfl | hc
  ·exact nt _ _ e
  ·exact nt _ _ hc
 ·obtain ⟨f0, f1, f2, f3, f4, f5⟩ := hf b hb
  exact ⟨f3, f1, f4, f5⟩
theorem Inv.src_ne {b : Bool} {a c : Addr} {xs : List V} (I : Inv X pins σ H s) (h : SqS b X.K H a xs) (f : d8 X pins H c) : a ≠ c := by
 obtain ⟨f0, f1, f2, f3, f4, f5⟩ := f
 have old : ∀ o, X.K.lookup a = some o -> a ≠ c := fun o e z => by
  have e1 := I.ok.mod.kin a o e
  subst z
  rcases f3 with f3 | f3
  ·exact I.ok.noex a o e1 f3
  ·exact absurd (Nat.lt_of_lt_of_le (Heap.lt_size (I.ok.bs a o e1).1) f3) (Nat.lt_irrefl _)
 have rd : ∀ u, Rd H a u -> a ≠ c := fun u r z => by
  subst z
  rcases r with r | ⟨_, r⟩ <;> rw [f0] at r <;> cases r
 cases b with
 | true =>
  rcases (show SqL X.K H a xs from h) with h | ⟨o, _, _, e, _⟩
  ·exact rd _ h
  ·exact old o e
 | false =>
  rcases (show SqT X.K H a xs from h) with h | ⟨o, _, _, e, _⟩
  ·exact rd _ h
  ·exact old o e
end
theorem uJ {P : Program} {w : World} {K : Frag} {elts : List Expr} {x1} {pos : Pos} (b1 b2 : Bool) (l1 l2 z TI TO i1 i2 : Addr) (nd : [z, TI, TO, i1, i2].Nodup) :
  Turn P w K (.Tuple elts x1 pos) (Itz b1 b2 K l1 l2) [z, TI, TO, i1, i2] z (fun i h => IsZip h z TI TO .none /\ IsPair h TI (.ref i1) (.ref i2) /\ (∃ a b, IsPair h TO a b) /\ fm b1 h i1 l1 i /\ fm b2 h i2 l2 i) where
 mem := by simp
 obj := fun i h st b hb => by
  obtain ⟨ez, eI, ⟨a, b', eO⟩, s1, s2⟩ := st
  simp only [List.mem_cons, List.not_mem_nil, or_false] at hb
  rcases hb with rfl | rfl | rfl | rfl | rfl
  ·exact ⟨_, ez, fun v q => by cases q⟩
  ·exact ⟨_, eI, fun v q => by cases q⟩
  ·exact ⟨_, eO, fun v q => by cases q⟩
  ·obtain ⟨o, e, _, fs, d⟩ := s1.get
   exact ⟨o, e, fun v q => by rw [d] at q; cases q⟩
  ·obtain ⟨o, e, _, fs, d⟩ := s2.get
   exact ⟨o, e, fun v q => by rw [d] at q; cases q⟩
 keep := fun i h h' st k => by
  obtain ⟨ez, eI, ⟨a, b', eO⟩, s1, s2⟩ := st
  exact ⟨k z (by simp) _ ez, k TI (by simp) _ eI, ⟨a, b', k TO (by simp) _ eO⟩, s1.keep fun o e => k i1 (by simp) o e, s2.keep fun o e => k i2 (by simp) o e⟩
 item := by
  intro X hP hw hK hc i pins s σ H E I hf st hg
  subst hP hw hK
  obtain ⟨xs, ys, x, y, q1, q2, hx, hy⟩ := hg
  obtain ⟨ez, eI, ⟨a, b', eO⟩, s1, s2⟩ := st
  obtain ⟨is1, r1, p1⟩ := Inv.src I q1
  obtain ⟨is2, r2, p2⟩ := Inv.src I q2
  have hd := I.ok.hd hc
  simp only [List.nodup_cons, List.mem_cons, List.not_mem_nil, or_false, not_or] at nd
  obtain ⟨⟨z1, z2, z3, z4⟩, ⟨t1, t2, t3⟩, ⟨o1, o2⟩, j1, _⟩ := nd
  have n1 : ∀ c ∈ [z, TI, TO, i1, i2], l1 ≠ c := fun c hc => Inv.src_ne I q1 (hf c hc)
  have n2 : ∀ c ∈ [z, TI, TO, i1, i2], l2 ≠ c := fun c hc => Inv.src_ne I q2 (hf c hc)
  have ap : Ap z TI TO i1 i2 [i1, l1] [i2, l2] := ⟨Ne.symm z1, Ne.symm z2, Ne.symm z3, Ne.symm z4, t1, t2, t3, o1, o2, j1, by simp [z3, (n1 z (by simp)).symm], by simp [o1, (n1 TO (by simp)).symm], by simp [Ne.symm j1, (n1 i2 (by simp)).symm], by simp [z4, (n2 z (by simp)).symm], by simp [o2, (n2 TO (by simp)).symm], by simp [j1, (n2 i1 (by simp)).symm], by simp, by simp⟩
  have k1 : i < is1.toArray.size := by
   rw [List.size_toArray, ← r1.length]; exact (List.getElem?_eq_some_iff.mp hx).1
  have k2 : i < is2.toArray.size := by
   rw [List.size_toArray, ← r2.length]; exact (List.getElem?_eq_some_iff.mp hy).1
  refine sK (fun A' h' => oQ b1 (h'.trans hd) i1 l1 (n1 i1 (by simp)) is1.toArray) (fun A' h' => oQ b2 (h'.trans hd) i2 l2 (n2 i2 (by simp)) is2.toArray) ap ez eI eO ⟨s1, p1⟩ ⟨s2, p2⟩ k1 k2 fun h' tk u v pu pv fz fO f1 f2 fT sz kp => ?_
  refine ⟨_, rfl, wpAny_letOwnedTupleGo_zip (s := { s with heap := h', toks := tk }) fz fun h'' ez'' sb => ?_⟩
  replace sb : Heap.SameBut z h' h'' := sb
  have zT : s.heap.objs.size ≠ z := Nat.ne_of_gt (Heap.lt_size ez)
  obtain ⟨u', hu, ru⟩ := r1.get hx
  obtain ⟨v', hv, rv⟩ := r2.get hy
  have eu : u = u' := by
   have : is1[i]? = some u := by simpa using pu
   rw [this] at hu; exact Option.some.inj hu
  have ev : v = v' := by
   have : is2[i]? = some v := by simpa using pv
   rw [this] at hv; exact Option.some.inj hv
  subst eu ev
  have kk : ∀ b o, b ∉ [z, TI, TO, i1, i2] -> s.heap.get? b = some o -> h''.get? b = some o := fun b o hb e => by
   simp only [List.mem_cons, List.not_mem_nil, or_false, not_or] at hb
   exact sb.extBut b o hb.1 (kp b o hb.1 hb.2.2.1 hb.2.2.2.1 hb.2.2.2.2 e)
  have I2 : Inv X pins σ (upd H s.heap.objs.size (.tup [x, y])) { s with heap := h'', toks := tk } := by
   refine Inv.turnNew I hf kk (Nat.le_refl _) ⟨by show 2 <= sizeLine; decide, [u, v], .cons ru (.cons rv .nil), _, sb.extBut _ _ zT fT, rfl, _, rfl⟩
  refine ⟨.ref s.heap.objs.size, _, I2, rfl, ⟨s.heap.objs.size, x, y, I.hok.fresh (Nat.le_refl _), rfl, rfl, fun as bs h1 h2 => ⟨by rw [Inv.src_inj I h1 q1]; exact hx, by rw [Inv.src_inj I h2 q2]; exact hy⟩⟩, ⟨ez'', ?_, ⟨u, v, ?_⟩, ?_, ?_⟩, fun b hb => ?_⟩
  ·exact sb.extBut _ _ (Ne.symm z1) (kp TI _ (Ne.symm z1) t1 t2 t3 eI)
  ·exact sb.extBut _ _ (Ne.symm z2) fO
  ·exact f1.1.keep fun o e => sb.extBut _ _ (Ne.symm z3) e
  ·exact f2.1.keep fun o e => sb.extBut _ _ (Ne.symm z4) e
  ·rw [upd_ne]
   ·exact (hf b hb).1
   ·intro q
    have ol : ∃ o, s.heap.get? b = some o := by
     simp only [List.mem_cons, List.not_mem_nil, or_false] at hb
     rcases hb with rfl | rfl | rfl | rfl | rfl
     ·exact ⟨_, ez⟩
     ·exact ⟨_, eI⟩
     ·exact ⟨_, eO⟩
     ·obtain ⟨o, e, _⟩ := s1.get; exact ⟨o, e⟩
     ·obtain ⟨o, e, _⟩ := s2.get; exact ⟨o, e⟩
    obtain ⟨o, e⟩ := ol
    exact absurd (Heap.lt_size e) (by rw [q]; exact Nat.lt_irrefl _)
 done := by
  intro X hP hw hK hc i pins s σ H E I hf st hg
  subst hP hw hK
  obtain ⟨xs, ys, q1, q2, hl⟩ := hg
  obtain ⟨ez, eI, ⟨a, b', eO⟩, s1, s2⟩ := st
  obtain ⟨is1, r1, p1⟩ := Inv.src I q1
  obtain ⟨is2, r2, p2⟩ := Inv.src I q2
  have hd := I.ok.hd hc
  simp only [List.nodup_cons, List.mem_cons, List.not_mem_nil, or_false, not_or] at nd
  obtain ⟨⟨z1, z2, z3, z4⟩, ⟨t1, t2, t3⟩, ⟨o1, o2⟩, j1, _⟩ := nd
  have n1 : ∀ c ∈ [z, TI, TO, i1, i2], l1 ≠ c := fun c hc => Inv.src_ne I q1 (hf c hc)
  have n2 : ∀ c ∈ [z, TI, TO, i1, i2], l2 ≠ c := fun c hc => Inv.src_ne I q2 (hf c hc)
  have ap : Ap z TI TO i1 i2 [i1, l1] [i2, l2] := ⟨Ne.symm z1, Ne.symm z2, Ne.symm z3, Ne.symm z4, t1, t2, t3, o1, o2, j1, by simp [z3, (n1 z (by simp)).symm], by simp [o1, (n1 TO (by simp)).symm], by simp [Ne.symm j1, (n1 i2 (by simp)).symm], by simp [z4, (n2 z (by simp)).symm], by simp [o2, (n2 TO (by simp)).symm], by simp [j1, (n2 i1 (by simp)).symm], by simp, by simp⟩
  have g1 : is1.toArray.size = xs.length := by rw [List.size_toArray, ← r1.length]
  have g2 : is2.toArray.size = ys.length := by rw [List.size_toArray, ← r2.length]
  refine uG (fun A' h' => oQ b1 (h'.trans hd) i1 l1 (n1 i1 (by simp)) is1.toArray) (fun A' h' => oQ b2 (h'.trans hd) i2 l2 (n2 i2 (by simp)) is2.toArray) ap ez eI eO ⟨s1, p1⟩ ⟨s2, p2⟩ ?_ fun h' tk kp => ⟨rfl, Inv.turnL I hf fun b o hb e => ?_⟩
  ·rw [g1, g2]
   rcases hl with hl | ⟨h1, h2⟩
   ·exact .inl hl.symm
   ·exact .inr ⟨h1, h2.symm⟩
  ·simp only [List.mem_cons, List.not_mem_nil, or_false, not_or] at hb
   exact kp b o hb.1 hb.2.2.1 hb.2.2.2.1 hb.2.2.2.2 e
 self := fun _ _ _ _ _ st h => wpAny_pyIter_zip st.1 h
section
variable {X : Cx} {E : St -> XK} {K : Frag}
def iZp (K : Frag) (ta : TA) : TI := fun σ H R => ta σ H fun vs H1 => ∃ b1 b2 l1 l2 xs ys, vs = [.ref l1, .ref l2] /\ SqS b1 K H1 l1 xs /\ SqS b2 K H1 l2 ys /\ R (Itz b1 b2 K l1 l2) H1
theorem yI {a b : Expr} {ta : TA} {p pos : Pos} {elts : List Expr} {x1} {tpos : Pos} (hg : Gl X "zip") (hm : X.mg "zip" = none) (ha : PA X [a, b] ta) (hs : starEach [a, b] X.env = [(false, eval a X.env), (false, eval b X.env)] := by rfl) (hs2 : starEach [b] X.env = [(false, eval b X.env)] := by rfl) :
  PI X (.Tuple elts x1 tpos) (.Call (.Name "zip" p) [a, b] [] pos) (iZp X.K ta) := by
 intro pins s σ H R I h
 refine Call_ (gC I hg hm PyProof.Rows.Boot.«zip» (PyProof.Rows.callWith_type1 (thn (ha pos pins s σ H _ I h) fun us s1 ⟨vs, H1, I1, r1, q1⟩ => ?_) (by rw [hs, hs2]) (by rw [hs2]; rfl)))
 obtain ⟨b1, b2, l1, l2, xs, ys, e, q1, q2, q⟩ := q1
 subst e
 cases r1 with
 | cons r rr =>
  cases rr with
  | cons r' rr =>
   cases rr
   cases r
   cases r'
   obtain ⟨is1, v1, p1⟩ := Inv.src I1 q1
   obtain ⟨is2, v2, p2⟩ := Inv.src I1 q2
   refine uy p1 p2 fun h' ez eI eO s1' s2' sz kp => ?_
   refine wpAny_pyIter_zip (s := { s1 with heap := h' }) ez ?_
   have I2 : Inv X pins σ H1 { s1 with heap := h' } := I1.kept (t' := s1.toks) kp
   refine ⟨_, [s1.heap.objs.size + 4, s1.heap.objs.size + 2, s1.heap.objs.size + 3, s1.heap.objs.size, s1.heap.objs.size + 1], _, Itz b1 b2 X.K l1 l2, H1, rfl, I2, uJ b1 b2 l1 l2 (s1.heap.objs.size + 4) (s1.heap.objs.size + 2) (s1.heap.objs.size + 3) s1.heap.objs.size (s1.heap.objs.size + 1) (by simp), ⟨ez, eI, ⟨_, _, eO⟩, s1', s2'⟩, fun c hc => ?_, q⟩
   have hge : s1.heap.objs.size <= c := by
    simp only [List.mem_cons, List.not_mem_nil, or_false] at hc
    rcases hc with rfl | rfl | rfl | rfl | rfl
    ·exact Nat.le_add_right _ _
    ·exact Nat.le_add_right _ _
    ·exact Nat.le_add_right _ _
    ·exact Nat.le_refl _
    ·exact Nat.le_add_right _ _
   exact I1.fpOk hge (I1.hok.fresh hge)
def cX : List D -> List D -> List D
 | x :: xs, y :: ys => .tup [x, y] :: cX xs ys
 | _, _ => []
theorem oU : ∀ (xs ys : List D), (cX xs ys).length = min xs.length ys.length
 | [], ys => by simp [cX]
 | x :: xs, [] => by simp [cX]
 | x :: xs, y :: ys => by
  show (cX xs ys).length + 1 = _
  rw [oU xs ys, List.length_cons, List.length_cons]
  omega
theorem oV : ∀ {xs ys : List D} {i : Nat} {d : D}, (cX xs ys)[i]? = some d -> ∃ x y, xs[i]? = some x /\ ys[i]? = some y /\ d = .tup [x, y]
 | [], ys, i, d, h => by simp [cX] at h
 | x :: xs, [], i, d, h => by simp [cX] at h
 | x :: xs, y :: ys, 0, d, h => by
  simp [cX] at h
  exact ⟨x, y, rfl, rfl, h.symm⟩
 | x :: xs, y :: ys, i + 1, d, h => by
  have h' : (cX xs ys)[i]? = some d := by simpa [cX] using h
  obtain ⟨a, b, e1, e2, e3⟩ := oV h'
  exact ⟨a, b, by simpa using e1, by simpa using e2, e3⟩
def rf : List D -> Option (List D)
 | [a, b] => (eW a).bind fun xs => (eW b).map fun ys => cX xs ys
 | _ => none
theorem Den.sqS {F : Fx} {H : Hp} {d : D} {v : V} {ds : List D} (h : Den K F H d v) (e : eW d = some ds) : ∃ b a, v = .ref a /\ ∀ F2 H2, Tr F H F2 H2 -> ∃ xs, SqS b K H2 a xs /\ DenL K F2 H2 ds xs := by
 cases d <;> first
  | (cases e; obtain ⟨a, xs, rfl, _⟩ := Den.sqL h; refine ⟨true, a, rfl, fun F2 H2 t => ?_⟩; obtain ⟨a', ys, ea, sq, dl⟩ := Den.sqL (Den.tr t _ _ h); cases ea; exact ⟨ys, sq, dl⟩)
  | (cases e; obtain ⟨a, xs, rfl, _⟩ := Den.sqT h; refine ⟨false, a, rfl, fun F2 H2 t => ?_⟩; obtain ⟨a', ys, ea, sq, dl⟩ := Den.sqT (Den.tr t _ _ h); cases ea; exact ⟨ys, sq, dl⟩)
  | cases e
theorem xV {F : Fx} {H : Hp} {b1 b2 : Bool} {l1 l2 : Addr} {ds es : List D} (h1 : ∀ F2 H2, Tr F H F2 H2 -> ∃ xs, SqS b1 K H2 l1 xs /\ DenL K F2 H2 ds xs) (h2 : ∀ F2 H2, Tr F H F2 H2 -> ∃ xs, SqS b2 K H2 l2 xs /\ DenL K F2 H2 es xs) : ItD K (Itz b1 b2 K l1 l2) F H (cX ds es) := fun F2 H2 β2 t fr i => by
 obtain ⟨xs, s1, d1⟩ := h1 F2 H2 t
 obtain ⟨ys, s2, d2⟩ := h2 F2 H2 t
 refine ⟨fun d hd => ?_, fun hi => ?_⟩
 ·obtain ⟨x, y, e1, e2, rfl⟩ := oV hd
  obtain ⟨u, hu, du⟩ := d1.get e1
  obtain ⟨v, hv, dv⟩ := d2.get e2
  refine ⟨⟨xs, ys, u, v, s1, s2, hu, hv⟩, fun z H3 hz => ?_⟩
  obtain ⟨p, u', v', hp, rfl, rfl, hh⟩ := hz
  obtain ⟨g1, g2⟩ := hh xs ys s1 s2
  rw [hu] at g1
  rw [hv] at g2
  cases g1
  cases g2
  exact ⟨bN.upd hp, Den.newT fr hp (DenL.cons du (DenL.cons dv DenL.nil))⟩
 ·rw [oU] at hi
  have e1 := d1.length
  have e2 := d2.length
  refine ⟨xs, ys, s1, s2, ?_⟩
  rw [← e1, ← e2]
  omega
def cU (g : FL) : FL := bA rf g
theorem iZ {a b : Expr} {g : FL} {p pos : Pos} {elts : List Expr} {x1} {tpos : Pos} (hg : Gl X "zip") (hm : X.mg "zip" = none) (ha : PA X [a, b] (tVA X.K g E)) (hs : starEach [a, b] X.env = [(false, eval a X.env), (false, eval b X.env)] := by rfl) (hs2 : starEach [b] X.env = [(false, eval b X.env)] := by rfl) :
  PI X (.Tuple elts x1 tpos) (.Call (.Name "zip" p) [a, b] [] pos) (iV X.K (cU g) E) :=
 (yI hg hm ha hs hs2).imp fun σ H R h_ => ex6 h_ fun F δ β fr vk h => ⟨F, δ, β, fr, vk, (run.bind (R := DenL X.K F) h).mono fun vs H1 h_ => by
  obtain ⟨ds, β1, t, hd, r1⟩ := h_
  obtain ⟨l, e, k⟩ := run.ofO r1
  unfold rf at e
  split at e
  ·rename_i c d
   obtain ⟨v, w', rfl, h1, h2⟩ := DenL.two hd
   cases q1 : eW c with
   | none => rw [q1] at e; cases e
   | some xs =>
    cases q2 : eW d with
    | none => rw [q1, q2] at e; cases e
    | some ys =>
     rw [q1, q2] at e
     cases e
     obtain ⟨b1, l1, rfl, z1⟩ := Den.sqS h1 q1
     obtain ⟨b2, l2, rfl, z2⟩ := Den.sqS h2 q2
     obtain ⟨us, g1, _⟩ := z1 F H1 (Tr.refl F H1)
     obtain ⟨ws, g2, _⟩ := z2 F H1 (Tr.refl F H1)
     exact ⟨b1, b2, l1, l2, us, ws, rfl, g1, g2, k _ H1 (To.refl t.fr) (xV z1 z2)⟩
  ·cases e⟩
end
def jV (K : Frag) (f : Dn -> M Unit) (c : Nat) (E : St -> XK) : TJ := fun σ H n Q => n + c <= sizeLine /\ ∃ F δ β, Fr F H β /\ VOk K F H δ σ /\ run (fun _ (_ : Unit) (m : Nat) => m <= n + c) F E σ (f δ) H Q β
theorem _root_.L2.PJ.imp {X : Cx} {es : List Expr} {t t' : TJ} (h : PJ X es t) (f : ∀ σ H n Q, t' σ H n Q -> t σ H n Q) : PJ X es t' := fun pins s σ H acc Q I hz hq => h pins s σ H acc Q I hz (f σ H _ _ hq)
def c9 : Dn -> M Unit := fun _ => M.ret ()
def bM (f : FD) (g : Dn -> M Unit) : Dn -> M Unit := fun δ => M.bind (f δ) fun d => match d with
 | .int i => if i.natAbs.log2 < 1920 then g δ else M.fail
 | _ => M.fail
section
variable {X : Cx} {E : St -> XK} {es : List Expr} {K : Frag}
theorem g6 : PJ X [] (jV X.K c9 0 E) := yG.imp fun σ H n Q h_ => by obtain ⟨_, F, δ, β, fr, vk, r⟩ := h_; exact run.ret fr r (Nat.le_refl _)
theorem cP {x : Str} {j : Nat} {p : Pos} {g : Dn -> M Unit} {c : Nat} (h : PJ X es (jV X.K g c E)) (he : evalEach (.Constant (.str x) j p :: es) X.env = eval (.Constant (.str x) j p) X.env :: evalEach es X.env := by rfl) : PJ X (.Constant (.str x) j p :: es) (jV X.K g (x.length + c) E) :=
 (yF h he).imp fun σ H n Q h_ => by
  obtain ⟨hz, F, δ, β, fr, vk, r, β', e, k⟩ := h_
  exact ⟨by omega, by omega, F, δ, β, fr, vk, r, β', e, by
   cases r with
   | ok u => exact fun m H' t hm => k m H' t (by omega)
   | error C => exact k⟩
theorem dE {v : Expr} {p : Pos} {f : FD} {g : Dn -> M Unit} {c : Nat} (hv : PE X v (tV X.K f E)) (h : PJ X es (jV X.K g c E)) (he : evalEach (.FormattedValue v (-1) none p :: es) X.env = eval (.FormattedValue v (-1) none p) X.env :: evalEach es X.env := by rfl) : PJ X (.FormattedValue v (-1) none p :: es) (jV X.K (bM f g) (1921 + c) E) :=
 (yH hv h he).imp fun σ H n Q ⟨hz, F, δ, β, fr, vk, r⟩ => ⟨F, δ, β, fr, vk, (run.bind (R := Den X.K F) r).mono fun v H1 h_ => by
  obtain ⟨d, β1, t, hd, r1⟩ := h_
  cases d with
  | int i =>
   by_cases q : i.natAbs.log2 < 1920
   ·simp only [if_pos q] at r1
    refine ⟨i, hd, q, by omega, fun m hm => ⟨by omega, F, δ, β1, t.fr, vk.tr (t.tr fr), ?_⟩⟩
    obtain ⟨rr, β', e, k⟩ := r1
    refine ⟨rr, β', e, ?_⟩
    cases rr with
    | ok u => exact fun m' H' t' hm' => k m' H' t' (by omega)
    | error C => exact k
   ·simp only [if_neg q] at r1
    obtain ⟨rr, β', e, k⟩ := r1
    cases e
  | _ => obtain ⟨rr, β', e, k⟩ := r1; cases e⟩
def cD (f : Dn -> M Unit) : FD := fun δ => M.bind (f δ) fun _ => M.ret .txt
theorem fU {v1 v2 : Expr} {rest : List Expr} {pos : Pos} {f : Dn -> M Unit} {c : Nat} (h : PJ X (v1 :: v2 :: rest) (jV X.K f c E)) (hc : c <= sizeLine) : PE X (.JoinedStr (v1 :: v2 :: rest) pos) (tV X.K (cD f) E) :=
 (xE h).imp fun σ H Q h_ => ex6 h_ fun F δ β fr vk r => ⟨by omega, F, δ, β, fr, vk, (run.bind (R := fun _ (_ : Unit) (m : Nat) => m <= 0 + c) r).mono fun m H1 h_ => ex5 h_ fun d β1 t hd r1 => ⟨by omega, fun z hz => run.ret t.fr r1 ⟨z, rfl⟩⟩⟩
def oI (C : Addr) (n : Nat) : Sp := fun vs H Q _ => ∃ (x : Addr) (rest : List V), vs = .ref x :: rest /\ rest.length = n /\ H x = some (de C x none) /\
 ∀ (dx : Option Addr) (H' : Hp), H' x = some (de C x dx) -> (∀ b o, H b = some o -> b ≠ x -> H' b = some o) -> Q .non H'
def bI (C : Addr) (f : FL) : G := fun δ β => match f (vwA δ) β with
 | some (.ok _, β1) => some (.ex C δ, β1)
 | some (.error C', β1) => some (.ex C' δ, β1)
 | none => none
end
section
variable {P : Program} {w : World} {K : Frag} {mg : Str -> Option Value} {base : Heap} {N : List Str} {qual : Str} {scope : Scope} {f : Addr} {cd : Value} {A : Around} {outer : List Env} {s : Shared} {H : Hp} {E : XK}
theorem dm {e : Expr} {pos : Pos} {C : Addr} {n : Nat} {g : FL} {E' : St -> XK} (xc : XC K C) (hn : ∀ δ β r β', g δ β = some (.ok r, β') -> r.length = n) (hz : n <= sizeLine)
  (h : PS (cI (CXE P w) P w K mg base N qual scope f cd A outer s H E) (.Raise (some e) none pos) (sT H K E (yq C (oI C n) [] E' (tVA K g (fun _ => E))))) :
  PS (cI (CXE P w) P w K mg base N qual scope f cd A outer s H E) (.Raise (some e) none pos) (tG K H (bI C g) (fun _ => E)) := h.imp fun D σ H1 h_ => by
 obtain ⟨B, bg, δ, β, o, β', ok, e, q⟩ := h_
 refine ⟨FxA B bg, vwA δ, β, ok.frA, ok.viewA, ?_⟩
 unfold bI at e
 split at e
 ·rename_i ds β1 e1
  cases e
  refine ⟨.ok ds, _, e1, fun vs H2 t hd => ?_⟩
  obtain ⟨ok2, s2⟩ := ok.to rfl t
  have hl : vs.length = n := by rw [← hd.length]; exact hn _ _ _ _ e1
  refine ⟨by rw [hl]; exact hz, fun x hx => ⟨x, vs ++ [], rfl, by rw [List.append_nil]; exact hl, ao, fun dx H' h1 h2 => ⟨rfl, x, C, dx, rfl, h1, ?_, xc, ?_⟩⟩⟩
  ·cases q0 : H x with
   | none => rfl
   | some o => exact absurd hx (ok2.cov x (by rw [q0]; simp))
  ·have sm : ∀ b o, H2 b = some o -> eG H' x b = some o := fun b o eb => by
    have hb : b ≠ x := ne_of_none eb hx
    rw [gu hb]
    exact h2 b o (by rw [upd_ne hb]; exact eb) hb
   obtain ⟨ok3, s3⟩ := ok2.to rfl (ok2.fr.same sm)
   exact q σ B _ (s2.trans s3) ok3
 ·rename_i C' β1 e1
  cases e
  refine ⟨.error C', _, e1, fun H' t => ?_⟩
  obtain ⟨ok2, s2⟩ := ok.to rfl t
  exact q _ B H' s2 ok2
 ·cases e
end
section
variable {X : Cx} {E : St -> XK} {K : Frag}
abbrev Gh := Addr -> G
def hNo : Gh := fun _ _ _ => none
def mX (K : Frag) (Dc : Addr) (g : G) (r : Gh) : Gh := fun C δ β => match PySem.W.exmOne K (.ref C) (.ref Dc) with
 | some true => g δ β
 | some false => r C δ β
 | none => none
def m3 (g : G) (h : Gh) : G := fun δ β => match g δ β with
 | some (.ex C δ1, β1) => h C δ1 β1
 | r => r
end
section
variable {X : Cx} {E : St -> XK} {K : Frag} {elt target iter : Expr} {ifs : List Expr} {rest : List Comprehension} {scope : Scope} {pos : Pos} {Nc vars : List Str} {caps : List Nat} {g : TG} {tb : Addr -> TB}
theorem aW : fJ X [] (tVT X.K (fun _ => M.ret true) E0) := fun pins s σ H Q I h_ => by obtain ⟨F, δ, β, fr, vk, r⟩ := h_; exact pw pins s σ H Q I (run.ret fr r rfl)
theorem bL {it : FL} {tg : TgF} {tt : Dn -> M Bool} {b : FL} (hc : X.calm = true) (S : CmpScope X scope Nc vars caps) (hi : PI X target iter (iV X.K it E))
  (hb : ∀ (cl : List (Str × Addr)) (C : Addr) (fp : List Addr) (s : Shared) (H : Hp), PG (aZ X Nc scope cl C fp s H) target g /\ fJ (aZ X Nc scope cl C fp s H) ifs (tVT X.K tt E0) /\ ∀ D, PB (aZ X Nc scope cl C fp s H) elt (⟨target, iter, ifs, 0⟩ :: rest) scope pos 0 D (tb D))
  (lg : dg X.K g tg) (sg : eJ tg) (lb : ∀ D, fR X.K D (tb D) b) (hs : ∀ x, foldedSetIterable iter X.env x = pure x := by intro _; rfl) : PE X (.ListComp elt (⟨target, iter, ifs, 0⟩ :: rest) scope pos) (tV X.K (aM vars.length caps it tg tt b) E) :=
 (kq hc S hi hb hs).imp fun σ H Q h => o0 lg sg lb h
theorem pa {it : FL} {tg : TgF} {tt : Dn -> M Bool} {b : FL} {i : Nat} {x : Str} {pos' spos : Pos} (hN : X.N.Nodup) (hi' : X.N[i]? = some x) (hx : Loc X.env.scope x) (hc : X.calm = true) (S : CmpScope X scope Nc vars caps) (hi : PI X target iter (iV X.K it E))
  (hb : ∀ (cl : List (Str × Addr)) (C : Addr) (fp : List Addr) (s : Shared) (H : Hp), PG (aZ X Nc scope cl C fp s H) target g /\ fJ (aZ X Nc scope cl C fp s H) ifs (tVT X.K tt E0) /\ ∀ D, PB (aZ X Nc scope cl C fp s H) elt (⟨target, iter, ifs, 0⟩ :: rest) scope pos 0 D (tb D))
  (lg : dg X.K g tg) (sg : eJ tg) (lb : ∀ D, fR X.K D (tb D) b)
  (hsw : swapsWith (.ListComp elt (⟨target, iter, ifs, 0⟩ :: rest) scope pos) (some (.Name x pos')) spos.line X.env = pure true := by rfl)
  (hs : ∀ x, foldedSetIterable iter X.env x = pure x := by intro _; rfl) (hf : X.fn x = true \/ X.env.scope.names.lookup x = some .local := by first | exact .inl rfl | exact .inr rfl | assumption) :
  PS X (.Assign [.Name x pos'] (.ListComp elt (⟨target, iter, ifs, 0⟩ :: rest) scope pos) spos) (tG X.K X.H₀ (ba i (aM vars.length caps it tg tt b)) E) :=
 bu ((mI hN hi' hx hc S hi hb hsw hs hf).imp fun D σ H h => o0 lg sg lb h)
def mQ : D -> Option D
 | .int i => some (.int (-i))
 | _ => none
def p0 : D -> Option Int
 | .int i => some i
 | _ => none
def ig (xs : List D) (lo hi : Option Int) : List D := (xs.drop (HT.sIx xs.length 0 lo)).take (HT.sIx xs.length xs.length hi - HT.sIx xs.length 0 lo)
def slD : D -> Option Int -> Option Int -> Option D
 | .lst xs, lo, hi => some (.lst (ig xs lo hi))
 | .scr ns, lo, hi => some (.lst (ig (ns.map D.int) lo hi))
 | _, _, _ => none
def md (f : Option (FD)) : Dn -> M (Option Int) := fun δ => match f with
 | none => M.ret none
 | some g => M.bind (g δ) fun d => M.bind (M.ofO (p0 d)) fun i => M.ret (some i)
def fSl (f : FD) (lo hi : Option (FD)) : FD := fun δ => M.bind (f δ) fun d => M.bind (md lo δ) fun l => M.bind (md hi δ) fun h => M.ofO (slD d l h)
def sI (X : Cx) (e : Option Expr) (f : Option (FD)) (E : St -> XK) : Prop := PO X e (fun σ H Q => ∃ F δ β, Fr F H β /\ VOk X.K F H δ σ /\ run (fun _ (a b : Option Int) => b = a) F E σ (md f δ) H Q β)
theorem iB : sI X none none E := fun pins s σ H Q I h_ => by obtain ⟨F, δ, β, fr, vk, r⟩ := h_; exact qD pins s σ H Q I (run.ret fr r rfl)
theorem iA {e : Expr} {f : FD} (h : PE X e (tV X.K f E)) : sI X (some e) (some f) E := fun pins s σ H Q I h_ => ex6 h_ fun F δ β fr vk r => qC h pins s σ H Q I ⟨F, δ, β, fr, vk, (run.bind (R := Den X.K F) r).mono fun v H1 h_ => by
  obtain ⟨d, β1, t, hd, r1⟩ := h_
  obtain ⟨i, e, r2⟩ := run.ofO_bind r1
  cases d <;> first | (cases e; exact ⟨_, hd, run.ret t.fr r2 rfl⟩) | cases e⟩
theorem DenL.cut {F : Fx} {H : Hp} {ds : List D} {vs : List V} (h : DenL K F H ds vs) (lo hi : Option Int) : DenL K F H (ig ds lo hi) (j3 vs lo hi) := by
 unfold ig j3
 rw [h.length]
 exact (h.drop _).take _
theorem gr {e : Expr} {f : FD} {lo hi : Option Expr} {fl fh : Option (FD)} {p2 : Pos} (he : PE X e (tV X.K f E)) (hl : sI X lo fl E) (hh : sI X hi fh E) : PE X (.Subscript e (.Slice lo hi none p2) pos) (tV X.K (fSl f fl fh) E) :=
 (pz qr he hl hh).imp fun σ H Q h_ => ex6 h_ fun F δ β fr vk r => ⟨F, δ, β, fr, vk, (run.bind (R := Den X.K F) r).mono fun v H1 ⟨d, β1, t, hd, r1⟩ =>
  ⟨F, δ, β1, t.fr, vk.tr (t.tr fr), (run.bind (R := fun _ (a b : Option Int) => b = a) r1).mono fun l H2 ⟨l', β2, t2, hl', r2⟩ =>
   ⟨F, δ, β2, t2.fr, vk.tr ((t.tr fr).trans (t2.tr t.fr)), (run.bind (R := fun _ (a b : Option Int) => b = a) r2).mono fun h H3 h_ => by
    obtain ⟨h', β3, t3, hh', r3⟩ := h_
    subst hl' hh'
    obtain ⟨c, e, k⟩ := run.ofO r3
    have hd3 := Den.tr ((t2.tr t.fr).trans (t3.tr t2.fr)) _ _ hd
    cases d <;> first
     | (cases e; obtain ⟨a, xs, rfl, sq, dl⟩ := Den.sqL hd3; exact ⟨a, xs, rfl, sq, fun p hp => k _ _ (t3.fr.upd _ hp) (Den.newL t3.fr hp (dl.cut l h))⟩)
     | (cases e; obtain ⟨a, rfl, sq⟩ := Den.scr hd3; exact ⟨a, _, rfl, sq, fun p hp => k _ _ (t3.fr.upd _ hp) (Den.newL t3.fr hp ((DenL.ofInts _).cut l h))⟩)
     | cases e⟩⟩⟩
end
def Bg.ok (β : Bg) : Prop := β.cells ≠ [] /\ β.cells.length <= 64 /\ (∀ c ∈ β.cells, 0 <= c) /\ 0 <= β.j
def Bg.pos (β : Bg) : Nat := (β.i % (β.cells.length : Int)).toNat
def Bg.cell (β : Bg) : Int := β.cells.getD β.pos 0
def Bg.nxt (β : Bg) : Int := (β.j + β.cell % 2147483629 + 77) * 48271 % 2147483629
def gW (β : Bg) (lot : Int) : Int := if 10 ^ 18 <= β.cell then β.cell % lot else β.nxt / 64 % lot
def iR (β : Bg) (lot : Int) : Bg := if 10 ^ 18 <= β.cell then ⟨β.cells.set β.pos (β.cell / lot), β.i, β.j⟩ else ⟨β.cells, β.i + 1, β.nxt⟩
open Classical in
noncomputable def bO : List D -> M D := fun ds β => match ds with
 | [.bag, .int lot] => if β.ok /\ 0 < lot /\ lot < 1073741824 then some (Except.ok (D.int (gW β lot)), iR β lot) else none
 | _ => none
theorem vm {β : Bg} {lot : Int} (h : β.ok) (h0 : 0 < lot) (h1 : lot < 1073741824) : bO [.bag, .int lot] β = some (.ok (.int (gW β lot)), iR β lot) := by
 unfold bO
 exact if_pos ⟨h, h0, h1⟩
theorem tL {ds : List D} {β : Bg} {r : Except Addr D} {β' : Bg} (h : bO ds β = some (r, β')) : ∃ lot, ds = [.bag, .int lot] /\ β.ok /\ 0 < lot /\ lot < 1073741824 /\ r = .ok (.int (gW β lot)) /\ β' = iR β lot := by
 unfold bO at h
 split at h
 ·split at h
  ·rename_i lot q
   cases h
   exact ⟨lot, rfl, q.1, q.2.1, q.2.2, rfl, rfl⟩
  ·cases h
 ·cases h
theorem Bg.ok.at {β : Bg} (h : β.ok) : β.pos < β.cells.length /\ β.cells[β.pos]? = some β.cell /\ 0 <= β.cell /\ β.i % (β.cells.length : Int) = (β.pos : Int) := by
 obtain ⟨c1, c2, c3, c4⟩ := id h
 have hp : 0 < β.cells.length := List.length_pos_iff.mpr c1
 have a1 : 0 <= β.i % (β.cells.length : Int) := Int.emod_nonneg _ (by omega)
 have a2 : β.i % (β.cells.length : Int) < β.cells.length := Int.emod_lt_of_pos _ (by omega)
 have hk : β.pos < β.cells.length := by unfold Bg.pos; omega
 have e : β.cell = β.cells[β.pos] := by
  unfold Bg.cell
  rw [List.getD_eq_getElem?_getD, List.getElem?_eq_getElem hk]; rfl
 refine ⟨hk, by rw [e]; exact List.getElem?_eq_getElem hk, by rw [e]; exact c3 _ (List.getElem_mem hk), ?_⟩
 unfold Bg.pos; omega
theorem qz {β : Bg} {lot : Int} (h : β.ok) (h0 : 0 < lot) : 0 <= gW β lot /\ gW β lot < lot /\ (iR β lot).ok := by
 obtain ⟨hk, _, hc, _⟩ := h.at
 obtain ⟨c1, c2, c3, c4⟩ := id h
 unfold gW iR
 split
 ·refine ⟨Int.emod_nonneg _ (by omega), Int.emod_lt_of_pos _ h0, ?_, by rw [List.length_set]; exact c2, fun c hc' => ?_, c4⟩
  ·intro z
   have := congrArg List.length z
   rw [List.length_set] at this
   exact c1 (List.length_eq_zero_iff.mp this)
  ·rcases List.mem_or_eq_of_mem_set hc' with hc' | rfl
   ·exact c3 c hc'
   ·exact Int.ediv_nonneg hc (by omega)
 ·exact ⟨Int.emod_nonneg _ (by omega), Int.emod_lt_of_pos _ h0, c1, c2, c3, Int.emod_nonneg _ (by decide)⟩
end L2.Pu
namespace L2
open PySem PySem.Spec PyProof.Rows
end L2
namespace L2.Pu
open PySem PySem.Spec PyProof.Rows
section
variable {X : Cx} {E : St -> XK} {K : Frag}
def mr (K : Frag) (mg : Str -> Option Value) (x : Str) (d : D) : Prop := ∃ u v, mg x = some u /\ aS v u /\ ∀ F H, Den K F H d v
theorem fS {x : Str} {d : D} {pos : Pos} (c : mr X.K X.mg x d) (hg : Gl X x := by rfl) (hd : (x == ("__debug__" : Str)) = false := by decide) : PE X (.Name x pos) (tV X.K (fC d) E) := by
 obtain ⟨u, v, h1, h2, h3⟩ := c
 exact v_c (xD hg h1 h2 hd) h3
mutual
def toP : D -> Option PyData
 | .non => some .none
 | .bl b => some (.bool b)
 | .int i => some (.int i)
 | .str x => some (.str x)
 | .lst xs => (toPs xs).map PyData.list
 | .tup xs => (toPs xs).map PyData.tuple
 | _ => none
def toPs : List D -> Option (List PyData)
 | [] => some []
 | x :: xs => match toP x, toPs xs with
  | some p, some ps => some (p :: ps)
  | _, _ => none
end
mutual
theorem iu {F : Fx} {pins : List (Addr × Obj)} {σ : St} {H : Hp} {s : Shared} (I : Inv X pins σ H s) : ∀ (d : D) (v : V) (u : Value) (p : PyData), Den X.K F H d v -> toP d = some p -> aS v u -> ∃ as, Reads s.heap u p as
 | .non, v, u, p, h, e, r => by cases e; cases h.non; cases r; exact ⟨_, .none⟩
 | .bl b, v, u, p, h, e, r => by cases e; cases h.bl; cases r; exact ⟨_, .bool b⟩
 | .int i, v, u, p, h, e, r => by cases e; cases h.int; obtain ⟨t, rfl⟩ := r; exact ⟨_, .int i t⟩
 | .str x, v, u, p, h, e, r => by cases e; cases h.str; obtain ⟨t, rfl⟩ := r; exact ⟨_, .str x t⟩
 | .lst xs, v, u, p, h, e, r => by
  unfold toP at e
  cases q : toPs xs with
  | none => rw [q] at e; cases e
  | some ps =>
   rw [q] at e; cases e
   obtain ⟨a, ys, rfl, sq, dl⟩ := Den.sqL h
   cases r
   obtain ⟨its, rv, pl, _⟩ := I.list sq
   obtain ⟨as, ra⟩ := reads_L I xs ys its ps dl q rv
   obtain ⟨o, ho, hc, n, hd⟩ := pl.isList
   exact ⟨_, .list ho hc hd (by simpa using ra)⟩
 | .tup xs, v, u, p, h, e, r => by
  unfold toP at e
  cases q : toPs xs with
  | none => rw [q] at e; cases e
  | some ps =>
   rw [q] at e; cases e
   obtain ⟨a, ys, rfl, sq, dl⟩ := Den.sqT h
   cases r
   obtain ⟨its, rv, pl, _⟩ := I.tuple sq
   obtain ⟨as, ra⟩ := reads_L I xs ys its ps dl q rv
   obtain ⟨o, ho, hc, n, hd⟩ := pl
   exact ⟨_, .tuple ho hc hd (by simpa using ra)⟩
 | .ty _, _, _, _, _, e, _ => by cases e
 | .txt, _, _, _, _, e, _ => by cases e
 | .scr _, _, _, _, _, e, _ => by cases e
 | .obj _ _ _, _, _, _, _, e, _ => by cases e
 | .bag, _, _, _, _, e, _ => by cases e
 | .adr _, _, _, _, _, e, _ => by cases e
theorem reads_L {F : Fx} {pins : List (Addr × Obj)} {σ : St} {H : Hp} {s : Shared} (I : Inv X pins σ H s) : ∀ (ds : List D) (vs : List V) (us : List Value) (ps : List PyData), DenL X.K F H ds vs -> toPs ds = some ps -> ar vs us -> ∃ as, ReadsAll s.heap us ps as
 | [], vs, us, ps, h, e, r => by
  have q : vs = [] := h
  subst q
  cases e
  cases r
  exact ⟨_, .nil⟩
 | d :: ds, vs, us, ps, h, e, r => by
  obtain ⟨x, xr, rfl, h1, h2⟩ := h
  unfold toPs at e
  split at e
  ·rename_i p pr e1 e2
   cases e
   cases r with
   | cons r1 r2 =>
    obtain ⟨as, z1⟩ := iu I d x _ p h1 e1 r1
    obtain ⟨bs, z2⟩ := reads_L I ds xr _ pr h2 e2 r2
    exact ⟨_, .cons z1 z2⟩
  ·cases e
end
def jd (a b : D) : Option Bool := match toP a, toP b with
 | some p, some q => if (SeqAt.shaped p && SeqAt.shaped q) = true then some (PyData.eqv p q) else none
 | _, _ => none
def dO (a b : D) : Option D := match eqS a b with
 | some c => some (.bl c)
 | none => (jd a b).map D.bl
def cx (a b : D) : Option D := match eqS a b with
 | some c => some (.bl (!c))
 | none => (jd a b).map fun c => D.bl (!c)
def mG (X : Cx) (g : Bool -> Bool) : R2 := fun x y H Q => ∃ (F : Fx) (a b : D) (c : Bool), Den X.K F H a x /\ Den X.K F H b y /\ jd a b = some c /\ Q (.bl (g c)) H
theorem n9 {a b : D} {c : Bool} (h : jd a b = some c) : ∃ p q, toP a = some p /\ toP b = some q /\ SeqAt.shaped p = true /\ SeqAt.shaped q = true /\ c = PyData.eqv p q := by
 unfold jd at h
 split at h
 ·rename_i p q e1 e2
  split at h
  ·rename_i hs
   rw [Bool.and_eq_true] at hs
   cases h
   exact ⟨p, q, e1, e2, hs.1, hs.2, rfl⟩
  ·cases h
 ·cases h
theorem yU {k : Nat} (hr : Room k X.A) : OpR X (compareOp .Eq) (mG X id) := by
 intro pins s σ H x y v u Q I rx ry h
 obtain ⟨F, a, b, c, d1, d2, e, q⟩ := h
 obtain ⟨p, p', e1, e2, s1, s2, rfl⟩ := n9 e
 obtain ⟨as, r1⟩ := iu I a x v p d1 e1 rx
 obtain ⟨bs, r2⟩ := iu I b y u p' d2 e2 ry
 exact eq_dataH r1 r2 s1 s2 hr.units ⟨.bl _, H, I, rfl, q⟩
theorem yS {k : Nat} (hr : Room k X.A) : OpR X (compareOp .NotEq) (mG X not) := by
 intro pins s σ H x y v u Q I rx ry h
 obtain ⟨F, a, b, c, d1, d2, e, q⟩ := h
 obtain ⟨p, p', e1, e2, s1, s2, rfl⟩ := n9 e
 obtain ⟨as, r1⟩ := iu I a x v p d1 e1 rx
 obtain ⟨bs, r2⟩ := iu I b y u p' d2 e2 ry
 exact ne_dataH r1 r2 s1 s2 hr.units ⟨.bl _, H, I, rfl, q⟩
theorem gB {k : Nat} (hr : Room k X.A) : OpR X (compareOp .Eq) (fun x y H Q => rEq x y H Q \/ mG X id x y H Q) := AX.or (yU hr)
theorem eZ {k : Nat} (hr : Room k X.A) : OpR X (compareOp .NotEq) (fun x y H Q => rNe x y H Q \/ mG X not x y H Q) := AV.or (yS hr)
theorem iX : bd X.K (fun x y H Q => rEq x y H Q \/ mG X id x y H Q) dO := fun F H β Q d1 d2 d v1 v2 fr h1 h2 e k => by
 unfold dO at e
 split at e
 ·rename_i c q
  cases e
  obtain ⟨s1, s2⟩ := ut q h1 h2
  exact .inl ⟨s1, by rw [s2]; exact k _ H (To.refl fr) rfl⟩
 ·cases q : jd d1 d2 with
  | none => rw [q] at e; cases e
  | some c => rw [q] at e; cases e; exact .inr ⟨F, d1, d2, c, h1, h2, q, k _ H (To.refl fr) rfl⟩
theorem gn : bd X.K (fun x y H Q => rNe x y H Q \/ mG X not x y H Q) cx := fun F H β Q d1 d2 d v1 v2 fr h1 h2 e k => by
 unfold cx at e
 split at e
 ·rename_i c q
  cases e
  obtain ⟨s1, s2⟩ := ut q h1 h2
  exact .inl ⟨s1, by rw [s2]; exact k _ H (To.refl fr) rfl⟩
 ·cases q : jd d1 d2 with
  | none => rw [q] at e; cases e
  | some c => rw [q] at e; cases e; exact .inr ⟨F, d1, d2, c, h1, h2, q, k _ H (To.refl fr) rfl⟩
theorem i9 (i j : Int) : dO (.int i) (.int j) = some (.bl (decide (i = j))) := rfl
theorem i8 (i j : Int) : cx (.int i) (.int j) = some (.bl (!decide (i = j))) := rfl
theorem kI (i j : Bool) : dO (.bl i) (.bl j) = some (.bl (decide (i = j))) := rfl
theorem kF (i j : Bool) : cx (.bl i) (.bl j) = some (.bl (!decide (i = j))) := rfl
theorem kH (i j : Str) : dO (.str i) (.str j) = some (.bl (decide (i = j))) := rfl
theorem kE (i j : Str) : cx (.str i) (.str j) = some (.bl (!decide (i = j))) := rfl
mutual
theorem pS : ∀ p : PyData, p.canLay0 = true -> PyData.eqv p p = true
 | .none, _ => rfl
 | .bool b, _ => by simp [PyData.eqv]
 | .int b, _ => by simp [PyData.eqv]
 | .str b, _ => by simp [PyData.eqv]
 | .list xs, h => by
  unfold PyData.eqv
  exact eqv_reflL xs (by simpa [PyData.canLay0] using h)
 | .tuple xs, h => by
  unfold PyData.eqv
  exact eqv_reflL xs (by simpa [PyData.canLay0] using h)
 | .dict _, h => by simp [PyData.canLay0] at h
theorem eqv_reflL : ∀ ps : List PyData, PyData.canLayAll0 ps = true -> PyData.eqvAll ps ps = true
 | [], _ => rfl
 | p :: ps, h => by
  have h' : p.canLay0 = true /\ PyData.canLayAll0 ps = true := by simpa [PyData.canLayAll0] using h
  unfold PyData.eqvAll
  rw [pS p h'.1, eqv_reflL ps h'.2]; rfl
end
def me (d : D) : Bool := match toP d with
 | some p => SeqAt.shaped p
 | none => false
theorem ux {d : D} (h : me d = true) : jd d d = some true := by
 unfold me at h
 unfold jd
 cases q : toP d with
 | none => rw [q] at h; cases h
 | some p =>
  rw [q] at h
  simp only [h, Bool.and_self, if_true]
  rw [pS p (SeqAt.canLay_of_shaped h)]
theorem vL {d : D} {c : Bool} (h : eqS d d = some c) : c = true := by
 cases d <;> first | (cases h; simp) | (cases h; rfl) | cases h
theorem x8 {d : D} (h : me d = true) : dO d d = some (.bl true) := by
 unfold dO
 cases q : eqS d d with
 | none => simp only [ux h]; rfl
 | some c => rw [vL q]
def addI : D -> D -> Option D := opI fun i j => some (.int (i + j))
abbrev km := uP
theorem oa (hc : X.calm = true) : cQ X (.builtin "sum") (fun xs H Q => ∃ (a : Addr) (ns : List Int), xs = [.ref a] /\ SqL X.K H a (ns.map V.int) /\ Q (.int ns.sum) H) := uz hc
theorem tX : dZ K (fun xs H Q => ∃ (a : Addr) (ns : List Int), xs = [.ref a] /\ SqL K H a (ns.map V.int) /\ Q (.int ns.sum) H) km := A1
def xf (H : Hp) (b l : Addr) : Prop := ∃ (cells : List Int) (i j : Int), H b = some (.lst [.ref l, .int i, .int j]) /\ H l = some (.lst (cells.map V.int)) /\ cells ≠ [] /\ cells.length <= 64 /\ (∀ c ∈ cells, 0 <= c) /\ 0 <= j
theorem xU {n k : Nat} (h : k < n) : ixN n (k : Int) = some k := by
 unfold ixN
 rw [if_pos (by omega), if_pos (by omega)]
 simp
theorem Bd (ns : List Int) : ∃ ms : List Int, j3 (ns.map V.int) none (some 63) = ms.map V.int /\ ms.length <= 63 := by
 refine ⟨(ns.drop (HT.sIx ns.length 0 none)).take (HT.sIx ns.length ns.length (some 63) - HT.sIx ns.length 0 none), ?_, ?_⟩
 ·unfold j3
  rw [List.length_map, List.map_take, List.map_drop]
 ·rw [List.length_take]
  have : HT.sIx ns.length ns.length (some 63) <= 63 := by
   unfold HT.sIx
   simp
   omega
  omega
def AQ (K : Frag) : Sp := fun vs H Q _ => ∃ (a : Addr) (ns : List Int), vs = [.ref a] /\ SqL K H a (ns.map V.int) /\ ∀ (b l : Addr) (H' : Hp), H b = none -> H l = none -> xf H' b l -> bN H H' -> Q (.ref b) H'
def wP (K : Frag) : Sp := fun vs H Q _ => ∃ (a : Addr) (ns : List Int), vs = [.ref a] /\ SqL K H a (ns.map V.int) /\ ns.length <= 63 /\ ∀ H', Q (.bl true) H'
theorem yb {H₀ H : Hp} {b l : Addr} {a : Addr} {n : Nat} (sm : bN H₀ H) (hb : H₀ b = none) (hl : H₀ l = none) (B : xf H b l) : ∃ β, β.ok /\ SOk K H₀ (fun c => if c = b \/ c = l then some 1 else none) (some (b, l)) H (none :: some (.sh .bag) :: List.replicate n none) β (some (.ref a) :: some (.ref b) :: List.replicate n none) := by
 obtain ⟨cells, i, j, e1, e2, h1, h2, h3, h4⟩ := B
 have nbl : b ≠ l := A0 e1 e2 (by
  intro z
  cases cells with
  | nil => exact h1 rfl
  | cons c r => simp at z)
 refine ⟨⟨cells, i, j⟩, ⟨h1, h2, h3, h4⟩, ⟨⟨fun c hc => ?_, fun b' l' e => ?_, fun b' l' e => ?_⟩, fun b' l' e => ?_, by simp, fun c hc => ?_, fun c k hc => (by
  have hc' : (if c = b \/ c = l then some 1 else none) = some (k + 2) := hc
  split at hc' <;> cases hc'), fun c k hc => (by
  have hc' : (if c = b \/ c = l then some 1 else none) = some (k + 2) := hc
  split at hc' <;> cases hc'), fun k s e => ?_⟩⟩
 ·have hc' : (if c = b \/ c = l then some 1 else none) ≠ (none : Option Nat) := hc
  split at hc'
  ·rename_i q
   rcases q with rfl | rfl
   ·rw [e1]; simp
   ·rw [e2]; simp
  ·exact absurd rfl hc'
 ·cases e
  refine ⟨?_, ?_, nbl⟩
  ·show (if b = b \/ b = l then some 1 else none) ≠ (none : Option Nat)
   rw [if_pos (.inl rfl)]; simp
  ·show (if l = b \/ l = l then some 1 else none) ≠ (none : Option Nat)
   rw [if_pos (.inr rfl)]; simp
 ·cases e
  exact ⟨e1, e2⟩
 ·cases e
  exact ⟨if_pos (.inl rfl), if_pos (.inr rfl)⟩
 ·cases q : H₀ c with
  | none => exact absurd q hc
  | some o => rw [sm c o q]; simp
 ·match k with
  | 0 => simp at e
  | 1 =>
   simp at e
   subst e
   exact ⟨.ref b, rfl, b, l, rfl, rfl⟩
  | k + 2 =>
   simp only [List.getElem?_cons_succ, List.getElem?_replicate] at e
   split at e <;> cases e
end
section
variable {P : Program} {w : World} {K : Frag} {mg : Str -> Option Value} {base : Heap}
theorem bT {x qual : Str} {st : Stmt} {f : Addr} {fd : FuncData} {N ps : List Str} {k : Nat} (n m : Nat) (g : G) (F : FunD K x qual st f fd) (S : FnScope N ps (am st)) (hn : ps.length = n) (hm : N.length = m)
  (hbody : ∀ (cdv : Value) (A : Around) (outer : List Env) (s : Shared) (H : Hp) (E : XK), Room k (A.deeper (envOfC qual (am st) s.heap.objs.size f cdv)) ->
   PSs (cI (CXE P w) P w K mg base N qual (am st) f cdv A outer s H E) (bX st) (tG K H g (fun _ => E))) : FnOk P w K mg base (CXE P w) (k + 1) f fd ps (spF K n (aP m g)) := by
 subst hn hm
 exact x4 F S hbody
end
end L2.Pu
namespace L2
open PySem PySem.Spec PyProof.Rows
theorem CmpScope.ofB {X : Cx} {scope : Scope} {Nc vars : List Str} {caps : List Nat} (k : scope.kind = .function) (nd : (scope.names.map (·.1)).Nodup)
  (fr : (scope.names.all fun y => y.2 != .free || (X.env.scope.names.lookup y.1 == some .cell || X.env.scope.names.lookup y.1 == some .free)) = true) (nm : Nc = vars ++ caps.map (fun j => X.N.getD j Str.empty))
  (cp : (caps.all fun j => decide (j < X.N.length) && scope.names.lookup (X.N.getD j Str.empty) == some .free) = true) : CmpScope X scope Nc vars caps := by
 refine ⟨k, nd, fun y hy e => ?_, nm, fun j hj => ?_⟩
 ·have := List.all_eq_true.mp fr y hy
  rw [e] at this
  simp only [bne_self_eq_false, Bool.false_or, Bool.or_eq_true, beq_iff_eq] at this
  exact this
 ·have := List.all_eq_true.mp cp j hj
  simp only [Bool.and_eq_true, decide_eq_true_eq, beq_iff_eq] at this
  exact this
end L2
namespace L2.Pu
theorem kJ (i j : Int) : bK (.int i) (.int j) = some (.int (i + j)) := rfl
theorem iG (i j : Int) : addI (.int i) (.int j) = some (.int (i + j)) := rfl
theorem kD (i j : Int) : mz (.int i) (.int j) = some (.int (i - j)) := rfl
theorem kG (i j : Int) : vf (.int i) (.int j) = if decide (0 < j) = true then some (.int (i % j)) else none := rfl
theorem ng (i j : Int) : ltD (.int i) (.int j) = some (.bl (decide (i < j))) := rfl
theorem nh (i j : Int) : leD (.int i) (.int j) = some (.bl (decide (i <= j))) := rfl
theorem nj (i j : Int) : gtD (.int i) (.int j) = some (.bl (decide (j < i))) := rfl
theorem nk (i j : Int) : geD (.int i) (.int j) = some (.bl (decide (j <= i))) := rfl
end L2.Pu
namespace L2.Pu
open PySem PySem.Spec
def okD : Nat -> D -> Prop
 | _, .int _ => True
 | _, .bl _ => True
 | _, .str _ => True
 | _, .non => True
 | n + 1, .lst xs => xs.length <= sizeLine /\ ∀ x ∈ xs, okD n x
 | n + 1, .tup xs => xs.length <= sizeLine /\ ∀ x ∈ xs, okD n x
 | _, _ => False
noncomputable def hG (rec : List D -> M D) : G :=
  ak (gIf (bZ (ai eC (ac (ad 1) (ac (ai bz (ac (fC (.ty "list")) (ac (fC (.ty "tuple")) (ah)))) (ah))))) (ak (gIf (db (fB (f2 (cx) (ai cc (ac (ad 1) (ac (fC (.ty "list")) (ah)))) (ai cc (ac (ad 0) (ac (fC (.ty "list")) (ah)))))) (fB (f2 (cx) (ai cc (ac (ad 1) (ac (fC (.ty "tuple")) (ah)))) (ai cc (ac (ad 0) (ac (fC (.ty "tuple")) (ah))))))) (aO (fC (.bl false))) (gNil))
  (ak (gIf (fB (f2 (cx) (ai aY (ac (ad 0) (ah))) (ai aY (ac (ad 1) (ah))))) (aO (fC (.bl false))) (gNil))
  (aO (f2 (inD true) (fC (.bl false)) (aM 2 [] (cU (ac (ad 0) (ac (ad 1) (ah)))) (tgT (bp (tgC 0) (bp (tgC 1) cR))) (fun _ => M.ret true) (cEm (au rec (ac (ad 0) (ac (ad 1) (ah)))))))))) (gNil))
  (ak (gIf (fB (f2 (fG) (ad 1) (fC .non))) (aO (f2 (fG) (ad 0) (fC .non))) (gNil))
  (ak (gIf (db (fB (f2 (cx) (ai cc (ac (ad 1) (ac (fC (.ty "str")) (ah)))) (ai cc (ac (ad 0) (ac (fC (.ty "str")) (ah)))))) (fB (f2 (cx) (ai cc (ac (ad 1) (ac (fC (.ty "bool")) (ah)))) (ai cc (ac (ad 0) (ac (fC (.ty "bool")) (ah))))))) (aO (fC (.bl false))) (gNil))
  (aO (i6 (ai eC (ac (ad 0) (ac (ai bz (ac (fC (.ty "int")) (ac (fC (.ty "str")) (ah)))) (ah)))) (f2 (dO) (ad 0) (ad 1))))))
noncomputable def en : Nat -> List D -> M D
 | 0 => fun _ => M.fail
 | n + 1 => aP 2 (hG (en n))
theorem fw : (0 : Nat) + 1 + 1 <= sizeLine := by decide
theorem eN : (2 : Nat) <= sizeLine := by decide
theorem lq {rec : List D -> M D} {β : Bg} : ∀ xs : List D, (∀ x ∈ xs, rec [x, x] β = some (.ok (.bl true), β)) ->
  cLp (tgT (bp (tgC 0) (bp (tgC 1) cR))) (fun _ => M.ret true) (cEm (au rec (ac (ad 0) (ac (ad 1) (ah))))) (cX xs xs) [none, none] β = some (.ok (List.replicate xs.length (.bl true)), β)
 | [], _ => rfl
 | x :: xs, h => by
  have ih := lq xs fun y hy => h y (List.mem_cons_of_mem _ hy)
  have hx := h x List.mem_cons_self
  unfold cX cLp
  simp only [tgT, bp, cR, tgC, cEm, Option.isNone_none, Option.isNone_some, Option.bind_some, List.set_cons_zero, List.set_cons_succ, List.getD_cons_zero, List.getD_cons_succ, if_true, au, ac, ah, ad, M.bind, M.ret, M.ofO, hx, ih, reduceIte]
  rfl
theorem p7 (n : Nat) : (List.replicate n (D.bl true)).all dW = true := by
 induction n with
 | zero => rfl
 | succ n ih => rw [List.replicate_succ, List.all_cons, ih]; rfl
theorem qP (n : Nat) : inB (.bl false) (List.replicate n (D.bl true)) = false := by
 unfold inB
 induction n with
 | zero => rfl
 | succ n ih => rw [List.replicate_succ, List.any_cons, ih]; rfl
theorem mF : ∀ (n : Nat) (d : D) (β : Bg), okD n d -> en (n + 1) [d, d] β = some (.ok (.bl true), β)
 | n, .int i, β, _ => by
  unfold en aP hG
  simp only [ak, ba, ff, bV, aO, gIf, Pu.gNil, gL, m4, m6, m3, bI, mX, hNo, ad, fC, f1, f2, ah, ac, ai, au, fB, bZ, kC, db, bW, i6, fOr, m8, fIf, bQ, bc, bA, cU, cD, bM, c9, M.bind, M.ret, M.ofO, M.fail, vw, vwA, stD, List.map_cons, List.map_nil, List.set_cons_zero, List.set_cons_succ, List.getD_cons_zero, List.getD_cons_succ, List.length_cons, List.length_nil, List.replicate_zero, List.replicate_succ, List.append_nil, List.cons_append, List.nil_append, Nat.sub_self, Nat.reduceSub, Nat.reduceAdd, Nat.reduceLT, Nat.reduceLeDiff, Int.reduceLT, Int.reduceLE, kJ, iG, kD, kG, ng, nh, nj, nk, i9, i8, kI, kF, kH, kE, beq_self_eq_true, asB, iN, fG, ku, isN, mQ, bz, dD, sgT, eU, gy, sgN, Option.map_some, Option.bind_some, Option.map_none, aY, ny, cc, eC, tyD, ic, ib, if_true, if_false, reduceIte, Bool.not_true, Bool.not_false, decide_true, decide_false, Bool.false_eq_true, eN, fw]
 | n, .bl i, β, _ => by
  unfold en aP hG
  simp only [ak, ba, ff, bV, aO, gIf, Pu.gNil, gL, m4, m6, m3, bI, mX, hNo, ad, fC, f1, f2, ah, ac, ai, au, fB, bZ, kC, db, bW, i6, fOr, m8, fIf, bQ, bc, bA, cU, cD, bM, c9, M.bind, M.ret, M.ofO, M.fail, vw, vwA, stD, List.map_cons, List.map_nil, List.set_cons_zero, List.set_cons_succ, List.getD_cons_zero, List.getD_cons_succ, List.length_cons, List.length_nil, List.replicate_zero, List.replicate_succ, List.append_nil, List.cons_append, List.nil_append, Nat.sub_self, Nat.reduceSub, Nat.reduceAdd, Nat.reduceLT, Nat.reduceLeDiff, Int.reduceLT, Int.reduceLE, kJ, iG, kD, kG, ng, nh, nj, nk, i9, i8, kI, kF, kH, kE, beq_self_eq_true, asB, iN, fG, ku, isN, mQ, bz, dD, sgT, eU, gy, sgN, Option.map_some, Option.bind_some, Option.map_none, aY, ny, cc, eC, tyD, ic, ib, if_true, if_false, reduceIte, Bool.not_true, Bool.not_false, decide_true, decide_false, Bool.false_eq_true, eN, fw]
 | n, .str i, β, _ => by
  unfold en aP hG
  simp only [ak, ba, ff, bV, aO, gIf, Pu.gNil, gL, m4, m6, m3, bI, mX, hNo, ad, fC, f1, f2, ah, ac, ai, au, fB, bZ, kC, db, bW, i6, fOr, m8, fIf, bQ, bc, bA, cU, cD, bM, c9, M.bind, M.ret, M.ofO, M.fail, vw, vwA, stD, List.map_cons, List.map_nil, List.set_cons_zero, List.set_cons_succ, List.getD_cons_zero, List.getD_cons_succ, List.length_cons, List.length_nil, List.replicate_zero, List.replicate_succ, List.append_nil, List.cons_append, List.nil_append, Nat.sub_self, Nat.reduceSub, Nat.reduceAdd, Nat.reduceLT, Nat.reduceLeDiff, Int.reduceLT, Int.reduceLE, kJ, iG, kD, kG, ng, nh, nj, nk, i9, i8, kI, kF, kH, kE, beq_self_eq_true, asB, iN, fG, ku, isN, mQ, bz, dD, sgT, eU, gy, sgN, Option.map_some, Option.bind_some, Option.map_none, aY, ny, cc, eC, tyD, ic, ib, if_true, if_false, reduceIte, Bool.not_true, Bool.not_false, decide_true, decide_false, Bool.false_eq_true, eN, fw]
 | n, .non, β, _ => by
  unfold en aP hG
  simp only [ak, ba, ff, bV, aO, gIf, Pu.gNil, gL, m4, m6, m3, bI, mX, hNo, ad, fC, f1, f2, ah, ac, ai, au, fB, bZ, kC, db, bW, i6, fOr, m8, fIf, bQ, bc, bA, cU, cD, bM, c9, M.bind, M.ret, M.ofO, M.fail, vw, vwA, stD, List.map_cons, List.map_nil, List.set_cons_zero, List.set_cons_succ, List.getD_cons_zero, List.getD_cons_succ, List.length_cons, List.length_nil, List.replicate_zero, List.replicate_succ, List.append_nil, List.cons_append, List.nil_append, Nat.sub_self, Nat.reduceSub, Nat.reduceAdd, Nat.reduceLT, Nat.reduceLeDiff, Int.reduceLT, Int.reduceLE, kJ, iG, kD, kG, ng, nh, nj, nk, i9, i8, kI, kF, kH, kE, beq_self_eq_true, asB, iN, fG, ku, isN, mQ, bz, dD, sgT, eU, gy, sgN, Option.map_some, Option.bind_some, Option.map_none, aY, ny, cc, eC, tyD, ic, ib, if_true, if_false, reduceIte, Bool.not_true, Bool.not_false, decide_true, decide_false, Bool.false_eq_true, eN, fw]
 | n + 1, .lst xs, β, h => by
  have h' : xs.length <= sizeLine /\ ∀ x ∈ xs, okD n x := h
  have c := lq (rec := en (n + 1)) (β := β) xs fun x hx => mF n x β (h'.2 x hx)
  have hr : (List.replicate xs.length (D.bl true)).length <= sizeLine := by rw [List.length_replicate]; exact h'.1
  unfold en aP hG
  simp only [ak, ba, ff, bV, aO, gIf, Pu.gNil, gL, m4, m6, m3, bI, mX, hNo, ad, fC, f1, f2, ah, ac, ai, au, fB, bZ, kC, db, bW, i6, fOr, m8, fIf, bQ, bc, bA, cU, cD, bM, c9, M.bind, M.ret, M.ofO, M.fail, vw, vwA, stD, List.map_cons, List.map_nil, List.set_cons_zero, List.set_cons_succ, List.getD_cons_zero, List.getD_cons_succ, List.length_cons, List.length_nil, List.replicate_zero, List.replicate_succ, List.append_nil, List.cons_append, List.nil_append, Nat.sub_self, Nat.reduceSub, Nat.reduceAdd, Nat.reduceLT, Nat.reduceLeDiff, Int.reduceLT, Int.reduceLE, kJ, iG, kD, kG, ng, nh, nj, nk, i9, i8, kI, kF, kH, kE, beq_self_eq_true, asB, iN, fG, ku, isN, mQ, bz, dD, sgT, eU, gy, sgN, Option.map_some, Option.bind_some, Option.map_none, aY, ny, cc, eC, tyD, ic, ib, if_true, if_false, reduceIte, Bool.not_true, Bool.not_false, decide_true, decide_false, Bool.false_eq_true, eN, fw, aM, rf, eW, cSt, c, hr, inD, p7, qP, dW, Bool.and_self]
 | n + 1, .tup xs, β, h => by
  have h' : xs.length <= sizeLine /\ ∀ x ∈ xs, okD n x := h
  have c := lq (rec := en (n + 1)) (β := β) xs fun x hx => mF n x β (h'.2 x hx)
  have hr : (List.replicate xs.length (D.bl true)).length <= sizeLine := by rw [List.length_replicate]; exact h'.1
  unfold en aP hG
  simp only [ak, ba, ff, bV, aO, gIf, Pu.gNil, gL, m4, m6, m3, bI, mX, hNo, ad, fC, f1, f2, ah, ac, ai, au, fB, bZ, kC, db, bW, i6, fOr, m8, fIf, bQ, bc, bA, cU, cD, bM, c9, M.bind, M.ret, M.ofO, M.fail, vw, vwA, stD, List.map_cons, List.map_nil, List.set_cons_zero, List.set_cons_succ, List.getD_cons_zero, List.getD_cons_succ, List.length_cons, List.length_nil, List.replicate_zero, List.replicate_succ, List.append_nil, List.cons_append, List.nil_append, Nat.sub_self, Nat.reduceSub, Nat.reduceAdd, Nat.reduceLT, Nat.reduceLeDiff, Int.reduceLT, Int.reduceLE, kJ, iG, kD, kG, ng, nh, nj, nk, i9, i8, kI, kF, kH, kE, beq_self_eq_true, asB, iN, fG, ku, isN, mQ, bz, dD, sgT, eU, gy, sgN, Option.map_some, Option.bind_some, Option.map_none, aY, ny, cc, eC, tyD, ic, ib, if_true, if_false, reduceIte, Bool.not_true, Bool.not_false, decide_true, decide_false, Bool.false_eq_true, eN, fw, aM, rf, eW, cSt, c, hr, inD, p7, qP, dW, Bool.and_self]
 | 0, .lst _, _, h => h.elim
 | 0, .tup _, _, h => h.elim
 | _, .ty _, _, h => by cases ‹Nat› <;> exact h.elim
 | _, .txt, _, h => by cases ‹Nat› <;> exact h.elim
 | _, .scr _, _, h => by cases ‹Nat› <;> exact h.elim
 | 0, .obj _ _ _, _, h => h.elim
 | _ + 1, .obj _ _ _, _, h => h.elim
 | _, .bag, _, h => by cases ‹Nat› <;> exact h.elim
 | 0, .adr _, _, h => h.elim
 | _ + 1, .adr _, _, h => h.elim
end L2.Pu
namespace L2.Pu
open PySem PySem.Spec
theorem qY {nv : Nat} {caps : List Nat} {it : FL} {tg : TgF} {tt : Dn -> M Bool} {b : FL} {δ : Dn} {β β1 β2 : Bg} {ds os : List D} (h1 : it δ β = some (.ok ds, β1)) (h2 : cLp tg tt b ds (cSt nv caps δ) β1 = some (.ok os, β2)) (h3 : os.length <= sizeLine) : aM nv caps it tg tt b δ β = some (.ok (.lst os), β2) := by
 unfold aM
 simp only [h1, h2, h3, if_true]
def plD : Nat -> D -> Prop
 | _, .int _ => True
 | _, .bl _ => True
 | _, .non => True
 | n + 1, .lst xs => ∀ x ∈ xs, plD n x
 | n + 1, .tup xs => ∀ x ∈ xs, plD n x
 | _, _ => False
theorem xy : ∀ (n : Nat) (d : D), plD n d -> ∃ p, toP d = some p /\ p.canLay0 = true /\ p.depth <= n + 1 := by
 have many : ∀ (n : Nat) (xs : List D), (∀ x ∈ xs, ∃ p, toP x = some p /\ p.canLay0 = true /\ p.depth <= n) -> ∃ ps, toPs xs = some ps /\ PyData.canLayAll0 ps = true /\ PyData.depthAll ps <= n := by
  intro n xs
  induction xs with
  | nil => intro _; exact ⟨[], rfl, rfl, by simp [PyData.depthAll]⟩
  | cons x xs ih =>
   intro h
   obtain ⟨p, h1, h2, h3⟩ := h x List.mem_cons_self
   obtain ⟨ps, g1, g2, g3⟩ := ih fun y hy => h y (List.mem_cons_of_mem _ hy)
   refine ⟨p :: ps, ?_, ?_, ?_⟩
   ·unfold toPs; simp only [h1, g1]
   ·simp [PyData.canLayAll0, h2, g2]
   ·simp only [PyData.depthAll]; omega
 intro n
 induction n with
 | zero =>
  intro d h
  cases d with
  | int i => exact ⟨.int i, rfl, rfl, by simp [PyData.depth]⟩
  | bl i => exact ⟨.bool i, rfl, rfl, by simp [PyData.depth]⟩
  | non => exact ⟨.none, rfl, rfl, by simp [PyData.depth]⟩
  | _ => exact h.elim
 | succ n ih =>
  intro d h
  cases d with
  | int i => exact ⟨.int i, rfl, rfl, by simp [PyData.depth]⟩
  | bl i => exact ⟨.bool i, rfl, rfl, by simp [PyData.depth]⟩
  | non => exact ⟨.none, rfl, rfl, by simp [PyData.depth]⟩
  | lst xs =>
   obtain ⟨ps, g1, g2, g3⟩ := many (n + 1) xs fun x hx => ih x (h x hx)
   exact ⟨.list ps, by unfold toP; simp [g1], by simp [PyData.canLay0, g2], by simp only [PyData.depth]; omega⟩
  | tup xs =>
   obtain ⟨ps, g1, g2, g3⟩ := many (n + 1) xs fun x hx => ih x (h x hx)
   exact ⟨.tuple ps, by unfold toP; simp [g1], by simp [PyData.canLay0, g2], by simp only [PyData.depth]; omega⟩
  | _ => exact h.elim
theorem vN {d : D} (n : Nat) (h : plD n d) (hn : n <= 60) : me d = true := by
 obtain ⟨p, h1, h2, h3⟩ := xy n d h
 unfold me
 simp only [h1, SeqAt.shaped, h2, Bool.true_and, decide_eq_true_eq]
 omega
end L2.Pu
namespace L2.Pu
open PySem PySem.Spec PyProof.Rows
section
variable {X : Cx} {E : St -> XK} {K : Frag} {a b : Expr} {es : List Expr} {pos : Pos}
theorem To.none {F : Fx} {H H1 : Hp} {β1 : Bg} {p : Addr} (t : To F H H1 β1) (h : H1 p = none) : H p = none := by
 cases q : H p with
 | none => rfl
 | some o =>
  have : H1 p = some o := t.kp p o q fun b l e => by
   obtain ⟨z1, z2⟩ := t.fr.bag b l e
   exact ⟨fun w => (by subst w; rw [z1] at h; cases h), fun w => (by subst w; rw [z2] at h; cases h)⟩
  rw [this] at h; cases h
def Fx.but (F : Fx) (a : Addr) : Fx := ⟨fun c => F.A c \/ c = a, F.bg⟩
theorem Fx.tr_but {F : Fx} {H H1 : Hp} {β1 : Bg} {p : Addr} (fr : Fr F H β1) (hp : H p = none) (hs : ∀ c o, H c = some o -> H1 c = some o) : Tr F H (F.but p) H1 := ⟨fun c h1 h2 z => by
 rcases z with z | z
 ·exact h1 z
 ·subst z; exact h2 hp, fun c o _ h => hs c o h, rfl⟩
theorem Fx.tr_of {F : Fx} {H : Hp} {p : Addr} : Tr (F.but p) H F H := ⟨fun c h _ z => h (Or.inl z), fun _ _ _ h => h, rfl⟩
def ft (K : Frag) (F : Fx) (H0 H : Hp) (ds : List D) (v : V) : Prop := ∃ a xs, v = .ref a /\ H0 a = none /\ H a = some (.lst xs) /\ DenL K (F.but a) H ds xs
def tVO (K : Frag) (f : FL) (E : St -> XK) : TE := fun σ H Q => ∃ F δ β, Fr F H β /\ VOk K F H δ σ /\ run (ft K F H) F E σ (f δ) H Q β
def tVG (K : Frag) (f : Dn -> M (List (List D))) (E : St -> XK) : TE := fun σ H Q => ∃ F δ β, Fr F H β /\ VOk K F H δ σ /\ run (f6 K F H) F E σ (f δ) H Q β
def szL (ds : List D) : Option (List D) := if ds.length <= sizeLine then some ds else none
def oK (op : List D -> Option (List D)) (g : FL) : FL := fun δ => M.bind (g δ) fun ds => M.ofO (op ds)
theorem ft.new {F : Fx} {H H1 : Hp} {β1 : Bg} {p : Addr} {ds : List D} {xs : List V} (t : To F H H1 β1) (hp : H1 p = none) (hd : DenL K F H1 ds xs) : ft K F H (upd H1 p (.lst xs)) ds (.ref p) :=
 ⟨p, xs, rfl, t.none hp, ao, DenL.tr (Fx.tr_but t.fr hp fun c o h => by rw [upd_ne (ne_of_none h hp)]; exact h) _ _ hd⟩
def xb (K : Frag) (r : List V -> Hp -> VK -> Prop) (op : List D -> Option (List D)) : Prop := ∀ (F : Fx) (H0 H : Hp) (β : Bg) (Q : VK) (ds os : List D) (vs : List V), To F H0 H β -> DenL K F H ds vs -> op ds = some os ->
 (∀ v H', To F H H' β -> ft K F H0 H' os v -> Q v H') -> r vs H Q
theorem pE {x : Str} {p : Pos} {T : String} {r : List V -> Hp -> VK -> Prop} {op : List D -> Option (List D)} {g : FL} {e : Expr} (hc : cQ X (.type T) r) (l : xb X.K r op) (hg : Gl X x) (hm : X.mg x = none) (hv : bootBuiltins x = some (.type T)) (ha : PA X (e :: es) (tVA X.K g E)) (hn : x ≠ "__name__" := by decide) (hdb : (x == ("__debug__" : Str)) = false := by decide)
  (he : starEach (e :: es) X.env = (false, eval e X.env) :: starEach es X.env := by rfl) (hpl : (backTo pos (starEach es X.env)).any (·.1) = false := by rfl) : PE X (.Call (.Name x p) (e :: es) [] pos) (tVO X.K (oK op g) E) :=
 (nQ hc hg hm hv ha hn hdb he hpl).imp fun σ H Q h_ => ex6 h_ fun F δ β fr vk h => ⟨F, δ, β, fr, vk, (run.bind (R := DenL X.K F) h).mono fun vs H1 h_ => by
  obtain ⟨ds, β1, t, hd, r1⟩ := h_
  obtain ⟨d3, e3, k⟩ := run.ofO r1
  exact l F H H1 β1 Q ds d3 vs t hd e3 k⟩
def lY : List D -> Option (List D)
 | [.lst xs] => some xs
 | [.tup xs] => some xs
 | _ => none
theorem qN : xb K (fun xs H Q => ∃ p ys, xs = [.ref p] /\ (SqL K H p ys \/ SqT K H p ys) /\ ∀ l, H l = none -> Q (.ref l) (upd H l (.lst ys))) lY := fun F H0 H β Q ds os vs t h e k => by
 unfold lY at e
 split at e
 ·cases e
  obtain ⟨v, rfl, g⟩ := DenL.one h
  obtain ⟨a, xs, rfl, r, dl⟩ := Den.sqL g
  exact ⟨a, xs, rfl, .inl r, fun l hl => k _ _ (t.fr.upd _ hl) (ft.new t hl dl)⟩
 ·cases e
  obtain ⟨v, rfl, g⟩ := DenL.one h
  obtain ⟨a, xs, rfl, r, dl⟩ := Den.sqT g
  exact ⟨a, xs, rfl, .inr r, fun l hl => k _ _ (t.fr.upd _ hl) (ft.new t hl dl)⟩
 ·cases e
theorem DenL.rep {F : Fx} {H : Hp} {ds : List D} {xs : List V} (h : DenL K F H ds xs) : ∀ n : Nat, DenL K F H (List.replicate n ds).flatten (List.replicate n xs).flatten
 | 0 => rfl
 | n + 1 => by
  rw [List.replicate_succ, List.flatten_cons, List.replicate_succ, List.flatten_cons]
  exact DenL.append h (DenL.rep h n)
def pp (ds : List D) (d : D) : Option (List D) := match d with
 | .int k => if (decide (-(2 ^ 63) <= k) && decide (k < 2 ^ 63) && decide (ds.length <= sizeLine) && decide (ds.length * k.toNat <= sizeLine)) = true then some (List.replicate k.toNat ds).flatten else none
 | _ => none
def rS (g : FL) (f : FD) : FL := fun δ => M.bind (g δ) fun ds => M.bind (M.ofO (szL ds)) fun ds => M.bind (f δ) fun d => M.ofO (pp ds d)
theorem AY {g : FL} {f : FD} {pos' : Pos} (ha : PA X es (tVA X.K g E)) (hb : PE X b (tV X.K f E)) : PE X (.BinOp (.List es pos') .Mult b pos) (tVO X.K (rS g f) E) :=
 (c7 yQ (lR ha) hb).imp fun σ H Q h_ => ex6 h_ fun F δ β fr vk r => ⟨F, δ, β, fr, vk, (run.bind (R := DenL X.K F) r).mono fun vs H1 h_ => by
  obtain ⟨ds, β1, t, hd, r1⟩ := h_
  obtain ⟨ds', e3, r2⟩ := run.ofO_bind r1
  unfold szL at e3
  split at e3
  ·rename_i hz
   cases e3
   refine ⟨by rw [← hd.length]; exact hz, fun p hp => ?_⟩
   have t1 := t.fr.upd (.lst vs) hp
   have hA := t.fr.fresh hp
   refine ⟨F, δ, β1, t1.fr, (vk.tr (t.tr fr)).tr (t1.tr t.fr), ?_⟩
   obtain ⟨rr, β2, e, h⟩ := r2
   have r2' : run (ft X.K F H) F E σ (M.bind (f δ) fun d => M.ofO (pp ds d)) (upd H1 p (.lst vs)) Q β1 := by
    refine ⟨rr, β2, e, ?_⟩
    cases rr with
    | ok d => exact fun v H' t2 => h v H' (t1.trans t2)
    | error C => exact fun H' t2 => h H' (t1.trans t2)
   refine (run.bind (R := Den X.K F) r2').mono fun w H2 h_ => ex5 h_ fun d β3 t2 hw r3 => ?_
   obtain ⟨os, e4, k⟩ := run.ofO r3
   unfold pp at e4
   split at e4
   ·split at e4
    ·rename_i kk hk
     cases e4
     simp only [Bool.and_eq_true, decide_eq_true_eq] at hk
     cases hw
     have hp2 : H2 p = some (.lst vs) := t2.kp p _ ao fun b l q => ⟨fun z => hA (z ▸ (fr.bgA b l q).1), fun z => hA (z ▸ (fr.bgA b l q).2.1)⟩
     have tt := t1.trans t2
     exact ⟨p, _, vs, rfl, rfl, hp2, hk.1.1.1, hk.1.1.2, by rw [← hd.length]; exact hk.2, fun q hq => k _ _ (t2.fr.upd _ hq) (ft.new (t.trans tt) hq ((DenL.tr (tt.tr t.fr) _ _ hd).rep _))⟩
    ·cases e4
   ·cases e4
  ·cases e3⟩
def cV (nv : Nat) (caps : List Nat) (it : Dn -> M (List Pu.D)) (tg : TgF) (tt : Dn -> M Bool) (b : Dn -> M (List Pu.D)) : Dn -> M (List Pu.D) := fun δ β => match it δ β with
 | none => none
 | some (.error C, β1) => some (.error C, β1)
 | some (.ok ds, β1) => match cLp tg tt b ds (cSt nv caps δ) β1 with
  | some (.ok os, β2) => if os.length <= sizeLine then some (.ok os, β2) else none
  | _ => none
theorem nE {vars : List Str} {caps : List Nat} {it : Dn -> M (List Pu.D)} {g : TG} {tg : TgF} {tt : Dn -> M Bool} {tb : Addr -> TB} {b : Dn -> M (List Pu.D)} (hg : dg K g tg) (sg : eJ tg) (hb : ∀ D, fR K D (tb D) b) {σ : St} {H : Hp} {Q : VK} (h : tVO K (cV vars.length caps it tg tt b) E σ H Q) :
  lE vars caps (iV K it E) (fun D J => eE J g (tVT K tt E0) (tb D)) σ H Q := by
 obtain ⟨F, δ, β, fr, vk, r, β', e, h⟩ := h
 unfold cV at e
 refine ⟨F, δ, β, fr, vk, ?_⟩
 split at e
 ·cases e
 ·rename_i C β1 q
  cases e
  exact ⟨.error C, _, q, h⟩
 ·rename_i ds β1 q
  split at e
  ·rename_i os β2 q2
   split at e
   ·rename_i hz
    cases e
    refine ⟨.ok ds, β1, q, fun J H1 t hJ D hD => ?_⟩
    have hDA : ¬ F.A D := t.fr.fresh hD
    have nb : ∀ b l, F.bg = some (b, l) -> D ≠ b /\ D ≠ l := fun b l z => ⟨fun w => hDA (w ▸ (fr.bgA b l z).1), fun w => hDA (w ▸ (fr.bgA b l z).2.1)⟩
    have t2 := t.fr.upd (.lst []) hD
    have fr2 : Fr ⟨fun a => F.A a \/ a = D, F.bg⟩ (upd H1 D (.lst [])) β1 := by
     refine ⟨fun a ha z => ?_, fun b l z => let ⟨x, y, w⟩ := fr.bgA b l z; ⟨.inl x, .inl y, w⟩, t2.fr.bag⟩
     rcases ha with ha | ha
     ·exact t2.fr.occ a ha z
     ·subst ha; rw [ao] at z; cases z
    have tr2 : Tr F H1 ⟨fun a => F.A a \/ a = D, F.bg⟩ (upd H1 D (.lst [])) := ⟨fun a ha hs z => by
     rcases z with z | z
     ·exact ha z
     ·subst z; exact hs hD, fun a o ha z => by rw [upd_ne (ne_of_none z hD)]; exact z, rfl⟩
    refine mV (D := D) (as := []) (os := os) hg sg (hb D) fr2 (.inr rfl) nb (pX (vk.tr ((t.tr fr).trans tr2))) ao rfl (hJ.tr tr2) q2 (by simpa using hz) fun σ1 H2 acc1 t3 vk3 hD3 hd3 => ?_
    have tf : To F H1 H2 β' := by
     refine ⟨fun a o z n => t3.kp a o (by rw [upd_ne (ne_of_none z hD)]; exact z) (ne_of_none z hD) n, fun a ha z => t3.fr.occ a (Or.inl ha) z, fr.bgA, t3.fr.bag⟩
    exact h _ H2 (t.trans tf) ⟨D, acc1, rfl, t.none hD, hD3, hd3⟩
   ·cases e
  ·cases e
def ls (tg : TgF) (tt : Dn -> M Bool) (b : Dn -> M (List (List Pu.D))) : List Pu.D -> Dn -> M (List (List Pu.D))
 | [], _ => M.ret []
 | d :: ds, δ => match tg d δ with
  | none => M.fail
  | some δ1 => M.bind (tt δ1) fun c => M.bind (if c = true then b δ1 else M.ret []) fun o => M.bind (ls tg tt b ds δ) fun os => M.ret (o ++ os)
def RwA (K : Frag) (F : Fx) (D : Addr) (H0 H : Hp) (as : List (List Pu.D)) (acc : List V) : Prop := (∀ c, H0 c ≠ none -> H c ≠ none) /\ ∃ rs, acc = rs.map V.ref /\ (D :: rs).Nodup /\ RowL K F H (fun r => H0 r = none) as rs
theorem RwA.mono {F : Fx} {D : Addr} {H0 H H1 : Hp} {β β1 : Bg} {as : List (List Pu.D)} {acc : List V} (hA : F.A D) (h0 : ∀ b l, F.bg = some (b, l) -> H0 b ≠ none /\ H0 l ≠ none) (fr : Fr F H β) (t : ToD F D H H1 β1) (h : RwA K F D H0 H as acc) : RwA K F D H0 H1 as acc := by
 obtain ⟨cv, rs, e, nd, rl⟩ := h
 refine ⟨fun c hc z => ?_, rs, e, nd, RowL.tr (t.tr fr hA) rl fun r xs hr p q => ⟨p, t.kp r _ q (fun z => ?_) fun b l w => ⟨fun z => ?_, fun z => ?_⟩⟩⟩
 ·cases q : H c with
  | none => exact cv c hc q
  | some o =>
   by_cases hd : c = D
   ·subst hd; exact t.fr.occ _ hA z
   ·by_cases hb : ∃ b l, F.bg = some (b, l) /\ (c = b \/ c = l)
    ·obtain ⟨b, l, w, hcb⟩ := hb
     rcases hcb with rfl | rfl
     ·exact t.fr.occ _ (fr.bgA _ _ w).1 z
     ·exact t.fr.occ _ (fr.bgA _ _ w).2.1 z
    ·rw [t.kp c o q hd fun b l w => ⟨fun y => hb ⟨b, l, w, .inl y⟩, fun y => hb ⟨b, l, w, .inr y⟩⟩] at z
     cases z
 ·subst z; exact (List.nodup_cons.mp nd).1 hr
 ·subst z; exact (h0 _ _ w).1 p
 ·subst z; exact (h0 _ _ w).2 p
def mo (K : Frag) (D : Addr) (tb : TB) (f : Dn -> M (List (List Pu.D))) : Prop := ∀ (F : Fx) (H0 H : Hp) (δ : Dn) (β β' : Bg) (σ : St) (acc : List V) (as os : List (List Pu.D)) (Q : St -> Hp -> Prop), Fr F H β -> F.A D -> (∀ b l, F.bg = some (b, l) -> D ≠ b /\ D ≠ l) -> (∀ b l, F.bg = some (b, l) -> H0 b ≠ none /\ H0 l ≠ none) -> VOk K F H δ σ -> H D = some (.lst acc) -> RwA K F D H0 H as acc ->
 f δ β = some (.ok os, β') -> as.length + os.length <= sizeLine -> (∀ σ1 H1 acc1, ToD F D H H1 β' -> VOk K F H1 δ σ1 -> H1 D = some (.lst acc1) -> RwA K F D H0 H1 (as ++ os) acc1 -> Q σ1 H1) -> tb σ H Q
def lu (f : Dn -> M (List Pu.D)) : Dn -> M (List (List Pu.D)) := fun δ => M.bind (f δ) fun d => M.ret [d]
theorem RowL.snoc {F : Fx} {H : Hp} {P : Addr -> Prop} {ds : List Pu.D} {r : Addr} {xs : List V} (p : P r) (h1 : H r = some (.lst xs)) (h2 : DenL K F H ds xs) : ∀ {rows : List (List Pu.D)} {rs : List Addr}, RowL K F H P rows rs -> RowL K F H P (rows ++ [ds]) (rs ++ [r])
 | [], [], _ => ⟨p, ⟨xs, h1, h2⟩, trivial⟩
 | _ :: _, _ :: _, h => ⟨h.1, h.2.1, RowL.snoc p h1 h2 h.2.2⟩
 | [], _ :: _, h => h.elim
 | _ :: _, [], h => h.elim
theorem mU {D : Addr} {f : Dn -> M (List Pu.D)} : mo K D (sF D (tVO K f E0)) (lu f) := fun F H0 H δ β β' σ acc as os Q fr hA hb h0 vk hD hd e hz k => by
 obtain ⟨d, β1, e1, e2⟩ := M.bind_inv e
 cases e2
 refine ⟨F, δ, β, fr, vk, E0.run e1 fun v H1 t hv => ?_⟩
 have hD1 := t.kp D _ hD hb
 have hd1 := hd.mono hA h0 fr (t.toD D)
 obtain ⟨r, xs, rfl, n0, n1, n2⟩ := hv
 obtain ⟨cv, rs, ea, nd, rl⟩ := hd1
 obtain ⟨cv0, rs0, ea0, nd0, rl0⟩ := hd
 have hlen : acc.length = as.length := by rw [ea, List.length_map, rl.len]
 have ers : rs0 = rs := by
  have : rs0.map V.ref = rs.map V.ref := ea0.symm.trans ea
  exact List.map_inj_right (fun a b q => by cases q; rfl) |>.mp this
 subst ers
 have nD : r ≠ D := fun z => by subst z; rw [hD] at n0; cases n0
 have nr : r ∉ rs0 := fun z => by
  obtain ⟨_, ys, q⟩ := rl0.all r z
  rw [q] at n0; cases n0
 have h0r : H0 r = none := by
  cases q : H0 r with
  | none => rfl
  | some o => exact absurd n0 (cv0 r (by rw [q]; simp))
 refine ⟨acc, hD1, by rw [hlen]; simp at hz; omega, ?_⟩
 have tD : ToD F D H1 (upd H1 D (.lst (acc ++ [.ref r]))) β' := by
  refine ⟨fun a o h n _ => by rw [upd_ne n]; exact h, fun a h q => ?_, fr.bgA, fun b l q => ?_⟩
  ·by_cases z : a = D
   ·subst z; rw [ao] at q; cases q
   ·rw [upd_ne z] at q; exact t.fr.occ a h q
  ·rw [upd_ne (hb b l q).1.symm, upd_ne (hb b l q).2.symm]
   exact t.fr.bag b l q
 have tt := tD.tr t.fr hA
 refine k σ _ _ ((t.toD D).trans tD) (vk.tr ((t.tr fr).trans tt)) ao (RwA.mono hA h0 t.fr tD ⟨cv, rs0 ++ [r], by rw [ea, List.map_append]; rfl, ?_, RowL.snoc h0r n1 (DenL.tr Fx.tr_of _ _ n2) rl⟩)
 rw [← List.cons_append, List.nodup_append]
 refine ⟨nd0, by simp, fun x hx y hy => ?_⟩
 obtain rfl : y = r := by simpa using hy
 rcases List.mem_cons.mp hx with rfl | hx
 ·exact nD.symm
 ·exact fun z => nr (z ▸ hx)
end
section
variable {X : Cx} {E : St -> XK} {K : Frag}
theorem xP {D : Addr} {J : It} {g : TG} {tg : TgF} {tt : Dn -> M Bool} {tb : TB} {b : Dn -> M (List (List Pu.D))} (hg : dg K g tg) (sg : eJ tg) (hb : mo K D tb b) {F : Fx} {H0 H : Hp} {δ : Dn} {β β' : Bg} {σ : St} {acc : List V} {as os : List (List Pu.D)} {ds : List Pu.D} {Q : St -> Hp -> Prop} (fr : Fr F H β) (hA : F.A D) (hn : ∀ b l, F.bg = some (b, l) -> D ≠ b /\ D ≠ l) (h0 : ∀ b l, F.bg = some (b, l) -> H0 b ≠ none /\ H0 l ≠ none) (vk : VOk K F H δ σ) (hD : H D = some (.lst acc)) (hd : RwA K F D H0 H as acc)
  (it : ItD K J F H ds) (e : ls tg tt b ds δ β = some (.ok os, β')) (hz : as.length + os.length <= sizeLine) (k : ∀ σ1 H1 acc1, ToD F D H H1 β' -> VOk K F H1 δ σ1 -> H1 D = some (.lst acc1) -> RwA K F D H0 H1 (as ++ os) acc1 -> Q σ1 H1) : eE J g (tVT K tt E0) tb σ H Q := by
 refine ⟨fun i m σ1 H1 => m + i = ds.length /\ ∃ β1 acc1 as1 os1, ToD F D H H1 β1 /\ VOk K F H1 δ σ1 /\ H1 D = some (.lst acc1) /\ RwA K F D H0 H1 as1 acc1 /\ ls tg tt b (ds.drop i) δ β1 = some (.ok os1, β') /\ as1 ++ os1 = as ++ os,
  ⟨ds.length, by omega, β, acc, as, os, ⟨fun _ _ h _ _ => h, fr⟩, vk, hD, hd, e, rfl⟩, ?_⟩
 rintro i m σ1 H1 ⟨hm, β1, acc1, as1, os1, t1, vk1, hD1, hd1, e1, ea⟩
 have tr1 := t1.tr fr hA
 obtain ⟨iy, is⟩ := it F H1 β1 tr1 t1.fr i
 cases hi : ds[i]? with
 | none =>
  have hl : ds.length <= i := List.getElem?_eq_none_iff.mp hi
  rw [List.drop_eq_nil_of_le hl] at e1
  cases e1
  refine .inl ⟨is (by omega), k σ1 H1 acc1 t1 vk1 hD1 ?_⟩
  rw [← ea, List.append_nil]
  exact hd1
 | some d =>
  have hl : i < ds.length := (List.getElem?_eq_some_iff.mp hi).1
  obtain ⟨go, yl⟩ := iy d hi
  have ed : ds.drop i = d :: ds.drop (i + 1) := by
   rw [List.drop_eq_getElem_cons hl]
   congr 1
   exact Option.some.inj ((List.getElem?_eq_getElem hl).symm.trans hi)
  rw [ed] at e1
  unfold ls at e1
  cases q : tg d δ with
  | none => rw [q] at e1; cases e1
  | some δ1 =>
   rw [q] at e1
   obtain ⟨c, β2, e2, e3⟩ := M.bind_inv e1
   obtain ⟨o, β3, e4, e5⟩ := M.bind_inv e3
   obtain ⟨os2, β4, e6, e7⟩ := M.bind_inv e5
   cases e7
   obtain ⟨s1, s2⟩ := sg _ _ _ q
   refine .inr ⟨go, fun σ9 H9 => ∃ acc9, ToD F D H H9 β3 /\ VOk K F H9 δ σ9 /\ H9 D = some (.lst acc9) /\ RwA K F D H0 H9 (as1 ++ o) acc9, ?_, fun x H2 hy => ?_⟩
   ·rintro σ9 H9 ⟨acc9, t9, vk9, hD9, hd9⟩
    exact ⟨m - 1, by omega, by omega, β3, acc9, as1 ++ o, os2, t9, vk9, hD9, hd9, e6, by rw [List.append_assoc]; exact ea⟩
   ·obtain ⟨sm, dx⟩ := yl x H2 hy
    have t2 : To F H1 H2 β1 := t1.fr.same sm
    have tr2 := t2.tr t1.fr
    refine hg F H2 δ δ1 σ1 d x _ (vk1.tr tr2) dx q fun σ2 vk2 => ⟨F, δ1, β1, t2.fr, vk2, E0.run e2 fun c' H3 t3 ec => ?_⟩
    subst ec
    have hD2 := sm _ _ hD1
    have hD3 := t3.kp D _ hD2 hn
    have tr3 := t3.tr t2.fr
    have d3 := (hd1.mono hA h0 t1.fr (t2.toD D)).mono hA h0 t2.fr (t3.toD D)
    have tt3 : ToD F D H H3 β2 := t1.trans ((t2.trans t3).toD D)
    have hle : as1.length + (o ++ os2).length <= sizeLine := by
     have := congrArg List.length ea
     simp only [List.length_append] at this ⊢
     omega
    cases c' with
    | true =>
     rw [if_pos rfl] at e4 ⊢
     refine hb F H0 H3 δ1 β2 β3 σ2 acc1 as1 o _ t3.fr hA hn h0 (vk2.tr tr3) hD3 d3 e4 (by rw [List.length_append] at hle; omega) fun σ4 H4 acc4 t4 vk4 hD4 hd4 => ?_
     exact ⟨acc4, tt3.trans t4, vk4.sub s1 s2, hD4, hd4⟩
    | false =>
     rw [if_neg Bool.false_ne_true] at e4 ⊢
     cases e4
     exact ⟨acc1, tt3, (vk2.tr tr3).sub s1 s2, hD3, by rw [List.append_nil]; exact d3⟩
def fi (nv : Nat) (caps : List Nat) (it : Dn -> M (List Pu.D)) (tg : TgF) (tt : Dn -> M Bool) (b : Dn -> M (List (List Pu.D))) : Dn -> M (List (List Pu.D)) := fun δ β => match it δ β with
 | none => none
 | some (.error C, β1) => some (.error C, β1)
 | some (.ok ds, β1) => match ls tg tt b ds (cSt nv caps δ) β1 with
  | some (.ok os, β2) => if os.length <= sizeLine then some (.ok os, β2) else none
  | _ => none
theorem nF {vars : List Str} {caps : List Nat} {it : Dn -> M (List Pu.D)} {g : TG} {tg : TgF} {tt : Dn -> M Bool} {tb : Addr -> TB} {b : Dn -> M (List (List Pu.D))} (hg : dg K g tg) (sg : eJ tg) (hb : ∀ D, mo K D (tb D) b) {σ : St} {H : Hp} {Q : VK} (h : tVG K (fi vars.length caps it tg tt b) E σ H Q) :
  lE vars caps (iV K it E) (fun D J => eE J g (tVT K tt E0) (tb D)) σ H Q := by
 obtain ⟨F, δ, β, fr, vk, r, β', e, h⟩ := h
 unfold fi at e
 refine ⟨F, δ, β, fr, vk, ?_⟩
 split at e
 ·cases e
 ·rename_i C β1 q
  cases e
  exact ⟨.error C, _, q, h⟩
 ·rename_i ds β1 q
  split at e
  ·rename_i os β2 q2
   split at e
   ·rename_i hz
    cases e
    refine ⟨.ok ds, β1, q, fun J H1 t hJ D hD => ?_⟩
    have hDA : ¬ F.A D := t.fr.fresh hD
    have nb : ∀ b l, F.bg = some (b, l) -> D ≠ b /\ D ≠ l := fun b l z => ⟨fun w => hDA (w ▸ (fr.bgA b l z).1), fun w => hDA (w ▸ (fr.bgA b l z).2.1)⟩
    have t2 := t.fr.upd (.lst []) hD
    have fr2 : Fr ⟨fun a => F.A a \/ a = D, F.bg⟩ (upd H1 D (.lst [])) β1 := by
     refine ⟨fun a ha z => ?_, fun b l z => let ⟨x, y, w⟩ := fr.bgA b l z; ⟨.inl x, .inl y, w⟩, t2.fr.bag⟩
     rcases ha with ha | ha
     ·exact t2.fr.occ a ha z
     ·subst ha; rw [ao] at z; cases z
    have tr2 : Tr F H1 ⟨fun a => F.A a \/ a = D, F.bg⟩ (upd H1 D (.lst [])) := ⟨fun a ha hs z => by
     rcases z with z | z
     ·exact ha z
     ·subst z; exact hs hD, fun a o ha z => by rw [upd_ne (ne_of_none z hD)]; exact z, rfl⟩
    have cv : ∀ c, H c ≠ none -> upd H1 D (.lst []) c ≠ none := fun c hc z => by
     by_cases w : c = D
     ·subst w; rw [ao] at z; cases z
     ·rw [upd_ne w] at z; exact hc (t.none z)
    refine xP (D := D) (H0 := H) (as := []) (os := os) hg sg (hb D) fr2 (.inr rfl) nb (fun b l z => ⟨fr.occ _ (fr.bgA b l z).1, fr.occ _ (fr.bgA b l z).2.1⟩) (pX (vk.tr ((t.tr fr).trans tr2))) ao ⟨cv, [], rfl, by simp, trivial⟩ (hJ.tr tr2) q2 (by simpa using hz) fun σ1 H2 acc1 t3 vk3 hD3 hd3 => ?_
    have tf : To F H1 H2 β' := by
     refine ⟨fun a o z n => t3.kp a o (by rw [upd_ne (ne_of_none z hD)]; exact z) (ne_of_none z hD) n, fun a ha z => t3.fr.occ a (Or.inl ha) z, fr.bgA, t3.fr.bag⟩
    obtain ⟨_, rs, ea, nd, rl⟩ := hd3
    subst ea
    exact h _ H2 (t.trans tf) ⟨D, rs, rfl, t.none hD, hD3, nd, RowL.tr (F := ⟨fun a => F.A a \/ a = D, F.bg⟩) ⟨fun a ha _ z => ha (Or.inl z), fun a o _ z => z, rfl⟩ rl fun r xs _ p q => ⟨p, q⟩⟩
   ·cases e
  ·cases e
section
variable {elt target iter : Expr} {ifs : List Expr} {rest : List Comprehension} {scope : Scope} {pos : Pos} {Nc vars : List Str} {caps : List Nat} {g : TG} {tb : Addr -> TB}
theorem tJ {it : FL} {tg : TgF} {tt : Dn -> M Bool} {b : FL} (hc : X.calm = true) (S : CmpScope X scope Nc vars caps) (hi : PI X target iter (iV X.K it E))
  (hb : ∀ (cl : List (Str × Addr)) (C : Addr) (fp : List Addr) (s : Shared) (H : Hp), PG (aZ X Nc scope cl C fp s H) target g /\ fJ (aZ X Nc scope cl C fp s H) ifs (tVT X.K tt E0) /\ ∀ D, PB (aZ X Nc scope cl C fp s H) elt (⟨target, iter, ifs, 0⟩ :: rest) scope pos 0 D (tb D))
  (lg : dg X.K g tg) (sg : eJ tg) (lb : ∀ D, fR X.K D (tb D) b) (hs : ∀ x, foldedSetIterable iter X.env x = pure x := by intro _; rfl) : PE X (.ListComp elt (⟨target, iter, ifs, 0⟩ :: rest) scope pos) (tVO X.K (cV vars.length caps it tg tt b) E) :=
 (kq hc S hi hb hs).imp fun σ H Q h => nE lg sg lb h
theorem ui {it : FL} {tg : TgF} {tt : Dn -> M Bool} {b : Dn -> M (List (List D))} (hc : X.calm = true) (S : CmpScope X scope Nc vars caps) (hi : PI X target iter (iV X.K it E))
  (hb : ∀ (cl : List (Str × Addr)) (C : Addr) (fp : List Addr) (s : Shared) (H : Hp), PG (aZ X Nc scope cl C fp s H) target g /\ fJ (aZ X Nc scope cl C fp s H) ifs (tVT X.K tt E0) /\ ∀ D, PB (aZ X Nc scope cl C fp s H) elt (⟨target, iter, ifs, 0⟩ :: rest) scope pos 0 D (tb D))
  (lg : dg X.K g tg) (sg : eJ tg) (lb : ∀ D, mo X.K D (tb D) b) (hs : ∀ x, foldedSetIterable iter X.env x = pure x := by intro _; rfl) : PE X (.ListComp elt (⟨target, iter, ifs, 0⟩ :: rest) scope pos) (tVG X.K (fi vars.length caps it tg tt b) E) :=
 (kq hc S hi hb hs).imp fun σ H Q h => nF lg sg lb h
end
mutual
def noL : D -> Bool
 | .int _ => true
 | .bl _ => true
 | .str _ => true
 | .non => true
 | .tup ds => noLs ds
 | _ => false
def noLs : List D -> Bool
 | [] => true
 | d :: ds => noL d && noLs ds
end
mutual
theorem qL {F F2 : Fx} {H : Hp} (hF : ∀ c, F2.A c -> F.A c \/ ∃ xs, H c = some (.lst xs)) : ∀ (d : D) (v : V), noL d = true -> Den K F H d v -> Den K F2 H d v
 | .int i, v, _, h => h
 | .bl i, v, _, h => h
 | .str i, v, _, h => h
 | .non, v, _, h => h
 | .tup ds, v, n, h => by
  obtain ⟨a, xs, e, h1, h2⟩ := h
  refine ⟨a, xs, e, ?_, noLs_den hF ds xs (by simpa [noL] using n) h2⟩
  rcases h1 with ⟨h1, r⟩ | h1
  ·refine .inl ⟨fun z => ?_, r⟩
   rcases hF a z with z | ⟨ys, z⟩
   ·exact h1 z
   ·rcases r with r | ⟨o, r⟩ <;> rw [z] at r <;> cases r
  ·exact .inr h1
 | .lst _, _, n, _ => by simp [noL] at n
 | .scr _, _, n, _ => by simp [noL] at n
 | .ty _, _, n, _ => by simp [noL] at n
 | .txt, _, n, _ => by simp [noL] at n
 | .obj _ _ _, _, n, _ => by simp [noL] at n
 | .bag, _, n, _ => by simp [noL] at n
 | .adr _, _, n, _ => by simp [noL] at n
theorem noLs_den {F F2 : Fx} {H : Hp} (hF : ∀ c, F2.A c -> F.A c \/ ∃ xs, H c = some (.lst xs)) : ∀ (ds : List D) (xs : List V), noLs ds = true -> DenL K F H ds xs -> DenL K F2 H ds xs
 | [], xs, _, h => h
 | d :: ds, xs, n, h => by
  have n' : noL d = true /\ noLs ds = true := by simpa [noLs] using n
  obtain ⟨x, xr, e, h1, h2⟩ := h
  exact ⟨x, xr, e, qL hF d x n'.1 h1, noLs_den hF ds xr n'.2 h2⟩
end
theorem RowL.noL {F F2 : Fx} {H : Hp} {P P2 : Addr -> Prop} (hF : ∀ c, F2.A c -> F.A c \/ ∃ xs, H c = some (.lst xs)) : ∀ {rows : List (List D)} {rs : List Addr}, (∀ ds ∈ rows, noLs ds = true) -> RowL K F H P rows rs -> (∀ r ∈ rs, P2 r) -> RowL K F2 H P2 rows rs
 | [], [], _, _, _ => trivial
 | ds :: rows, r :: rs, n, h, p => by
  obtain ⟨h1, ⟨xs, h2, h3⟩, h4⟩ := h
  exact ⟨p r List.mem_cons_self, ⟨xs, h2, noLs_den hF _ _ (n ds List.mem_cons_self) h3⟩, RowL.noL hF (fun x hx => n x (List.mem_cons_of_mem _ hx)) h4 fun x hx => p x (List.mem_cons_of_mem _ hx)⟩
 | [], _ :: _, _, h, _ => h.elim
 | _ :: _, [], _, h, _ => h.elim
theorem SOk.newGrd {H₀ : Hp} {B : Ow} {bg : Option (Addr × Addr)} {H H' : Hp} {δ : Ds} {β β' : Bg} {σ : St} {i : Nat} {rows : List (List D)} {v : V} (ok : SOk K H₀ B bg H δ β σ) (t : To (FxB B bg) H H' β') (hn : ∀ ds ∈ rows, noLs ds = true) (hv : f6 K (FxB B bg) H H' rows v) :
  ∃ B', SOk K H₀ B' bg H' (δ.set i (some (.grd rows))) β' (σ.set i (some v)) /\ Stp B H B' H' := by
 classical
 obtain ⟨a, rs, rfl, n0, n1, nd, rl⟩ := hv
 have hno : ∀ c, c = a \/ c ∈ rs -> H c = none := fun c hc => by
  rcases hc with rfl | hc
  ·exact n0
  ·exact (rl.all c hc).1
 have hB : ∀ c, c = a \/ c ∈ rs -> B c = none := fun c hc => Classical.byContradiction fun z => ok.fr.occ c z (hno c hc)
 have nb : ∀ b l, bg = some (b, l) -> ¬ (b = a \/ b ∈ rs) /\ ¬ (l = a \/ l ∈ rs) := fun b l e => by
  obtain ⟨b1, b2⟩ := ok.bgt b l e
  exact ⟨fun z => (by rw [hB b z] at b1; cases b1), fun z => (by rw [hB l z] at b2; cases b2)⟩
 obtain ⟨ok2, s2⟩ := ok.to rfl t
 have stp : Stp B H (fun c => if c = a \/ c ∈ rs then some (i + 2) else B c) H' := by
  refine ⟨s2.kp, fun c hc => ?_, fun c o h n => ?_, s2.al⟩
  ·have : ¬ (c = a \/ c ∈ rs) := fun z => by rw [hB c z] at hc; rcases hc with hc | hc <;> cases hc
   simp only [if_neg this]
  ·have : ¬ (c = a \/ c ∈ rs) := fun z => by rw [hno c z] at h; cases h
   simp only [if_neg this]; exact n
 have tr : Tr (FxB B bg) H (FxB (fun c => if c = a \/ c ∈ rs then some (i + 2) else B c) bg) H' := stp.tr
 refine ⟨fun c => if c = a \/ c ∈ rs then some (i + 2) else B c, ⟨⟨fun c hc z => ?_, fun b l e => ?_, ok2.fr.bag⟩, fun b l e => ?_, by rw [List.length_set, List.length_set, ok.len], ok2.cov, fun c k hc => (by
  have hc' : (if c = a \/ c ∈ rs then some (i + 2) else B c) = some (k + 2) := hc
  by_cases z : c = a \/ c ∈ rs
  ·cases w : H₀ c with
   | none => rfl
   | some o => exact absurd (hno c z) (ok.cov c (by rw [w]; simp))
  ·rw [if_neg z] at hc'; exact ok.new c k hc'), fun c k hc => (by
  have hc' : (if c = a \/ c ∈ rs then some (i + 2) else B c) = some (k + 2) := hc
  by_cases z : c = a \/ c ∈ rs
  ·rcases z with rfl | z
   ·exact ⟨_, n1⟩
   ·exact (rl.all c z).2
  ·rw [if_neg z] at hc'; exact ok2.lst c k hc'), fun j s e => ?_⟩, stp⟩
 ·by_cases q : c = a \/ c ∈ rs
  ·rcases q with rfl | q
   ·rw [n1] at z; cases z
   ·obtain ⟨_, xs, w⟩ := rl.all c q
    rw [w] at z; cases z
  ·have hc' : (if c = a \/ c ∈ rs then some (i + 2) else B c) ≠ none := hc
   rw [if_neg q] at hc'
   exact ok2.fr.occ c hc' z
 ·obtain ⟨x1, x2⟩ := nb b l e
  obtain ⟨b1, b2⟩ := ok.bgt b l e
  refine ⟨?_, ?_, (ok.fr.bgA b l e).2.2⟩
  ·show (if b = a \/ b ∈ rs then some (i + 2) else B b) ≠ none
   rw [if_neg x1, b1]; simp
  ·show (if l = a \/ l ∈ rs then some (i + 2) else B l) ≠ none
   rw [if_neg x2, b2]; simp
 ·obtain ⟨x1, x2⟩ := nb b l e
  simp only [if_neg x1, if_neg x2]
  exact ok.bgt b l e
 ·rw [List.getElem?_set] at e
  rw [List.getElem?_set]
  by_cases q : i = j
  ·subst q
   rw [if_pos rfl] at e ⊢
   split at e
   ·rename_i hl
    cases e
    rw [if_pos (by rw [← ok.len]; exact hl)]
    refine ⟨_, rfl, a, rs, rfl, if_pos (.inl rfl), n1, nd, RowL.noL (F := FxB B bg) (fun c hc => ?_) hn rl fun r hr => if_pos (.inr hr)⟩
    have hc' : (if c = a \/ c ∈ rs then some (i + 2) else B c) ≠ none := hc
    by_cases w : c = a \/ c ∈ rs
    ·rcases w with rfl | w
     ·exact .inr ⟨_, n1⟩
     ·exact .inr (rl.all c w).2
    ·rw [if_neg w] at hc'
     exact .inl hc'
   ·cases e
  ·rw [if_neg q] at e ⊢
   obtain ⟨w, h1, h2⟩ := ok.tell j s e
   refine ⟨w, h1, ?_⟩
   cases s with
   | sh d => exact Den.tr tr _ _ h2
   | own cs =>
    obtain ⟨c, ys, e1, e2, e3, e4⟩ := h2
    have na : ¬ (c = a \/ c ∈ rs) := fun z => by rw [hno c z] at e3; cases e3
    exact ⟨c, ys, e1, by simp only [if_neg na]; exact e2, t.kp c _ e3 (fun b l z => ⟨fun y => (by subst y; rw [(ok.bgt _ _ z).1] at e2; cases e2), fun y => (by subst y; rw [(ok.bgt _ _ z).2] at e2; cases e2)⟩), DenL.tr tr _ _ e4⟩
   | grd rows2 =>
    obtain ⟨c, qs, e1, e2, e3, e4, e5⟩ := h2
    have na : ∀ c, H c ≠ none -> ¬ (c = a \/ c ∈ rs) := fun c hc z => hc (hno c z)
    have kk : ∀ c o, H c = some o -> B c = some (j + 2) -> H' c = some o := fun c o h1 h2 => t.kp c o h1 (fun b l z => ⟨fun y => (by subst y; rw [(ok.bgt _ _ z).1] at h2; cases h2), fun y => (by subst y; rw [(ok.bgt _ _ z).2] at h2; cases h2)⟩)
    exact ⟨c, qs, e1, by simp only [if_neg (na c (by rw [e3]; simp))]; exact e2, kk c _ e3 e2, e4, RowL.tr tr e5 fun r xs _ p y => ⟨by simp only [if_neg (na r (by rw [y]; simp))]; exact p, kk r _ y p⟩⟩
end
section
variable {X : Cx} {E : St -> XK} {K : Frag} {st : Stmt} {H₀ : Hp} {B : Ow} {bg : Option (Addr × Addr)} {H H' : Hp} {δ : Ds} {β β' : Bg} {σ : St}
theorem SOk.newOwnE {i : Nat} {ds : List D} {v : V} (ok : SOk K H₀ B bg H δ β σ) (t : To (FxB B bg) H H' β') (hv : ft K (FxB B bg) H H' ds v) :
  ∃ B', SOk K H₀ B' bg H' (δ.set i (some (.own ds))) β' (σ.set i (some v)) /\ Stp B H B' H' := by
 classical
 obtain ⟨a, xs, rfl, n0, n1, dl⟩ := hv
 have hB : B a = none := Classical.byContradiction fun z => ok.fr.occ a z n0
 have nb : ∀ b l, bg = some (b, l) -> b ≠ a /\ l ≠ a := fun b l e => by
  obtain ⟨b1, b2⟩ := ok.bgt b l e
  exact ⟨fun z => (by rw [z, hB] at b1; cases b1), fun z => (by rw [z, hB] at b2; cases b2)⟩
 obtain ⟨ok2, s2⟩ := ok.to rfl t
 have stp : Stp B H (fun c => if c = a then some (i + 2) else B c) H' := by
  refine ⟨s2.kp, fun c hc => ?_, fun c o h n => ?_, s2.al⟩
  ·have : c ≠ a := fun z => by rw [z, hB] at hc; rcases hc with hc | hc <;> cases hc
   simp only [if_neg this]
  ·have : c ≠ a := fun z => by rw [z, n0] at h; cases h
   simp only [if_neg this]; exact n
 have tr : Tr (FxB B bg) H (FxB (fun c => if c = a then some (i + 2) else B c) bg) H' := stp.tr
 refine ⟨fun c => if c = a then some (i + 2) else B c, ⟨⟨fun c hc z => ?_, fun b l e => ?_, ok2.fr.bag⟩, fun b l e => ?_, by rw [List.length_set, List.length_set, ok.len], ok2.cov, fun c k hc => (by
  have hc' : (if c = a then some (i + 2) else B c) = some (k + 2) := hc
  by_cases z : c = a
  ·cases w : H₀ c with
   | none => rfl
   | some o => exact absurd (z ▸ n0) (ok.cov c (by rw [w]; simp))
  ·rw [if_neg z] at hc'; exact ok.new c k hc'), fun c k hc => (by
  have hc' : (if c = a then some (i + 2) else B c) = some (k + 2) := hc
  by_cases z : c = a
  ·subst z; exact ⟨xs, n1⟩
  ·rw [if_neg z] at hc'; exact ok2.lst c k hc'), fun j s e => ?_⟩, stp⟩
 ·by_cases q : c = a
  ·subst q; rw [n1] at z; cases z
  ·have hc' : (if c = a then some (i + 2) else B c) ≠ none := hc
   rw [if_neg q] at hc'
   exact ok2.fr.occ c hc' z
 ·obtain ⟨x1, x2⟩ := nb b l e
  obtain ⟨b1, b2⟩ := ok.bgt b l e
  refine ⟨?_, ?_, (ok.fr.bgA b l e).2.2⟩
  ·show (if b = a then some (i + 2) else B b) ≠ none
   rw [if_neg x1, b1]; simp
  ·show (if l = a then some (i + 2) else B l) ≠ none
   rw [if_neg x2, b2]; simp
 ·obtain ⟨x1, x2⟩ := nb b l e
  simp only [if_neg x1, if_neg x2]
  exact ok.bgt b l e
 ·rw [List.getElem?_set] at e
  rw [List.getElem?_set]
  by_cases q : i = j
  ·subst q
   rw [if_pos rfl] at e ⊢
   split at e
   ·rename_i hl
    cases e
    rw [if_pos (by rw [← ok.len]; exact hl)]
    have tr2 : Tr ((FxB B bg).but a) H' (FxB (fun c => if c = a then some (i + 2) else B c) bg) H' := ⟨fun c h _ z => h (by
     have hc' : (if c = a then some (i + 2) else B c) ≠ none := z
     by_cases w : c = a
     ·exact .inr w
     ·rw [if_neg w] at hc'
      exact .inl hc'), fun _ _ _ h => h, rfl⟩
    exact ⟨_, rfl, a, xs, rfl, if_pos rfl, n1, DenL.tr tr2 _ _ dl⟩
   ·cases e
  ·rw [if_neg q] at e ⊢
   obtain ⟨w, h1, h2⟩ := ok.tell j s e
   refine ⟨w, h1, ?_⟩
   have na : ∀ c, H c ≠ none -> c ≠ a := fun c hc z => hc (z ▸ n0)
   have kk : ∀ c o, H c = some o -> B c = some (j + 2) -> H' c = some o := fun c o h1 h2 => t.kp c o h1 (fun b l z => ⟨fun y => (by subst y; rw [(ok.bgt _ _ z).1] at h2; cases h2), fun y => (by subst y; rw [(ok.bgt _ _ z).2] at h2; cases h2)⟩)
   cases s with
   | sh d => exact Den.tr tr _ _ h2
   | own cs =>
    obtain ⟨c, ys, e1, e2, e3, e4⟩ := h2
    exact ⟨c, ys, e1, by simp only [if_neg (na c (by rw [e3]; simp))]; exact e2, kk c _ e3 e2, DenL.tr tr _ _ e4⟩
   | grd rows2 =>
    obtain ⟨c, qs, e1, e2, e3, e4, e5⟩ := h2
    exact ⟨c, qs, e1, by simp only [if_neg (na c (by rw [e3]; simp))]; exact e2, kk c _ e3 e2, e4, RowL.tr tr e5 fun r xs _ p y => ⟨by simp only [if_neg (na r (by rw [y]; simp))]; exact p, kk r _ y p⟩⟩
def hW (i : Nat) (f : FL) : G := fun δ β => match f (vw δ) β with
 | some (.ok ds, β1) => some (.nx (δ.set i (some (.own ds))), β1)
 | some (.error C, β1) => some (.ex C δ, β1)
 | none => none
theorem sZ {i : Nat} {f : FL} (h : PS X st (fA (tVO X.K f E) (eD i))) : PS X st (tG X.K X.H₀ (hW i f) E) := h.imp fun D σ H h_ => by
 obtain ⟨B, bg, δ, β, o, β', ok, e, q⟩ := h_
 refine ⟨FxB B bg, vw δ, β, ok.fr, ok.view, ?_⟩
 unfold hW at e
 split at e
 ·rename_i ds β1 e1
  cases e
  refine ⟨.ok ds, _, e1, fun v H' t hd => ?_⟩
  obtain ⟨B', ok2, s2⟩ := ok.newOwnE (i := i) t hd
  exact q _ _ _ s2 ok2
 ·rename_i C β1 e1
  cases e
  refine ⟨.error C, _, e1, fun H' t => ?_⟩
  obtain ⟨ok2, s2⟩ := ok.to rfl t
  exact q _ B H' s2 ok2
 ·cases e
def jU (i : Nat) (f : Dn -> M (List (List D))) : G := fun δ β => match f (vw δ) β with
 | some (.ok rows, β1) => if (rows.all noLs) = true then some (.nx (δ.set i (some (.grd rows))), β1) else none
 | some (.error C, β1) => some (.ex C δ, β1)
 | none => none
theorem rH {i : Nat} {f : Dn -> M (List (List D))} (h : PS X st (fA (tVG X.K f E) (eD i))) : PS X st (tG X.K X.H₀ (jU i f) E) := h.imp fun D σ H h_ => by
 obtain ⟨B, bg, δ, β, o, β', ok, e, q⟩ := h_
 refine ⟨FxB B bg, vw δ, β, ok.fr, ok.view, ?_⟩
 unfold jU at e
 split at e
 ·rename_i rows β1 e1
  split at e
  ·rename_i hn
   cases e
   refine ⟨.ok rows, _, e1, fun v H' t hd => ?_⟩
   obtain ⟨B', ok2, s2⟩ := ok.newGrd (i := i) t (fun ds hds => List.all_eq_true.mp hn ds hds) hd
   exact q _ _ _ s2 ok2
  ·cases e
 ·rename_i C β1 e1
  cases e
  refine ⟨.error C, _, e1, fun H' t => ?_⟩
  obtain ⟨ok2, s2⟩ := ok.to rfl t
  exact q _ B H' s2 ok2
 ·cases e
theorem RowL.put {F : Fx} {H : Hp} {P : Addr -> Prop} {r : Addr} {xs : List V} {ds : List D} (t : Tr F H F (upd H r (.lst xs))) (hd : DenL K F (upd H r (.lst xs)) ds xs) : ∀ {rows : List (List D)} {rs : List Addr} (j : Nat), RowL K F H P rows rs -> rs.Nodup -> rs[j]? = some r -> RowL K F (upd H r (.lst xs)) P (rows.set j ds) rs
 | d0 :: rows, r0 :: rs, 0, h, nd, e => by
  obtain rfl : r0 = r := by simpa using e
  have ne : ∀ r' ∈ rs, r' ≠ r0 := fun r' hr z => (List.nodup_cons.mp nd).1 (z ▸ hr)
  exact ⟨h.1, ⟨xs, ao, hd⟩, RowL.tr t h.2.2 fun r' ys hr p q => ⟨p, by rw [upd_ne (ne r' hr)]; exact q⟩⟩
 | d0 :: rows, r0 :: rs, j + 1, h, nd, e => by
  have e' : rs[j]? = some r := by simpa using e
  obtain ⟨h1, ⟨ys, h2, h3⟩, h4⟩ := h
  have ne : r0 ≠ r := fun z => (List.nodup_cons.mp nd).1 (z ▸ List.mem_of_getElem? e')
  exact ⟨h1, ⟨ys, by rw [upd_ne ne]; exact h2, DenL.tr t _ _ h3⟩, RowL.put t hd j h4 (List.nodup_cons.mp nd).2 e'⟩
 | [], [], _, _, _, e => by simp at e
 | [], _ :: _, _, h, _, _ => h.elim
 | _ :: _, [], _, h, _, _ => h.elim
theorem RowL.at {F : Fx} {H : Hp} {P : Addr -> Prop} : ∀ {rows : List (List D)} {rs : List Addr} {j : Nat} {ds : List D}, RowL K F H P rows rs -> rows[j]? = some ds -> ∃ r xs, rs[j]? = some r /\ P r /\ H r = some (.lst xs) /\ DenL K F H ds xs
 | d0 :: rows, r0 :: rs, 0, ds, h, e => by
  obtain rfl : d0 = ds := by simpa using e
  obtain ⟨h1, ⟨ys, h2, h3⟩, h4⟩ := h
  exact ⟨r0, ys, rfl, h1, h2, h3⟩
 | d0 :: rows, r0 :: rs, j + 1, ds, h, e => by
  obtain ⟨r, xs, e1, e2⟩ := RowL.at h.2.2 (j := j) (ds := ds) (by simpa using e)
  exact ⟨r, xs, by simpa using e1, e2⟩
 | [], [], _, _, _, e => by simp at e
 | [], _ :: _, _, _, h, _ => h.elim
 | _ :: _, [], _, _, h, _ => h.elim
theorem SOk.writeRow {i j : Nat} {a r : Addr} {rs : List Addr} {rows : List (List D)} {ds : List D} {xs ys : List V} (ok : SOk K H₀ B bg H δ β σ) (hs : σ[i]? = some (some (.ref a))) (hB : B a = some (i + 2)) (ha : H a = some (.lst (rs.map V.ref))) (nd : (a :: rs).Nodup) (rl : RowL K (FxB B bg) H (fun r => B r = some (i + 2)) rows rs) (hj : rs[j]? = some r) (hr : H r = some (.lst ys)) (hd : DenL K (FxB B bg) H ds xs) :
  SOk K H₀ B bg (upd H r (.lst xs)) (δ.set i (some (.grd (rows.set j ds)))) β σ /\ Stp B H B (upd H r (.lst xs)) := by
 have hrs : r ∈ rs := List.mem_of_getElem? hj
 have hBr : B r = some (i + 2) := (rl.all r hrs).1
 have stp : Stp B H B (upd H r (.lst xs)) := by
  refine ⟨fun c o h n => ?_, fun _ _ => rfl, fun _ _ _ n => n, fun c hc => ?_⟩
  ·rw [upd_ne]
   ·exact h
   ·intro z; subst z; rw [hBr] at n; rcases n with n | n <;> cases n
  ·by_cases z : c = r
   ·subst z; rw [ao]; simp
   ·rw [upd_ne z]; exact hc
 have tr : Tr (FxB B bg) H (FxB B bg) (upd H r (.lst xs)) := stp.tr
 refine ⟨⟨⟨fun c hc z => ?_, ok.fr.bgA, fun b l e => ?_⟩, ok.bgt, by rw [List.length_set, ok.len], fun a ha => stp.al a (ok.cov a ha), ok.new, fun c k hc => (by
  by_cases z : c = r
  ·subst z; exact ⟨xs, ao⟩
  ·rw [upd_ne z]; exact ok.lst c k hc), fun k s e => ?_⟩, stp⟩
 ·by_cases q : c = r
  ·subst q; rw [ao] at z; cases z
  ·rw [upd_ne q] at z; exact ok.fr.occ c hc z
 ·obtain ⟨b1, b2⟩ := ok.bgt b l e
  rw [upd_ne (fun z => by subst z; rw [hBr] at b1; cases b1), upd_ne (fun z => by subst z; rw [hBr] at b2; cases b2)]
  exact ok.fr.bag b l e
 ·rw [List.getElem?_set] at e
  by_cases q : i = k
  ·subst q
   rw [if_pos rfl] at e
   split at e
   ·cases e
    have nar : a ≠ r := fun z => (List.nodup_cons.mp nd).1 (z ▸ hrs)
    exact ⟨_, hs, a, rs, rfl, hB, by rw [upd_ne nar]; exact ha, nd, RowL.put tr (DenL.tr tr _ _ hd) j rl (List.nodup_cons.mp nd).2 hj⟩
   ·cases e
  ·rw [if_neg q] at e
   obtain ⟨v, h1, h2⟩ := ok.tell k s e
   refine ⟨v, h1, ?_⟩
   have na : ∀ c, B c = some (k + 2) -> c ≠ r := fun c e2 z => by subst z; rw [hBr] at e2; cases e2; exact q rfl
   cases s with
   | sh d => exact Den.tr tr _ _ h2
   | own cs =>
    obtain ⟨c, zs, e1, e2, e3, e4⟩ := h2
    exact ⟨c, zs, e1, e2, by rw [upd_ne (na c e2)]; exact e3, DenL.tr tr _ _ e4⟩
   | grd rows2 =>
    obtain ⟨c, qs, e1, e2, e3, e4, e5⟩ := h2
    exact ⟨c, qs, e1, e2, by rw [upd_ne (na c e2)]; exact e3, e4, RowL.tr tr e5 fun r zs _ p q => ⟨p, by rw [upd_ne (na r p)]; exact q⟩⟩
def iE (f : Dn -> M (List (List D))) : G := fun δ β => match f (vw δ) β with
 | some (.ok rows, β1) => some (.rg rows, β1)
 | some (.error C, β1) => some (.ex C δ, β1)
 | none => none
theorem qt {f : Dn -> M (List (List D))} {e : Expr} {pos : Pos} (h : PS X (.Return (some e) pos) (uN (tVG X.K f E))) : PS X (.Return (some e) pos) (tG X.K X.H₀ (iE f) E) := h.imp fun D σ H h_ => by
 obtain ⟨B, bg, δ, β, o, β', ok, e, q⟩ := h_
 refine ⟨FxB B bg, vw δ, β, ok.fr, ok.view, ?_⟩
 unfold iE at e
 split at e
 ·rename_i rows β1 e1
  cases e
  refine ⟨.ok rows, _, e1, fun v H' t hd => ?_⟩
  obtain ⟨ok2, s2⟩ := ok.to rfl t
  have nw : ∀ c, H c = none -> X.H₀ c = none := fun c hc => by
   cases w : X.H₀ c with
   | none => rfl
   | some o => exact absurd hc (ok.cov c (by rw [w]; simp))
  obtain ⟨a, rs, rfl, n0, n1, nd, rl⟩ := hd
  exact q _ B H' s2 ok2.fr ⟨a, rs, rfl, nw a n0, n1, nd, RowL.tr (Tr.refl _ _) rl fun r xs _ p y => ⟨nw r p, y⟩⟩
 ·rename_i C β1 e1
  cases e
  refine ⟨.error C, _, e1, fun H' t => ?_⟩
  obtain ⟨ok2, s2⟩ := ok.to rfl t
  exact q _ B H' s2 ok2
 ·cases e
end
def spG (K : Frag) (n : Nat) (m : List D -> M (List (List D))) : Sp := fun vs H Q E => vs.length = n /\ ∃ F ds β, Fr F H β /\ DenL K F H ds vs /\ run (f6 K F H) F (fun _ => E) [] (m ds) H Q β
def je (n : Nat) (g : G) : List D -> M (List (List D)) := fun ds β => match g (stD n ds) β with
 | some (.rg rows, β') => some (.ok rows, β')
 | some (.ex C _, β') => some (.error C, β')
 | _ => none
section
variable {P : Program} {w : World} {K : Frag} {mg : Str -> Option Value} {base : Heap}
theorem qS {x qual : Str} {st : Stmt} {f : Addr} {fd : FuncData} {N ps : List Str} {k : Nat} (n m : Nat) (g : G) (F : FunD K x qual st f fd) (S : FnScope N ps (am st)) (hn' : ps.length = n) (hm' : N.length = m)
  (hbody : ∀ (cdv : Value) (A : Around) (outer : List Env) (s : Shared) (H : Hp) (E : XK), Room k (A.deeper (envOfC qual (am st) s.heap.objs.size f cdv)) ->
   PSs (cI (CXE P w) P w K mg base N qual (am st) f cdv A outer s H E) (bX st) (tG K H g (fun _ => E))) : FnOk P w K mg base (CXE P w) (k + 1) f fd ps (spG K n (je m g)) := by
 subst hn' hm'
 refine F.okE S (fun vs H Q E h => h.1) fun cdv A outer s H vs Q E hr h => ?_
 obtain ⟨hl, F0, ds, β, fr, hd, r, β', e, h⟩ := h
 refine ⟨_, hbody cdv A outer s H E hr, ?_⟩
 obtain ⟨B, ok, hA, h1, hn⟩ := o7 (N := N) fr hd
 have toF : ∀ {B' : Ow} {H' : Hp}, Stp B H B' H' -> Fr (FxB B' F0.bg) H' β' -> To F0 H H' β' /\ Tr (FxB B' F0.bg) H' F0 H' := fun {B' H'} s fr' => by
  have hs : ∀ a, F0.A a -> B' a ≠ none := fun a ha => by
   rw [s.tg a (hA a ha)]
   rcases hA a ha with z | z <;> rw [z] <;> simp
  refine ⟨⟨fun a o ha n => s.kp a o ha ?_, fun a ha => fr'.occ a (hs a ha), fun b l e => fr.bgA b l e, fr'.bag⟩, fun a ha _ z => ha (hs a z), fun _ _ _ h => h, rfl⟩
  cases q : B a with
  | none => exact .inl rfl
  | some t =>
   have := hA a (hn a (by rw [q]; simp))
   rcases this with z | z
   ·rw [q] at z; exact .inr z
   ·obtain ⟨b, l, e, w⟩ := h1 a z
    obtain ⟨n1, n2⟩ := n b l e
    rcases w with w | w
    ·exact absurd w n1
    ·exact absurd w n2
 unfold je at e
 split at e
 ·rename_i d β1 e1
  cases e
  refine ⟨B, F0.bg, stD N.length ds, β, .rg d, β', ok, e1, fun v B' H' s fr' hv => ?_⟩
  obtain ⟨t1, t2⟩ := toF s fr'
  obtain ⟨a, rs, ev, n0, n1, nd, rl⟩ := hv
  exact h v H' t1 ⟨a, rs, ev, n0, n1, nd, RowL.tr t2 rl fun r xs _ p y => ⟨p, y⟩⟩
 ·rename_i C δ' β1 e1
  cases e
  refine ⟨B, F0.bg, stD N.length ds, β, .ex C δ', β', ok, e1, fun σ' B' H' s ok' => ?_⟩
  obtain ⟨t1, t2⟩ := toF s ok'.fr
  exact h H' t1
 ·cases e
end
section
variable {X : Cx} {E : St -> XK} {e : Expr} {es : List Expr} {pos p : Pos} {x : Str} {k n : Nat} {f : Addr} {fd : FuncData} {ps : List Str}
def jY (m : List D -> M (List (List D))) (g : FL) : Dn -> M (List (List D)) := fun δ => M.bind (g δ) fun as => m as
theorem f6.pre {K : Frag} {F : Fx} {H H1 H' : Hp} {β1 : Bg} {rows : List (List D)} {v : V} (t : To F H H1 β1) (h : f6 K F H1 H' rows v) : f6 K F H H' rows v := by
 obtain ⟨a, rs, ev, n0, n1, nd, rl⟩ := h
 exact ⟨a, rs, ev, t.none n0, n1, nd, RowL.tr (Tr.refl _ _) rl fun r xs _ p y => ⟨t.none p, y⟩⟩
theorem uj {m : List D -> M (List (List D))} {g : FL} (G : FnOk X.prog X.w X.K X.mg X.base (CXE X.prog X.w) k f fd ps (spG X.K n m)) (hr : Room k X.A) (hg : Gl X x) (hm : X.mg x = some (.ref f)) (hk : keepIn X.K (.ref f) = true) (hb : aQ X.K fd ps []) (hx : bJ (CXE X.prog X.w) X E)
  (ha : PA X (e :: es) (tVA X.K g E)) (hn : ∀ δ β r β', g δ β = some (.ok r, β') -> r.length = n) (hdb : (x == ("__debug__" : Str)) = false := by decide) (he : starEach (e :: es) X.env = (false, eval e X.env) :: starEach es X.env := by rfl) (hpl : (backTo pos (starEach es X.env)).any (·.1) = false := by rfl) :
  PE X (.Call (.Name x p) (e :: es) [] pos) (tVG X.K (jY m g) E) :=
 (kr G hr hg hm hk hb .nil hx ha hdb he hpl).imp fun σ H Q h_ => ex6 h_ fun F δ β fr vk r => ⟨F, δ, β, fr, vk, by
  obtain ⟨r0, β0, e0, h0⟩ := run.bind (R := DenL X.K F) r
  refine ⟨r0, β0, e0, ?_⟩
  cases r0 with
  | error C => exact h0
  | ok ds =>
   intro vs H1 t hd
   obtain ⟨d', β1, t1, hd1, r1⟩ := h0 vs H1 t hd
   have hl := hn _ _ _ _ e0
   refine ⟨by rw [List.append_nil, ← hd.length, hl], F, d', β1, t1.fr, by rw [List.append_nil]; exact hd1, ?_⟩
   obtain ⟨rr, β2, e2, h2⟩ := r1
   refine ⟨rr, β2, e2, ?_⟩
   cases rr with
   | ok rows => exact fun v H' t2 hv => h2 v H' t2 (f6.pre t1 hv)
   | error C => exact h2⟩
end
section
variable {X : Cx} {E : St -> XK} {K : Frag} {elt target iter : Expr} {ifs : List Expr} {rest : List Comprehension} {scope : Scope} {pos : Pos} {Nc vars : List Str} {caps : List Nat} {g : TG} {tb : Addr -> TB}
theorem yw {it : FL} {tg : TgF} {tt : Dn -> M Bool} {b : Dn -> M (List (List D))} {i : Nat} {x : Str} {pos' spos : Pos} (hN : X.N.Nodup) (hi' : X.N[i]? = some x) (hx : Loc X.env.scope x) (hc : X.calm = true) (S : CmpScope X scope Nc vars caps) (hi : PI X target iter (iV X.K it E))
  (hb : ∀ (cl : List (Str × Addr)) (C : Addr) (fp : List Addr) (s : Shared) (H : Hp), PG (aZ X Nc scope cl C fp s H) target g /\ fJ (aZ X Nc scope cl C fp s H) ifs (tVT X.K tt E0) /\ ∀ D, PB (aZ X Nc scope cl C fp s H) elt (⟨target, iter, ifs, 0⟩ :: rest) scope pos 0 D (tb D))
  (lg : dg X.K g tg) (sg : eJ tg) (lb : ∀ D, mo X.K D (tb D) b)
  (hsw : swapsWith (.ListComp elt (⟨target, iter, ifs, 0⟩ :: rest) scope pos) (some (.Name x pos')) spos.line X.env = pure true := by rfl)
  (hs : ∀ x, foldedSetIterable iter X.env x = pure x := by intro _; rfl) (hf : X.fn x = true \/ X.env.scope.names.lookup x = some .local := by first | exact .inl rfl | exact .inr rfl | assumption) :
  PS X (.Assign [.Name x pos'] (.ListComp elt (⟨target, iter, ifs, 0⟩ :: rest) scope pos) spos) (tG X.K X.H₀ (jU i (fi vars.length caps it tg tt b)) E) :=
 rH ((mI hN hi' hx hc S hi hb hsw hs hf).imp fun D σ H h => nF lg sg lb h)
end
end L2.Pu
namespace L2
open PySem PySem.Spec PyProof.Rows
section
variable {X : Cx}
theorem pY {bs : List Bool} {its : List Value} (r : ar (bs.map V.bl) its) {i : Nat} {v : Value} (h : its.toArray[i]? = some v) : v = .bool (bs.getD i false) := by
 have h' : its[i]? = some v := by simpa using h
 have hl := r.length
 rw [List.length_map] at hl
 have hi : i < bs.length := by rw [hl]; exact (List.getElem?_eq_some_iff.mp h').1
 obtain ⟨u, hu, ru⟩ := r.get (i := i) (x := V.bl bs[i]) (by rw [List.getElem?_map, List.getElem?_eq_getElem hi]; rfl)
 rw [h'] at hu
 cases hu
 rw [List.getD_eq_getElem?_getD, List.getElem?_eq_getElem hi]
 exact ru
theorem nM {α : Type} (f : Bool -> Bool) (bs : List Bool) : (List.range bs.length).map (fun i => bs.getD i false) = bs := by
 apply List.ext_getElem?
 intro i
 rw [List.getElem?_map]
 by_cases h : i < bs.length
 ·rw [List.getElem?_range h, List.getElem?_eq_getElem h]
  simp [List.getD_eq_getElem?_getD, List.getElem?_eq_getElem h]
 ·rw [List.getElem?_eq_none (by simpa using h), List.getElem?_eq_none (by omega)]; rfl
theorem tm (bs : List Bool) : ((List.range bs.length).any fun i => bs.getD i false) = bs.any id := by
 conv => rhs; rw [← nM (α := Bool) id bs]
 rw [List.any_map]
 rfl
theorem tq (bs : List Bool) : ((List.range bs.length).all fun i => bs.getD i false) = bs.all id := by
 conv => rhs; rw [← nM (α := Bool) id bs]
 rw [List.all_map]
 rfl
theorem j7 (hc : X.calm = true) : cQ X (.builtin "any") (fun xs H Q => ∃ (a : Addr) (bs : List Bool), xs = [.ref a] /\ SqL X.K H a (bs.map V.bl) /\ Q (.bl (bs.any id)) H) := by
 intro pins s σ H xs us Q I r h
 obtain ⟨a, bs, rfl, hq, q⟩ := h
 cases r with
 | cons r1 r2 =>
  cases r1
  cases r2
  obtain ⟨its, rv, p, hz⟩ := I.list hq
  have hl := p.isList
  have hlen : its.toArray.size = bs.length := by rw [List.size_toArray, ← rv.length, List.length_map]
  have hfr : ∀ b o, s.heap.get? b = some o -> b ≠ s.heap.objs.size := fun b o e z => by
   rw [z, Heap.get?_none_of_le (Nat.le_refl _)] at e
   cases e
  have hne : a ≠ s.heap.objs.size := by
   obtain ⟨o, e, _⟩ := hl
   exact hfr a o e
  have W := Walks.list (prog := X.prog) (w := X.w) (A := X.A.in1) (show X.A.in1.handled = none from I.ok.hd hc) s.heap.objs.size a hne its.toArray
  refine call_any_walk (wpAny_pyIter_list hl ⟨s.heap.objs.size, [s.heap.objs.size, a], [s.heap.objs.size], its.toArray.size, _, _, fun i => bs.getD i false, rfl, W, ⟨⟨_, Heap.get?_push_size s.heap rfl, rfl, rfl⟩, hl.push _⟩, fun i v s' Q' E' hv q' => ?_, fun h' tk hk => ?_⟩)
  ·rw [pY rv hv]
   exact wpAny_truthy_bool q'
  ·rw [hlen, tm]
   exact ⟨.bl (bs.any id), H, I.kept fun b o e => hk b o (fun z => hfr b o e (by simpa using z)) (Heap.get?_push_of_some _ e), rfl, q⟩
theorem uA (hc : X.calm = true) : cQ X (.builtin "all") (fun xs H Q => ∃ (a : Addr) (bs : List Bool), xs = [.ref a] /\ SqL X.K H a (bs.map V.bl) /\ Q (.bl (bs.all id)) H) := by
 intro pins s σ H xs us Q I r h
 obtain ⟨a, bs, rfl, hq, q⟩ := h
 cases r with
 | cons r1 r2 =>
  cases r1
  cases r2
  obtain ⟨its, rv, p, hz⟩ := I.list hq
  have hl := p.isList
  have hlen : its.toArray.size = bs.length := by rw [List.size_toArray, ← rv.length, List.length_map]
  have hfr : ∀ b o, s.heap.get? b = some o -> b ≠ s.heap.objs.size := fun b o e z => by
   rw [z, Heap.get?_none_of_le (Nat.le_refl _)] at e
   cases e
  have hne : a ≠ s.heap.objs.size := by
   obtain ⟨o, e, _⟩ := hl
   exact hfr a o e
  have W := Walks.list (prog := X.prog) (w := X.w) (A := X.A.in1) (show X.A.in1.handled = none from I.ok.hd hc) s.heap.objs.size a hne its.toArray
  refine call_all_walk (wpAny_pyIter_list hl ⟨s.heap.objs.size, [s.heap.objs.size, a], [s.heap.objs.size], its.toArray.size, _, _, fun i => bs.getD i false, rfl, W, ⟨⟨_, Heap.get?_push_size s.heap rfl, rfl, rfl⟩, hl.push _⟩, fun i v s' Q' E' hv q' => ?_, fun h' tk hk => ?_⟩)
  ·rw [pY rv hv]
   exact wpAny_truthy_bool q'
  ·rw [hlen, tq]
   exact ⟨.bl (bs.all id), H, I.kept fun b o e => hk b o (fun z => hfr b o e (by simpa using z)) (Heap.get?_push_of_some _ e), rfl, q⟩
end
end L2
namespace L2.Pu
open PySem PySem.Spec PyProof.Rows
def cm : List D -> Option (List Bool)
 | [] => some []
 | .bl b :: r => (cm r).map (b :: ·)
 | _ => none
theorem ii {K : Frag} {F : Fx} {H : Hp} : ∀ {ds : List D} {xs : List V} {bs : List Bool}, cm ds = some bs -> DenL K F H ds xs -> xs = bs.map V.bl
 | [], xs, bs, e, h => by
  cases e
  cases h
  rfl
 | d :: ds, xs, bs, e, h => by
  obtain ⟨x, xr, rfl, h1, h2⟩ := h
  cases d <;> first
   | (rename_i b
      cases q : cm ds with
      | none => simp [cm, q] at e
      | some r =>
      simp [cm, q] at e
      subst e
      cases h1.bl
      rw [ii q h2]
      rfl)
   | simp [cm] at e
def lw : List D -> Option D
 | [.lst ds] => (cm ds).map fun bs => .bl (bs.any id)
 | _ => none
def sG : List D -> Option D
 | [.lst ds] => (cm ds).map fun bs => .bl (bs.all id)
 | _ => none
variable {K : Frag}
theorem se : dZ K (fun xs H Q => ∃ (a : Addr) (bs : List Bool), xs = [.ref a] /\ SqL K H a (bs.map V.bl) /\ Q (.bl (bs.any id)) H) lw := fun F H β Q ds d vs fr h e k => by
 unfold lw at e
 split at e
 ·obtain ⟨v, rfl, g⟩ := DenL.one h
  obtain ⟨a, xs, rfl, r, dl⟩ := Den.sqL g
  obtain ⟨bs, q, e⟩ := Option.map_eq_some_iff.mp e
  subst e
  rw [ii q dl] at r
  exact ⟨a, bs, rfl, r, k _ H (To.refl fr) rfl⟩
 ·cases e
theorem A3 : dZ K (fun xs H Q => ∃ (a : Addr) (bs : List Bool), xs = [.ref a] /\ SqL K H a (bs.map V.bl) /\ Q (.bl (bs.all id)) H) sG := fun F H β Q ds d vs fr h e k => by
 unfold sG at e
 split at e
 ·obtain ⟨v, rfl, g⟩ := DenL.one h
  obtain ⟨a, xs, rfl, r, dl⟩ := Den.sqL g
  obtain ⟨bs, q, e⟩ := Option.map_eq_some_iff.mp e
  subst e
  rw [ii q dl] at r
  exact ⟨a, bs, rfl, r, k _ H (To.refl fr) rfl⟩
 ·cases e
end L2.Pu
namespace L2
open PySem PySem.Spec PyProof.Rows
section
variable {X : Cx} {a b c d : Expr} {ta tb tc td : TE} {pos : Pos}
def AJ (r' r'' : R2) (tc td : TE) (y : V) : TE := fun σ H Q => tc σ H fun w H4 => r' y w H4 fun z' H5 => ∃ k', z' = .bl k' /\ (if k' = true then td σ H5 fun w' H6 => r'' w w' H6 Q else Q (.bl false) H5)
def qo (r r' r'' : R2) (ta tb tc td : TE) : TE := fun σ H Q => ta σ H fun x H1 => tb σ H1 fun y H2 => r x y H2 fun z H3 => ∃ k, z = .bl k /\ (if k = true then AJ r' r'' tc td y σ H3 Q else Q (.bl false) H3)
theorem tw {op op' op'' : CmpOp} {r r' r'' : R2} (ho : OpR X (compareOp op) r) (ho' : OpR X (compareOp op') r') (ho'' : OpR X (compareOp op'') r'') (ha : PE X a ta) (hb : PE X b tb) (hc : PE X c tc) (hd : PE X d td)
  (hm : lastMarks [op, op', op''] [b, c, d] = false := by with_unfolding_all rfl) : PT X (.Compare a [op, op', op''] [b, c, d] pos) (rA (qo r r' r'' ta tb tc td)) := by
 intro pins s σ H Q I h
 refine isTrue_chain (thn (ha pins s σ H _ I h) fun v s1 ⟨x, H1, I1, r1, q1⟩ => test_link (thn (hb pins s1 σ H1 _ I1 q1) fun u s2 ⟨y, H2, I2, r2, q2⟩ =>
  thn (ho pins s2 σ H2 x y v u _ I2 r1 r2 q2) fun dd s3 ⟨z, H3, I3, r3, k, e, q3⟩ => ?_)) hm
 subst e
 cases r3
 refine wpAny_truthy_bool ?_
 cases k with
 | false =>
  obtain ⟨k', e', q'⟩ := q3
  cases e'
  exact ite_ff ⟨H3, I3, q'⟩
 | true =>
  refine ite_tt (test_link (thn (hc pins s3 σ H3 _ I3 q3) fun u' s4 ⟨y', H4, I4, r4, q4⟩ => thn (ho' pins s4 σ H4 y y' u u' _ I4 r2 r4 q4) fun dd s5 ⟨z', H5, I5, r5, k', e', q5⟩ => ?_))
  subst e'
  cases r5
  refine wpAny_truthy_bool ?_
  cases k' with
  | false =>
   obtain ⟨k', e', q'⟩ := q5
   cases e'
   exact ite_ff ⟨H5, I5, q'⟩
  | true =>
   refine ite_tt (test_last (thn (hd pins s5 σ H5 _ I5 q5) fun w' s6 ⟨z2, H6, I6, r6, q6⟩ => thn (ho'' pins s6 σ H6 y' z2 u' w' _ I6 r4 r6 q6) fun d' s7 ⟨z3, H7, I7, r7, k3, e3, q7⟩ => ?_))
   subst e3
   cases r7
   exact wpAny_truthy_bool ⟨H7, I7, q7⟩
end
end L2
namespace L2.Pu
open PySem PySem.Spec PyProof.Rows
section
variable {X : Cx} {E : St -> XK} {a b c d : Expr} {pos : Pos} {K : Frag}
def w6 (o' o'' : D -> D -> Option D) (h i : FD) (y : D) : FD := fun δ => M.bind (h δ) fun w => M.bind (M.ofO (o' y w)) fun z => M.bind (M.ofO (asB z)) fun c => if c = true then M.bind (i δ) (fun w' => M.ofO (o'' w w')) else M.ret (.bl false)
def iF (o o' o'' : D -> D -> Option D) (f g h i : FD) : FD := fun δ => M.bind (f δ) fun a => M.bind (g δ) fun b => M.bind (M.ofO (o a b)) fun z => M.bind (M.ofO (asB z)) fun c => if c = true then w6 o' o'' h i b δ else M.ret (.bl false)
theorem run.later {α γ : Type} {R : Hp -> α -> γ -> Prop} {F : Fx} {σ : St} {m : M α} {H H1 : Hp} {Q : γ -> Hp -> Prop} {β : Bg} (t : To F H H1 β) (h : run R F E σ m H Q β) : run R F E σ m H1 Q β := by
 obtain ⟨rr, β', e, q⟩ := h
 refine ⟨rr, β', e, ?_⟩
 cases rr with
 | ok d => exact fun v H' tt => q v H' (t.trans tt)
 | error C => exact fun H' tt => q H' (t.trans tt)
theorem rB {r r' r'' : R2} {o o' o'' : D -> D -> Option D} {f g h i : FD} (l : bd K r o) (l' : bd K r' o') (l'' : bd K r'' o'') {σ : St} {H : Hp} {Q : VK} (hw : tV K (iF o o' o'' f g h i) E σ H Q) : qo r r' r'' (tV K f E) (tV K g E) (tV K h E) (tV K i E) σ H Q := by
 obtain ⟨F, δ, β, fr, vk, hw⟩ := hw
 refine ⟨F, δ, β, fr, vk, (run.bind (R := Den K F) hw).mono fun v H1 h_ => ex5 h_ fun d β1 t hd r1 => ⟨F, δ, β1, t.fr, vk.tr (t.tr fr), (run.bind (R := Den K F) r1).mono fun v2 H2 h_ => ex5 h_ fun d2 β2 t2 hd2 r2 => ?_⟩⟩
 obtain ⟨z, ez, r3⟩ := run.ofO_bind r2
 obtain ⟨c, ec, r4⟩ := run.ofO_bind r3
 rw [gM ec] at ez
 have vk2 := vk.tr ((t.tr fr).trans (t2.tr t.fr))
 refine l F H2 β2 _ d d2 _ v v2 t2.fr (Den.tr (t2.tr t.fr) _ _ hd) hd2 ez fun vz H3 t3 hz => ⟨c, hz, ?_⟩
 cases c with
 | true =>
  rw [if_pos rfl] at r4
  have hd3 := Den.tr (t3.tr t2.fr) _ _ hd2
  have vk3 := vk2.tr (t3.tr t2.fr)
  have r5 := run.later t3 r4
  refine ⟨F, δ, β2, t3.fr, vk3, (run.bind (R := Den K F) r5).mono fun w H4 h_ => ex5 h_ fun dw β4 t4 hdw r6 => ?_⟩
  obtain ⟨z', ez', r7⟩ := run.ofO_bind r6
  obtain ⟨c', ec', r8⟩ := run.ofO_bind r7
  rw [gM ec'] at ez'
  refine l' F H4 β4 _ d2 dw _ v2 w t4.fr (Den.tr (t4.tr t3.fr) _ _ hd3) hdw ez' fun vz' H5 t5 hz' => ⟨c', hz', ?_⟩
  cases c' with
  | true =>
   rw [if_pos rfl] at r8
   refine ⟨F, δ, β4, t5.fr, vk3.tr ((t4.tr t3.fr).trans (t5.tr t4.fr)), (run.bind (R := Den K F) (run.later t5 r8)).mono fun w' H6 ⟨dw', β6, t6, hdw', r9⟩ => ?_⟩
   obtain ⟨d3, e3, k⟩ := run.ofO r9
   exact l'' F H6 β6 Q dw dw' d3 w w' t6.fr (Den.tr ((t5.tr t4.fr).trans (t6.tr t5.fr)) _ _ hdw) hdw' e3 k
  | false =>
   rw [if_neg Bool.false_ne_true] at r8
   obtain ⟨rr, β', e, q⟩ := r8
   cases e
   exact q _ H5 t5 rfl
 | false =>
  rw [if_neg Bool.false_ne_true] at r4
  obtain ⟨rr, β', e, q⟩ := r4
  cases e
  exact q _ H3 t3 rfl
theorem uM {op op' op'' : CmpOp} {r r' r'' : R2} {o o' o'' : D -> D -> Option D} {f g h i : FD} (ho : OpR X (compareOp op) r) (ho' : OpR X (compareOp op') r') (ho'' : OpR X (compareOp op'') r'') (l : bd X.K r o) (l' : bd X.K r' o') (l'' : bd X.K r'' o'') (ha : PE X a (tV X.K f E)) (hb : PE X b (tV X.K g E)) (hc : PE X c (tV X.K h E)) (hd : PE X d (tV X.K i E)) (hm : lastMarks [op, op', op''] [b, c, d] = false := by with_unfolding_all rfl) :
  PT X (.Compare a [op, op', op''] [b, c, d] pos) (tVT X.K (fB (iF o o' o'' f g h i)) E) := (tw ho ho' ho'' ha hb hc hd hm).imp fun σ H Q q => rB l l' l'' (kW q)
end
section
variable {X : Cx} {E : St -> XK} {K : Frag} {st : Stmt} {H₀ : Hp} {B : Ow} {bg : Option (Addr × Addr)} {H H' : Hp} {δ : Ds} {β β' : Bg} {σ : St}
theorem RowL.put2 {F : Fx} {H : Hp} {P : Addr -> Prop} {r : Addr} {xs : List V} {ds : List D} (p : P r) (hr : H r = some (.lst xs)) (hd : DenL K F H ds xs) : ∀ {rows : List (List D)} {rs : List Addr} (j : Nat), RowL K F H P rows rs -> RowL K F H P (rows.set j ds) (rs.set j r)
 | [], [], _, _ => trivial
 | _ :: _, _ :: _, 0, h => ⟨p, ⟨xs, hr, hd⟩, h.2.2⟩
 | _ :: _, _ :: _, j + 1, h => ⟨h.1, h.2.1, RowL.put2 p hr hd j h.2.2⟩
 | [], _ :: _, _, h => h.elim
 | _ :: _, [], _, h => h.elim
theorem mem_set_or {α : Type} {x y : α} : ∀ {l : List α} {j : Nat}, x ∈ l.set j y -> x = y \/ x ∈ l
 | [], _, h => by cases h
 | a :: l, 0, h => by
  rcases List.mem_cons.mp h with rfl | h
  ·exact .inl rfl
  ·exact .inr (List.mem_cons_of_mem _ h)
 | a :: l, j + 1, h => by
  rcases List.mem_cons.mp h with rfl | h
  ·exact .inr List.mem_cons_self
  ·rcases mem_set_or h with z | z
   ·exact .inl z
   ·exact .inr (List.mem_cons_of_mem _ z)
theorem nS {r : Addr} : ∀ {rs : List Addr} {j : Nat}, rs.Nodup -> r ∉ rs -> (rs.set j r).Nodup
 | [], _, h, _ => h
 | a :: rs, 0, h, n => List.nodup_cons.mpr ⟨fun z => n (List.mem_cons_of_mem _ z), (List.nodup_cons.mp h).2⟩
 | a :: rs, j + 1, h, n => List.nodup_cons.mpr ⟨fun z => (by
   rcases mem_set_or z with z | z
   ·exact n (z ▸ List.mem_cons_self)
   ·exact (List.nodup_cons.mp h).1 z), nS (List.nodup_cons.mp h).2 fun z => n (List.mem_cons_of_mem _ z)⟩
theorem SOk.putRow {i j : Nat} {H1 H2 : Hp} {β1 β2 : Bg} {a r : Addr} {rs : List Addr} {rows : List (List D)} {ds : List D} {xs : List V} (ok : SOk K H₀ B bg H δ β σ) (ok2 : SOk K H₀ B bg H2 δ β2 σ) (s2 : Stp B H B H2) (kk : ∀ c o, H c = some o -> B c ≠ some 1 -> H2 c = some o)
  (hs : σ[i]? = some (some (.ref a))) (hB : B a = some (i + 2)) (ha : H2 a = some (.lst (rs.map V.ref))) (ha0 : H a = some (.lst (rs.map V.ref))) (nd : (a :: rs).Nodup) (rl : RowL K (FxB B bg) H2 (fun r => B r = some (i + 2)) rows rs) (r0 : H r = none) (hr : H2 r = some (.lst xs)) (hn : noLs ds = true) (hd : DenL K (FxB B bg) H2 ds xs) (hrow : ∀ c ∈ rs, H c ≠ none) (hno : ∀ w ∈ rows, noLs w = true) :
  ∃ B', SOk K H₀ B' bg (upd H2 a (.lst ((rs.map V.ref).set j (.ref r)))) (δ.set i (some (.grd (rows.set j ds)))) β2 σ /\ Stp B H B' (upd H2 a (.lst ((rs.map V.ref).set j (.ref r)))) := by
 classical
 have hBr : B r = none := Classical.byContradiction fun z => ok.fr.occ r z r0
 have nar : a ≠ r := fun z => by rw [← z, ha0] at r0; cases r0
 have nrs : r ∉ rs := fun z => hrow r z r0
 have own : ∀ c, c ∈ rs -> B c = some (i + 2) := fun c hc => (rl.all c hc).1
 have nb : ∀ b l, bg = some (b, l) -> b ≠ r /\ l ≠ r := fun b l e => by
  obtain ⟨b1, b2⟩ := ok.bgt b l e
  exact ⟨fun z => (by rw [z, hBr] at b1; cases b1), fun z => (by rw [z, hBr] at b2; cases b2)⟩
 have nb2 : ∀ b l, bg = some (b, l) -> b ≠ a /\ l ≠ a := fun b l e => by
  obtain ⟨b1, b2⟩ := ok.bgt b l e
  exact ⟨fun z => (by rw [z, hB] at b1; cases b1), fun z => (by rw [z, hB] at b2; cases b2)⟩
 have stp : Stp B H (fun c => if c = r then some (i + 2) else B c) (upd H2 a (.lst ((rs.map V.ref).set j (.ref r)))) := by
  refine ⟨fun c o h n => ?_, fun c hc => ?_, fun c o h n => ?_, fun c hc => ?_⟩
  ·rw [upd_ne (fun z => by subst z; rw [hB] at n; rcases n with n | n <;> cases n)]
   exact s2.kp c o h n
  ·have : c ≠ r := fun z => by rw [z, hBr] at hc; rcases hc with hc | hc <;> cases hc
   simp only [if_neg this]
  ·have : c ≠ r := fun z => by rw [z, r0] at h; cases h
   simp only [if_neg this]; exact n
  ·by_cases z : c = a
   ·subst z; rw [ao]; simp
   ·rw [upd_ne z]; exact s2.al c hc
 have tr : Tr (FxB B bg) H (FxB (fun c => if c = r then some (i + 2) else B c) bg) (upd H2 a (.lst ((rs.map V.ref).set j (.ref r)))) := stp.tr
 refine ⟨fun c => if c = r then some (i + 2) else B c, ⟨⟨fun c hc z => ?_, fun b l e => ?_, fun b l e => ?_⟩, fun b l e => ?_, by rw [List.length_set, ok.len], fun c hc => ?_, fun c k hc => ?_, fun c k hc => (by
  have hc' : (if c = r then some (i + 2) else B c) = some (k + 2) := hc
  by_cases w : c = a
  ·subst w; exact ⟨_, ao⟩
  ·rw [upd_ne w]
   by_cases z : c = r
   ·subst z; exact ⟨xs, hr⟩
   ·rw [if_neg z] at hc'; exact ok2.lst c k hc'), fun k s e => ?_⟩, stp⟩
 ·by_cases q : c = a
  ·subst q; rw [ao] at z; cases z
  ·rw [upd_ne q] at z
   by_cases w : c = r
   ·subst w; rw [hr] at z; cases z
   ·have hc' : (if c = r then some (i + 2) else B c) ≠ none := hc
    rw [if_neg w] at hc'
    exact ok2.fr.occ c hc' z
 ·obtain ⟨x1, x2⟩ := nb b l e
  obtain ⟨b1, b2⟩ := ok.bgt b l e
  refine ⟨?_, ?_, (ok.fr.bgA b l e).2.2⟩
  ·show (if b = r then some (i + 2) else B b) ≠ none
   rw [if_neg x1, b1]; simp
  ·show (if l = r then some (i + 2) else B l) ≠ none
   rw [if_neg x2, b2]; simp
 ·obtain ⟨x1, x2⟩ := nb2 b l e
  rw [upd_ne x1, upd_ne x2]
  exact ok2.fr.bag b l e
 ·obtain ⟨x1, x2⟩ := nb b l e
  simp only [if_neg x1, if_neg x2]
  exact ok.bgt b l e
 ·by_cases z : c = a
  ·subst z; rw [ao]; simp
  ·rw [upd_ne z]; exact ok2.cov c hc
 ·have hc' : (if c = r then some (i + 2) else B c) = some (k + 2) := hc
  by_cases z : c = r
  ·cases w : H₀ c with
   | none => rfl
   | some o => exact absurd (z ▸ r0) (ok.cov c (by rw [w]; simp))
  ·rw [if_neg z] at hc'; exact ok.new c k hc'
 ·rw [List.getElem?_set] at e
  by_cases q : i = k
  ·subst q
   rw [if_pos rfl] at e
   split at e
   ·cases e
    have rl1 := RowL.put2 (P := fun c => c = r \/ B c = some (i + 2)) (.inl rfl) hr hd j (RowL.tr (Tr.refl _ _) rl fun c ys _ p y => ⟨.inr p, y⟩)
    have rl2 : RowL K (FxB B bg) (upd H2 a (.lst ((rs.map V.ref).set j (.ref r)))) (fun c => c = r \/ B c = some (i + 2)) (rows.set j ds) (rs.set j r) := RowL.tr (⟨fun _ n _ => n, fun c o n h => by rw [upd_ne (fun z => n (by subst z; show B c ≠ none; rw [hB]; simp))]; exact h, rfl⟩) rl1 fun c ys hc p y => ⟨p, by
     rw [upd_ne (fun z => by
      subst z
      rcases mem_set_or hc with w | w
      ·exact nar w
      ·exact (List.nodup_cons.mp nd).1 w)]
     exact y⟩
    have hal : ∀ c ∈ rs.set j r, (if c = r then some (i + 2) else B c) = some (i + 2) := fun c hc => by
     rcases mem_set_or hc with w | w
     ·rw [if_pos w]
     ·split
      ·rfl
      ·exact own c w
    refine ⟨_, hs, a, rs.set j r, rfl, by simp only [if_neg nar]; exact hB, by rw [ao, List.map_set], List.nodup_cons.mpr ⟨fun z => ?_, nS (List.nodup_cons.mp nd).2 nrs⟩, RowL.noL (F := FxB B bg) (fun c hc => ?_) (fun w hw => ?_) rl2 hal⟩
    ·rcases mem_set_or z with w | w
     ·exact nar w
     ·exact (List.nodup_cons.mp nd).1 w
    ·have hc' : (if c = r then some (i + 2) else B c) ≠ none := hc
     by_cases w : c = r
     ·subst w; exact .inr ⟨xs, by rw [upd_ne nar.symm]; exact hr⟩
     ·rw [if_neg w] at hc'; exact .inl hc'
    ·rcases mem_set_or hw with w | w
     ·subst w; exact hn
     ·exact hno _ w
   ·cases e
  ·rw [if_neg q] at e
   obtain ⟨v, h1, h2⟩ := ok.tell k s e
   refine ⟨v, h1, ?_⟩
   have na : ∀ c, B c = some (k + 2) -> c ≠ a := fun c e2 z => by subst z; rw [hB] at e2; cases e2; exact q rfl
   have nr : ∀ c, H c ≠ none -> c ≠ r := fun c hc z => hc (z ▸ r0)
   have k3 : ∀ c o, H c = some o -> B c = some (k + 2) -> upd H2 a (.lst ((rs.map V.ref).set j (.ref r))) c = some o := fun c o h h' => by
    rw [upd_ne (na c h')]
    exact kk c o h (by rw [h']; intro z; cases z)
   cases s with
   | sh d => exact Den.tr tr _ _ h2
   | own cs =>
    obtain ⟨c, zs, e1, e2, e3, e4⟩ := h2
    exact ⟨c, zs, e1, by simp only [if_neg (nr c (by rw [e3]; simp))]; exact e2, k3 c _ e3 e2, DenL.tr tr _ _ e4⟩
   | grd rows2 =>
    obtain ⟨c, qs, e1, e2, e3, e4, e5⟩ := h2
    exact ⟨c, qs, e1, by simp only [if_neg (nr c (by rw [e3]; simp))]; exact e2, k3 c _ e3 e2, e4, RowL.tr tr e5 fun r' zs _ p y => ⟨by simp only [if_neg (nr r' (by rw [y]; simp))]; exact p, k3 r' _ y p⟩⟩
def kz (i : Nat) (fa fv : FD) : G := fun δ β => match fv (vw δ) β with
 | some (.ok d, β1) => match fa (vwA δ) β1 with
  | some (.ok (.int ka), β2) => match δ.getD i none with
   | some (.own ds) => match ixN ds.length ka with
    | some ja => some (.nx (δ.set i (some (.own (ds.set ja d)))), β2)
    | none => none
   | _ => none
  | _ => none
 | _ => none
theorem s9 {i : Nat} {fa fv : FD} (h : PS X st (fA (tV X.K fv E) (sw (iO i) (tV X.K fa E) oJ))) : PS X st (tG X.K X.H₀ (kz i fa fv) E) := h.imp fun D σ H h_ => by
 obtain ⟨B, bg, δ, β, o, β', ok, e, q⟩ := h_
 refine ⟨FxB B bg, vw δ, β, ok.fr, ok.view, ?_⟩
 unfold kz at e
 split at e
 ·rename_i d β1 e1
  refine ⟨.ok d, _, e1, fun v H1 t1 hd => ?_⟩
  obtain ⟨ok1, s1⟩ := ok.to rfl t1
  split at e
  ·rename_i ka β2 e2
   split at e
   ·rename_i ds ec
    split at e
    ·rename_i ja ea
     cases e
     obtain ⟨w, h1, a, xs, rfl, hB, ha, dl⟩ := ok1.tell i _ (cg ec)
     refine ⟨_, h1, FxA B bg, vwA δ, β1, ok1.frA, ok1.viewA, .ok (.int ka), _, e2, fun y H2 t2 hy => ?_⟩
     cases hy
     obtain ⟨ok2, s2⟩ := ok1.to (F := FxA B bg) rfl t2
     obtain ⟨w2, h2, a2, xs2, ew, hB2, ha2, dl2⟩ := ok2.tell i _ (cg ec)
     rw [h1] at h2
     cases h2
     cases ew
     refine ⟨a, xs2, ka, ja, rfl, rfl, ha2, by rw [← dl2.length]; exact ea, ?_⟩
     obtain ⟨ok3, s3⟩ := ok2.writeOwn (ds := ds.set ja d) (xs := xs2.set ja v) h1 hB2 ha2 (DenL.set ja dl2 (Den.tr s2.tr _ _ hd))
     exact q _ _ _ (s1.trans (s2.trans s3)) ok3
    ·cases e
   ·cases e
  ·cases e
 ·cases e
end
section
variable {X : Cx} {E : St -> XK} {K : Frag} {st : Stmt} {H₀ : Hp} {B : Ow} {bg : Option (Addr × Addr)} {H H' : Hp} {δ : Ds} {β β' : Bg} {σ : St}
theorem SOk.AtoB (ok : SOk K H₀ B bg H δ β σ) : ∀ c, (FxB B bg).A c -> (FxA B bg).A c \/ ∃ xs, H c = some (.lst xs) := fun c hc => by
 have hc' : B c ≠ none := hc
 cases q : B c with
 | none => exact absurd q hc'
 | some k =>
  match k, q with
  | 0, q => exact .inl (.inl q)
  | 1, q => exact .inl (.inr q)
  | k + 2, q => exact .inr (ok.lst c k q)
theorem SOk.noB {d : D} {v : V} (ok : SOk K H₀ B bg H δ β σ) (hn : noL d = true) (h : Den K (FxA B bg) H d v) : Den K (FxB B bg) H d v := qL ok.AtoB d v hn h
theorem SOk.noBs {ds : List D} {xs : List V} (ok : SOk K H₀ B bg H δ β σ) (hn : noLs ds = true) (h : DenL K (FxA B bg) H ds xs) : DenL K (FxB B bg) H ds xs := noLs_den ok.AtoB ds xs hn h
def hX (i : Nat) (fa fb fv : FD) : G := fun δ β => match fv (vwA δ) β with
 | some (.ok d, β1) => match fa (vwA δ) β1 with
  | some (.ok (.int ka), β2) => match fb (vwA δ) β2 with
   | some (.ok (.int kb), β3) => match δ.getD i none with
    | some (.grd rows) => match ixN rows.length ka with
     | some ja => match rows[ja]? with
      | some ds => match ixN ds.length kb with
       | some jb => if noL d = true then some (.nx (δ.set i (some (.grd (rows.set ja (ds.set jb d))))), β3) else none
       | none => none
      | none => none
     | none => none
    | _ => none
   | _ => none
  | _ => none
 | _ => none
theorem pf {i : Nat} {fa fb fv : FD} (h : PS X st (fA (tV X.K fv E) (sw (tOp (rK X.K) (iO i) (tV X.K fa E)) (tV X.K fb E) oJ))) : PS X st (tG X.K X.H₀ (hX i fa fb fv) E) := h.imp fun D σ H h_ => by
 obtain ⟨B, bg, δ, β, o, β', ok, e, q⟩ := h_
 refine ⟨FxA B bg, vwA δ, β, ok.frA, ok.viewA, ?_⟩
 unfold hX at e
 split at e
 ·rename_i d β1 e1
  refine ⟨.ok d, _, e1, fun v H1 t1 hd => ?_⟩
  obtain ⟨ok1, s1⟩ := ok.to rfl t1
  split at e
  ·rename_i ka β2 e2
   split at e
   ·rename_i kb β3 e3
    split at e
    ·rename_i rows ec
     split at e
     ·rename_i ja ea
      split at e
      ·rename_i ds er
       split at e
       ·rename_i jb eb
        split at e
        ·rename_i hnl
         cases e
         have hd := ok1.noB hnl hd
         obtain ⟨w, h1, a, rs, rfl, hB, ha, nd, rl⟩ := ok1.tell i _ (cg ec)
         refine ⟨_, h1, FxA B bg, vwA δ, β1, ok1.frA, ok1.viewA, .ok (.int ka), β2, e2, fun y H2 t2 hy => ?_⟩
         cases hy
         obtain ⟨ok2, s2⟩ := ok1.to (F := FxA B bg) rfl t2
         obtain ⟨w2, h2, a2, rs2, ew, hB2, ha2, nd2, rl2⟩ := ok2.tell i _ (cg ec)
         rw [h1] at h2
         cases h2
         cases ew
         obtain ⟨r, xs, hr, hp, hx, dl⟩ := rl2.at er
         refine ⟨a, rs2.map V.ref, ka, .ref r, rfl, rfl, SqL.of ha2, ?_, ?_⟩
         ·unfold atI
          rw [List.length_map, ← rl2.len, ea]
          show (rs2.map V.ref)[ja]? = _
          rw [List.getElem?_map, hr]; rfl
         ·refine ⟨FxA B bg, vwA δ, β2, ok2.frA, ok2.viewA, .ok (.int kb), _, e3, fun z H3 t3 hz => ?_⟩
          cases hz
          obtain ⟨ok3, s3⟩ := ok2.to (F := FxA B bg) rfl t3
          obtain ⟨w3, h3, a3, rs3, ew3, hB3, ha3, nd3, rl3⟩ := ok3.tell i _ (cg ec)
          rw [h1] at h3
          cases h3
          cases ew3
          have ers : rs2 = rs3 := by
           have k1 : H3 a = some (.lst (rs2.map V.ref)) := t3.kp a _ ha2 (fun b l y => ⟨fun w => (by subst w; rw [(ok.bgt _ _ y).1] at hB2; cases hB2), fun w => (by subst w; rw [(ok.bgt _ _ y).2] at hB2; cases hB2)⟩)
           rw [ha3] at k1
           have k2 : rs3.map V.ref = rs2.map V.ref := by injection k1 with k1; injection k1
           exact (List.map_inj_right (fun a b q => by cases q; rfl) |>.mp k2).symm
          subst ers
          obtain ⟨r', xs', hr', hp', hx', dl'⟩ := rl3.at er
          rw [hr] at hr'
          cases hr'
          have hv3 : Den X.K (FxB B bg) H3 d v := Den.tr (s3.tr) _ _ (Den.tr (s2.tr) _ _ hd)
          refine ⟨r, xs', kb, jb, rfl, rfl, hx', by rw [← dl'.length]; exact eb, ?_⟩
          obtain ⟨ok4, s4⟩ := ok3.writeRow (ds := ds.set jb d) (xs := xs'.set jb v) h1 hB3 ha3 nd3 rl3 hr hx' (DenL.set jb dl' hv3)
          exact q _ _ _ (s1.trans (s2.trans (s3.trans s4))) ok4
        ·cases e
       ·cases e
      ·cases e
     ·cases e
    ·cases e
   ·cases e
  ·cases e
 ·cases e
def ma (i : Nat) (fa : FD) (fv : FL) : G := fun δ β => match fv (vwA δ) β with
 | some (.ok ds, β1) => match fa (vwA δ) β1 with
  | some (.ok (.int ka), β2) => match δ.getD i none with
   | some (.grd rows) => match ixN rows.length ka with
    | some ja => if (noLs ds && rows.all noLs) = true then some (.nx (δ.set i (some (.grd (rows.set ja ds)))), β2) else none
    | none => none
   | _ => none
  | _ => none
 | _ => none
theorem yv {i : Nat} {fa : FD} {fv : FL} (h : PS X st (fA (tVO X.K fv E) (sw (iO i) (tV X.K fa E) oJ))) : PS X st (tG X.K X.H₀ (ma i fa fv) E) := h.imp fun D σ H h_ => by
 obtain ⟨B, bg, δ, β, o, β', ok, e, q⟩ := h_
 refine ⟨FxA B bg, vwA δ, β, ok.frA, ok.viewA, ?_⟩
 unfold ma at e
 split at e
 ·rename_i ds β1 e1
  refine ⟨.ok ds, _, e1, fun v H1 t1 hv => ?_⟩
  obtain ⟨r, xs, rfl, r0, hr1, dl⟩ := hv
  obtain ⟨ok1, s1⟩ := ok.to rfl t1
  split at e
  ·rename_i ka β2 e2
   split at e
   ·rename_i rows ec
    split at e
    ·rename_i ja ea
     split at e
     ·rename_i hn
      cases e
      rw [Bool.and_eq_true] at hn
      obtain ⟨w, h1, a, rs, rfl, hB, ha, nd, rl⟩ := ok.tell i _ (cg ec)
      refine ⟨_, h1, FxA B bg, vwA δ, β1, ok1.frA, ok1.viewA, .ok (.int ka), _, e2, fun y H2 t2 hy => ?_⟩
      cases hy
      obtain ⟨ok2, s2⟩ := ok1.to (F := FxA B bg) rfl t2
      have nbg : ∀ c, B c ≠ some 1 -> ∀ b l, bg = some (b, l) -> c ≠ b /\ c ≠ l := fun c hc b l e => ⟨fun z => hc (z ▸ (ok.bgt b l e).1), fun z => hc (z ▸ (ok.bgt b l e).2)⟩
      have kk : ∀ c o, H c = some o -> B c ≠ some 1 -> H2 c = some o := fun c o h n => t2.kp c o (t1.kp c o h (nbg c n)) (nbg c n)
      have hBr : B r = none := Classical.byContradiction fun z => ok.fr.occ r z r0
      have hr2 : H2 r = some (.lst xs) := t2.kp r _ hr1 (nbg r (by rw [hBr]; simp))
      have n1 : ∀ c, B c = some (i + 2) -> B c ≠ some 1 := fun c h => by rw [h]; intro z; cases z
      have ha2 := kk a _ ha (n1 a hB)
      have rl2 : RowL X.K (FxB B bg) H2 (fun r => B r = some (i + 2)) rows rs := RowL.tr (s1.trans s2).tr rl fun c ys _ p y => ⟨p, kk c _ y (n1 c p)⟩
      refine ⟨a, rs.map V.ref, ka, ja, rfl, rfl, ha2, by rw [List.length_map, ← rl2.len]; exact ea, ?_⟩
      obtain ⟨B', ok3, s3⟩ := SOk.putRow (i := i) (j := ja) (r := r) (ds := ds) (β1 := β1) (H1 := H1) ok ok2 (s1.trans s2) kk h1 hB ha2 ha nd rl2 r0 hr2 hn.1 (DenL.tr s2.tr _ _ (ok1.noBs hn.1 (DenL.tr Fx.tr_of _ _ dl))) (fun c hc z => by
       obtain ⟨_, ys, y⟩ := rl.all c hc
       rw [y] at z; cases z) (fun w hw => List.all_eq_true.mp hn.2 w hw)
      exact q _ _ _ s3 ok3
     ·cases e
    ·cases e
   ·cases e
  ·cases e
 ·cases e
end
section
variable {X : Cx} {E : St -> XK} {K : Frag} {a b e : Expr} {es : List Expr} {pos : Pos}
def o2 (op : D -> D -> Option (List D)) (f g : FD) : FL := fun δ => M.bind (f δ) fun a => M.bind (g δ) fun b => M.ofO (op a b)
end
def Ite (K : Frag) (l : Addr) : It :=
 ⟨fun i H => ∃ xs x, SqL K H l xs /\ xs[i]? = some x,
  fun i H v H' => ∃ p x, H p = none /\ v = .ref p /\ H' = upd H p (.tup [.int (i : Int), x]) /\ ∀ xs, SqL K H l xs -> xs[i]? = some x,
  fun i H => ∃ xs, SqL K H l xs /\ xs.length = i⟩
theorem sR {P : Program} {w : World} {K : Frag} {elts : List Expr} {x1} {pos : Pos} (l e it : Addr) (nei : e ≠ it) :
  Turn P w K (.Tuple elts x1 pos) (Ite K l) [e, it] e (fun i h => (∃ old, IsEnum h e it (i : Int) old) /\ h.IsListIter it l i) where
 mem := by simp
 obj := fun i h st b hb => by
  obtain ⟨⟨old, ee⟩, si⟩ := st
  simp only [List.mem_cons, List.not_mem_nil, or_false] at hb
  rcases hb with rfl | rfl
  ·exact ⟨_, ee, fun v q => by cases q⟩
  ·obtain ⟨o, q, _, d⟩ := si
   exact ⟨o, q, fun v z => by rw [d] at z; cases z⟩
 keep := fun i h h' st k => by
  obtain ⟨⟨old, ee⟩, si⟩ := st
  exact ⟨⟨old, k e (by simp) _ ee⟩, si.at fun o q => k it (by simp) o q⟩
 item := by
  intro X hP hw hK hc i pins s σ H E I hf st hg
  subst hP hw hK
  obtain ⟨xs, x, q1, hx⟩ := hg
  obtain ⟨⟨old, ee⟩, si⟩ := st
  obtain ⟨is1, r1, p1⟩ := Inv.src (b := true) I q1
  have hd := I.ok.hd hc
  have ne : l ≠ e := Inv.src_ne (b := true) I q1 (hf e (by simp))
  have ni : l ≠ it := Inv.src_ne (b := true) I q1 (hf it (by simp))
  have k1 : i < is1.toArray.size := by
   rw [List.size_toArray, ← r1.length]; exact (List.getElem?_eq_some_iff.mp hx).1
  refine wpAny_pyNext_enum_itemD (Draws.list (show (X.A.in1).handled = none from hd) it l ni is1.toArray) ee ⟨si, p1⟩ k1 nei (by simp [nei, ne.symm]) fun u h' tk pu fo f1 fT sz kp => ?_
  refine ⟨_, rfl, wpAny_letOwnedTupleGo_enum (s := { s with heap := h', toks := tk + 1 }) fo fun h'' ez'' sb => ?_⟩
  replace sb : Heap.SameBut e h' h'' := sb
  have zT : s.heap.objs.size ≠ e := Nat.ne_of_gt (Heap.lt_size ee)
  obtain ⟨u', hu, ru⟩ := r1.get hx
  have eu : u = u' := by
   have : is1[i]? = some u := by simpa using pu
   rw [this] at hu; exact Option.some.inj hu
  subst eu
  have kk : ∀ b o, b ∉ [e, it] -> s.heap.get? b = some o -> h''.get? b = some o := fun b o hb q => by
   simp only [List.mem_cons, List.not_mem_nil, or_false, not_or] at hb
   exact sb.extBut b o hb.1 (kp b o hb.1 hb.2 q)
  have I2 : Inv X pins σ (upd H s.heap.objs.size (.tup [.int (i : Int), x])) { s with heap := h'', toks := tk + 1 } := by
   refine Inv.turnNew I hf kk (Nat.le_refl _) ⟨by show 2 <= sizeLine; decide, [.int i tk, u], .cons ⟨_, rfl⟩ (.cons ru .nil), _, sb.extBut _ _ zT fT, rfl, _, rfl⟩
  refine ⟨.ref s.heap.objs.size, _, I2, rfl, ⟨s.heap.objs.size, x, I.hok.fresh (Nat.le_refl _), rfl, rfl, fun as h1 => by rw [Inv.src_inj (b := true) I h1 q1]; exact hx⟩, ⟨⟨_, by simpa using ez''⟩, ?_⟩, fun b hb => ?_⟩
  ·exact f1.1.at fun o q => sb.extBut _ _ nei.symm q
  ·rw [upd_ne]
   ·exact (hf b hb).1
   ·intro q
    have ol : ∃ o, s.heap.get? b = some o := by
     simp only [List.mem_cons, List.not_mem_nil, or_false] at hb
     rcases hb with rfl | rfl
     ·exact ⟨_, ee⟩
     ·obtain ⟨o, z, _⟩ := si; exact ⟨o, z⟩
    obtain ⟨o, z⟩ := ol
    exact absurd (Heap.lt_size z) (by rw [q]; exact Nat.lt_irrefl _)
 done := by
  intro X hP hw hK hc i pins s σ H E I hf st hg
  subst hP hw hK
  obtain ⟨xs, q1, hl⟩ := hg
  obtain ⟨⟨old, ee⟩, si⟩ := st
  obtain ⟨is1, r1, p1⟩ := Inv.src (b := true) I q1
  have hd := I.ok.hd hc
  have ni : l ≠ it := Inv.src_ne (b := true) I q1 (hf it (by simp))
  have g1 : is1.toArray.size = i := by rw [List.size_toArray, ← r1.length, hl]
  refine wpAny_pyNext_enum_endD (n := is1.toArray.size) (Draws.list (show (X.A.in1).handled = none from hd) it l ni is1.toArray) ee (by rw [g1]; exact ⟨si, p1⟩) fun h' kp => ⟨rfl, ?_⟩
  refine Inv.turnL (t' := s.toks) I hf fun b o hb q => ?_
  simp only [List.mem_cons, List.not_mem_nil, or_false, not_or] at hb
  exact kp b o hb.2 q
 self := fun _ _ _ _ _ st h => by
  obtain ⟨⟨old, ee⟩, si⟩ := st
  exact wpAny_pyIter_enum ee h
section
variable {X : Cx} {E : St -> XK} {K : Frag}
def iEn (K : Frag) (ta : TA) : TI := fun σ H R => ta σ H fun vs H1 => ∃ l xs, vs = [.ref l] /\ SqL K H1 l xs /\ R (Ite K l) H1
theorem xB {a : Expr} {ta : TA} {p pos : Pos} {elts : List Expr} {x1} {tpos : Pos} (hg : Gl X "enumerate") (hm : X.mg "enumerate" = none) (ha : PA X [a] ta) (hs : starEach [a] X.env = [(false, eval a X.env)] := by rfl) :
  PI X (.Tuple elts x1 tpos) (.Call (.Name "enumerate" p) [a] [] pos) (iEn X.K ta) := by
 intro pins s σ H R I h
 refine Call_ (gC I hg hm PyProof.Rows.Boot.«enumerate» (PyProof.Rows.callWith_type1 (thn (ha pos pins s σ H _ I h) fun us s1 ⟨vs, H1, I1, r1, q1⟩ => ?_) (by rw [hs]; rfl) (by rfl)))
 obtain ⟨l, xs, e, q1, q⟩ := q1
 subst e
 cases r1 with
 | cons r rr =>
  cases rr
  cases r
  obtain ⟨is1, v1, p1⟩ := Inv.src (b := true) I1 q1
  refine call_enumerate_list p1 fun h' ee si sz kp => ?_
  refine wpAny_pyIter_enum (s := { s1 with heap := h' }) ee ?_
  have I2 : Inv X pins σ H1 { s1 with heap := h' } := I1.kept (t' := s1.toks) kp
  refine ⟨_, [s1.heap.objs.size + 1, s1.heap.objs.size], _, Ite X.K l, H1, rfl, I2, sR l (s1.heap.objs.size + 1) s1.heap.objs.size (Nat.succ_ne_self _), ⟨⟨_, ee⟩, si⟩, fun c hc => ?_, q⟩
  have hge : s1.heap.objs.size <= c := by
   simp only [List.mem_cons, List.not_mem_nil, or_false] at hc
   rcases hc with rfl | rfl
   ·exact Nat.le_add_right _ _
   ·exact Nat.le_refl _
  exact I1.fpOk hge (I1.hok.fresh hge)
def dY : Nat -> List D -> List D
 | _, [] => []
 | n, x :: xs => .tup [.int (n : Int), x] :: dY (n + 1) xs
theorem nZ : ∀ (n : Nat) (xs : List D), (dY n xs).length = xs.length
 | _, [] => rfl
 | n, x :: xs => by
  show (dY (n + 1) xs).length + 1 = xs.length + 1
  rw [nZ (n + 1) xs]
theorem jZ : ∀ {n : Nat} {xs : List D} {i : Nat} {d : D}, (dY n xs)[i]? = some d -> ∃ x, xs[i]? = some x /\ d = .tup [.int ((n + i : Nat) : Int), x]
 | n, [], i, d, h => by simp [dY] at h
 | n, x :: xs, 0, d, h => by
  simp [dY] at h
  exact ⟨x, rfl, by rw [← h]; simp⟩
 | n, x :: xs, i + 1, d, h => by
  have h' : (dY (n + 1) xs)[i]? = some d := by simpa [dY] using h
  obtain ⟨a, e1, e3⟩ := jZ h'
  exact ⟨a, by simpa using e1, by rw [e3, show n + 1 + i = n + (i + 1) by omega]⟩
def w8 : List D -> Option (List D)
 | [.lst xs] => some (dY 0 xs)
 | _ => none
theorem vA {F : Fx} {H : Hp} {l : Addr} {ds : List D} (h1 : ∀ F2 H2, Tr F H F2 H2 -> ∃ xs, SqL K H2 l xs /\ DenL K F2 H2 ds xs) : ItD K (Ite K l) F H (dY 0 ds) := fun F2 H2 β2 t fr i => by
 obtain ⟨xs, s1, d1⟩ := h1 F2 H2 t
 refine ⟨fun d hd => ?_, fun hi => ?_⟩
 ·obtain ⟨x, e1, rfl⟩ := jZ hd
  obtain ⟨u, hu, du⟩ := d1.get e1
  refine ⟨⟨xs, u, s1, hu⟩, fun z H3 hz => ?_⟩
  obtain ⟨p, u', hp, rfl, rfl, hh⟩ := hz
  have g1 := hh xs s1
  rw [hu] at g1
  cases g1
  rw [Nat.zero_add]
  exact ⟨bN.upd hp, Den.newT fr hp (DenL.cons rfl (DenL.cons du DenL.nil))⟩
 ·rw [nZ] at hi
  exact ⟨xs, s1, by rw [← d1.length, hi]⟩
def rT (g : FL) : FL := bA w8 g
theorem uc {a : Expr} {g : FL} {p pos : Pos} {elts : List Expr} {x1} {tpos : Pos} (hg : Gl X "enumerate") (hm : X.mg "enumerate" = none) (ha : PA X [a] (tVA X.K g E)) (hs : starEach [a] X.env = [(false, eval a X.env)] := by rfl) :
  PI X (.Tuple elts x1 tpos) (.Call (.Name "enumerate" p) [a] [] pos) (iV X.K (rT g) E) :=
 (xB hg hm ha hs).imp fun σ H R h_ => ex6 h_ fun F δ β fr vk h => ⟨F, δ, β, fr, vk, (run.bind (R := DenL X.K F) h).mono fun vs H1 h_ => by
  obtain ⟨ds, β1, t, hd, r1⟩ := h_
  obtain ⟨l, e, k⟩ := run.ofO r1
  unfold w8 at e
  split at e
  ·rename_i xs
   cases e
   obtain ⟨v, rfl, h1⟩ := DenL.one hd
   have z : ∃ a, v = .ref a /\ ∀ F2 H2, Tr F H1 F2 H2 -> ∃ ys, SqL X.K H2 a ys /\ DenL X.K F2 H2 xs ys := by
    obtain ⟨a, ys, rfl, _⟩ := Den.sqL h1
    refine ⟨a, rfl, fun F2 H2 t2 => ?_⟩
    obtain ⟨a', ys', ea, sq, dl⟩ := Den.sqL (Den.tr t2 _ _ h1)
    cases ea
    exact ⟨ys', sq, dl⟩
   obtain ⟨a, rfl, z⟩ := z
   obtain ⟨us, g1, _⟩ := z F H1 (Tr.refl F H1)
   exact ⟨a, us, rfl, g1, k _ H1 (To.refl t.fr) (vA z)⟩
  ·cases e⟩
end
def dH (K : Frag) (fd : FuncData) (ps : List Str) (dd : List D) : Prop := ∃ ds dvs, aQ K fd ps ds /\ ar dvs ds /\ ∀ F H, DenL K F H dd dvs
inductive Sr (α : Type) where
 | kw (j : Nat) | df (a : α)
def Sr.pick {α : Type} (z : α) (ws : List α) : Sr α -> α
 | .kw j => ws.getD j z
 | .df a => a
def gK {α : Type} (z : α) (n k : Nat) (src : List (Sr α)) (us ws : List α) : List α := if us.length = n /\ ws.length = k then us ++ src.map (Sr.pick z ws) else []
inductive SrR {α γ : Type} (R : α -> γ -> Prop) : List (Sr α) -> List (Sr γ) -> Prop where
 | nil : SrR R [] []
 | kw {j : Nat} {a : List (Sr α)} {c : List (Sr γ)} : SrR R a c -> SrR R (.kw j :: a) (.kw j :: c)
 | df {x : α} {y : γ} {a : List (Sr α)} {c : List (Sr γ)} : R x y -> SrR R a c -> SrR R (.df x :: a) (.df y :: c)
theorem ar.getD : ∀ {zs : List V} {ws : List Value} (j : Nat), ar zs ws -> aS (zs.getD j .non) (ws.getD j .none)
 | _, _, _, .nil => rfl
 | _, _, 0, .cons r _ => r
 | _, _, j + 1, .cons _ t => ar.getD j t
theorem SrR.vals {zs : List V} {ws : List Value} (r : ar zs ws) : ∀ {a : List (Sr V)} {c : List (Sr Value)}, SrR aS a c -> ar (a.map (Sr.pick .non zs)) (c.map (Sr.pick .none ws))
 | _, _, .nil => .nil
 | _, _, .kw (j := j) h => .cons (ar.getD j r) (SrR.vals r h)
 | _, _, .df q h => .cons q (SrR.vals r h)
theorem DenL.getD {K : Frag} {F : Fx} {H : Hp} : ∀ {ds : List D} {zs : List V} (j : Nat), DenL K F H ds zs -> Den K F H (ds.getD j .non) (zs.getD j .non)
 | [], zs, j, h => by have q : zs = [] := h; subst q; rfl
 | d :: ds, zs, 0, h => by
  obtain ⟨x, r, e, h1, h2⟩ := h
  subst e; exact h1
 | d :: ds, zs, j + 1, h => by
  obtain ⟨x, r, e, h1, h2⟩ := h
  subst e; exact DenL.getD j h2
theorem SrR.den {K : Frag} {F : Fx} {H : Hp} {ds : List D} {zs : List V} (r : DenL K F H ds zs) : ∀ {a : List (Sr D)} {c : List (Sr V)}, SrR (fun d v => ∀ F H, Den K F H d v) a c -> DenL K F H (a.map (Sr.pick .non ds)) (c.map (Sr.pick .non zs))
 | _, _, .nil => DenL.nil
 | _, _, .kw (j := j) h => DenL.cons (DenL.getD j r) (SrR.den r h)
 | _, _, .df q h => DenL.cons (q F H) (SrR.den r h)
theorem SrR.len {α γ : Type} {R : α -> γ -> Prop} : ∀ {a : List (Sr α)} {c : List (Sr γ)}, SrR R a c -> a.length = c.length
 | _, _, .nil => rfl
 | _, _, .kw h => by rw [List.length_cons, List.length_cons, SrR.len h]
 | _, _, .df _ h => by rw [List.length_cons, List.length_cons, SrR.len h]
structure KwOk (K : Frag) (fd : FuncData) (ps ks : List Str) (n : Nat) (src : List (Sr D)) : Prop where
 ex : ∃ (sv : List (Sr Value)) (sx : List (Sr V)), SrR aS sx sv /\ SrR (fun d v => ∀ F H, Den K F H d v) src sx /\ ∀ (s : Shared) (us ws : List Value), K.In s.heap -> us.length = n -> ws.length = ks.length -> BindsTo s fd ⟨us, ks.zip ws⟩ (ps.zip (us ++ sv.map (Sr.pick .none ws)))
 len : ps.length = n + src.length
 pos : 0 < ps.length
theorem KwOk.kb {K : Frag} {fd : FuncData} {ps ks : List Str} {n : Nat} {src : List (Sr D)} (h : KwOk K fd ps ks n src) : ∃ (sv : List (Sr Value)) (sx : List (Sr V)), SrR (fun d v => ∀ F H, Den K F H d v) src sx /\ KBinds K fd ps ks (gK .none n ks.length sv) (gK .non n ks.length sx) := by
 obtain ⟨sv, sx, r1, r2, b⟩ := h.ex
 refine ⟨sv, sx, r2, fun s us ws KX hl => ?_, fun {vs us zs ws} h1 h2 => ?_⟩
 ·unfold gK at hl ⊢
  split at hl
  ·rename_i q
   rw [if_pos q]
   exact b s us ws KX q.1 q.2
  ·exact absurd hl (by have := h.pos; simp; omega)
 ·unfold gK
  by_cases q : vs.length = n /\ zs.length = ks.length
  ·rw [if_pos q, if_pos (by rw [← h1.length, ← h2.length]; exact q)]
   exact h1.append (SrR.vals h2 r1)
  ·rw [if_neg q, if_neg (by rw [← h1.length, ← h2.length]; exact q)]
   exact .nil
section
variable {X : Cx} {E : St -> XK} {e : Expr} {es : List Expr} {pos p kpos : Pos} {x : Str} {k n : Nat} {f : Addr} {fd : FuncData} {ps ks : List Str} {kws : List Keyword} {nm : Option Str}
def ul (m : List D -> M D) (g : FL) (dd : List D) : FD := fun δ => M.bind (g δ) fun as => m (as ++ dd)
theorem xm {m : List D -> M D} {g : FL} {dd : List D} (G : FnOk X.prog X.w X.K X.mg X.base (CXE X.prog X.w) k f fd ps (spF X.K n m)) (hr : Room k X.A) (hg : Gl X x) (hm : X.mg x = some (.ref f)) (hk : keepIn X.K (.ref f) = true) (hb : dH X.K fd ps dd) (hx : bJ (CXE X.prog X.w) X E)
  (ha : PA X (e :: es) (tVA X.K g E)) (hn : ∀ δ β r β', g δ β = some (.ok r, β') -> r.length + dd.length = n) (hdb : (x == ("__debug__" : Str)) = false := by decide) (he : starEach (e :: es) X.env = (false, eval e X.env) :: starEach es X.env := by rfl) (hpl : (backTo pos (starEach es X.env)).any (·.1) = false := by rfl) :
  PE X (.Call (.Name x p) (e :: es) [] pos) (tV X.K (ul m g dd) E) := by
 obtain ⟨ds, dvs, b, rv, rd⟩ := hb
 refine (kr G hr hg hm hk b rv hx ha hdb he hpl).imp fun σ H Q h_ => ex6 h_ fun F δ β fr vk r => ⟨F, δ, β, fr, vk, ?_⟩
 obtain ⟨r0, β0, e0, h0⟩ := run.bind (R := DenL X.K F) r
 refine ⟨r0, β0, e0, ?_⟩
 cases r0 with
 | error C => exact h0
 | ok as =>
  intro vs H1 t hd
  obtain ⟨d', β1, t1, hd1, r1⟩ := h0 vs H1 t hd
  have hl := hn _ _ _ _ e0
  have hz := (rd F H1).length
  refine ⟨by rw [List.length_append, ← hd.length, ← hz, hl], F, d' ++ dd, β1, t1.fr, DenL.append hd1 (rd F H1), run.toE r1⟩
theorem lB : PK X [] (tVA X.K ah E) := fun pos pins s σ H Q I h_ => by obtain ⟨F, δ, β, fr, vk, r⟩ := h_; exact yE pos pins s σ H Q I (run.ret fr r DenL.nil)
theorem kg {f : FD} {g : FL} (ha : PE X e (tV X.K f E)) (hr : PK X kws (tVA X.K g E)) : PK X (⟨nm, e, kpos⟩ :: kws) (tVA X.K (ac f g) E) := fun pos pins s σ H Q I ⟨F, δ, β, fr, vk, r⟩ =>
 xz ha hr pos pins s σ H Q I ⟨F, δ, β, fr, vk, (run.bind (R := Den X.K F) r).mono fun v H1 ⟨d, β1, t, hd, r1⟩ =>
  ⟨F, δ, β1, t.fr, vk.tr (t.tr fr), (run.bind (R := DenL X.K F) r1).mono fun vs H2 h_ => ex5 h_ fun ds β2 t2 hds r2 => run.ret t2.fr r2 (DenL.cons (Den.tr (t2.tr t.fr) _ _ hd) hds)⟩⟩
def jX (m : List D -> M D) (g gk : FL) (src : List (Sr D)) : FD := fun δ => M.bind (g δ) fun as => M.bind (gk δ) fun ks => m (as ++ src.map (Sr.pick .non ks))
theorem qm {m : List D -> M D} {g gk : FL} {src : List (Sr D)} {n1 : Nat} (G : FnOk X.prog X.w X.K X.mg X.base (CXE X.prog X.w) k f fd ps (spF X.K n m)) (hr : Room k X.A) (hg : Gl X x) (hm : X.mg x = some (.ref f)) (hk : keepIn X.K (.ref f) = true) (hb : KwOk X.K fd ps ks n1 src) (hx : bJ (CXE X.prog X.w) X E)
  (ha : PA X (e :: es) (tVA X.K g E)) (hkw : PK X kws (tVA X.K gk E)) (hn : ∀ δ β r β', g δ β = some (.ok r, β') -> r.length = n1) (hn2 : ∀ δ β r β', gk δ β = some (.ok r, β') -> r.length = ks.length) (h3 : n1 + src.length = n)
  (hall : (backToKw pos (keywordEach kws X.env)).all (·.1.isSome) = true := by rfl) (hks : (backToKw pos (keywordEach kws X.env)).filterMap (·.1) = ks := by rfl)
  (hdb : (x == ("__debug__" : Str)) = false := by decide) (he : starEach (e :: es) X.env = (false, eval e X.env) :: starEach es X.env := by rfl)
  (hpl : ((backTo pos (starEach (e :: es) X.env)).any (·.1) || (backToKw pos (keywordEach kws X.env)).any (·.1.isNone)) = false := by rfl) :
  PE X (.Call (.Name x p) (e :: es) kws pos) (tV X.K (jX m g gk src) E) := by
 obtain ⟨sv, sx, rd, kb⟩ := hb.kb
 refine (u8 G hr hg hm hk kb hx ha hkw hall hks hdb he hpl).imp fun σ H Q h_ => ex6 h_ fun F δ β fr vk r => ⟨F, δ, β, fr, vk, ?_⟩
 obtain ⟨r0, β0, e0, h0⟩ := run.bind (R := DenL X.K F) r
 refine ⟨r0, β0, e0, ?_⟩
 cases r0 with
 | error C => exact h0
 | ok as =>
  intro vs H1 t hd
  obtain ⟨d', β1, t1, hd1, r1⟩ := h0 vs H1 t hd
  refine ⟨F, δ, β1, t1.fr, vk.tr (t1.tr fr), ?_⟩
  obtain ⟨q0, β2, e2, h2⟩ := run.bind (R := DenL X.K F) r1
  refine ⟨q0, β2, e2, ?_⟩
  cases q0 with
  | error C => exact h2
  | ok bs =>
   intro zs H2 t2 hz
   obtain ⟨d2, β3, t3, hd2, r3⟩ := h2 zs H2 t2 hz
   have l1 := hn _ _ _ _ e0
   have l2 := hn2 _ _ _ _ e2
   have g1 : gK V.non n1 ks.length sx vs zs = vs ++ sx.map (Sr.pick .non zs) := if_pos ⟨by rw [← hd.length, l1], by rw [← hz.length, l2]⟩
   rw [g1]
   have hda : DenL X.K F H2 d' vs := DenL.tr (t3.tr t1.fr) _ _ hd1
   refine ⟨by rw [List.length_append, List.length_map, ← hd.length, l1, ← rd.len, h3], F, d' ++ src.map (Sr.pick .non d2), β3, t3.fr, DenL.append hda (SrR.den hd2 rd), run.toE r3⟩
end
section
variable {X : Cx} {E : St -> XK} {e : Expr} {es : List Expr} {pos p kpos : Pos} {x : Str} {k n : Nat} {f : Addr} {fd : FuncData} {ps ks : List Str}
end
section
variable {X : Cx} {E : St -> XK} {K : Frag} {st : Stmt}
end
def Gw (g : G) (δ : Ds) (β : Bg) (Q : Out -> Bg -> Prop) : Prop := ∃ o β', g δ β = some (o, β') /\ Q o β'
section
variable {g h a b g1 g2 : G} {δ δ1 : Ds} {β β1 β2 β3 : Bg} {Q R : Out -> Bg -> Prop} {i : Nat} {f fa fb fv : FD} {fl : FL} {fg : Dn -> M (List (List D))} {d x y z : D} {ds as : List D} {t : Dn -> M Bool} {c : Bool} {C : Addr} {K : Frag}
theorem Gw.mono (k : Gw g δ β R) (q : ∀ o β, R o β -> Q o β) : Gw g δ β Q := let ⟨o, β', e, r⟩ := k; ⟨o, β', e, q _ _ r⟩
theorem xu : ak g gNil = g := by
 funext δ β
 unfold ak gNil
 split
 ·rename_i δ1 β1 e; exact e.symm
 ·rfl
theorem aL (k : Gw (ak g gNil) δ β Q) : Gw g δ β Q := by rw [xu] at k; exact k
theorem eh (q : Q (.nx δ) β) : Gw gNil δ β Q := ⟨_, _, rfl, q⟩
theorem dB (e : g δ β = some (.nx δ1, β1)) (k : Gw h δ1 β1 Q) : Gw (ak g h) δ β Q := by
 obtain ⟨o, β', e', q⟩ := k
 exact ⟨o, β', by unfold ak; rw [e]; exact e', q⟩
theorem eM (k : Gw (ak a (ak b h)) δ β Q) : Gw (ak (ak a b) h) δ β Q := by
 obtain ⟨o, β', e', q⟩ := k
 refine ⟨o, β', ?_, q⟩
 rw [← e']
 unfold ak
 split <;> rename_i e <;> (split at e <;> simp_all)
theorem br (k : Gw h δ β Q) : Gw (ak gNil h) δ β Q := dB rfl k
theorem bq (e : f (vw δ) β = some (.ok d, β1)) (k : Gw h (δ.set i (some (.sh d))) β1 Q) : Gw (ak (ba i f) h) δ β Q := dB (by unfold ba; rw [e]) k
theorem yh (e : f (vwA δ) β = some (.ok d, β1)) (k : Gw h (δ.set i (some (.sh d))) β1 Q) (hf : dW d = true := by rfl) : Gw (ak (ff i f) h) δ β Q := dB (by unfold ff; simp only [e, hf, if_true]) k
theorem oW (e : g δ β = some (.ex C δ1, β1)) (q : Q (.ex C δ1) β1) : Gw (ak g h) δ β Q := ⟨_, _, by unfold ak; rw [e], q⟩
theorem yg (e : f (vw δ) β = some (.error C, β1)) (q : Q (.ex C δ) β1) : Gw (ak (ba i f) h) δ β Q := oW (by unfold ba; rw [e]) q
theorem jw (e : f (vwA δ) β = some (.ok d, β1)) (k : Gw h δ β1 Q) : Gw (ak (bV f) h) δ β Q := dB (by unfold bV; rw [e]) k
theorem xg (e : f (vwA δ) β = some (.error C, β1)) (q : Q (.ex C δ) β1) : Gw (ak (bV f) h) δ β Q := oW (by unfold bV; rw [e]) q
theorem dI (e : t (vwA δ) β = some (.ok c, β1)) (k : Gw (ak (if c = true then g1 else g2) h) δ β1 Q) : Gw (ak (gIf t g1 g2) h) δ β Q := by
 obtain ⟨o, β', e', q⟩ := k
 refine ⟨o, β', ?_, q⟩
 rw [← e']
 unfold ak gIf
 rw [e]
 cases c <;> rfl
theorem oF (e : t (vwA δ) β = some (.ok true, β1)) (k : Gw (ak g1 h) δ β1 Q) : Gw (ak (gIf t g1 g2) h) δ β Q := dI e k
theorem eQ (e : t (vwA δ) β = some (.ok false, β1)) (k : Gw (ak g2 h) δ β1 Q) : Gw (ak (gIf t g1 g2) h) δ β Q := dI e k
theorem bn (e : f (vwA δ) β = some (.ok d, β1)) (q : Q (.rt d) β1) : Gw (ak (aO f) h) δ β Q := ⟨_, _, by unfold ak aO; rw [e], q⟩
theorem qj {rows : List (List D)} (e : fg (vw δ) β = some (.ok rows, β1)) (q : Q (.rg rows) β1) : Gw (ak (iE fg) h) δ β Q := ⟨_, _, by unfold ak iE; rw [e], q⟩
theorem eK (e : fl (vwA δ) β = some (.ok ds, β1)) (q : Q (.ex C δ) β1) : Gw (ak (bI C fl) h) δ β Q := oW (by unfold bI; rw [e]) q
theorem rk {rows : List (List D)} (e : fg (vw δ) β = some (.ok rows, β1)) (hn : rows.all noLs = true) (k : Gw h (δ.set i (some (.grd rows))) β1 Q) : Gw (ak (jU i fg) h) δ β Q := dB (by unfold jU; simp only [e, hn, if_true]) k
theorem wH {rows : List (List D)} {ka kb : Int} {ja jb : Nat} (e1 : fv (vwA δ) β = some (.ok d, β1)) (e2 : fa (vwA δ) β1 = some (.ok (.int ka), β2)) (e3 : fb (vwA δ) β2 = some (.ok (.int kb), β3)) (eg : δ.getD i none = some (.grd rows))
  (h1 : ixN rows.length ka = some ja) (h2 : rows[ja]? = some ds) (h3 : ixN ds.length kb = some jb) (hn : noL d = true) (k : Gw h (δ.set i (some (.grd (rows.set ja (ds.set jb d))))) β3 Q) : Gw (ak (hX i fa fb fv) h) δ β Q :=
 dB (by unfold hX; simp only [e1, e2, e3, eg, h1, h2, h3, hn, if_true]) k
theorem AD {rows : List (List D)} {ka : Int} {ja : Nat} (e1 : fl (vwA δ) β = some (.ok ds, β1)) (e2 : fa (vwA δ) β1 = some (.ok (.int ka), β2)) (eg : δ.getD i none = some (.grd rows)) (h1 : ixN rows.length ka = some ja) (hn : noLs ds = true) (hm : rows.all noLs = true)
  (k : Gw h (δ.set i (some (.grd (rows.set ja ds)))) β2 Q) : Gw (ak (ma i fa fl) h) δ β Q := dB (by unfold ma; simp only [e1, e2, eg, h1, hn, hm, Bool.and_self, if_true]) k
theorem sO {cs : List D} {ka : Int} {ja : Nat} (e1 : fv (vw δ) β = some (.ok d, β1)) (e2 : fa (vwA δ) β1 = some (.ok (.int ka), β2)) (eg : δ.getD i none = some (.own cs)) (h1 : ixN cs.length ka = some ja) (k : Gw h (δ.set i (some (.own (cs.set ja d)))) β2 Q) : Gw (ak (kz i fa fv) h) δ β Q :=
 dB (by unfold kz; simp only [e1, e2, eg, h1]) k
theorem AE {tg : TgS} (e : f (vw δ) β = some (.ok d, β1)) (e2 : tg d δ = some δ1) (k : Gw h δ1 β1 Q) : Gw (ak (gL f tg) h) δ β Q := dB (by unfold gL; simp only [e, e2, Option.map_some]) k
def Tn (I : Ds -> Bg -> Prop) (h : G) (Q : Out -> Bg -> Prop) : Out -> Bg -> Prop := fun o β => match o with
 | .nx δ => I δ β
 | .ct δ => I δ β
 | .bk δ => Gw h δ β Q
 | o => Q o β
theorem kf {it : FL} {tg : TgS} (e : it (vw δ) β = some (.ok ds, β1)) (Iv : Nat -> Ds -> Bg -> Prop) (h0 : Iv 0 δ β1) (step : ∀ i d δ β, ds[i]? = some d -> Iv i δ β -> ∃ δ1, tg d δ = some δ1 /\ Gw g δ1 β (Tn (Iv (i + 1)) h Q)) (k : ∀ δ β, Iv ds.length δ β -> Gw h δ β Q) :
  Gw (ak (ie it tg g) h) δ β Q := by
 have gen : ∀ (es : List D) (j : Nat) (δ : Ds) (β : Bg), es = ds.drop j -> j + es.length = ds.length -> Iv j δ β -> Gw (ak (gLp tg g es) h) δ β Q := by
  intro es
  induction es with
  | nil =>
   intro j δ β _ hl hv
   simp at hl
   exact dB (g := gLp tg g []) rfl (k δ β (hl ▸ hv))
  | cons d es ih =>
   intro j δ β he hl hv
   have hj : ds[j]? = some d := by
    have := congrArg (fun l => l[0]?) he
    simpa [List.getElem?_drop] using this.symm
   obtain ⟨δ1, e1, o, β2, e2, q⟩ := step j d δ β hj hv
   have he' : es = ds.drop (j + 1) := by
    have := congrArg List.tail he
    simpa [List.tail_drop] using this
   have go : ∀ δ2, Iv (j + 1) δ2 β2 -> Gw (ak (gLp tg g es) h) δ2 β2 Q := fun δ2 hv2 => ih (j + 1) δ2 β2 he' (by simp at hl; omega) hv2
   have lift : ∀ {r : G} {δ2 : Ds}, Gw (ak r h) δ2 β2 Q -> gLp tg g (d :: es) δ β = r δ2 β2 -> Gw (ak (gLp tg g (d :: es)) h) δ β Q := fun {r δ2} ⟨o', β', e', q'⟩ er => ⟨o', β', by rw [← e']; unfold ak; rw [er], q'⟩
   cases o with
   | nx δ2 => exact lift (r := gLp tg g es) (go δ2 q) (by rw [gLp]; simp only [e1, e2])
   | ct δ2 => exact lift (r := gLp tg g es) (go δ2 q) (by rw [gLp]; simp only [e1, e2])
   | bk δ2 => exact lift (r := gNil) (br q) (by rw [gLp]; simp only [e1, e2]; rfl)
   | rt d' => exact ⟨_, β2, by unfold ak; rw [gLp]; simp only [e1, e2], q⟩
   | rg d' => exact ⟨_, β2, by unfold ak; rw [gLp]; simp only [e1, e2], q⟩
   | ex C δ2 => exact ⟨_, β2, by unfold ak; rw [gLp]; simp only [e1, e2], q⟩
 obtain ⟨o, β', e', q⟩ := gen ds 0 δ β1 (by simp) (by simp) h0
 refine ⟨o, β', ?_, q⟩
 rw [← e']
 unfold ak ie
 rw [e]
theorem pZ {n : Nat} {S : Except Addr D -> Bg -> Prop} (k : Gw g (stD n ds) β (fun o β' => match o with | .rt d => S (.ok d) β' | .nx _ => S (.ok .non) β' | .ex C _ => S (.error C) β' | _ => False)) : ∃ r β', aP n g ds β = some (r, β') /\ S r β' := by
 obtain ⟨o, β', e, q⟩ := k
 cases o with
 | rt d => exact ⟨.ok d, β', by unfold aP; rw [e], q⟩
 | nx δ => exact ⟨.ok .non, β', by unfold aP; rw [e], q⟩
 | ex C δ => exact ⟨.error C, β', by unfold aP; rw [e], q⟩
 | _ => exact q.elim
theorem ya {n : Nat} {S : List (List D) -> Bg -> Prop} (k : Gw g (stD n ds) β (fun o β' => match o with | .rg d => S d β' | _ => False)) : ∃ r β', je n g ds β = some (.ok r, β') /\ S r β' := by
 obtain ⟨o, β', e, q⟩ := k
 cases o with
 | rg d => exact ⟨d, β', by unfold je; rw [e], q⟩
 | _ => exact q.elim
theorem bb {n : Nat} {r : Except Addr D} (k : Gw g (stD n ds) β (fun o β' => β' = β /\ (match o with | .rt d => r = .ok d | .nx _ => r = .ok .non | .ex C _ => r = .error C | _ => False))) : aP n g ds β = some (r, β) := by
 obtain ⟨r', β', e, q1, q2⟩ := pZ (S := fun r' β' => β' = β /\ r = r') (n := n) (ds := ds) (β := β) (k.mono fun o β' h => by
  cases o <;> first | exact h | exact h.2)
 subst q1 q2
 exact e
theorem q8 {n : Nat} {r : List (List D)} (k : Gw g (stD n ds) β (fun o β' => β' = β /\ (match o with | .rg d => r = d | _ => False))) : je n g ds β = some (.ok r, β) := by
 obtain ⟨r', β', e, q1, q2⟩ := ya (S := fun r' β' => β' = β /\ r = r') (n := n) (ds := ds) (β := β) (k.mono fun o β' h => by
  cases o <;> first | exact h | exact h.2)
 subst q1 q2
 exact e
theorem aw {m : List D -> M D} {r : Except Addr D × Bg} {δ : Dn} (e1 : fl δ β = some (.ok as, β1)) (e2 : m as β1 = some r) : au m fl δ β = some r := by unfold au M.bind; rw [e1]; exact e2
theorem qi {m : List D -> M (List (List D))} {r : Except Addr (List (List D)) × Bg} {δ : Dn} (e1 : fl δ β = some (.ok as, β1)) (e2 : m as β1 = some r) : jY m fl δ β = some r := by unfold jY M.bind; rw [e1]; exact e2
theorem x_2 {op : D -> D -> Option D} {δ : Dn} (e1 : fa δ β = some (.ok x, β1)) (e2 : fb δ β1 = some (.ok y, β2)) (e3 : op x y = some z) : f2 op fa fb δ β = some (.ok z, β2) := by unfold f2 M.bind; rw [e1]; simp only [e2, M.ofO, e3]
theorem x_1 {op : D -> Option D} {δ : Dn} (e1 : fa δ β = some (.ok x, β1)) (e3 : op x = some z) : f1 op fa δ β = some (.ok z, β1) := by unfold f1 M.bind; rw [e1]; simp only [M.ofO, e3]
theorem aJ {op : List D -> Option D} {δ : Dn} (e1 : fl δ β = some (.ok as, β1)) (e3 : op as = some z) : ai op fl δ β = some (.ok z, β1) := by unfold ai M.bind; rw [e1]; simp only [M.ofO, e3]
theorem aj {δ : Dn} (e1 : fa δ β = some (.ok x, β1)) (e2 : fl δ β1 = some (.ok as, β2)) : ac fa fl δ β = some (.ok (x :: as), β2) := by unfold ac M.bind; rw [e1]; simp only [e2, M.ret]
theorem fu {op : List D -> Option (List D)} {δ : Dn} (e1 : fl δ β = some (.ok as, β1)) (e2 : op as = some ds) : bA op fl δ β = some (.ok ds, β1) := by unfold bA M.bind; rw [e1]; simp only [e2, M.ofO]
theorem jv {δ : Dn} (e1 : fa δ β = some (.ok x, β1)) (e2 : eW x = some ds) : bc fa δ β = some (.ok ds, β1) := by unfold bc M.bind; rw [e1]; simp only [e2, M.ofO]
theorem x_B {δ : Dn} (e1 : fa δ β = some (.ok (.bl c), β1)) : fB fa δ β = some (.ok c, β1) := by unfold fB M.bind; rw [e1]; rfl
theorem cJ {δ : Dn} (e1 : fa δ β = some (.ok x, β1)) (e2 : iN x = some c) : bZ fa δ β = some (.ok c, β1) := by unfold bZ M.bind; rw [e1]; simp only [M.ofO, e2]
theorem gj {δ : Dn} (e1 : t δ β = some (.ok c, β1)) : bW t δ β = some (.ok (!c), β1) := by unfold bW M.bind; rw [e1]; rfl
theorem bU (ok : β.ok) {lot : Int} (h0 : 0 < lot) (h1 : lot < 1073741824) : ∃ v β', bO [.bag, .int lot] β = some (.ok (.int v), β') /\ 0 <= v /\ v < lot /\ β'.ok := by
 obtain ⟨a0, a1, ok1⟩ := qz ok h0
 exact ⟨_, _, vm ok h0 h1, a0, a1, ok1⟩
theorem fY {n : Nat} {k : Int} (h0 : 0 <= k) (h1 : k < n) : ixN n k = some k.toNat := by unfold ixN; rw [if_pos h0, if_pos h1]
theorem jS {xs : List D} {k : Int} {d : D} (h0 : 0 <= k) (h : xs[k.toNat]? = some d) : ixD (.lst xs) (.int k) = some d := by
 have hl : k.toNat < xs.length := (List.getElem?_eq_some_iff.mp h).1
 show atI xs k = some d
 unfold atI
 rw [fY h0 (by omega)]
 exact h
theorem ix0 {x : D} {xs : List D} : ixD (.lst (x :: xs)) (.int 0) = some x := jS (by decide) rfl
theorem sk {x y : D} : ixD (.tup [x, y]) (.int 0) = some x := rfl
theorem pN {x y : D} : ixD (.tup [x, y]) (.int 1) = some y := rfl
end
section
variable {β β1 β2 : Bg} {f g h i : FD} {t u : Dn -> M Bool} {δ : Dn} {c e : Bool} {x y z w : Int} {d : D}
theorem Az (e1 : t δ β = some (.ok c, β)) (e2 : u δ β = some (.ok e, β)) : db t u δ β = some (.ok (c || e), β) := by
 unfold db M.bind; rw [e1]; cases c <;> simp [M.ret, e2]
theorem wG (e1 : t δ β = some (.ok false, β1)) (e2 : u δ β1 = some (.ok e, β2)) : db t u δ β = some (.ok e, β2) := by
 unfold db M.bind; rw [e1]; simp [e2]
theorem le_int : leD (.int x) (.int y) = some (.bl (decide (x <= y))) := rfl
theorem lt_int : ltD (.int x) (.int y) = some (.bl (decide (x < y))) := rfl
theorem gt_int : gtD (.int x) (.int y) = some (.bl (decide (y < x))) := rfl
theorem mv (e1 : f δ β = some (.ok (.int x), β)) (e2 : g δ β = some (.ok (.int y), β)) (e3 : h δ β = some (.ok (.int z), β)) : bQ leD leD f g h δ β = some (.ok (.bl (decide (x <= y) && decide (y <= z))), β) := by
 unfold bQ M.bind
 rw [e1]
 simp only [e2, le_int, M.ofO, asB]
 by_cases q : x <= y
 ·simp only [q, decide_true, if_true, e3, le_int, Bool.true_and]
 ·simp only [q, decide_false, Bool.false_eq_true, if_false, M.ret, Bool.false_and]
theorem uI (e1 : f δ β = some (.ok (.int x), β)) (e2 : g δ β = some (.ok (.int y), β)) (e3 : h δ β = some (.ok (.int z), β)) (e4 : i δ β = some (.ok (.int w), β)) : iF leD leD leD f g h i δ β = some (.ok (.bl (decide (x <= y) && decide (y <= z) && decide (z <= w))), β) := by
 unfold iF w6 M.bind
 rw [e1]
 simp only [e2, le_int, M.ofO, asB]
 by_cases q : x <= y
 ·simp only [q, decide_true, if_true, e3, le_int, Bool.true_and]
  by_cases q2 : y <= z
  ·simp only [q2, decide_true, if_true, e4, le_int, Bool.true_and]
  ·simp only [q2, decide_false, Bool.false_eq_true, if_false, M.ret, Bool.false_and]
 ·simp only [q, decide_false, Bool.false_eq_true, if_false, M.ret, Bool.false_and]
theorem tQ {x : Int} (h0 : -1000000 <= x) (h1 : x <= 1000000) : x.natAbs.log2 < 1920 := by
 have h : x.natAbs < 2 ^ 20 := by omega
 by_cases z : x.natAbs = 0
 ·rw [z]; decide
 ·have := (Nat.log2_lt z).mpr h
  omega
theorem gw {j : Dn -> M Unit} (e1 : f δ β = some (.ok (.int x), β)) (h0 : -1000000 <= x) (h1 : x <= 1000000) (e2 : j δ β = some (.ok (), β)) : bM f j δ β = some (.ok (), β) := by
 unfold bM M.bind
 rw [e1]
 simp only [tQ h0 h1, if_true, e2]
theorem ik {j : Dn -> M Unit} (e1 : j δ β = some (.ok (), β)) : cD j δ β = some (.ok .txt, β) := by
 unfold cD M.bind; rw [e1]; rfl
end
theorem rj {g h : G} {δ : Ds} {β : Bg} {Q : Out -> Bg -> Prop} (P : Ds -> Bg -> Prop) (k1 : Gw g δ β (fun o β1 => ∃ δ1, o = .nx δ1 /\ P δ1 β1)) (k2 : ∀ δ1 β1, P δ1 β1 -> Gw h δ1 β1 Q) : Gw (ak g h) δ β Q := by
 obtain ⟨o, β1, e, δ1, rfl, p⟩ := k1
 exact dB e (k2 δ1 β1 p)
theorem il {δ : Ds} {β : Bg} {P : Ds -> Bg -> Prop} (p : P δ β) : Gw gNil δ β (fun o β1 => ∃ δ1, o = .nx δ1 /\ P δ1 β1) := eh ⟨_, rfl, p⟩
theorem qh {m : List D -> M D} {r : Except Addr D × Bg} {δ : Dn} {fl fk : FL} {β β1 β2 : Bg} {as ks : List D} {src : List (Sr D)} (e1 : fl δ β = some (.ok as, β1)) (e3 : fk δ β1 = some (.ok ks, β2)) (e2 : m (as ++ src.map (Sr.pick .non ks)) β2 = some r) : jX m fl fk src δ β = some r := by unfold jX; rw [M.bind_ok e1, M.bind_ok e3]; exact e2
abbrev gI (rows : LI) : List (List D) := rows.map fun r => r.map D.int
abbrev lG (rows : List (List D)) : D := .lst (rows.map D.lst)
abbrev aK (rows : LI) : D := lG (gI rows)
def pD (p : Int × Int) : D := .tup [.int p.1, .int p.2]
abbrev gP (b : LP) : List (List D) := b.map fun r => r.map pD
abbrev aF (b : LP) : D := lG (gP b)
def Shp {α : Type} (r c : Nat) (m : List (List α)) : Prop := m.length = r /\ ∀ row ∈ m, row.length = c
def tot (rows : LI) : Int := (rows.map List.sum).sum
theorem bw {n : Nat} (h : n <= 1000) : n <= sizeLine := Nat.le_trans h (by decide)
theorem nT : ∀ r : List Int, noLs (r.map D.int) = true
 | [] => rfl
 | x :: r => by
  show (noL (.int x) && noLs (r.map D.int)) = true
  rw [nT r]; rfl
theorem iT : ∀ r : List (Int × Int), noLs (r.map pD) = true
 | [] => rfl
 | x :: r => by
  show (noL (pD x) && noLs (r.map pD)) = true
  rw [iT r]; rfl
theorem pI (b : LP) : (gP b).all noLs = true := by
 rw [List.all_eq_true]
 intro x hx
 obtain ⟨r, _, rfl⟩ := List.mem_map.mp hx
 exact iT r
theorem Shp.set {α : Type} {r c i j : Nat} {m : List (List α)} {row : List α} {v : α} (h : Shp r c m) (hr : m[i]? = some row) : Shp r c (m.set i (row.set j v)) := ⟨by rw [List.length_set, h.1], fun x hx => by
 rcases List.mem_or_eq_of_mem_set hx with hx | rfl
 ·exact h.2 x hx
 ·rw [List.length_set]; exact h.2 row (List.mem_of_getElem? hr)⟩
theorem Shp.at {α : Type} {r c i : Nat} {m : List (List α)} (h : Shp r c m) (hi : i < r) : ∃ row, m[i]? = some row /\ row.length = c := by
 have hl : i < m.length := by rw [h.1]; exact hi
 exact ⟨m[i], List.getElem?_eq_getElem hl, h.2 _ (List.getElem_mem hl)⟩
theorem xa {α : Type} {l : List α} {i : Nat} (h : i < l.length) : ∃ x, l[i]? = some x := ⟨l[i], List.getElem?_eq_getElem h⟩
theorem kh : ∀ {xs : List Int} {j : Nat} {x v : Int}, xs[j]? = some x -> (xs.set j v).sum = xs.sum - x + v
 | [], j, x, v, h => by simp at h
 | y :: xs, 0, x, v, h => by
  simp at h; subst h
  simp only [List.set_cons_zero, List.sum_cons]; omega
 | y :: xs, j + 1, x, v, h => by
  have h' : xs[j]? = some x := by simpa using h
  simp only [List.set_cons_succ, List.sum_cons, kh h']; omega
theorem xp {rows : LI} {i j : Nat} {row : List Int} {x v : Int} (h1 : rows[i]? = some row) (h2 : row[j]? = some x) : tot (rows.set i (row.set j v)) = tot rows - x + v := by
 unfold tot
 rw [List.map_set, kh (x := row.sum) (by rw [List.getElem?_map, h1]; rfl), kh h2]
 omega
theorem yZ {rows : LI} {i j : Nat} {row : List Int} {v : Int} (h : ∀ r ∈ rows, ∀ x ∈ r, 0 <= x) (hr : rows[i]? = some row) (hv : 0 <= v) : ∀ r ∈ rows.set i (row.set j v), ∀ x ∈ r, 0 <= x := fun r hr' x hx => by
 rcases List.mem_or_eq_of_mem_set hr' with hr' | rfl
 ·exact h r hr' x hx
 ·rcases List.mem_or_eq_of_mem_set hx with hx | rfl
  ·exact h row (List.mem_of_getElem? hr) x hx
  ·exact hv
theorem jC : ∀ {xs : List Int}, (∀ x ∈ xs, 0 <= x) -> 0 <= xs.sum
 | [], _ => by simp
 | y :: xs, h => by
  have := jC (xs := xs) fun x hx => h x (List.mem_cons_of_mem _ hx)
  have := h y List.mem_cons_self
  simp only [List.sum_cons]; omega
theorem pL : ∀ {xs : List Int}, (∀ x ∈ xs, 0 <= x) -> ∀ x ∈ xs, x <= xs.sum
 | [], _, x, hx => by cases hx
 | y :: xs, h, x, hx => by
  have := jC (xs := xs) fun x hx => h x (List.mem_cons_of_mem _ hx)
  have := h y List.mem_cons_self
  rcases List.mem_cons.mp hx with rfl | hx
  ·simp only [List.sum_cons]; omega
  ·have := pL (xs := xs) (fun x hx => h x (List.mem_cons_of_mem _ hx)) x hx
   simp only [List.sum_cons]; omega
theorem y7 {rows : LI} (h : ∀ r ∈ rows, ∀ x ∈ r, 0 <= x) : ∀ r ∈ rows, ∀ x ∈ r, x <= tot rows := fun r hr x hx => by
 have h1 := pL (h r hr) x hx
 have h2 := pL (xs := rows.map List.sum) (fun s hs => by
  obtain ⟨q, hq, rfl⟩ := List.mem_map.mp hs
  exact jC (h q hq)) r.sum (List.mem_map.mpr ⟨r, hr, rfl⟩)
 unfold tot
 omega
structure Tab (r c : Nat) (rows : LI) : Prop where
 shp : Shp r c rows
 nn : ∀ row ∈ rows, ∀ x ∈ row, 0 <= x
 tot : tot rows <= 40
 r0 : 1 <= r
 r1 : r <= 4
 c0 : 1 <= c
 c1 : c <= 6
theorem qp (ns : List Int) : km [.lst (ns.map D.int)] = some (.int ns.sum) := by
 show ((fc (ns.map D.int)).map fun l => D.int l.sum) = _
 have : ∀ ns : List Int, fc (ns.map D.int) = some ns := fun ns => by
  induction ns with
  | nil => rfl
  | cons n ns ih => simp [fc, ih]
 rw [this]; rfl
theorem rg1 {n : Int} (h0 : 0 <= n) (h : n <= 10 ^ 9) : dA [.int n] = some (dh 0 n.toNat) := by
 have q : (decide (-(2 ^ 62) <= n) && decide (n < 2 ^ 62)) = true := by
  simp only [Bool.and_eq_true, decide_eq_true_eq]
  omega
 show (if (decide (-(2 ^ 62) <= n) && decide (n < 2 ^ 62)) = true then some (dh 0 n.toNat) else none) = _
 rw [if_pos q]
theorem wS {n k : Nat} {d : D} (h : (dh 0 n)[k]? = some d) : k < n /\ d = .int (k : Int) := by
 unfold dh at h
 have hk : k < n := by
  have := (List.getElem?_eq_some_iff.mp h).1
  simpa using this
 rw [List.getElem?_map, List.getElem?_range hk] at h
 exact ⟨hk, by cases h; simp⟩
theorem bS {α : Type} {nv : Nat} {caps : List Nat} {it : FL} {tg : TgF} {f : FD} {δ : Dn} {β : Bg} (xs : List α) (u v : α -> D) (h1 : it δ β = some (.ok (xs.map u), β))
  (h2 : ∀ x ∈ xs, ∃ δ1, tg (u x) (cSt nv caps δ) = some δ1 /\ f δ1 β = some (.ok (v x), β)) (h3 : xs.length <= sizeLine) : aM nv caps it tg (fun _ => M.ret true) (cEm f) δ β = some (.ok (.lst (xs.map v)), β) := by
 refine qY h1 ?_ (by rw [List.length_map]; exact h3)
 have gen : ∀ xs : List α, (∀ x ∈ xs, ∃ δ1, tg (u x) (cSt nv caps δ) = some δ1 /\ f δ1 β = some (.ok (v x), β)) -> cLp tg (fun _ => M.ret true) (cEm f) (xs.map u) (cSt nv caps δ) β = some (.ok (xs.map v), β) := by
  intro xs
  induction xs with
  | nil => intro _; rfl
  | cons x xs ih =>
   intro h
   obtain ⟨δ1, e1, e2⟩ := h x List.mem_cons_self
   have e3 := ih fun y hy => h y (List.mem_cons_of_mem _ hy)
   rw [List.map_cons, cLp]
   simp only [e1, M.bind, M.ret, reduceIte, cEm, e2, e3, List.map_cons, List.cons_append, List.nil_append]
 exact gen xs h2
theorem j6 {α : Type} {nv : Nat} {caps : List Nat} {it : FL} {tg : TgF} {f : FL} {δ : Dn} {β : Bg} (xs : List α) (u : α -> D) (v : α -> List D) (h1 : it δ β = some (.ok (xs.map u), β))
  (h2 : ∀ x ∈ xs, ∃ δ1, tg (u x) (cSt nv caps δ) = some δ1 /\ f δ1 β = some (.ok (v x), β)) (h3 : xs.length <= sizeLine) : fi nv caps it tg (fun _ => M.ret true) (lu f) δ β = some (.ok (xs.map v), β) := by
 have gen : ∀ xs : List α, (∀ x ∈ xs, ∃ δ1, tg (u x) (cSt nv caps δ) = some δ1 /\ f δ1 β = some (.ok (v x), β)) -> ls tg (fun _ => M.ret true) (lu f) (xs.map u) (cSt nv caps δ) β = some (.ok (xs.map v), β) := by
  intro xs
  induction xs with
  | nil => intro _; rfl
  | cons x xs ih =>
   intro h
   obtain ⟨δ1, e1, e2⟩ := h x List.mem_cons_self
   have e3 := ih fun y hy => h y (List.mem_cons_of_mem _ hy)
   rw [List.map_cons, ls]
   simp only [e1, M.bind, M.ret, reduceIte, lu, e2, e3, List.map_cons, List.cons_append, List.nil_append]
 unfold fi
 simp only [h1, gen xs h2, List.length_map, h3, if_true]
theorem j5 {α : Type} {nv : Nat} {caps : List Nat} {it : FL} {tg : TgF} {f : FD} {δ : Dn} {β : Bg} (xs : List α) (u : α -> D) (v : α -> D) (h1 : it δ β = some (.ok (xs.map u), β))
  (h2 : ∀ x ∈ xs, ∃ δ1, tg (u x) (cSt nv caps δ) = some δ1 /\ f δ1 β = some (.ok (v x), β)) (h3 : xs.length <= sizeLine) : cV nv caps it tg (fun _ => M.ret true) (cEm f) δ β = some (.ok (xs.map v), β) := by
 have gen : ∀ xs : List α, (∀ x ∈ xs, ∃ δ1, tg (u x) (cSt nv caps δ) = some δ1 /\ f δ1 β = some (.ok (v x), β)) -> cLp tg (fun _ => M.ret true) (cEm f) (xs.map u) (cSt nv caps δ) β = some (.ok (xs.map v), β) := by
  intro xs
  induction xs with
  | nil => intro _; rfl
  | cons x xs ih =>
   intro h
   obtain ⟨δ1, e1, e2⟩ := h x List.mem_cons_self
   have e3 := ih fun y hy => h y (List.mem_cons_of_mem _ hy)
   rw [List.map_cons, cLp]
   simp only [e1, M.bind, M.ret, reduceIte, cEm, e2, e3, List.map_cons, List.cons_append, List.nil_append]
 unfold cV
 simp only [h1, gen xs h2, List.length_map, h3, if_true]
theorem yz {ds : List D} {c : Nat} (h1 : ds.length <= sizeLine) (h2 : ds.length * c <= sizeLine) (hc : c <= 1000000) : pp ds (.int (c : Int)) = some (List.replicate c ds).flatten := by
 have q : (decide (-(2 ^ 63) <= (c : Int)) && decide ((c : Int) < 2 ^ 63) && decide (ds.length <= sizeLine) && decide (ds.length * (c : Int).toNat <= sizeLine)) = true := by
  simp only [Bool.and_eq_true, decide_eq_true_eq]
  exact ⟨⟨⟨by omega, by omega⟩, h1⟩, by rw [Int.toNat_natCast]; exact h2⟩
 unfold pp
 simp only [q, if_true]
 rw [Int.toNat_natCast]
theorem pR {α : Type} (x : α) : ∀ c : Nat, (List.replicate c [x]).flatten = List.replicate c x
 | 0 => rfl
 | c + 1 => by rw [List.replicate_succ, List.flatten_cons, pR x c]; rfl
theorem AZ {f : FD} {g : FD} {x : D} {c : Nat} {δ : Dn} {β : Bg} (e1 : f δ β = some (.ok x, β)) (e2 : g δ β = some (.ok (.int (c : Int)), β)) (hc : c <= 1000) : rS (ac f ah) g δ β = some (.ok (List.replicate c x), β) := by
 have l1 : [x].length <= sizeLine := by rw [List.length_singleton]; decide
 have l2 : [x].length * c <= sizeLine := by rw [List.length_singleton, Nat.one_mul]; exact bw hc
 have r := yz (ds := [x]) (c := c) l1 l2 (by omega)
 rw [pR] at r
 have s : szL [x] = some [x] := by
  unfold szL
  rw [if_pos l1]
 have e3 : ac f ah δ β = some (.ok [x], β) := aj e1 rfl
 unfold rS
 rw [M.bind_ok e3, s, M.bind_some, M.bind_ok e2, r]
 rfl
theorem j9 (bs : List Bool) : cm (bs.map D.bl) = some bs := by
 induction bs with
 | nil => rfl
 | cons b bs ih => simp [cm, ih]
theorem any_map {α : Type} (xs : List α) (p : α -> Bool) : lw [.lst (xs.map fun x => D.bl (p x))] = some (.bl (xs.any p)) := by
 show (cm _).map _ = _
 rw [show (xs.map fun x => D.bl (p x)) = (xs.map p).map D.bl by rw [List.map_map]; rfl, j9]
 simp only [Option.map_some, List.any_map]
 rfl
theorem gY {α : Type} (r : Nat) (x : α) : (List.range r).map (fun _ => x) = List.replicate r x := by rw [List.map_const', List.length_range]
theorem dR {xs : List D} {r : Nat} (h : xs.length = r) : aY [.lst xs] = some (.int (r : Int)) := by subst h; rfl
theorem e9 {rows : List (List D)} {r : Nat} (h : rows.length = r) : aY [lG rows] = some (.int (r : Int)) := dR (by rw [List.length_map, h])
theorem gp {rows : List (List D)} {k : Nat} {row : List D} (h : rows[k]? = some row) : ixD (lG rows) (.int (k : Int)) = some (.lst row) := jS (by omega) (by rw [Int.toNat_natCast, List.getElem?_map, h]; rfl)
theorem xT {xs : List D} {k : Nat} {d : D} (h : xs[k]? = some d) : ixD (.lst xs) (.int (k : Int)) = some d := jS (by omega) (by rw [Int.toNat_natCast]; exact h)
theorem kT {x y : D} : bz [x, y] = some (.tup [x, y]) := by
 unfold bz
 rw [if_pos (show [x, y].length <= sizeLine by rw [List.length_cons, List.length_singleton]; decide)]
theorem vg {x y : Int} : h9 [.int x, .int y] = some (.int (min x y)) := by
 unfold h9
 simp only
 congr 2
 split <;> omega
theorem y0 {x y : Int} : mS [.int x, .int y] = some (.int (max x y)) := by
 unfold mS
 simp only
 congr 2
 split <;> omega
theorem eq_int {x y : Int} : dO (.int x) (.int y) = some (.bl (decide (x = y))) := by rw [i9]
theorem ne_int {x y : Int} : cx (.int x) (.int y) = some (.bl (!decide (x = y))) := by rw [i8]
theorem qU {xs : List D} {i : Nat} {d : D} (h : (dY 0 xs)[i]? = some d) : ∃ x, xs[i]? = some x /\ d = .tup [.int (i : Int), x] := by
 obtain ⟨x, h1, h2⟩ := jZ h
 rw [Nat.zero_add] at h2
 exact ⟨x, h1, h2⟩
theorem dj {α γ : Type} {f : α -> γ} {xs : List α} {i : Nat} {d : γ} (h : (xs.map f)[i]? = some d) : ∃ x, xs[i]? = some x /\ d = f x := by
 rw [List.getElem?_map] at h
 cases q : xs[i]? with
 | none => rw [q] at h; cases h
 | some x => rw [q] at h; exact ⟨x, rfl, by cases h; rfl⟩
abbrev kA (r c : Nat) : LP := List.replicate r (List.replicate c (0, 40))
theorem uk (r c : Nat) : Shp r c (kA r c) := ⟨by simp, fun row h => by rw [(List.mem_replicate.mp h).2]; simp⟩
def at2 {α : Type} (m : List (List α)) (i j : Nat) : Option α := (m[i]?).bind fun row => row[j]?
theorem at2_set {α : Type} {m : List (List α)} {i j k l : Nat} {row : List α} {v x : α} (hr : m[i]? = some row) (h : at2 (m.set i (row.set j v)) k l = some x) : (k = i /\ l = j /\ x = v) \/ (at2 m k l = some x /\ ¬ (k = i /\ l = j)) := by
 unfold at2 at h ⊢
 rw [List.getElem?_set] at h
 by_cases q : i = k
 ·subst q
  rw [if_pos rfl] at h
  split at h
  ·simp only [Option.bind_some] at h
   rw [List.getElem?_set] at h
   by_cases w : j = l
   ·subst w
    rw [if_pos rfl] at h
    split at h
    ·exact .inl ⟨rfl, rfl, (Option.some.inj h).symm⟩
    ·cases h
   ·rw [if_neg w] at h
    exact .inr ⟨by rw [hr]; exact h, fun z => w z.2.symm⟩
  ·cases h
 ·rw [if_neg q] at h
  exact .inr ⟨h, fun z => q z.1.symm⟩
theorem rb {α : Type} {m : List (List α)} {i j : Nat} {x : α} (h : at2 m i j = some x) : ∃ row ∈ m, x ∈ row := by
 unfold at2 at h
 cases q : m[i]? with
 | none => rw [q] at h; cases h
 | some row => rw [q] at h; exact ⟨row, List.mem_of_getElem? q, List.mem_of_getElem? h⟩
theorem kc {α : Type} {m : List (List α)} {i j : Nat} {row : List α} {x : α} (h1 : m[i]? = some row) (h2 : row[j]? = some x) : at2 m i j = some x := by unfold at2; rw [h1]; exact h2
structure PairOk (p : Int × Int) : Prop where
 l : 0 <= p.1
 m : p.1 <= p.2
 h : p.2 <= 40
def pairB (p : Int × Int) : Bool := decide (0 <= p.1) && decide (p.1 <= p.2) && decide (p.2 <= 40)
theorem jJ {p : Int × Int} : pairB p = true ↔ PairOk p := by
 unfold pairB
 simp only [Bool.and_eq_true, decide_eq_true_eq]
 exact ⟨fun ⟨⟨a, b⟩, c⟩ => ⟨a, b, c⟩, fun ⟨a, b, c⟩ => ⟨⟨a, b⟩, c⟩⟩
def Kp (rows : LI) (b : LP) : Prop := ∀ i j x p, at2 rows i j = some x -> at2 b i j = some p -> p.1 <= x /\ x <= p.2
def ky (b : LP) (r c : Nat) : Bool := decide (b.length = r) && b.all fun row => decide (row.length = c) && row.all pairB
structure Bnd (r c : Nat) (b : LP) : Prop where
 shp : Shp r c b
 ok : ∀ row ∈ b, ∀ p ∈ row, PairOk p
theorem g9 {b : LP} {r c : Nat} : ky b r c = true ↔ Bnd r c b := by
 unfold ky
 simp only [Bool.and_eq_true, decide_eq_true_eq, List.all_eq_true, jJ]
 exact ⟨fun ⟨h1, h2⟩ => ⟨⟨h1, fun row hr => (h2 row hr).1⟩, fun row hr => (h2 row hr).2⟩, fun ⟨⟨h1, h2⟩, h3⟩ => ⟨h1, fun row hr => ⟨h2 row hr, h3 row hr⟩⟩⟩
theorem Bnd.set {r c i j : Nat} {b : LP} {row : List (Int × Int)} {p : Int × Int} (h : Bnd r c b) (hr : b[i]? = some row) (hp : PairOk p) : Bnd r c (b.set i (row.set j p)) := ⟨h.shp.set hr, fun q hq x hx => by
 rcases List.mem_or_eq_of_mem_set hq with hq | rfl
 ·exact h.ok q hq x hx
 ·rcases List.mem_or_eq_of_mem_set hx with hx | rfl
  ·exact h.ok row (List.mem_of_getElem? hr) x hx
  ·exact hp⟩
theorem Bnd.free (r c : Nat) : Bnd r c (kA r c) := ⟨uk r c, fun row hr p hp => by
 rw [(List.mem_replicate.mp hr).2] at hp
 rw [(List.mem_replicate.mp hp).2]
 exact ⟨by decide, by decide, by decide⟩⟩
theorem Tab.le40 {r c : Nat} {rows : LI} (t : Tab r c rows) : ∀ row ∈ rows, ∀ x ∈ row, 0 <= x /\ x <= 40 := fun row hr x hx => ⟨t.nn row hr x hx, by
 have := y7 t.nn row hr x hx
 have := t.tot
 omega⟩
theorem Kp.free {r c : Nat} {rows : LI} (t : Tab r c rows) : Kp rows (kA r c) := fun i j x p hx hp => by
 obtain ⟨row, hr, hx'⟩ := rb hx
 obtain ⟨q, hq, hp'⟩ := rb hp
 rw [(List.mem_replicate.mp hq).2] at hp'
 rw [(List.mem_replicate.mp hp').2]
 exact t.le40 row hr x hx'
theorem Kp.set {rows : LI} {b : LP} {i j : Nat} {row : List (Int × Int)} {p : Int × Int} {x : Int} (h : Kp rows b) (hr : b[i]? = some row) (hx : at2 rows i j = some x) (h1 : p.1 <= x) (h2 : x <= p.2) : Kp rows (b.set i (row.set j p)) := fun k l y q hy hq => by
 rcases at2_set hr hq with ⟨rfl, rfl, rfl⟩ | ⟨hq, _⟩
 ·rw [hx] at hy
  cases hy
  exact ⟨h1, h2⟩
 ·exact h k l y q hy hq
theorem qZ {α : Type} {nv : Nat} {caps : List Nat} {it : FL} {tg : TgF} {b : FL} {δ : Dn} {β : Bg} (xs : List α) (u : α -> D) (o : α -> List D) (h1 : it δ β = some (.ok (xs.map u), β))
  (h2 : ∀ x ∈ xs, ∃ δ1, tg (u x) (cSt nv caps δ) = some δ1 /\ b δ1 β = some (.ok (o x), β)) (h3 : (xs.flatMap o).length <= sizeLine) : aM nv caps it tg (fun _ => M.ret true) b δ β = some (.ok (.lst (xs.flatMap o)), β) := by
 refine qY h1 ?_ h3
 have gen : ∀ xs : List α, (∀ x ∈ xs, ∃ δ1, tg (u x) (cSt nv caps δ) = some δ1 /\ b δ1 β = some (.ok (o x), β)) -> cLp tg (fun _ => M.ret true) b (xs.map u) (cSt nv caps δ) β = some (.ok (xs.flatMap o), β) := by
  intro xs
  induction xs with
  | nil => intro _; rfl
  | cons x xs ih =>
   intro h
   obtain ⟨δ1, e1, e2⟩ := h x List.mem_cons_self
   have e3 := ih fun y hy => h y (List.mem_cons_of_mem _ hy)
   rw [List.map_cons, cLp]
   simp only [e1, M.bind, M.ret, reduceIte, e2, e3, List.flatMap_cons]
 exact gen xs h2
theorem tK {α : Type} {it : FL} {tg : TgF} {f : FD} {δ : Dn} {β : Bg} (xs : List α) (u v : α -> D) (h1 : it δ β = some (.ok (xs.map u), β))
  (h2 : ∀ x ∈ xs, ∃ δ1, tg (u x) δ = some δ1 /\ f δ1 β = some (.ok (v x), β)) : cNx it tg (fun _ => M.ret true) (cEm f) δ β = some (.ok (xs.map v), β) := by
 have gen : ∀ xs : List α, (∀ x ∈ xs, ∃ δ1, tg (u x) δ = some δ1 /\ f δ1 β = some (.ok (v x), β)) -> cLp tg (fun _ => M.ret true) (cEm f) (xs.map u) δ β = some (.ok (xs.map v), β) := by
  intro xs
  induction xs with
  | nil => intro _; rfl
  | cons x xs ih =>
   intro h
   obtain ⟨δ1, e1, e2⟩ := h x List.mem_cons_self
   have e3 := ih fun y hy => h y (List.mem_cons_of_mem _ hy)
   rw [List.map_cons, cLp]
   simp only [e1, M.bind, M.ret, reduceIte, cEm, e2, e3, List.map_cons, List.cons_append, List.nil_append]
 unfold cNx
 rw [M.bind_ok h1]
 exact gen xs h2
theorem pQ {α γ : Type} {f : α -> List γ} {n : Nat} : ∀ {l : List α}, (∀ x ∈ l, (f x).length <= n) -> (l.flatMap f).length <= n * l.length
 | [], _ => by simp
 | x :: l, h => by
  have h1 := h x List.mem_cons_self
  have h2 := pQ (l := l) fun y hy => h y (List.mem_cons_of_mem _ hy)
  rw [List.flatMap_cons, List.length_append, List.length_cons, Nat.mul_add]
  omega
theorem Au {α γ : Type} (xs : List α) (ys : α -> List γ) (p : α -> γ -> Bool) : lw [.lst (xs.flatMap fun x => (ys x).map fun y => D.bl (p x y))] = some (.bl (xs.any fun x => (ys x).any (p x))) := by
 show (cm _).map _ = _
 rw [show (xs.flatMap fun x => (ys x).map fun y => D.bl (p x y)) = (xs.flatMap fun x => (ys x).map (p x)).map D.bl by rw [List.map_flatMap]; simp only [List.map_map]; rfl, j9]
 simp only [Option.map_some, List.any_flatMap, List.any_map]
 rfl
theorem Av {α γ : Type} (xs : List α) (ys : α -> List γ) (p : α -> γ -> Bool) : sG [.lst (xs.flatMap fun x => (ys x).map fun y => D.bl (p x y))] = some (.bl (xs.all fun x => (ys x).all (p x))) := by
 show (cm _).map _ = _
 rw [show (xs.flatMap fun x => (ys x).map fun y => D.bl (p x y)) = (xs.flatMap fun x => (ys x).map (p x)).map D.bl by rw [List.map_flatMap]; simp only [List.map_map]; rfl, j9]
 simp only [Option.map_some, List.all_flatMap, List.all_map]
 rfl
theorem oS {α γ : Type} (u : α -> D) (v : γ -> D) : ∀ (xs : List α) (ys : List γ), cX (xs.map u) (ys.map v) = (xs.zip ys).map fun p => D.tup [u p.1, v p.2]
 | [], ys => by simp [cX]
 | x :: xs, [] => by simp [cX]
 | x :: xs, y :: ys => by simp [cX, oS u v xs ys]
theorem ke {α γ : Type} {f g : FD} {δ : Dn} {β : Bg} {u : α -> D} {v : γ -> D} {xs : List α} {ys : List γ} (e1 : f δ β = some (.ok (.lst (xs.map u)), β)) (e2 : g δ β = some (.ok (.lst (ys.map v)), β)) : cU (ac f (ac g ah)) δ β = some (.ok ((xs.zip ys).map fun p => D.tup [u p.1, v p.2]), β) := by
 rw [← oS]
 exact fu (aj e1 (aj e2 rfl)) rfl
def iQ (rows : LI) : Bool := decide (1 <= rows.length) && decide (rows.length <= 4) && (decide (1 <= (rows.headD []).length) && decide ((rows.headD []).length <= 6)) && (rows.all fun row => decide (row.length = (rows.headD []).length)) && (rows.all fun row => row.all fun x => decide (0 <= x)) && decide (tot rows <= 40)
theorem fW {rows : LI} (h : iQ rows = true) : Tab rows.length (rows.headD []).length rows := by
 unfold iQ at h
 simp only [Bool.and_eq_true, decide_eq_true_eq, List.all_eq_true] at h
 obtain ⟨⟨⟨⟨⟨h1, h2⟩, h3, h4⟩, h5⟩, h6⟩, h7⟩ := h
 exact ⟨⟨rfl, h5⟩, h6, h7, h1, h2, h3, h4⟩
theorem uL {r c : Nat} {rows : LI} (t : Tab r c rows) : (rows.headD []).length = c := by
 have := t.shp.1
 have := t.r0
 cases rows with
 | nil => simp at *; omega
 | cons x xs => exact t.shp.2 x List.mem_cons_self
theorem jy {r c : Nat} {rows : LI} (t : Tab r c rows) : iQ rows = true := by
 unfold iQ
 simp only [Bool.and_eq_true, decide_eq_true_eq, List.all_eq_true]
 have h := uL t
 rw [h]
 exact ⟨⟨⟨⟨⟨by rw [t.shp.1]; exact t.r0, by rw [t.shp.1]; exact t.r1⟩, t.c0, t.c1⟩, t.shp.2⟩, t.nn⟩, t.tot⟩
def pM (rows : LI) (b : LP) : Bool := (rows.zip b).all fun q => (q.1.zip q.2).all fun w => decide (w.2.1 <= w.1) && decide (w.1 <= w.2.2)
theorem sJ {α γ : Type} {xs : List α} {ys : List γ} {i : Nat} {x : α} {y : γ} (h1 : xs[i]? = some x) (h2 : ys[i]? = some y) : (x, y) ∈ xs.zip ys := by
 refine List.mem_of_getElem? (i := i) ?_
 rw [List.getElem?_zip_eq_some]
 exact ⟨h1, h2⟩
theorem iU {α γ : Type} {xs : List α} {ys : List γ} {q : α × γ} (h : q ∈ xs.zip ys) : ∃ i : Nat, xs[i]? = some q.1 /\ ys[i]? = some q.2 := by
 obtain ⟨i, hi, e⟩ := List.getElem_of_mem h
 have := List.getElem?_eq_some_iff.mpr ⟨hi, e⟩
 rw [List.getElem?_zip_eq_some] at this
 exact ⟨i, this⟩
theorem sf {rows : LI} {b : LP} : pM rows b = true ↔ Kp rows b := by
 unfold pM Kp
 simp only [List.all_eq_true, Bool.and_eq_true, decide_eq_true_eq]
 constructor
 ·intro h i j x p hx hp
  unfold at2 at hx hp
  cases q1 : rows[i]? with
  | none => rw [q1] at hx; cases hx
  | some row =>
   cases q2 : b[i]? with
   | none => rw [q2] at hp; cases hp
   | some ps =>
    rw [q1] at hx
    rw [q2] at hp
    exact h (row, ps) (sJ q1 q2) (x, p) (sJ hx hp)
 ·intro h q hq w hw
  obtain ⟨i, h1, h2⟩ := iU hq
  obtain ⟨j, h3, h4⟩ := iU hw
  exact h i j w.1 w.2 (kc h1 h3) (kc h2 h4)
theorem j0 {xs : List D} {k : Nat} : ig xs none (some (k : Int)) = xs.take k := by
 unfold ig
 rw [HT.sIx_none, HT.sIx_nat, List.drop_zero, Nat.sub_zero]
 by_cases h : k <= xs.length
 ·rw [show min k xs.length = k by omega]
 ·rw [List.take_of_length_le (by omega), List.take_of_length_le (by omega)]
theorem jc {xs : List D} {k : Nat} : ig xs (some (k : Int)) none = xs.drop k := by
 unfold ig
 rw [HT.sIx_none, HT.sIx_nat]
 by_cases h : k <= xs.length
 ·rw [show min k xs.length = k by omega]
  rw [List.take_of_length_le (by rw [List.length_drop]; omega)]
 ·rw [List.drop_eq_nil_of_le (by omega), List.drop_eq_nil_of_le (by omega)]
  simp
theorem mt {f g : FD} {δ : Dn} {β : Bg} {xs : List D} {k : Int} (e1 : f δ β = some (.ok (.lst xs), β)) (e2 : g δ β = some (.ok (.int k), β)) : fSl f none (some g) δ β = some (.ok (.lst (ig xs none (some k))), β) := by
 unfold fSl md
 simp only [M.bind, e1, e2, M.ret, M.ofO, p0, slD]
theorem ju {f g : FD} {δ : Dn} {β : Bg} {xs : List D} {k : Int} (e1 : f δ β = some (.ok (.lst xs), β)) (e2 : g δ β = some (.ok (.int k), β)) : fSl f (some g) none δ β = some (.ok (.lst (ig xs (some k) none)), β) := by
 unfold fSl md
 simp only [M.bind, e1, e2, M.ret, M.ofO, p0, slD]
theorem iI {xs ys : List D} (h : xs.length + ys.length <= 1000) : bK (.lst xs) (.lst ys) = some (.lst (xs ++ ys)) := by
 unfold bK
 simp only
 rw [if_pos (bw h)]
def iJ : List D -> List Value -> Prop
 | [], [] => True
 | .int i :: ds, .int j _ :: vs => i = j /\ iJ ds vs
 | .str x :: ds, .str y _ :: vs => x = y /\ iJ ds vs
 | .bl x :: ds, .bool y :: vs => x = y /\ iJ ds vs
 | .non :: ds, .none :: vs => iJ ds vs
 | _, _ => False
theorem fZ {K : Frag} : ∀ {ds : List D} {vs : List Value}, iJ ds vs -> ∃ xs, ar xs vs /\ ∀ F H, DenL K F H ds xs
 | [], [], _ => ⟨[], .nil, fun _ _ => DenL.nil⟩
 | .int i :: ds, .int j t :: vs, h => by
  obtain ⟨e, h⟩ := h
  subst e
  obtain ⟨xs, h1, h2⟩ := fZ (K := K) h
  exact ⟨.int i :: xs, .cons ⟨t, rfl⟩ h1, fun F H => DenL.cons rfl (h2 F H)⟩
 | .str i :: ds, .str j t :: vs, h => by
  obtain ⟨e, h⟩ := h
  subst e
  obtain ⟨xs, h1, h2⟩ := fZ (K := K) h
  exact ⟨.str i :: xs, .cons ⟨t, rfl⟩ h1, fun F H => DenL.cons rfl (h2 F H)⟩
 | .bl i :: ds, .bool j :: vs, h => by
  obtain ⟨e, h⟩ := h
  subst e
  obtain ⟨xs, h1, h2⟩ := fZ (K := K) h
  exact ⟨.bl i :: xs, .cons rfl h1, fun F H => DenL.cons rfl (h2 F H)⟩
 | .non :: ds, .none :: vs, h => by
  obtain ⟨xs, h1, h2⟩ := fZ (K := K) (ds := ds) (vs := vs) h
  exact ⟨.non :: xs, .cons rfl h1, fun F H => DenL.cons rfl (h2 F H)⟩
def VIs (K : Frag) (d : D) (u : Value) : Prop := ∃ v, aS v u /\ ∀ F H, Den K F H d v
theorem mw {K : Frag} {i : Int} {t : Tok} : VIs K (.int i) (.int i t) := ⟨.int i, ⟨t, rfl⟩, fun _ _ => rfl⟩
theorem xh {K : Frag} {p : Addr} {q1 : Value} {q2 : Option Addr} {q3 : Array Value} {q4 : Nat} {q5 : Array (Option Value)} {ds : List D} (hl : K.lookup p = some ⟨q1, q2, .seq q3 q4, q5⟩) (hc : q1 = .type "tuple") (hz : q3.size <= sizeLine) (hv : iJ ds q3.toList) : VIs K (.tup ds) (.ref p) := by
 obtain ⟨xs, h1, h2⟩ := fZ (K := K) hv
 exact ⟨.ref p, rfl, fun F H => ⟨p, xs, rfl, .inr ⟨_, q3, q4, hl, hc, rfl, hz, h1⟩, h2 F H⟩⟩
theorem pT {K : Frag} {mg : Str -> Option Value} {x : Str} {d : D} {u : Value} (h : mg x = some u) (v : VIs K d u) : mr K mg x d := let ⟨w, h1, h2⟩ := v; ⟨u, w, h, h1, h2⟩
theorem zo {K : Frag} {fd : FuncData} {ps : List Str} {dd : List D} {us : List Value} (n : Nat) (hl : ps.length = n + us.length) (b : ∀ (s : Shared) (vs : List Value), K.In s.heap -> vs.length = n -> BindsTo s fd ⟨vs, []⟩ (ps.zip (vs ++ us))) (h : ∃ vs, ar vs us /\ ∀ F H, DenL K F H dd vs) : dH K fd ps dd :=
 let ⟨vs, h1, h2⟩ := h
 ⟨us, vs, fun s ws KX hw => b s ws KX (by rw [List.length_append] at hw; omega), h1, h2⟩
theorem zn {K : Frag} : ∃ vs, ar vs [] /\ ∀ F H, DenL K F H [] vs := ⟨[], .nil, fun _ _ => DenL.nil⟩
theorem x9 {K : Frag} {d : D} {u : Value} {ds : List D} {us : List Value} (v : VIs K d u) (h : ∃ vs, ar vs us /\ ∀ F H, DenL K F H ds vs) : ∃ vs, ar vs (u :: us) /\ ∀ F H, DenL K F H (d :: ds) vs := by
 obtain ⟨w, h1, h2⟩ := v
 obtain ⟨vs, g1, g2⟩ := h
 exact ⟨w :: vs, .cons h1 g1, fun F H => DenL.cons (h2 F H) (g2 F H)⟩
inductive KSr (K : Frag) : List (Sr D) -> List (Sr Value) -> Prop where
 | nil : KSr K [] []
 | kw {j : Nat} {a : List (Sr D)} {c : List (Sr Value)} : KSr K a c -> KSr K (.kw j :: a) (.kw j :: c)
 | df {x : D} {y : Value} {a : List (Sr D)} {c : List (Sr Value)} : VIs K x y -> KSr K a c -> KSr K (.df x :: a) (.df y :: c)
theorem KSr.mid {K : Frag} : ∀ {a : List (Sr D)} {c : List (Sr Value)}, KSr K a c -> ∃ b : List (Sr V), SrR aS b c /\ SrR (fun d v => ∀ F H, Den K F H d v) a b
 | _, _, .nil => ⟨[], .nil, .nil⟩
 | _, _, .kw (j := j) h => let ⟨b, h1, h2⟩ := KSr.mid h; ⟨.kw j :: b, .kw h1, .kw h2⟩
 | _, _, .df v h => let ⟨b, h1, h2⟩ := KSr.mid h; let ⟨w, g1, g2⟩ := v; ⟨.df w :: b, .df g1 h1, .df g2 h2⟩
theorem oP {K : Frag} {fd : FuncData} {ps ks : List Str} {n : Nat} {src : List (Sr D)} {sv : List (Sr Value)} (h : KSr K src sv) (hl : ps.length = n + src.length) (h0 : 0 < ps.length) (b : ∀ (s : Shared) (us ws : List Value), K.In s.heap -> us.length = n -> ws.length = ks.length -> BindsTo s fd ⟨us, ks.zip ws⟩ (ps.zip (us ++ sv.map (Sr.pick .none ws)))) : KwOk K fd ps ks n src :=
 ⟨let ⟨sx, h1, h2⟩ := h.mid; ⟨sv, sx, h1, h2, b⟩, hl, h0⟩
section
variable {X : Cx} {E : St -> XK} {K : Frag} {st : Stmt}
theorem DenL.erase {F : Fx} {H : Hp} : ∀ {ds : List D} {xs : List V} (i : Nat), DenL K F H ds xs -> DenL K F H (ds.eraseIdx i) (xs.eraseIdx i)
 | [], xs, i, h => by have q : xs = [] := h; subst q; simp; rfl
 | c :: ds, xs, 0, h => by
  obtain ⟨y, r, q, h1, h2⟩ := h
  subst q
  exact h2
 | c :: ds, xs, i + 1, h => by
  obtain ⟨y, r, q, h1, h2⟩ := h
  subst q
  exact ⟨y, r.eraseIdx i, rfl, h1, DenL.erase i h2⟩
end
section
variable {h : G} {δ : Ds} {β β1 β2 β3 : Bg} {Q : Out -> Bg -> Prop} {i : Nat} {fa fb fv : FD} {fl : FL} {d d0 d1 : D} {ds : List D} {op : D -> D -> Option D}
end
theorem gi {n : Nat} {d : D} {δ : Dn} {β : Bg} (e : δ.getD n none = some d) : ad n δ β = some (.ok d, β) := by unfold ad; rw [e]; rfl
section
variable {β β1 β2 : Bg} {f g h : FD} {δ : Dn} {x y z : Int}
theorem sN (e1 : f δ β = some (.ok (.int x), β)) (e2 : g δ β = some (.ok (.int y), β)) (e3 : h δ β = some (.ok (.int z), β)) : bQ leD ltD f g h δ β = some (.ok (.bl (decide (x <= y) && decide (y < z))), β) := by
 unfold bQ M.bind
 rw [e1]
 simp only [e2, le_int, M.ofO, asB]
 by_cases q : x <= y
 ·simp only [q, decide_true, if_true, e3, lt_int, Bool.true_and]
 ·simp only [q, decide_false, Bool.false_eq_true, if_false, M.ret, Bool.false_and]
end
theorem lX {K : Frag} {F : Fx} {H : Hp} {f : Str} {d : D} : ∀ {ns : List Str} {ds : List D} {xs : List V}, DenL K F H ds xs -> (ns.zip ds).lookup f = some d -> ∃ v, (ns.zip xs).lookup f = some v /\ Den K F H d v
 | [], ds, xs, h, e => by simp at e
 | n :: ns, [], xs, h, e => by simp at e
 | n :: ns, c :: ds, xs, h, e => by
  obtain ⟨x, r, q, h1, h2⟩ := h
  subst q
  rw [List.zip_cons_cons, List.lookup_cons] at e ⊢
  split at e
  ·rename_i z
   cases e
   exact ⟨x, rfl, h1⟩
  ·rename_i z
   exact lX h2 e
theorem jQ {α : Type} {m : Str} : ∀ {ns : List Str} {xs : List α}, m ∉ ns -> (ns.zip xs).lookup m = none
 | [], xs, _ => by simp
 | n :: ns, [], _ => by simp
 | n :: ns, x :: xs, h => by
  rw [List.zip_cons_cons, List.lookup_cons]
  have h1 : m ≠ n := fun z => h (by rw [z]; exact List.mem_cons_self)
  have h2 : m ∉ ns := fun z => h (List.mem_cons_of_mem _ z)
  rw [show (m == n) = false by simpa using h1]
  exact jQ h2
theorem dH.nil {K : Frag} {fd : FuncData} {ps : List Str} (b : aQ K fd ps []) : dH K fd ps [] := ⟨[], [], b, .nil, fun _ _ => DenL.nil⟩
section
variable {X : Cx} {E : St -> XK} {o e : Expr} {es : List Expr} {pos p apos kpos : Pos} {x m : Str} {k n : Nat} {f C : Addr} {fd : FuncData} {ps ks : List Str} {kws : List Keyword}
def i5 (C : Addr) (f : Str) : D -> Option D
 | .obj C' ns ds => if C' = C then (ns.zip ds).lookup f else none
 | _ => none
theorem lC {f : Str} {g : FD} (c : Cls X.K C) (n : fq X.K C f) (he : PE X e (tV X.K g E)) (hb : attributeBase e f X.env (eval e X.env) = eval e X.env := by rfl) : PE X (.Attribute e f pos) (tV X.K (f1 (i5 C f) g) E) :=
 (yO he hb).imp fun σ H Q h_ => ex6 h_ fun F δ β fr vk h => ⟨F, δ, β, fr, vk, (run.bind (R := Den X.K F) h).mono fun v H1 h_ => by
  obtain ⟨d, β1, t, hd, r1⟩ := h_
  obtain ⟨d3, e3, k⟩ := run.ofO r1
  cases d <;> first | cases e3 | skip
  rename_i C' ns ds
  unfold i5 at e3
  simp only at e3
  split at e3
  ·rename_i z
   subst z
   unfold Den at hd
   obtain ⟨a, dx, xs, rfl, h1, h2, h3, h4⟩ := hd
   obtain ⟨w, hw, dw⟩ := lX h4 e3
   exact ⟨a, C', dx, _, w, rfl, h2, c, n, hw, k w H1 (To.refl t.fr) dw⟩
  ·cases e3⟩
def kB (C : Addr) (m : Str) (mf : List D -> M D) (fo : FD) (g : FL) (dd : List D) : FD := fun δ => M.bind (fo δ) fun d => match d with
 | .obj C' ns _ => if C' = C /\ m ∉ ns then M.bind (g δ) fun as => mf (d :: (as ++ dd)) else M.fail
 | _ => M.fail
theorem vh {mf : List D -> M D} {fo : FD} {g : FL} {dd : List D} {K : Frag} {R : Sp} {dvs : List V} {σ : St} {H : Hp} {Q : VK} (hR : ∀ vs H Q E, spF K n mf vs H Q E -> R vs H Q E) (rd : ∀ F H, DenL K F H dd dvs) (hn : ∀ δ β r β', g δ β = some (.ok r, β') -> r.length + dd.length + 1 = n) (h : tV K (kB C m mf fo g dd) E σ H Q) : wL C m R dvs E (tV K fo E) (tVA K g E) σ H Q := by
 obtain ⟨F, δ, β, fr, vk, h⟩ := h
 refine ⟨F, δ, β, fr, vk, (run.bind (R := Den K F) h).mono fun v H1 h_ => ex5 h_ fun d β1 t hd r1 => ?_⟩
 have fail : ∀ {mm : M D}, mm = M.fail -> run (Den K F) F E σ mm H1 Q β1 -> False := fun {mm} e r => by
  obtain ⟨r, β', e', _⟩ := r
  rw [e] at e'; cases e'
 cases d <;> first | exact (fail rfl r1).elim | skip
 rename_i C' ns ds
 simp only at r1
 split at r1
 ·rename_i z
  obtain ⟨rfl, hm⟩ := z
  have hd' := hd
  unfold Den at hd
  obtain ⟨a, dx, xs, rfl, h1, h2, h3, h4⟩ := hd
  refine ⟨a, dx, _, rfl, h2, jQ hm, F, δ, β1, t.fr, vk.tr (t.tr fr), ?_⟩
  obtain ⟨r0, β0, e0, h0⟩ := run.bind (R := DenL K F) r1
  refine ⟨r0, β0, e0, ?_⟩
  cases r0 with
  | error C => exact h0
  | ok as =>
   intro vs H2 t2 hds
   obtain ⟨d', β2, t3, hd3, r3⟩ := h0 vs H2 t2 hds
   have hl := hn _ _ _ _ e0
   have hz := (rd F H2).length
   refine hR _ _ _ _ ⟨by rw [List.length_cons, List.length_append, ← hds.length, ← hz, hl], F, _ :: (d' ++ dd), β2, t3.fr, DenL.cons (Den.tr (t3.tr t.fr) _ _ hd') (DenL.append hd3 (rd F H2)), run.toE r3⟩
 ·exact (fail rfl r1).elim
theorem ql {mf : List D -> M D} {fo : FD} {dd : List D} {pl : Sem Bool} (c : Cls X.K C) (hm : Meth X.K C m f) (G : FnOk X.prog X.w X.K X.mg X.base (CXE X.prog X.w) k f fd ps (spF X.K n mf)) (hr : Room k X.A) (hb : dH X.K fd ps dd) (hx : bJ (CXE X.prog X.w) X E)
  (ho : PE X o (tV X.K fo E)) (hn : dd.length + 1 = n)
  (ht : eval (.Call (.Attribute o m apos) [] [] pos) X.env = (do
   let ov ← eval o X.env
   standAt apos.atName
   let (f, first) ← holding [ov] (getMethod ov m pl)
   callWith pos f first (backTo pos (starEach [] X.env)) (backToKw pos (keywordEach [] X.env))) := by rfl) :
  PE X (.Call (.Attribute o m apos) [] [] pos) (tV X.K (kB C m mf fo ah dd) E) := by
 obtain ⟨ds, dvs, b, rv, rd⟩ := hb
 refine (u6 (pl := pl) ho c hm G hr b rv hx ht).imp fun σ H Q h => ?_
 obtain ⟨F, δ, β, fr, vk, h⟩ := vh (fun _ _ _ _ z => z) rd (fun δ β r β' e => by cases e; simpa using hn) h
 refine ⟨F, δ, β, fr, vk, h.mono fun v H1 ⟨a, dx, fs, ev, ha, hl, F2, δ2, β2, fr2, vk2, r2⟩ => ⟨a, dx, fs, ev, ha, hl, ?_⟩⟩
 exact run.ret fr2 r2 DenL.nil
def jW (C : Addr) (m : Str) (mf : List D -> M D) (fo : FD) (g gk : FL) (src : List (Sr D)) : FD := fun δ => M.bind (fo δ) fun d => match d with
 | .obj C' ns _ => if C' = C /\ m ∉ ns then M.bind (g δ) fun as => M.bind (gk δ) fun ks => mf (d :: (as ++ src.map (Sr.pick .non ks))) else M.fail
 | _ => M.fail
def yn (C : Addr) (m : Str) (sp : Sp) (gV : List V -> List V -> List V) (E : St -> XK) (ta : TE) (t tk : TA) : TE := fun σ H Q => ta σ H fun x H1 => ∃ a dx fs, x = .ref a /\ H1 a = some (.ins C dx fs) /\ fs.lookup m = none /\
 t σ H1 fun vs H2 => tk σ H2 fun zs H3 => sp (gV (x :: vs) zs) H3 Q (E σ)
theorem u5 {CX : CXT} {sp : Sp} {ta : TE} {t tk : TA} {g : List Value -> List Value -> List Value} {gV : List V -> List V -> List V} {pl : Sem Bool} (he : PE X o ta) (c : Cls X.K C) (hm : Meth X.K C m f) (F : FnOk X.prog X.w X.K X.mg X.base CX k f fd ps sp) (hr : Room k X.A) (hb : KBinds X.K fd ps ks g gV) (hx : bJ CX X E) (ha : PA X (e :: es) t) (hkw : PK X kws tk)
  (hall : (backToKw pos (keywordEach kws X.env)).all (·.1.isSome) = true := by rfl) (hks : (backToKw pos (keywordEach kws X.env)).filterMap (·.1) = ks := by rfl)
  (hst : starEach (e :: es) X.env = (false, eval e X.env) :: starEach es X.env := by rfl) (hpl : ((backTo pos (starEach (e :: es) X.env)).any (·.1) || (backToKw pos (keywordEach kws X.env)).any (·.1.isNone)) = false := by rfl)
  (ht : eval (.Call (.Attribute o m apos) (e :: es) kws pos) X.env = (do
   let ov ← eval o X.env
   standAt apos.atName
   let (f, first) ← holding [ov] (getMethod ov m pl)
   callWith pos f first (backTo pos (starEach (e :: es) X.env)) (backToKw pos (keywordEach kws X.env))) := by rfl) :
  PE X (.Call (.Attribute o m apos) (e :: es) kws pos) (yn C m sp gV E ta t tk) := by
 intro pins s σ H Q I h
 refine methodCall_KW (pl := pl) (thn (he pins s σ H _ I h) fun u s1 ⟨x, H1, I1, rx, a, dx, fs, ex, ea, l, q⟩ => ?_) ht
 subst ex
 obtain rfl : u = Value.ref a := rx
 refine l6 I1 ea c hm l ?_
 refine PySem.W.callWith_KW (first := [.ref a]) (h₀ := X.base) I.ok.mod.kin hm.kp hall (thn (ha pos pins s1 σ H1 _ I1 q) fun us s2 ⟨vs, H2, I2, r, q2⟩ => ?_) hpl hst
 refine thn (hkw pos pins s2 σ H2 _ I2 q2) fun ws s3 ⟨zs, H3, I3, rz, q3⟩ => ⟨I3.kIn, ?_⟩
 rw [hks]
 exact qx (us := .ref a :: us) (vs := .ref a :: vs) F hr hb hx I3 (.cons rfl r) rz q3
theorem qk {mf : List D -> M D} {fo : FD} {g gk : FL} {src : List (Sr D)} {n1 : Nat} {pl : Sem Bool} (c : Cls X.K C) (hm : Meth X.K C m f) (G : FnOk X.prog X.w X.K X.mg X.base (CXE X.prog X.w) k f fd ps (spF X.K n mf)) (hr : Room k X.A) (hb : KwOk X.K fd ps ks (n1 + 1) src) (hx : bJ (CXE X.prog X.w) X E)
  (ho : PE X o (tV X.K fo E)) (ha : PA X (e :: es) (tVA X.K g E)) (hkw : PK X kws (tVA X.K gk E)) (hn : ∀ δ β r β', g δ β = some (.ok r, β') -> r.length = n1) (hn2 : ∀ δ β r β', gk δ β = some (.ok r, β') -> r.length = ks.length) (h3 : n1 + 1 + src.length = n)
  (hall : (backToKw pos (keywordEach kws X.env)).all (·.1.isSome) = true := by rfl) (hks : (backToKw pos (keywordEach kws X.env)).filterMap (·.1) = ks := by rfl)
  (hst : starEach (e :: es) X.env = (false, eval e X.env) :: starEach es X.env := by rfl) (hpl : ((backTo pos (starEach (e :: es) X.env)).any (·.1) || (backToKw pos (keywordEach kws X.env)).any (·.1.isNone)) = false := by rfl)
  (ht : eval (.Call (.Attribute o m apos) (e :: es) kws pos) X.env = (do
   let ov ← eval o X.env
   standAt apos.atName
   let (f, first) ← holding [ov] (getMethod ov m pl)
   callWith pos f first (backTo pos (starEach (e :: es) X.env)) (backToKw pos (keywordEach kws X.env))) := by rfl) :
  PE X (.Call (.Attribute o m apos) (e :: es) kws pos) (tV X.K (jW C m mf fo g gk src) E) := by
 obtain ⟨sv, sx, rd, kb⟩ := hb.kb
 refine (u5 (pl := pl) ho c hm G hr kb hx ha hkw hall hks hst hpl ht).imp fun σ H Q h_ => ex6 h_ fun F δ β fr vk h => ⟨F, δ, β, fr, vk, (run.bind (R := Den X.K F) h).mono fun v H1 h_ => ex5 h_ fun d β1 t hd r1 => ?_⟩
 have fail : ∀ {mm : M D}, mm = M.fail -> run (Den X.K F) F E σ mm H1 Q β1 -> False := fun {mm} e r => by
  obtain ⟨r, β', e', _⟩ := r
  rw [e] at e'; cases e'
 cases d <;> first | exact (fail rfl r1).elim | skip
 rename_i C' ns ds
 simp only at r1
 split at r1
 ·rename_i z
  obtain ⟨rfl, hnm⟩ := z
  have hd' := hd
  unfold Den at hd
  obtain ⟨a, dx, xs, rfl, h1, h2, h3', h4⟩ := hd
  refine ⟨a, dx, _, rfl, h2, jQ hnm, F, δ, β1, t.fr, vk.tr (t.tr fr), ?_⟩
  obtain ⟨r0, β0, e0, h0⟩ := run.bind (R := DenL X.K F) r1
  refine ⟨r0, β0, e0, ?_⟩
  cases r0 with
  | error C => exact h0
  | ok as =>
   intro vs H2 t2 hds
   obtain ⟨d', β2, t3, hd3, r3⟩ := h0 vs H2 t2 hds
   refine ⟨F, δ, β2, t3.fr, (vk.tr (t.tr fr)).tr (t3.tr t.fr), ?_⟩
   obtain ⟨q0, β4, e4, h4⟩ := run.bind (R := DenL X.K F) r3
   refine ⟨q0, β4, e4, ?_⟩
   cases q0 with
   | error C => exact h4
   | ok bs =>
    intro zs H3 t4 hz
    obtain ⟨d5, β5, t5, hd5, r5⟩ := h4 zs H3 t4 hz
    have l1 := hn _ _ _ _ e0
    have l2 := hn2 _ _ _ _ e4
    have g1 : gK V.non (n1 + 1) ks.length sx (.ref a :: vs) zs = (.ref a :: vs) ++ sx.map (Sr.pick .non zs) := if_pos ⟨by rw [List.length_cons, ← hds.length, l1], by rw [← hz.length, l2]⟩
    rw [g1]
    have hda : DenL X.K F H3 d' vs := DenL.tr (t5.tr t3.fr) _ _ hd3
    refine ⟨by rw [List.length_append, List.length_map, List.length_cons, ← hds.length, l1, ← rd.len, h3], F, _ :: (d' ++ src.map (Sr.pick .non d5)), β5, t5.fr, DenL.cons (Den.tr (t5.tr t3.fr) _ _ (Den.tr (t3.tr t.fr) _ _ hd')) (DenL.append hda (SrR.den hd5 rd)), run.toE r5⟩
 ·exact (fail rfl r1).elim
end
structure ToX (F : Fx) (x : Addr) (H H' : Hp) (β' : Bg) : Prop where
 kp : ∀ a o, a ≠ x -> H a = some o -> (∀ b l, F.bg = some (b, l) -> a ≠ b /\ a ≠ l) -> H' a = some o
 fr : Fr F H' β'
def spI (K : Frag) (C : Addr) (ns : List Str) (n : Nat) (mi : List D -> M (List D)) : Sp := fun vs H Q E => ∃ x rest F ds β dx, vs = .ref x :: rest /\ rest.length = n /\ Fr F H β /\ F.A x /\ (∀ b l, F.bg = some (b, l) -> x ≠ b /\ x ≠ l) /\ H x = some (.ins C dx []) /\ DenL K F H ds rest /\
 ∃ r β', mi ds β = some (r, β') /\ match r with
  | .ok es => ∀ H' xs, ToX F x H H' β' -> H' x = some (.ins C dx (ns.zip xs)) -> ns.length = xs.length -> DenL K F H' es xs -> Q .non H'
  | .error Ce => ∀ H', ToX F x H H' β' -> E (.ref Ce) none H'
section
variable {X : Cx} {E : St -> XK} {e : Expr} {es : List Expr} {pos p kpos : Pos} {x : Str} {k n : Nat} {f C : Addr} {fd : FuncData} {ps ks ns : List Str} {kws : List Keyword}
def gq (C : Addr) (ns : List Str) (mi : List D -> M (List D)) (g : FL) (dd : List D) : FD := fun δ => M.bind (g δ) fun as => M.bind (mi (as ++ dd)) fun fs => M.ret (.obj C ns fs)
theorem vi {K : Frag} {mi : List D -> M (List D)} {F : Fx} {H2 : Hp} {β2 : Bg} {σ : St} {Q : VK} {ds : List D} {vs : List V} (fr : Fr F H2 β2) (hl : vs.length = n) (hd : DenL K F H2 ds vs) (r : run (Den K F) F E σ (M.bind (mi ds) fun fs => M.ret (.obj C ns fs)) H2 Q β2) :
  ∀ x dx, H2 x = none -> H2 dx = none -> dx ≠ x -> spI K C ns n mi (.ref x :: vs) (upd (upd H2 dx (.own x)) x (.ins C dx [])) (fun v H3 => v = .non /\ Q (.ref x) H3) (E σ) := by
 intro x dx hx hdx ne
 have hA : ¬ F.A x := fr.fresh hx
 have same : bN H2 (upd (upd H2 dx (.own x)) x (.ins C dx [])) := fun a o h => by
  rw [upd_ne (ne_of_none h hx), upd_ne (ne_of_none h hdx)]; exact h
 have t := fr.same same
 have frx : Fr (F.but x) (upd (upd H2 dx (.own x)) x (.ins C dx [])) β2 := ⟨fun a ha z => (by
  rcases ha with ha | ha
  ·exact t.fr.occ a ha z
  ·subst ha; rw [ao] at z; cases z), fun b l q => let ⟨z1, z2, z3⟩ := fr.bgA b l q; ⟨.inl z1, .inl z2, z3⟩, t.fr.bag⟩
 have nb : ∀ b l, F.bg = some (b, l) -> x ≠ b /\ x ≠ l := fun b l q => ⟨fun z => hA (z ▸ (fr.bgA b l q).1), fun z => hA (z ▸ (fr.bgA b l q).2.1)⟩
 have tr1 : Tr F H2 (F.but x) (upd (upd H2 dx (.own x)) x (.ins C dx [])) := ⟨fun a h1 h2 z => by
  rcases z with z | z
  ·exact h1 z
  ·subst z; exact h2 hx, fun a o _ h => same a o h, rfl⟩
 obtain ⟨rr, β', er, h⟩ := r
 refine ⟨x, vs, F.but x, ds, β2, dx, rfl, hl, frx, .inr rfl, nb, ao, DenL.tr tr1 _ _ hd, ?_⟩
 have toF : ∀ {H' : Hp} {β' : Bg}, ToX (F.but x) x (upd (upd H2 dx (.own x)) x (.ins C dx [])) H' β' -> To F H2 H' β' := fun {H' β'} tx => ⟨fun a o ha n => tx.kp a o (ne_of_none ha hx) (same a o ha) n, ⟨fun a ha => tx.fr.occ a (.inl ha), fr.bgA, tx.fr.bag⟩⟩
 cases q : mi ds β2 with
 | none => unfold M.bind at er; rw [q] at er; cases er
 | some z =>
  obtain ⟨r1, β1⟩ := z
  refine ⟨r1, β1, rfl, ?_⟩
  cases r1 with
  | error Ce =>
   rw [M.bind_err q] at er
   cases er
   exact fun H' tx => h H' (toF tx)
  | ok fs =>
   rw [M.bind_ok q] at er
   cases er
   refine fun H' xs tx hx' hlen hden => ⟨rfl, h (.ref x) H' (toF tx) ⟨x, dx, xs, rfl, hA, hx', hlen, DenL.tr Fx.tr_of _ _ hden⟩⟩
theorem jx {mi : List D -> M (List D)} {g : FL} {dd : List D} (Mm : Mk X.K C f) (G : FnOk X.prog X.w X.K X.mg X.base (CXE X.prog X.w) k f fd ps (spI X.K C ns n mi)) (hr : Room (k + 1) X.A) (hg : Gl X x) (hm : X.mg x = some (.ref C)) (hb : dH X.K fd ps dd) (hx : bJ (CXE X.prog X.w) X E)
  (ha : PA X (e :: es) (tVA X.K g E)) (hn : ∀ δ β r β', g δ β = some (.ok r, β') -> r.length + dd.length = n) (hdb : (x == ("__debug__" : Str)) = false := by decide) (he : starEach (e :: es) X.env = (false, eval e X.env) :: starEach es X.env := by rfl) (hpl : (backTo pos (starEach es X.env)).any (·.1) = false := by rfl) :
  PE X (.Call (.Name x p) (e :: es) [] pos) (tV X.K (gq C ns mi g dd) E) := by
 obtain ⟨ds, dvs, b, rv, rd⟩ := hb
 refine (xC Mm G hr hg hm b rv hx ha hdb he hpl).imp fun σ H Q h_ => ex6 h_ fun F δ β fr vk r => ⟨F, δ, β, fr, vk, ?_⟩
 obtain ⟨r0, β0, e0, h0⟩ := run.bind (R := DenL X.K F) r
 refine ⟨r0, β0, e0, ?_⟩
 cases r0 with
 | error C => exact h0
 | ok as =>
  intro vs H1 t hd
  obtain ⟨d', β1, t1, hd1, r1⟩ := h0 vs H1 t hd
  have hl := hn _ _ _ _ e0
  have hz := (rd F H1).length
  exact vi t1.fr (by rw [List.length_append, ← hd.length, ← hz, hl]) (DenL.append hd1 (rd F H1)) r1
end
abbrev IP := Ds -> List D -> Bg -> Option (Except Addr (List D) × Bg)
def w4 : IP := fun _ done β => some (.ok done, β)
def iY (g : G) (ip : IP) : IP := fun δ done β => match g δ β with
 | some (.nx δ1, β1) => match δ[0]?, δ1[0]? with
  | some (some (Sl.sh (D.adr x))), some (some (Sl.sh (D.adr y))) => if x = y then ip δ1 done β1 else none
  | _, _ => none
 | some (.ex C _, β1) => some (.error C, β1)
 | _ => none
def l4 (f : FD) (ip : IP) : IP := fun δ done β => match f (vw δ) β with
 | some (.ok d, β1) => ip δ (done ++ [d]) β1
 | some (.error C, β1) => some (.error C, β1)
 | none => none
structure StpX (x : Addr) (B : Ow) (H : Hp) (B' : Ow) (H' : Hp) : Prop where
 kp : ∀ a o, a ≠ x -> H a = some o -> (B a = none \/ B a = some 0) -> H' a = some o
 tg : ∀ a, B a = some 0 \/ B a = some 1 -> B' a = B a
 nn : ∀ a o, a ≠ x -> H a = some o -> B a = none -> B' a = none
 al : ∀ a, H a ≠ none -> H' a ≠ none
theorem Stp.x {x : Addr} {B B' : Ow} {H H' : Hp} (s : Stp B H B' H') : StpX x B H B' H' := ⟨fun a o _ => s.kp a o, s.tg, fun a o _ => s.nn a o, s.al⟩
theorem StpX.trans {x : Addr} {B B1 B2 : Ow} {H H1 H2 : Hp} (a : StpX x B H B1 H1) (b : StpX x B1 H1 B2 H2) : StpX x B H B2 H2 := by
 refine ⟨fun c o ne h n => b.kp c o ne (a.kp c o ne h n) ?_, fun c h => ?_, fun c o ne h n => b.nn c o ne (a.kp c o ne h (.inl n)) (a.nn c o ne h n), fun c h => b.al c (a.al c h)⟩
 ·rcases n with n | n
  ·exact .inl (a.nn c o ne h n)
  ·exact .inr ((a.tg c (.inl n)).trans n)
 ·have e := a.tg c h
  rw [← e] at h
  exact (b.tg c h).trans e
def iK (K : Frag) (bg : Option (Addr × Addr)) (E : St -> XK) (Dn : Ends) (B : Ow) (H : Hp) (x C dx : Addr) (all : List Str) (r : Except Addr (List D)) (β' : Bg) : Prop := match r with
 | .ok ds => ∀ σ' B' H' vs, StpX x B H B' H' -> Fr (FxB B' bg) H' β' -> H' x = some (.ins C dx (all.zip vs)) -> all.length = vs.length -> DenL K (FxB B' bg) H' ds vs -> Dn.nx σ' H'
 | .error Ce => ∀ σ' B' H', StpX x B H B' H' -> Fr (FxB B' bg) H' β' -> E σ' (.ref Ce) none H'
theorem iK.pre {K : Frag} {bg : Option (Addr × Addr)} {E : St -> XK} {Dn : Ends} {B B1 : Ow} {H H1 : Hp} {x C dx : Addr} {all : List Str} {r : Except Addr (List D)} {β' : Bg} (s : StpX x B H B1 H1) (h : iK K bg E Dn B H x C dx all r β') : iK K bg E Dn B1 H1 x C dx all r β' := by
 cases r with
 | ok ds => exact fun σ' B' H' vs t => h σ' B' H' vs (s.trans t)
 | error Ce => exact fun σ' B' H' t => h σ' B' H' (s.trans t)
def tI (K : Frag) (H₀ : Hp) (C : Addr) (ns0 names : List Str) (ip : IP) (E : St -> XK) : TS := fun Dn σ H => ∃ B bg δ β x dx vs0 ds0 r β', SOk K H₀ B bg H δ β σ /\ δ[0]? = some (some (.sh (.adr x))) /\ B x = some 0 /\ H x = some (.ins C dx (ns0.zip vs0)) /\ ns0.length = vs0.length /\ DenL K (FxB B bg) H ds0 vs0 /\ ip δ ds0 β = some (r, β') /\ iK K bg E Dn B H x C dx (ns0 ++ names) r β'
theorem nN {f : Str} {y : V} : ∀ {ns : List Str} {vs : List V}, ns.length = vs.length -> f ∉ ns -> cS f y (ns.zip vs) = (ns ++ [f]).zip (vs ++ [y])
 | [], [], _, _ => rfl
 | n :: ns, v :: vs, h, hf => by
  have h1 : ¬ n = f := fun z => hf (by rw [z]; exact List.mem_cons_self)
  show (if n = f then (n, y) :: ns.zip vs else (n, v) :: cS f y (ns.zip vs)) = _
  rw [if_neg h1, nN (by simpa using h) fun z => hf (List.mem_cons_of_mem _ z)]
  rfl
 | [], _ :: _, h, _ => by simp at h
 | _ :: _, [], h, _ => by simp at h
theorem SOk.upd0 {K : Frag} {H₀ : Hp} {B : Ow} {bg : Option (Addr × Addr)} {H : Hp} {δ : Ds} {β : Bg} {σ : St} {x : Addr} {o : HO} (ok : SOk K H₀ B bg H δ β σ) (hx : B x = some 0) : SOk K H₀ B bg (upd H x o) δ β σ /\ StpX x B H B (upd H x o) := by
 have al : ∀ c, H c ≠ none -> upd H x o c ≠ none := fun c hc => by
  by_cases z : c = x
  ·subst z; rw [ao]; simp
  ·rw [upd_ne z]; exact hc
 have nb : ∀ b l, bg = some (b, l) -> b ≠ x /\ l ≠ x := fun b l e => by
  obtain ⟨b1, b2⟩ := ok.bgt b l e
  exact ⟨fun z => (by rw [z, hx] at b1; cases b1), fun z => (by rw [z, hx] at b2; cases b2)⟩
 have tr : Tr (FxB B bg) H (FxB B bg) (upd H x o) := ⟨fun _ h _ => h, fun c u hc e => by
  rw [upd_ne]
  ·exact e
  ·intro z; subst z; exact hc (by show B c ≠ none; rw [hx]; simp), rfl⟩
 refine ⟨⟨⟨fun c hc => al c (ok.fr.occ c hc), ok.fr.bgA, fun b l e => ?_⟩, ok.bgt, ok.len, fun c hc => al c (ok.cov c hc), ok.new, fun c k hc => ?_, fun i s e => ?_⟩, fun c u ne h _ => by rw [upd_ne ne]; exact h, fun _ _ => rfl, fun _ _ _ _ n => n, al⟩
 ·obtain ⟨z1, z2⟩ := ok.fr.bag b l e
  obtain ⟨n1, n2⟩ := nb b l e
  exact ⟨by rw [upd_ne n1]; exact z1, by rw [upd_ne n2]; exact z2⟩
 ·obtain ⟨xs, h⟩ := ok.lst c k hc
  exact ⟨xs, by rw [upd_ne]; exact h; intro z; subst z; rw [hx] at hc; cases hc⟩
 ·obtain ⟨v, h1, h2⟩ := ok.tell i s e
  refine ⟨v, h1, ?_⟩
  cases s with
  | sh d => exact Den.tr tr _ _ h2
  | own ds =>
   obtain ⟨a, xs, rfl, hB, ha, hd⟩ := h2
   exact ⟨a, xs, rfl, hB, (by rw [upd_ne]; exact ha; intro z; subst z; rw [hx] at hB; cases hB), DenL.tr tr _ _ hd⟩
  | grd rows =>
   obtain ⟨a, rs, rfl, hB, ha, nd, rl⟩ := h2
   refine ⟨a, rs, rfl, hB, (by rw [upd_ne]; exact ha; intro z; subst z; rw [hx] at hB; cases hB), nd, RowL.tr tr rl fun r xs _ p q => ⟨p, ?_⟩⟩
   rw [upd_ne]
   ·exact q
   ·intro z; subst z
    have p' : B r = some (i + 2) := p
    rw [hx] at p'; cases p'
section
variable {X : Cx} {E : St -> XK} {st : Stmt} {sts : List Stmt} {C : Addr} {ns0 names : List Str} {ip : IP}
theorem A8 : PSs X [] (tI X.K X.H₀ C ns0 [] w4 E) := mH.imp fun Dn σ H h_ => by
 obtain ⟨B, bg, δ, β, x, dx, vs0, ds0, r, β', ok, h0, hx, hH, hl, hd, e, k⟩ := h_
 cases e
 rw [List.append_nil] at k
 exact k σ B H vs0 (Stp.refl B H).x ok.fr hH hl hd
theorem A6 {g : G} (h1 : PS X st (tG X.K X.H₀ g E)) (h2 : PSs X sts (tI X.K X.H₀ C ns0 names ip E)) : PSs X (st :: sts) (tI X.K X.H₀ C ns0 names (iY g ip) E) := (bY h1 h2).imp fun Dn σ H h_ => by
 obtain ⟨B, bg, δ, β, x, dx, vs0, ds0, r, β', ok, h0, hx, hH, hl, hd, e, k⟩ := h_
 unfold iY at e
 split at e
 ·rename_i δ1 β1 e1
  split at e
  ·rename_i x1 y1 q1 q2
   split at e
   ·rename_i z
    subst z
    rw [h0] at q1
    cases q1
    refine ⟨B, bg, δ, β, .nx δ1, β1, ok, e1, fun σ' B' H' s ok' => ?_⟩
    exact ⟨B', bg, δ1, β1, x, dx, vs0, ds0, r, β', ok', q2, (s.tg x (.inl hx)).trans hx, s.kp x _ hH (.inr hx), hl, DenL.tr s.tr _ _ hd, e, iK.pre s.x k⟩
   ·cases e
  ·cases e
 ·rename_i Ce δ1 β1 e1
  cases e
  exact ⟨B, bg, δ, β, .ex Ce δ1, _, ok, e1, fun σ' B' H' s ok' => k σ' B' H' s.x ok'.fr⟩
 ·cases e
theorem A7 {f : Str} {fv : FD} (c : Cls X.K C) (n : fq X.K C f) (hf : f ∉ ns0) (hlen : ns0.length < 1000) (h1 : PS X st (yy X.K (iO 0) (tV X.K fv E) f)) (h2 : PSs X sts (tI X.K X.H₀ C (ns0 ++ [f]) names ip E)) : PSs X (st :: sts) (tI X.K X.H₀ C ns0 (f :: names) (l4 fv ip) E) := (bY h1 h2).imp fun Dn σ H h_ => by
 obtain ⟨B, bg, δ, β, x, dx, vs0, ds0, r, β', ok, h0, hx, hH, hl, hd, e, k⟩ := h_
 refine ⟨FxB B bg, vw δ, β, ok.fr, ok.view, ?_⟩
 unfold l4 at e
 split at e
 ·rename_i d β1 e1
  refine ⟨.ok d, β1, e1, fun y H1 t1 hy => ?_⟩
  obtain ⟨ok1, s1⟩ := ok.to rfl t1
  obtain ⟨v, g1, g2⟩ := ok1.tell 0 _ h0
  have hv : v = .ref x := g2
  subst hv
  have hH1 := s1.kp x _ hH (.inr hx)
  refine ⟨_, g1, x, C, dx, _, rfl, hH1, c, n, ?_, ?_⟩
  ·rw [List.length_zip]; omega
  obtain ⟨ok2, s2⟩ := ok1.upd0 (o := .ins C dx (cS f y (ns0.zip vs0))) hx
  have trx : Tr (FxB B bg) H1 (FxB B bg) (upd H1 x (.ins C dx (cS f y (ns0.zip vs0)))) := ⟨fun _ h _ => h, fun a u ha e => by
   rw [upd_ne]
   ·exact e
   ·intro z; subst z; exact ha (by show B a ≠ none; rw [hx]; simp), rfl⟩
  refine ⟨B, bg, δ, β1, x, dx, vs0 ++ [y], ds0 ++ [d], r, β', ok2, h0, hx, by rw [ao, nN hl hf], by simp [hl], DenL.append (DenL.tr trx _ _ (DenL.tr s1.tr _ _ hd)) (DenL.cons (Den.tr trx _ _ hy) DenL.nil), e, ?_⟩
  rw [List.append_assoc]
  exact iK.pre (s1.x.trans s2) k
 ·rename_i Ce β1 e1
  cases e
  refine ⟨.error Ce, _, e1, fun H1 t1 => ?_⟩
  obtain ⟨ok1, s1⟩ := ok.to rfl t1
  exact k σ B H1 s1.x ok1.fr
 ·cases e
end
open Classical in
noncomputable def kx (m : Nat) (ip : IP) : List D -> M (List D) := fun ds β => if h : ∃ r, ∀ x, ip (stD m (.adr x :: ds)) [] β = some r then some h.choose else none
theorem vC {m : Nat} {ip : IP} {ds : List D} {β : Bg} {r : Except Addr (List D) × Bg} (h : ∀ x, ip (stD m (.adr x :: ds)) [] β = some r) : kx m ip ds β = some r := by
 have hx : ∃ r, ∀ x, ip (stD m (.adr x :: ds)) [] β = some r := ⟨r, h⟩
 unfold kx
 rw [dif_pos hx]
 have := hx.choose_spec 0
 rw [h 0] at this
 exact this.symm
theorem ub {m : Nat} {ip : IP} {ds : List D} {β : Bg} {r : Except Addr (List D) × Bg} (h : kx m ip ds β = some r) : ∀ x, ip (stD m (.adr x :: ds)) [] β = some r := by
 unfold kx at h
 split at h
 ·rename_i hx
  have := hx.choose_spec
  cases h
  exact this
 ·cases h
section
variable {P : Program} {w : World} {K : Frag} {mg : Str -> Option Value} {base : Heap}
theorem x5 {x qual : Str} {st : Stmt} {f C : Addr} {fd : FuncData} {N ps names : List Str} {k : Nat} (n m : Nat) (ip : IP) (F : FunD K x qual st f fd) (S : FnScope N ps (am st)) (hn' : ps.length = n + 1) (hm' : N.length = m)
  (hbody : ∀ (cdv : Value) (A : Around) (outer : List Env) (s : Shared) (H : Hp) (E : XK), Room k (A.deeper (envOfC qual (am st) s.heap.objs.size f cdv)) ->
   PSs (cI (CXE P w) P w K mg base N qual (am st) f cdv A outer s H E) (bX st) (tI K H C [] names ip (fun _ => E))) : FnOk P w K mg base (CXE P w) (k + 1) f fd ps (spI K C names n (kx m ip)) := by
 subst hm'
 refine F.okE S (fun vs H Q E h => ?_) fun cdv A outer s H vs Q E hr h => ?_
 ·obtain ⟨y, rest, F0, ds, β, dx, rfl, hl, _⟩ := h
  rw [List.length_cons, hl, hn']
 obtain ⟨y, rest, F0, ds, β, dx, rfl, hl, fr, hA0, nb, hH, hd, r, β', e, h⟩ := h
 refine ⟨_, hbody cdv A outer s H E hr, ?_⟩
 have hd' : DenL K F0 H (.adr y :: ds) (.ref y :: rest) := DenL.cons rfl hd
 obtain ⟨B, ok, hA, h1, hn⟩ := o7 (N := N) fr hd'
 have hy : B y = some 0 := by
  rcases hA y hA0 with z | z
  ·exact z
  ·obtain ⟨b, l, q, w⟩ := h1 y z
   obtain ⟨n1, n2⟩ := nb b l q
   rcases w with w | w
   ·exact absurd w n1
   ·exact absurd w n2
 have toF : ∀ {B' : Ow} {H' : Hp} {β' : Bg}, StpX y B H B' H' -> Fr (FxB B' F0.bg) H' β' -> ToX F0 y H H' β' /\ Tr (FxB B' F0.bg) H' F0 H' := fun {B' H' β'} s fr' => by
  have hs : ∀ a, F0.A a -> B' a ≠ none := fun a ha => by
   rw [s.tg a (hA a ha)]
   rcases hA a ha with z | z <;> rw [z] <;> simp
  refine ⟨⟨fun a o ne ha n => s.kp a o ne ha ?_, fun a ha => fr'.occ a (hs a ha), fun b l e => fr.bgA b l e, fr'.bag⟩, fun a ha _ z => ha (hs a z), fun _ _ _ h => h, rfl⟩
  cases q : B a with
  | none => exact .inl rfl
  | some t =>
   have := hA a (hn a (by rw [q]; simp))
   rcases this with z | z
   ·rw [q] at z; exact .inr z
   ·obtain ⟨b, l, e, w⟩ := h1 a z
    obtain ⟨n1, n2⟩ := n b l e
    rcases w with w | w
    ·exact absurd w n1
    ·exact absurd w n2
 refine ⟨B, F0.bg, stD N.length (.adr y :: ds), β, y, dx, [], [], r, β', ok, rfl, hy, hH, rfl, DenL.nil, ub e y, ?_⟩
 cases r with
 | ok es =>
  intro σ' B' H' vs s fr' hx' hlen hden
  obtain ⟨t1, t2⟩ := toF s fr'
  exact h H' vs t1 hx' hlen (DenL.tr t2 _ _ hden)
 | error Ce =>
  intro σ' B' H' s fr'
  exact h H' (toF s fr').1
end
section
variable {X : Cx} {E : St -> XK} {K : Frag} {st : Stmt}
def wR (to ti : TE) : TS := fun D σ H => to σ H fun o H1 => ti σ H1 fun i H2 => ∃ l xs k j, o = .ref l /\ i = .int k /\ H2 l = some (.lst xs) /\ ixN xs.length k = some j /\ D.nx σ (upd H2 l (.lst (xs.eraseIdx j)))
theorem qB {o i : Expr} {tpos pos : Pos} {to ti : TE} (ho : PE X o to) (hi : PE X i ti) : PS X (.Delete [.Subscript o i tpos] pos) (wR to ti) := by
 intro pins s σ H D I h
 refine wpAny_Delete (wpAny_deleteEach_cons (wpAny_delete_Subscript (thn (ho pins s σ H _ I h) fun u s1 ⟨x, H1, I1, rx, q1⟩ => thn (hi pins s1 σ H1 _ I1 q1) fun iv s2 ⟨y, H2, I2, ry, l, xs, k, j, ex, ey, hl, hj, q2⟩ => ?_)))
 subst ex ey
 obtain rfl : u = Value.ref l := rx
 obtain ⟨t, rfl⟩ := ry
 obtain ⟨z, its, n, r, hlen, e⟩ := I2.lstM hl
 obtain ⟨h1, h2, h3, h4⟩ := mW hj
 have hn := iC
 refine PySem.P.delItem_list (n := n) e (fitsIndex_both (by omega) (by omega)) (by rw [List.size_toArray, ← hlen]; exact h1) ?_ (by rw [List.size_toArray, ← hlen]; exact z)
 refine wpAny_deleteEach_nil ⟨σ, _, I2.lset (t' := s2.toks) (its' := its.eraseIdx j) hl e ?_ (r.eraseIdx j) ?_, q2⟩
 ·show its.toArray.eraseIdxIfInBounds j = (its.eraseIdx j).toArray
  rw [List.eraseIdxIfInBounds_toArray]
 ·have := List.length_eraseIdx_le xs j
  omega
def m5 (i : Nat) (f : FD) : G := fun δ β => match δ.getD i none with
 | some (.own cs) => match f (vwA δ) β with
  | some (.ok (.int k), β1) => match ixN cs.length k with
   | some j => some (.nx (δ.set i (some (.own (cs.eraseIdx j)))), β1)
   | none => none
  | _ => none
 | _ => none
theorem wQ {i : Nat} {f : FD} (h : PS X st (wR (iO i) (tV X.K f E))) : PS X st (tG X.K X.H₀ (m5 i f) E) := h.imp fun D σ H h_ => by
 obtain ⟨B, bg, δ, β, o, β', ok, e, q⟩ := h_
 unfold m5 at e
 split at e
 case h_2 => cases e
 rename_i cs ec
 split at e
 case h_2 => cases e
 rename_i k β1 e1
 split at e
 case h_2 => cases e
 rename_i j ej
 cases e
 obtain ⟨v, h1, a, ys, rfl, e2, e3, e4⟩ := ok.tell i _ (cg ec)
 refine ⟨_, h1, FxA B bg, vwA δ, β, ok.frA, ok.viewA, .ok (.int k), _, e1, fun u H' t hu => ?_⟩
 cases hu
 obtain ⟨ok2, s2⟩ := ok.to rfl t
 obtain ⟨v', h1', a', ys', ev', e2', e3', e4'⟩ := ok2.tell i _ (cg ec)
 rw [h1] at h1'
 cases h1'
 cases ev'
 obtain ⟨ok3, s3⟩ := ok2.writeOwn (ds := cs.eraseIdx j) (xs := ys'.eraseIdx j) h1 e2 e3' (DenL.erase j e4')
 exact ⟨a, ys', k, j, rfl, rfl, e3', by rw [← e4'.length]; exact ej, q _ _ _ (s2.trans s3) ok3⟩
end
section
variable {h : G} {δ : Ds} {β β1 : Bg} {Q : Out -> Bg -> Prop} {i : Nat} {f : FD}
theorem wI {cs : List D} {k : Int} {j : Nat} (eg : δ.getD i none = some (.own cs)) (e : f (vwA δ) β = some (.ok (.int k), β1)) (h1 : ixN cs.length k = some j) (k' : Gw h (δ.set i (some (.own (cs.eraseIdx j)))) β1 Q) : Gw (ak (m5 i f) h) δ β Q :=
 dB (by unfold m5; simp only [eg, e, h1]) k'
end
section
variable {C Ce : Addr} {m : Str} {ns : List Str} {mf : List D -> M D} {mi : List D -> M (List D)} {fo : FD} {g gk : FL} {dd fs as ks : List D} {src : List (Sr D)} {δ : Dn} {β β1 β2 β3 : Bg} {r : Except Addr D × Bg} {d : D} {f : Str} {h : G} {Q : Out -> Bg -> Prop} {i : Nat} {δs : Ds}
theorem sM (e1 : fo δ β = some (.ok (.obj C ns fs), β1)) (e2 : g δ β1 = some (.ok as, β2)) (e3 : mf (.obj C ns fs :: (as ++ dd)) β2 = some r) (hm : m ∉ ns := by decide) : kB C m mf fo g dd δ β = some r := by
 unfold kB
 rw [M.bind_ok e1]
 simp only [hm, not_false_eq_true, and_self, if_true]
 rw [M.bind_ok e2]
 exact e3
theorem qg (e1 : fo δ β = some (.ok (.obj C ns fs), β1)) (e2 : g δ β1 = some (.ok as, β2)) (e4 : gk δ β2 = some (.ok ks, β3)) (e3 : mf (.obj C ns fs :: (as ++ src.map (Sr.pick .non ks))) β3 = some r) (hm : m ∉ ns := by decide) : jW C m mf fo g gk src δ β = some r := by
 unfold jW
 rw [M.bind_ok e1]
 simp only [hm, not_false_eq_true, and_self, if_true]
 rw [M.bind_ok e2, M.bind_ok e4]
 exact e3
theorem yf (e1 : g δ β = some (.ok as, β1)) (e2 : mi (as ++ dd) β1 = some (.ok fs, β2)) : gq C ns mi g dd δ β = some (.ok (.obj C ns fs), β2) := by
 unfold gq
 rw [M.bind_ok e1, M.bind_ok e2]
 rfl
theorem lz {x : FD} (e1 : x δ β = some (.ok (.obj C ns fs), β1)) (e2 : (ns.zip fs).lookup f = some d) : f1 (i5 C f) x δ β = some (.ok d, β1) := by
 refine x_1 e1 ?_
 unfold i5
 simp only [if_true]
 exact e2
theorem oX {fl : FL} {ds : List D} (e : fl (vw δs) β = some (.ok ds, β1)) (k : Gw h (δs.set i (some (.own ds))) β1 Q) : Gw (ak (hW i fl) h) δs β Q := dB (by unfold hW; simp only [e]) k
theorem zg {g : G} {ip : IP} {δ δ1 : Ds} {done : List D} {x : Addr} {r : Except Addr (List D) × Bg} (e : g δ β = some (.nx δ1, β1)) (h0 : δ[0]? = some (some (.sh (.adr x)))) (h1 : δ1[0]? = some (some (.sh (.adr x)))) (k : ip δ1 done β1 = some r) : iY g ip δ done β = some r := by
 unfold iY
 simp only [e, h0, h1, if_true]
 exact k
theorem xX {g : G} {ip : IP} {δ δ1 : Ds} {done : List D} (e : g δ β = some (.ex Ce δ1, β1)) : iY g ip δ done β = some (.error Ce, β1) := by
 unfold iY
 simp only [e]
theorem zh {f : FD} {ip : IP} {δ : Ds} {done : List D} {d : D} {r : Except Addr (List D) × Bg} (e : f (vw δ) β = some (.ok d, β1)) (k : ip δ (done ++ [d]) β1 = some r) : l4 f ip δ done β = some r := by
 unfold l4
 rw [e]
 exact k
end
def tpA {α : Type} (d : α) (c : Nat) (rows : List (List α)) : List (List α) := (List.range c).map fun j => rows.map fun row => row.getD j d
abbrev tp (c : Nat) (rows : LI) : LI := tpA 0 c rows
theorem gs {α : Type} {d : α} {r c : Nat} {rows : List (List α)} (h : rows.length = r) : Shp c r (tpA d c rows) := ⟨by simp [tpA], fun row hr => by
 obtain ⟨j, _, rfl⟩ := List.mem_map.mp hr
 rw [List.length_map, h]⟩
theorem yk {α : Type} {d : α} {c j : Nat} {rows : List (List α)} (h : j < c) : (tpA d c rows)[j]? = some (rows.map fun row => row.getD j d) := by
 unfold tpA
 rw [List.getElem?_map, List.getElem?_range h]; rfl
theorem rJ {d : Int} : ∀ (row : List Int), (List.range row.length).map (fun j => row.getD j d) = row := fun row => by
 refine List.ext_getElem? fun i => ?_
 rw [List.getElem?_map]
 by_cases h : i < row.length
 ·rw [List.getElem?_range h]
  show some (row.getD i d) = _
  rw [List.getD_eq_getElem?_getD, List.getElem?_eq_getElem h]; rfl
 ·rw [List.getElem?_eq_none (by simpa using h), List.getElem?_eq_none (by omega)]; rfl
theorem qq {α : Type} (f g : α -> Int) : ∀ l : List α, (l.map fun x => f x + g x).sum = (l.map f).sum + (l.map g).sum
 | [] => by simp
 | x :: l => by
  simp only [List.map_cons, List.sum_cons, qq f g l]; omega
theorem o4 {α : Type} : ∀ l : List α, (l.map fun _ => (0 : Int)).sum = 0
 | [] => rfl
 | x :: l => by simp only [List.map_cons, List.sum_cons, o4 l]; rfl
theorem sS {c : Nat} : ∀ {rows : LI}, (∀ row ∈ rows, row.length = c) -> tot (tp c rows) = tot rows
 | [], _ => by
  show ((tpA 0 c []).map List.sum).sum = 0
  unfold tpA
  rw [List.map_map]
  exact o4 (List.range c)
 | row :: rows, h => by
  have ih := sS (c := c) (rows := rows) fun x hx => h x (List.mem_cons_of_mem _ hx)
  have hl := h row List.mem_cons_self
  unfold tot tp tpA at ih ⊢
  rw [List.map_map] at ih ⊢
  have e : (fun j => (List.sum ((row :: rows).map fun row => row.getD j 0))) = fun j => row.getD j 0 + (rows.map fun row => row.getD j 0).sum := by
   funext j
   rw [List.map_cons, List.sum_cons]
  show ((List.range c).map fun j => (List.sum ((row :: rows).map fun row => row.getD j 0))).sum = _
  rw [e, qq, ← hl, rJ, hl, List.map_cons, List.sum_cons]
  congr 1
theorem AI {c : Nat} {rows : LI} (h : ∀ row ∈ rows, ∀ x ∈ row, 0 <= x) : ∀ row ∈ tp c rows, ∀ x ∈ row, 0 <= x := fun row hr x hx => by
 obtain ⟨j, _, rfl⟩ := List.mem_map.mp hr
 obtain ⟨q, hq, rfl⟩ := List.mem_map.mp hx
 rw [List.getD_eq_getElem?_getD]
 cases e : q[j]? with
 | none => exact Int.le_refl 0
 | some y => exact h q hq y (List.mem_of_getElem? e)
structure Gd (r c : Nat) (rows : LI) : Prop where
 shp : Shp r c rows
 nn : ∀ row ∈ rows, ∀ x ∈ row, 0 <= x
 tot : tot rows <= 40
theorem Tab.gd {r c : Nat} {rows : LI} (t : Tab r c rows) : Gd r c rows := ⟨t.shp, t.nn, t.tot⟩
theorem Gd.tab {r c : Nat} {rows : LI} (t : Gd r c rows) (r0 : 1 <= r) (r1 : r <= 4) (c0 : 1 <= c) (c1 : c <= 6) : Tab r c rows := ⟨t.shp, t.nn, t.tot, r0, r1, c0, c1⟩
theorem Gd.tp {r c : Nat} {rows : LI} (t : Gd r c rows) : Gd c r (tp c rows) := ⟨gs t.shp.1, AI t.nn, by rw [sS t.shp.2]; exact t.tot⟩
def cb (x y : List Int) : List Int := (x.zip y).map fun p => p.1 + p.2
theorem mj {x y : List Int} {c : Nat} (h1 : x.length = c) (h2 : y.length = c) : (cb x y).length = c := by
 unfold cb
 rw [List.length_map, List.length_zip]; omega
theorem jf : ∀ {x y : List Int}, x.length = y.length -> (cb x y).sum = x.sum + y.sum
 | [], [], _ => rfl
 | a :: x, b :: y, h => by
  have ih := jf (x := x) (y := y) (by simpa using h)
  unfold cb at ih ⊢
  simp only [List.zip_cons_cons, List.map_cons, List.sum_cons, ih]; omega
 | [], _ :: _, h => by simp at h
 | _ :: _, [], h => by simp at h
theorem uF {x y : List Int} (hx : ∀ a ∈ x, 0 <= a) (hy : ∀ a ∈ y, 0 <= a) : ∀ a ∈ cb x y, 0 <= a := fun a ha => by
 obtain ⟨p, hp, rfl⟩ := List.mem_map.mp ha
 have h1 := hx p.1 (List.of_mem_zip hp).1
 have h2 := hy p.2 (List.of_mem_zip hp).2
 omega
def cM (rows : LI) (i j : Nat) : LI := (rows.set i (cb (rows.getD i []) (rows.getD j []))).eraseIdx j
theorem nI : ∀ {xs : List Int} {j : Nat} {x : Int}, xs[j]? = some x -> (xs.eraseIdx j).sum = xs.sum - x
 | [], j, x, h => by simp at h
 | y :: xs, 0, x, h => by
  simp at h; subst h
  simp only [List.eraseIdx_cons_zero, List.sum_cons]; omega
 | y :: xs, j + 1, x, h => by
  have h' : xs[j]? = some x := by simpa using h
  simp only [List.eraseIdx_cons_succ, List.sum_cons, nI h']; omega
theorem cn {α γ : Type} (f : α -> γ) : ∀ (l : List α) (j : Nat), (l.eraseIdx j).map f = (l.map f).eraseIdx j
 | [], j => by simp
 | x :: l, 0 => rfl
 | x :: l, j + 1 => by simp [cn f l j]
theorem Gd.join {r c i j : Nat} {rows : LI} (t : Gd r c rows) (hi : i < r) (hj : j < r) (hne : i ≠ j) : Gd (r - 1) c (cM rows i j) := by
 obtain ⟨x, hx, lx⟩ := t.shp.at hi
 obtain ⟨y, hy, ly⟩ := t.shp.at hj
 have ex : rows.getD i [] = x := by rw [List.getD_eq_getElem?_getD, hx]; rfl
 have ey : rows.getD j [] = y := by rw [List.getD_eq_getElem?_getD, hy]; rfl
 unfold cM
 rw [ex, ey]
 refine ⟨⟨?_, fun row hr => ?_⟩, fun row hr => ?_, ?_⟩
 ·rw [List.length_eraseIdx_of_lt (by rw [List.length_set, t.shp.1]; exact hj), List.length_set, t.shp.1]
 ·rcases List.mem_or_eq_of_mem_set (List.mem_of_mem_eraseIdx hr) with h | rfl
  ·exact t.shp.2 row h
  ·exact mj lx ly
 ·rcases List.mem_or_eq_of_mem_set (List.mem_of_mem_eraseIdx hr) with h | rfl
  ·exact t.nn row h
  ·exact uF (t.nn x (List.mem_of_getElem? hx)) (t.nn y (List.mem_of_getElem? hy))
 ·have ht := t.tot
  unfold L2.Pu.tot at ht ⊢
  rw [cn, List.map_set, nI (x := y.sum) (by
   rw [List.getElem?_set, if_neg hne, List.getElem?_map, hy]; rfl), kh (x := x.sum) (by rw [List.getElem?_map, hx]; rfl), jf (by omega)]
  omega
end L2.Pu
namespace L2.Pu
open PySem PySem.Spec PyProof PyProof.Rows
section
variable {X : Cx}
end
section
variable {prog : Program} {w : World} {A : Around} {E : Value -> Shared -> Prop} {s : Shared} {l : Addr} {xs : Array (Int × Tok)}
end
section
variable {X : Cx} {K : Frag}
end
end L2.Pu
namespace L2
open PySem PySem.Spec PyProof.Rows
end L2
namespace L2.Pu
open PySem PySem.Spec PyProof.Rows
section
variable {X : Cx} {E : St -> XK} {K : Frag} {elt target iter : Expr} {ifs : List Expr} {rest : List Comprehension} {scope : Scope} {pos : Pos} {Nc vars : List Str} {caps : List Nat} {g : TG} {tb : Addr -> TB}
theorem s0 {it : FL} {tg : TgF} {tt : Dn -> M Bool} {b : FL} {i : Nat} {x : Str} {pos' spos : Pos} (hN : X.N.Nodup) (hi' : X.N[i]? = some x) (hx : Loc X.env.scope x) (hc : X.calm = true) (S : CmpScope X scope Nc vars caps) (hi : PI X target iter (iV X.K it E))
  (hb : ∀ (cl : List (Str × Addr)) (C : Addr) (fp : List Addr) (s : Shared) (H : Hp), PG (aZ X Nc scope cl C fp s H) target g /\ fJ (aZ X Nc scope cl C fp s H) ifs (tVT X.K tt E0) /\ ∀ D, PB (aZ X Nc scope cl C fp s H) elt (⟨target, iter, ifs, 0⟩ :: rest) scope pos 0 D (tb D))
  (lg : dg X.K g tg) (sg : eJ tg) (lb : ∀ D, fR X.K D (tb D) b)
  (hsw : swapsWith (.ListComp elt (⟨target, iter, ifs, 0⟩ :: rest) scope pos) (some (.Name x pos')) spos.line X.env = pure true := by rfl)
  (hs : ∀ x, foldedSetIterable iter X.env x = pure x := by intro _; rfl) (hf : X.fn x = true \/ X.env.scope.names.lookup x = some .local := by first | exact .inl rfl | exact .inr rfl | assumption) :
  PS X (.Assign [.Name x pos'] (.ListComp elt (⟨target, iter, ifs, 0⟩ :: rest) scope pos) spos) (tG X.K X.H₀ (hW i (cV vars.length caps it tg tt b)) E) :=
 sZ ((mI hN hi' hx hc S hi hb hsw hs hf).imp fun D σ H h => nE lg sg lb h)
end
section
variable {X : Cx} {E : St -> XK} {K : Frag} {st : Stmt} {H₀ : Hp} {B : Ow} {bg : Option (Addr × Addr)} {H H' : Hp} {δ : Ds} {β β' : Bg} {σ : St}
end
theorem lU1 {us : List Value} (h : us.length = 1) : ∃ a0, us = [a0] := List.length_eq_one_iff.mp h
theorem lU2 {us : List Value} (h : us.length = 2) : ∃ a0 a1, us = [a0, a1] := by
 obtain ⟨a, l, rfl⟩ := List.exists_cons_of_length_eq_add_one h
 obtain ⟨b, rfl⟩ := lU1 (us := l) (by simpa using h)
 exact ⟨_, _, rfl⟩
theorem lU3 {us : List Value} (h : us.length = 3) : ∃ a0 a1 a2, us = [a0, a1, a2] := by
 obtain ⟨a, l, rfl⟩ := List.exists_cons_of_length_eq_add_one h
 obtain ⟨b, c, rfl⟩ := lU2 (us := l) (by simpa using h)
 exact ⟨_, _, _, rfl⟩
end L2.Pu
namespace L2
open PySem PySem.Spec PyProof.Rows
section
variable {prog : Program} {w : World} {A : Around} {E : Value -> Shared -> Prop} {s : Shared} {K : Frag}
end
section
variable {X : Cx}
end
namespace Pu
section
variable {X : Cx} {E : St -> XK}
end
end Pu
end L2
namespace L2.Pu
open PySem PySem.Spec PyProof.Rows
section
variable {X : Cx} {E : St -> XK} {a b : Expr} {pos : Pos} {k : Nat} {f C : Addr} {fd : FuncData} {ps : List Str} {K : Frag}
def oM : D -> D -> Option D
 | .bl a, .bl b => some (.bl (!decide (a = b)))
 | _, _ => none
def yA (g : Bool -> Bool -> Bool) : R2 := fun x y H Q => ∃ p q, x = .bl p /\ y = .bl q /\ Q (.bl (g p q)) H
theorem vP (p q : Bool) : (Value.bool p == Value.bool q) = decide (p = q) := by cases p <;> cases q <;> rfl
theorem qG : OpR X (compareOp .IsNot) (yA fun p q => !decide (p = q)) := by
 intro pins s σ H x y v u Q I rx ry h
 obtain ⟨p, q, rfl, rfl, h⟩ := h
 cases rx
 cases ry
 exact wpAny_isNot_plain rfl ⟨_, H, I, by rw [vP]; exact rfl, h⟩
theorem tY : bd K (yA fun p q => !decide (p = q)) oM := fun F H β Q d1 d2 d v1 v2 fr h1 h2 e k => by
 unfold oM at e
 split at e
 ·cases e
  exact ⟨_, _, h1, h2, k _ H (To.refl fr) rfl⟩
 ·cases e
structure IsC (K : Frag) (C : Addr) : Prop where
 cl : Cls K C
 ha : findIn K (.ref C) "__class__" = some (some (.builtin "object.__class__"))
 hn : specialIn K (.builtin "object.__class__") "__get__" = some (some (.builtin "getset_descriptor.__get__"))
 htk : PySem.W.takesIn K (.builtin "object.__class__") = some true
 hm : mroIn K C (.type "object") = some true
end
def bx (x y : List Int) : List Int := (x.zip y).map fun p => p.1 - p.2
theorem iP {x y : List Int} {c : Nat} (h1 : x.length = c) (h2 : y.length = c) : (bx x y).length = c := by
 unfold bx
 rw [List.length_map, List.length_zip]; omega
theorem rc : ∀ {x y : List Int}, x.length = y.length -> cb (bx x y) y = x
 | [], [], _ => rfl
 | [], _ :: _, h => by simp at h
 | _ :: _, [], h => by simp at h
 | a :: x, b :: y, h => by
  have ih := rc (x := x) (y := y) (by simpa using h)
  unfold cb bx at ih ⊢
  simp only [List.zip_cons_cons, List.map_cons, ih]
  rw [show a - b + b = a by omega]
theorem o5 : ∀ {x y : List Int} (j : Nat), x.length = y.length -> (bx x y).getD j 0 + y.getD j 0 = x.getD j 0
 | [], [], j, _ => by simp [bx]
 | [], _ :: _, _, h => by simp at h
 | _ :: _, [], _, h => by simp at h
 | a :: x, b :: y, 0, h => by simp [bx]
 | a :: x, b :: y, j + 1, h => by
  have ih := o5 (x := x) (y := y) j (by simpa using h)
  unfold bx at ih ⊢
  simpa using ih
def Wi (t x : List Int) : Prop := t.length = x.length /\ ∀ j, 0 <= t.getD j 0 /\ t.getD j 0 <= x.getD j 0
theorem qM {x : List Int} (h : ∀ j, 0 <= x.getD j 0) : ∀ a ∈ x, 0 <= a := fun a ha => by
 obtain ⟨j, hj⟩ := List.getElem?_of_mem ha
 have := h j
 rw [List.getD_eq_getElem?_getD, hj] at this
 exact this
theorem Wi.nn {t x : List Int} (h : Wi t x) : ∀ a ∈ t, 0 <= a := qM fun j => (h.2 j).1
theorem Wi.sub {t x : List Int} (h : Wi t x) : ∀ a ∈ bx x t, 0 <= a := qM fun j => by
 have := o5 (x := x) (y := t) j h.1.symm
 have := (h.2 j).2
 omega
def cK (rows : LI) (i : Nat) (t : List Int) : LI := rows.take i ++ [bx (rows.getD i []) t, t] ++ rows.drop (i + 1)
theorem uQ {α : Type} {rows : List α} {i : Nat} {x : α} (h : rows[i]? = some x) : ∃ p q, rows = p ++ x :: q /\ p.length = i /\ rows.take i = p /\ rows.drop (i + 1) = q := by
 obtain ⟨hi, e⟩ := List.getElem?_eq_some_iff.mp h
 refine ⟨rows.take i, rows.drop (i + 1), ?_, by rw [List.length_take]; omega, rfl, rfl⟩
 rw [← e, List.getElem_cons_drop, List.take_append_drop]
theorem xH {rows p q : LI} {i : Nat} {x t : List Int} (e : rows = p ++ x :: q) (hp : p.length = i) : cK rows i t = p ++ bx x t :: t :: q := by
 subst e hp
 unfold cK
 simp [List.getD_eq_getElem?_getD]
theorem Gd.part {r c i : Nat} {rows : LI} {x t : List Int} (g : Gd r c rows) (h : rows[i]? = some x) (w : Wi t x) : Gd (r + 1) c (cK rows i t) := by
 have lx := g.shp.2 x (List.mem_of_getElem? h)
 have lt : t.length = c := w.1.trans lx
 have lr := g.shp.1
 obtain ⟨p, q, e, hp, _⟩ := uQ h
 rw [xH e hp]
 have mem : ∀ row ∈ p ++ bx x t :: t :: q, row = bx x t \/ row = t \/ row ∈ rows := fun row hr => by
  rw [e]
  rcases List.mem_append.mp hr with h | h
  ·exact .inr (.inr (List.mem_append_left _ h))
  ·rcases List.mem_cons.mp h with h | h
   ·exact .inl h
   ·rcases List.mem_cons.mp h with h | h
    ·exact .inr (.inl h)
    ·exact .inr (.inr (List.mem_append_right _ (List.mem_cons_of_mem _ h)))
 refine ⟨⟨?_, fun row hr => ?_⟩, fun row hr => ?_, ?_⟩
 ·rw [e] at lr
  simp only [List.length_append, List.length_cons] at lr ⊢
  omega
 ·rcases mem row hr with rfl | rfl | h
  ·exact iP lx lt
  ·exact lt
  ·exact g.shp.2 row h
 ·rcases mem row hr with rfl | rfl | h
  ·exact w.sub
  ·exact w.nn
  ·exact g.nn row h
 ·have ht := g.tot
  have hs := jf (x := bx x t) (y := t) (by rw [iP lx lt, lt])
  rw [rc (by omega)] at hs
  unfold L2.Pu.tot at ht ⊢
  rw [e] at ht
  simp only [List.map_append, List.map_cons, List.sum_append, List.sum_cons] at ht ⊢
  omega
theorem xZ {rows : LI} {i : Nat} {x t : List Int} (h : rows[i]? = some x) : aK (cK rows i t) = D.lst (((gI rows).map D.lst).take i ++ [D.lst ((bx x t).map D.int), D.lst (t.map D.int)] ++ ((gI rows).map D.lst).drop (i + 1)) := by
 have ex : rows.getD i [] = x := by rw [List.getD_eq_getElem?_getD, h]; rfl
 show D.lst (List.map D.lst (List.map (fun r => List.map D.int r) (cK rows i t))) = _
 unfold cK
 rw [ex]
 simp only [List.map_append, List.map_take, List.map_drop, List.map_cons, List.map_nil]
theorem uw {α γ : Type} {nv : Nat} {caps : List Nat} {it : FL} {tg : TgF} {f : FD} {δ : Dn} {β β0 : Bg} (xs : List α) (u : α -> D) (enc : γ -> D) (R : α -> γ -> Prop) (h1 : it δ β = some (.ok (xs.map u), β0)) (ok : β0.ok)
  (h2 : ∀ x ∈ xs, ∀ β : Bg, β.ok -> ∃ δ1 y β', tg (u x) (cSt nv caps δ) = some δ1 /\ f δ1 β = some (.ok (enc y), β') /\ R x y /\ β'.ok) (h3 : xs.length <= sizeLine) :
  ∃ (ys : List γ) (β' : Bg), aM nv caps it tg (fun _ => M.ret true) (cEm f) δ β = some (.ok (.lst (ys.map enc)), β') /\ ys.length = xs.length /\ (∀ p ∈ xs.zip ys, R p.1 p.2) /\ β'.ok := by
 have gen : ∀ (xs : List α) (β : Bg), β.ok -> (∀ x ∈ xs, ∀ β : Bg, β.ok -> ∃ δ1 y β', tg (u x) (cSt nv caps δ) = some δ1 /\ f δ1 β = some (.ok (enc y), β') /\ R x y /\ β'.ok) -> ∃ (ys : List γ) (β' : Bg), cLp tg (fun _ => M.ret true) (cEm f) (xs.map u) (cSt nv caps δ) β = some (.ok (ys.map enc), β') /\ ys.length = xs.length /\ (∀ p ∈ xs.zip ys, R p.1 p.2) /\ β'.ok := by
  intro xs
  induction xs with
  | nil => intro β ok _; exact ⟨[], β, rfl, rfl, fun _ h => (by cases h), ok⟩
  | cons x xs ih =>
   intro β ok h
   obtain ⟨δ1, y, β1, e1, e2, hp, ok1⟩ := h x List.mem_cons_self β ok
   obtain ⟨ys, β2, e3, l, hp2, ok2⟩ := ih β1 ok1 fun x hx => h x (List.mem_cons_of_mem _ hx)
   refine ⟨y :: ys, β2, ?_, by simp [l], fun z hz => ?_, ok2⟩
   ·rw [List.map_cons, cLp]
    simp only [e1, M.bind, M.ret, reduceIte, cEm, e2, e3, List.map_cons, List.cons_append, List.nil_append]
   ·rw [List.zip_cons_cons] at hz
    rcases List.mem_cons.mp hz with rfl | hz
    ·exact hp
    ·exact hp2 z hz
 obtain ⟨ys, β', e, l, hp, ok'⟩ := gen xs β0 ok h2
 refine ⟨ys, β', ?_, l, hp, ok'⟩
 unfold aM
 simp only [M.bind, h1, e, M.ofO]
 rw [if_pos (by rw [List.length_map, l]; exact h3)]
theorem nz : ∀ {x t : List Int}, t.length = x.length -> (∀ p ∈ x.zip t, 0 <= p.2 /\ p.2 <= p.1) -> Wi t x
 | [], [], _, _ => ⟨rfl, fun j => ⟨Int.le_refl _, Int.le_refl _⟩⟩
 | [], _ :: _, h, _ => by simp at h
 | _ :: _, [], h, _ => by simp at h
 | a :: x, b :: t, h, hp => by
  rw [List.zip_cons_cons] at hp
  have ih := nz (x := x) (t := t) (by simpa using h) fun p hp' => hp p (List.mem_cons_of_mem _ hp')
  refine ⟨h, fun j => ?_⟩
  cases j with
  | zero => exact hp (a, b) List.mem_cons_self
  | succ j => exact ih.2 j
theorem uK {rows : LI} {i : Nat} {x : List Int} {δ : Dn} {β : Bg} {kl ki : Nat} (hr : (gI rows)[i]? = some (x.map D.int)) (nx : ∀ y ∈ x, 0 <= y) (lex : ∀ y ∈ x, y <= 40) (lx : x.length <= 1000) (h1 : δ.getD 1 none = some .bag) (h5 : δ.getD kl none = some (aK rows)) (h6 : δ.getD ki none = some (.int (i : Int))) (ok : β.ok) :
  ∃ (tk : List Int) (β' : Bg), aM 1 [1] (bc (f2 ixD (ad kl) (ad ki))) (tgC 0) (fun _ => M.ret true) (cEm (au bO (ac (ad 1) (ac (f2 bK (ad 0) (fC (.int 1))) (ah))))) δ β = some (.ok (.lst (tk.map D.int)), β') /\ Wi tk x /\ β'.ok := by
 have hcs : cSt 1 [1] δ = [none, some .bag] := by
  unfold cSt
  simp only [List.map_cons, List.map_nil, h1]; rfl
 obtain ⟨tk, β', e, l, hp, ok'⟩ := uw (nv := 1) (caps := [1]) (it := bc (f2 ixD (ad kl) (ad ki))) (tg := tgC 0) (f := au bO (ac (ad 1) (ac (f2 bK (ad 0) (fC (.int 1))) (ah)))) (δ := δ) (β := β) (β0 := β) x D.int D.int (fun y v => 0 <= v /\ v <= y) (jv (x_2 (gi h5) (gi h6) (gp hr)) rfl) ok (fun y hy β ok => by
  obtain ⟨v, β1, p, v0, v1, ok1⟩ := bU ok (lot := y + 1) (by have := nx y hy; omega) (by have := lex y hy; omega)
  exact ⟨[some (.int y), some .bag], v, β1, by rw [hcs]; rfl, aw (aj rfl (aj (x_2 rfl rfl rfl) rfl)) p, ⟨v0, by omega⟩, ok1⟩) (bw lx)
 exact ⟨tk, β', e, nz l hp, ok'⟩
section
variable {X : Cx} {E : St -> XK} {a : Expr} {p1 p2 pos1 pos2 : Pos} {K : Frag}
end
section
variable {X : Cx} {E : St -> XK} {o e : Expr} {es : List Expr} {pos p apos : Pos} {x m : Str} {k n : Nat} {f C : Addr} {fd : FuncData} {ps ks ns : List Str} {kws : List Keyword} {st : Stmt} {sts : List Stmt}
variable {ns0 names : List Str} {ip : IP}
end
section
variable {P : Program} {w : World} {K : Frag} {mg : Str -> Option Value} {base : Heap}
end
section
variable {X : Cx} {E : St -> XK} {o : Expr} {pos apos : Pos} {m : Str} {k : Nat} {f C : Addr} {fd : FuncData} {ps : List Str}
end
section
variable {δ : Dn} {β β1 β2 : Bg}
end
end L2.Pu
namespace L2.Pu
open PySem PySem.Spec PyProof PyProof.Rows
section
variable {X : Cx} {K : Frag}
end
section
variable {X : Cx} {K : Frag} {E : St -> XK} {o e : Expr} {apos cpos : Pos}
end
end L2.Pu
namespace L2.Pu
open PySem PySem.Spec PyProof.Rows
section
variable {prog : Program} {w : World} {A : Around} {E : Value -> Shared -> Prop} {s : Shared} {l : Addr} {xs : Array (Int × Tok)}
end
section
variable {X : Cx} {K : Frag}
end
section
variable {prog : Program} {w : World} {A : Around} {E : Value -> Shared -> Prop} {s : Shared}
theorem ow {l sl m : Addr} {items new : Array Value} {n : Nat} {vl vu : Value} {lo hi : Option Int} {Q : Unit -> Shared -> Prop} (ho : s.heap.get? l = some { cls := .type "list", data := .seq items n }) (hm : s.heap.IsList m new) (hne : l ≠ m)
  (hs : s.heap.IsSliceOf sl vl vu .none) (pl : IsPart vl lo) (pu : IsPart vu hi) (hz : items.size + new.size <= 1000)
  (h : Q () { s with heap := s.heap.update l (Obj.mapSeq fun xs => xs.extract 0 (sliceBounds lo hi none items.size).1.toNat ++ new ++ xs.extract (max (sliceBounds lo hi none items.size).1 (sliceBounds lo hi none items.size).2.1).toNat xs.size) }) :
  wpAny (model prog w) A (setItem (.ref l) (.ref sl) (.ref m)) Q E s := by
 have hl : s.heap.IsList l items := PySem.IsL.isList (n := n) ho
 obtain ⟨om, hom, hcm, nem, hdm⟩ := id hm
 obtain ⟨os, hos, hcs, hds⟩ := id hs
 have hTs : s.TypeIs (.ref sl) "slice" := ⟨os, hos, hcs⟩
 have sz : sizeLine ≥ 2000 := by decide
 unfold setItem
 try with_reducible refine wpAny_holding ?_
 first | refine wpAny_bind (wpAny_pure ?_) | skip
 refine wpAny_bind (wpAny_sequenceKey hl.typeIs (by decide) ?_)
 refine wpAny_bind (wpAny_callSpecial?_slot (name := Str.ofString "__setitem__") hl.typeIs slot_list_setitem
  (wpAny_call_entry slot_list_setitem hl.typeIs entry_list_setitem ?_ (args_list_setitem _ _ _)))
 show wpAny _ _ (Builtin.List.listSubscript? (.ref sl) >>= _) _ _ s
 refine wpAny_bind ?_
 unfold Builtin.List.listSubscript?
 refine wpAny_bind (wpAny_specialOf hTs slice_no_index ?_)
 simp only [Option.isNone_none, if_true]
 refine wpAny_pure ?_
 show wpAny _ _ (typeOf (.ref sl) >>= _) _ _ s
 refine wpAny_bind (wpAny_typeOf hTs ?_)
 rw [if_neg (by decide)]
 rw [listSliceParts_eq]
 refine wpAny_bind (wpAny_bind (wpAny_field hos hds (x := .none) rfl (wpAny_bind (wpAny_listPart .none ?_))))
 rw [if_neg (show ¬ ((rawPart none == rawInt 0) = true) from Bool.false_ne_true)]
 refine wpAny_bind (wpAny_field hos hds (x := vl) rfl (wpAny_bind (wpAny_listPart pl ?_)))
 refine wpAny_bind (wpAny_field hos hds (x := vu) rfl (wpAny_bind (wpAny_listPart pu (wpAny_pure ?_))))
 have same : ¬ (Builtin.List.listSameRef (.ref l) (.ref m) = true) := by
  show ¬ ((l == m) = true)
  simpa using hne
 rw [if_neg same]
 refine wpAny_bind (m := Builtin.List.listAllItems (.ref m) "must assign iterable to extended slice") ?_
 unfold Builtin.List.listAllItems
 refine wpAny_bind (wpAny_typeOf hm.typeIs ?_)
 rw [if_pos (by rfl)]
 refine wpAny_listItems hom hdm ?_
 refine wpAny_bind (m := Builtin.List.listItems (.ref l)) (wpAny_listItems ho rfl ?_)
 refine wpAny_bind (wpAny_of_eq (sliceIndices_raw lo hi none items.size (by simp)) ?_)
 have one : (sliceBounds lo hi none items.size).2.2 = 1 := (gx lo hi items.size).2.2
 rw [if_pos (by rw [one]; rfl)]
 refine wpAny_bind (wpAny_rule ?_)
 rw [if_neg (show ¬ (Builtin.List.listTooLong (items.size + new.size) = true) by
  show ¬ (decide (items.size + new.size > sizeLine) = true)
  rw [decide_eq_true_eq]; omega)]
 refine wpAny_bind (listUpdate_at ho rfl ?_ (by omega) (by
  simp only [Array.size_append, Array.size_extract]
  omega))
 exact wpAny_bind (wpAny_letGo (wpAny_pure ⟨.none, rfl, wpAny_pure h⟩))
end
section
variable {X : Cx} {K : Frag} {E : St -> XK} {o lo hi : Expr} {p pos : Pos} {to tl th : TE} {st : Stmt}
def np (xs ys : List V) (a b : Int) : List V := xs.take (HT.sIx xs.length 0 (some a)) ++ ys ++ xs.drop (max (HT.sIx xs.length 0 (some a)) (HT.sIx xs.length xs.length (some b)))
def zi (K : Frag) (to tl th : TE) : TG := fun v σ H Q => to σ H fun o H1 => tl σ H1 fun i H2 => th σ H2 fun j H3 => ∃ p xs a b q ys, o = .ref p /\ i = .int a /\ j = .int b /\ v = .ref q /\ p ≠ q /\ H3 p = some (.lst xs) /\ SqL K H3 q ys /\ xs.length + ys.length <= 1000 /\ Q σ (upd H3 p (.lst (np xs ys a b)))
theorem u3 (ho : PE X o to) (hl : PE X lo tl) (hh : PE X hi th)
  (ha : ∀ v, assign (.Subscript o (.Slice (some lo) (some hi) none p) pos) X.env v = (do
   let ov ← holding [v] (eval o X.env)
   let iv ← holding [v, ov] (eval (.Slice (some lo) (some hi) none p) X.env)
   standAt pos
   holding [v, ov, iv] (setItem ov iv v)
   release [iv, v, ov] []) := by intro _; rfl) : PG X (.Subscript o (.Slice (some lo) (some hi) none p) pos) (zi X.K to tl th) := by
 intro pins s σ H v u Q I r h
 rw [ha]
 refine wpAny_bind (wpAny_holding (thn (ho pins s σ H _ I h) fun ov s1 ⟨x, H1, I1, r1, q1⟩ => ?_))
 refine wpAny_bind (wpAny_holding (wpAny_Slice ?_))
 refine thn (hl pins s1 σ H1 _ I1 q1) fun lv s2 ⟨y, H2, I2, r2, q2⟩ => ?_
 refine thn (hh pins s2 σ H2 _ I2 q2) fun hv s3 ⟨z, H3, I3, r3, q3⟩ => ?_
 refine wpAny_pure ?_
 obtain ⟨p, xs, a, b, q, ys, rfl, rfl, rfl, rfl, hne, hp, hq, hz, k⟩ := q3
 cases r1
 cases r
 obtain ⟨t, rfl⟩ := r2
 obtain ⟨t', rfl⟩ := r3
 have I4 : Inv X pins σ H3 { s3 with heap := s3.heap.push { cls := .type "slice", data := .fields #[.int a t, .int b t', .none] } } := I3.kept (t' := s3.toks) fun b u e => Heap.get?_push_of_some _ e
 obtain ⟨its, n, rv, ho', hz1⟩ := I4.lst hp
 obtain ⟨ns, rv2, pl2, hz2⟩ := I4.list hq
 have l1 := rv.length
 have l2 := rv2.length
 obtain ⟨b1, b2, b3⟩ := gx (some a) (some b) its.length
 refine wpAny_bind (wpAny_standAt (wpAny_bind (wpAny_holding (ow ho' pl2.isList hne (Heap.IsSliceOf.new ..) (.int a t) (.int b t') (by rw [List.size_toArray, List.size_toArray]; omega) ?_))))
 refine wpAny_release ⟨σ, _, I4.lstUpd (ys := np xs ys a b) (its' := its.take (HT.sIx its.length 0 (some a)) ++ ns ++ its.drop (max (HT.sIx its.length 0 (some a)) (HT.sIx its.length its.length (some b)))) (n' := if (its.take (HT.sIx its.length 0 (some a)) ++ ns ++ its.drop (max (HT.sIx its.length 0 (some a)) (HT.sIx its.length its.length (some b)))).length = its.length then n else n + 1) hp ho' ?_ ?_ ?_ s3.toks, k⟩
 ·have e : (max ((HT.sIx its.length 0 (some a) : Nat) : Int) ((HT.sIx its.length its.length (some b) : Nat) : Int)).toNat = max (HT.sIx its.length 0 (some a)) (HT.sIx its.length its.length (some b)) := by omega
  have ea : its.toArray.extract 0 (HT.sIx its.length 0 (some a)) ++ ns.toArray ++ its.toArray.extract (max (HT.sIx its.length 0 (some a)) (HT.sIx its.length its.length (some b))) its.length = (its.take (HT.sIx its.length 0 (some a)) ++ ns ++ its.drop (max (HT.sIx its.length 0 (some a)) (HT.sIx its.length its.length (some b)))).toArray := by
   simp only [List.extract_toArray, List.append_toArray]
   congr 2
   rw [List.extract_eq_take_drop]
   exact List.take_of_length_le (by rw [List.length_drop]; exact Nat.le_refl _)
  simp only [Obj.mapSeq, List.size_toArray, b1, b2, Int.toNat_natCast, e, ea]
  simp only [beq_iff_eq]
 ·unfold np
  rw [l1]
  exact ((rv.take _).append rv2).append (rv.drop _)
 ·unfold np
  rw [List.length_append, List.length_append, List.length_take, List.length_drop]
  have : sizeLine ≥ 2000 := by decide
  omega
def nl (ds ys : List D) (a b : Int) : List D := ds.take (HT.sIx ds.length 0 (some a)) ++ ys ++ ds.drop (max (HT.sIx ds.length 0 (some a)) (HT.sIx ds.length ds.length (some b)))
def pP (i : Nat) (fa fb fv : FD) : G := fun δ β => match fv (vw δ) β with
 | some (.ok (.lst ys), β1) => match fa (vwA δ) β1 with
  | some (.ok (.int a), β2) => match fb (vwA δ) β2 with
   | some (.ok (.int b), β3) => match δ.getD i none with
    | some (.own ds) => if ds.length + ys.length <= 1000 then some (.nx (δ.set i (some (.own (nl ds ys a b)))), β3) else none
    | _ => none
   | _ => none
  | _ => none
 | _ => none
theorem AR {i : Nat} {fa fb fv : FD} (h : PS X st (fA (tV X.K fv E) (zi X.K (iO i) (tV X.K fa E) (tV X.K fb E)))) : PS X st (tG X.K X.H₀ (pP i fa fb fv) E) := h.imp fun D σ H h_ => by
 obtain ⟨B, bg, δ, β, o, β', ok, e, q⟩ := h_
 refine ⟨FxB B bg, vw δ, β, ok.fr, ok.view, ?_⟩
 unfold pP at e
 split at e
 ·rename_i ys β1 e1
  refine ⟨.ok (.lst ys), _, e1, fun v H1 t1 hd => ?_⟩
  obtain ⟨ok1, s1⟩ := ok.to rfl t1
  split at e
  ·rename_i ka β2 e2
   split at e
   ·rename_i kb β3 e3
    split at e
    ·rename_i ds ec
     split at e
     ·rename_i hz
      cases e
      obtain ⟨w, h1, p, xs, rfl, hB, ha, dl⟩ := ok1.tell i _ (cg ec)
      refine ⟨_, h1, FxA B bg, vwA δ, β1, ok1.frA, ok1.viewA, .ok (.int ka), _, e2, fun y H2 t2 hy => ?_⟩
      cases hy
      obtain ⟨ok2, s2⟩ := ok1.to (F := FxA B bg) rfl t2
      refine ⟨FxA B bg, vwA δ, β2, ok2.frA, ok2.viewA, .ok (.int kb), _, e3, fun y H3 t3 hy => ?_⟩
      cases hy
      obtain ⟨ok3, s3⟩ := ok2.to (F := FxA B bg) rfl t3
      obtain ⟨w2, h2, p2, xs2, ew, hB2, ha2, dl2⟩ := ok3.tell i _ (cg ec)
      rw [h1] at h2
      cases h2
      cases ew
      have hd3 := Den.tr s3.tr _ _ (Den.tr s2.tr _ _ hd)
      unfold Den at hd3
      obtain ⟨q', zs, rfl, ⟨nA, hq⟩, dz⟩ := hd3
      have ne : p ≠ q' := fun z => nA (z ▸ (show B p ≠ none by rw [hB2]; simp))
      have l1 := dl2.length
      have l2 := dz.length
      refine ⟨p, xs2, ka, kb, q', zs, rfl, rfl, rfl, rfl, ne, ha2, .inl hq, by omega, ?_⟩
      obtain ⟨ok4, s4⟩ := ok3.writeOwn (ds := nl ds ys ka kb) (xs := np xs2 zs ka kb) h1 hB2 ha2 (by
       unfold nl np
       rw [l1]
       exact DenL.append (DenL.append (DenL.take _ dl2) dz) (DenL.drop _ dl2))
      exact q _ _ _ (s1.trans (s2.trans (s3.trans s4))) ok4
     ·cases e
    ·cases e
   ·cases e
  ·cases e
 ·cases e
theorem AC {i : Nat} {fa fb fv : FD} {ys ds : List D} {a b : Int} {h : G} {δ : Ds} {β β1 β2 β3 : Bg} {Q : Out -> Bg -> Prop} (e1 : fv (vw δ) β = some (.ok (.lst ys), β1)) (e2 : fa (vwA δ) β1 = some (.ok (.int a), β2)) (e3 : fb (vwA δ) β2 = some (.ok (.int b), β3)) (eo : δ.getD i none = some (.own ds)) (hz : ds.length + ys.length <= 1000)
  (k : Gw h (δ.set i (some (.own (nl ds ys a b)))) β3 Q) : Gw (ak (pP i fa fb fv) h) δ β Q := dB (by unfold pP; simp only [e1, e2, e3, eo, hz, if_true]) k
end
end L2.Pu
namespace L2.Pu
def pj (p q : Int × Int) : Int × Int := (p.1 + q.1, min (p.2 + q.2) 40)
def em (x y : List (Int × Int)) : List (Int × Int) := (x.zip y).map fun z => pj z.1 z.2
def cN (b : LP) (i j : Nat) : LP := (b.set i (em (b.getD i []) (b.getD j []))).eraseIdx j
def loose (x : List (Int × Int)) : List (Int × Int) := x.map fun p => (0, p.2)
def cL (b : LP) (i : Nat) : LP := b.take i ++ [loose (b.getD i []), loose (b.getD i [])] ++ b.drop (i + 1)
abbrev tpB (c : Nat) (b : LP) : LP := tpA (0, 0) c b
structure KR (m : Nat) (row : List Int) (ps : List (Int × Int)) : Prop where
 lr : row.length = m
 lp : ps.length = m
 ok : ∀ (l : Nat) (x : Int) (p : Int × Int), row[l]? = some x -> ps[l]? = some p -> p.1 <= x /\ x <= p.2 /\ PairOk p
structure KB (n m : Nat) (L : LI) (B : LP) : Prop where
 ll : L.length = n
 lb : B.length = n
 ok : ∀ (k : Nat) (row : List Int) (ps : List (Int × Int)), L[k]? = some row -> B[k]? = some ps -> KR m row ps
theorem fj {α : Type} {l : List α} {i : Nat} (h : i < l.length) : ∃ x, l[i]? = some x := ⟨_, List.getElem?_eq_getElem h⟩
theorem gZ {α : Type} {l : List α} {i : Nat} {x : α} (h : l[i]? = some x) : i < l.length := (List.getElem?_eq_some_iff.mp h).1
theorem ck {α : Type} {l : List α} {i : Nat} {x d : α} (h : l[i]? = some x) : l.getD i d = x := by rw [List.getD_eq_getElem?_getD, h]; rfl
theorem KB.of {n m : Nat} {L : LI} {B : LP} (sl : Shp n m L) (b : Bnd n m B) (k : Kp L B) : KB n m L B := ⟨sl.1, b.shp.1, fun i row ps h1 h2 => ⟨sl.2 row (List.mem_of_getElem? h1), b.shp.2 ps (List.mem_of_getElem? h2), fun l x p h3 h4 => by
 obtain ⟨q1, q2⟩ := k i l x p (kc h1 h3) (kc h2 h4)
 exact ⟨q1, q2, b.ok ps (List.mem_of_getElem? h2) p (List.mem_of_getElem? h4)⟩⟩⟩
theorem KB.bnd {n m : Nat} {L : LI} {B : LP} (h : KB n m L B) : Bnd n m B := ⟨⟨h.lb, fun ps hp => by
 obtain ⟨k, hk⟩ := List.getElem?_of_mem hp
 obtain ⟨row, hr⟩ := fj (l := L) (i := k) (by have := gZ hk; have := h.ll; have := h.lb; omega)
 exact (h.ok k row ps hr hk).lp⟩, fun ps hp p hp' => by
 obtain ⟨k, hk⟩ := List.getElem?_of_mem hp
 obtain ⟨row, hr⟩ := fj (l := L) (i := k) (by have := gZ hk; have := h.ll; have := h.lb; omega)
 have K := h.ok k row ps hr hk
 obtain ⟨l, hl⟩ := List.getElem?_of_mem hp'
 obtain ⟨x, hx⟩ := fj (l := row) (i := l) (by have := gZ hl; have := K.lr; have := K.lp; omega)
 exact (K.ok l x p hx hl).2.2⟩
theorem KB.kp {n m : Nat} {L : LI} {B : LP} (h : KB n m L B) : Kp L B := fun i j x p hx hp => by
 unfold at2 at hx hp
 obtain ⟨row, h1, h2⟩ := Option.bind_eq_some_iff.mp hx
 obtain ⟨ps, h3, h4⟩ := Option.bind_eq_some_iff.mp hp
 obtain ⟨q1, q2, _⟩ := (h.ok i row ps h1 h3).ok j x p h2 h4
 exact ⟨q1, q2⟩
theorem KB.app {n n' m : Nat} {L L' : LI} {B B' : LP} (h : KB n m L B) (h' : KB n' m L' B') : KB (n + n') m (L ++ L') (B ++ B') := ⟨by rw [List.length_append, h.ll, h'.ll], by rw [List.length_append, h.lb, h'.lb], fun k row ps h1 h2 => by
 rw [List.getElem?_append] at h1 h2
 rw [h.ll] at h1
 rw [h.lb] at h2
 by_cases q : k < n
 ·rw [if_pos q] at h1 h2; exact h.ok k row ps h1 h2
 ·rw [if_neg q] at h1 h2; exact h'.ok _ row ps h1 h2⟩
theorem KB.take {n m i : Nat} {L : LI} {B : LP} (h : KB n m L B) (hi : i <= n) : KB i m (L.take i) (B.take i) := ⟨by rw [List.length_take, h.ll]; omega, by rw [List.length_take, h.lb]; omega, fun k row ps h1 h2 => by
 rw [List.getElem?_take] at h1 h2
 by_cases q : k < i
 ·rw [if_pos q] at h1 h2; exact h.ok k row ps h1 h2
 ·rw [if_neg q] at h1; cases h1⟩
theorem KB.drop {n m i : Nat} {L : LI} {B : LP} (h : KB n m L B) : KB (n - i) m (L.drop i) (B.drop i) := ⟨by rw [List.length_drop, h.ll], by rw [List.length_drop, h.lb], fun k row ps h1 h2 => by
 rw [List.getElem?_drop] at h1 h2
 exact h.ok _ row ps h1 h2⟩
theorem KB.two {m : Nat} {x y : List Int} {p q : List (Int × Int)} (h1 : KR m x p) (h2 : KR m y q) : KB 2 m [x, y] [p, q] := ⟨rfl, rfl, fun k row ps e1 e2 => by
 match k, e1, e2 with
 | 0, e1, e2 => cases e1; cases e2; exact h1
 | 1, e1, e2 => cases e1; cases e2; exact h2
 | k + 2, e1, _ => simp at e1⟩
theorem KB.set {n m i : Nat} {L : LI} {B : LP} {x : List Int} {p : List (Int × Int)} (h : KB n m L B) (r : KR m x p) : KB n m (L.set i x) (B.set i p) := ⟨by rw [List.length_set, h.ll], by rw [List.length_set, h.lb], fun k row ps h1 h2 => by
 rw [List.getElem?_set] at h1 h2
 by_cases q : i = k
 ·rw [if_pos q] at h1 h2
  split at h1
  ·split at h2
   ·cases h1; cases h2; exact r
   ·cases h2
  ·cases h1
 ·rw [if_neg q] at h1 h2; exact h.ok k row ps h1 h2⟩
theorem KB.erase {n m j : Nat} {L : LI} {B : LP} (h : KB n m L B) (hj : j < n) : KB (n - 1) m (L.eraseIdx j) (B.eraseIdx j) := ⟨by rw [List.length_eraseIdx, h.ll, if_pos hj], by rw [List.length_eraseIdx, h.lb, if_pos hj], fun k row ps h1 h2 => by
 rw [List.getElem?_eraseIdx] at h1 h2
 split at h1
 ·rename_i q
  rw [if_pos q] at h2; exact h.ok k row ps h1 h2
 ·rename_i q
  rw [if_neg q] at h2; exact h.ok _ row ps h1 h2⟩
theorem KB.tp {n m : Nat} {L : LI} {B : LP} (h : KB n m L B) : KB m n (tp m L) (tpB m B) := ⟨(gs (d := 0) h.ll).1, (gs (d := ((0, 0) : Int × Int)) h.lb).1, fun k row ps h1 h2 => by
 have hk : k < m := by have := gZ h1; rwa [(gs (d := 0) h.ll).1] at this
 rw [yk hk] at h1 h2
 cases h1; cases h2
 refine ⟨by rw [List.length_map, h.ll], by rw [List.length_map, h.lb], fun l x p h3 h4 => ?_⟩
 obtain ⟨row, hr, rfl⟩ := dj h3
 obtain ⟨ps, hp, rfl⟩ := dj h4
 have K := h.ok l row ps hr hp
 obtain ⟨x, hx⟩ := fj (l := row) (i := k) (by rw [K.lr]; exact hk)
 obtain ⟨p, hq⟩ := fj (l := ps) (i := k) (by rw [K.lp]; exact hk)
 rw [ck hx, ck hq]
 exact K.ok k x p hx hq⟩
theorem my : ∀ {xs : List Int} {x : Int}, (∀ y ∈ xs, 0 <= y) -> x ∈ xs -> x <= xs.sum
 | [], _, _, h => by cases h
 | y :: ys, x, hn, h => by
  rw [List.sum_cons]
  have h1 := hn y List.mem_cons_self
  have h2 := jC fun z hz => hn z (List.mem_cons_of_mem y hz)
  rcases List.mem_cons.mp h with rfl | h
  ·omega
  ·have := my (fun z hz => hn z (List.mem_cons_of_mem y hz)) h
   omega
theorem Gd.le40 {n m : Nat} {L : LI} (g : Gd n m L) : ∀ row ∈ L, ∀ x ∈ row, x <= 40 := fun row hr x hx => by
 have h1 := my (g.nn row hr) hx
 have h2 : row.sum <= (L.map List.sum).sum := my (fun y hy => by
  obtain ⟨r, hr', rfl⟩ := List.mem_map.mp hy
  exact jC (g.nn r hr')) (List.mem_map.mpr ⟨row, hr, rfl⟩)
 have h3 : (L.map List.sum).sum <= 40 := g.tot
 omega
theorem KB.join {n m i j : Nat} {L : LI} {B : LP} (h : KB n m L B) (g : Gd n m L) (hi : i < n) (hj : j < n) (hne : i ≠ j) : KB (n - 1) m (cM L i j) (cN B i j) := by
 obtain ⟨x, hx⟩ := fj (l := L) (i := i) (by rw [h.ll]; exact hi)
 obtain ⟨y, hy⟩ := fj (l := L) (i := j) (by rw [h.ll]; exact hj)
 obtain ⟨p, hp⟩ := fj (l := B) (i := i) (by rw [h.lb]; exact hi)
 obtain ⟨q, hq⟩ := fj (l := B) (i := j) (by rw [h.lb]; exact hj)
 have k1 := h.ok i x p hx hp
 have k2 := h.ok j y q hy hq
 have g2 := g.join hi hj hne
 have le := g2.le40
 unfold cM at le
 unfold cM cN
 rw [ck hx, ck hy] at le ⊢
 rw [ck hp, ck hq]
 refine KB.erase (h.set ⟨mj k1.lr k2.lr, by unfold em; rw [List.length_map, List.length_zip, k1.lp, k2.lp, Nat.min_self], fun l z w h1 h2 => ?_⟩) hj
 have l1 := le (cb x y) (List.mem_eraseIdx_iff_getElem?.mpr ⟨i, hne, by rw [List.getElem?_set_self (by rw [h.ll]; exact hi)]⟩) z (List.mem_of_getElem? h1)
 unfold cb at h1
 unfold em at h2
 obtain ⟨⟨a, b⟩, e1, rfl⟩ := dj h1
 obtain ⟨⟨u, v⟩, e2, rfl⟩ := dj h2
 obtain ⟨e1a, e1b⟩ := List.getElem?_zip_eq_some.mp e1
 obtain ⟨e2a, e2b⟩ := List.getElem?_zip_eq_some.mp e2
 obtain ⟨a1, a2, a3, a4, a5⟩ := k1.ok l a u e1a e2a
 obtain ⟨b1, b2, b3, b4, b5⟩ := k2.ok l b v e1b e2b
 simp only at l1 ⊢
 refine ⟨by show u.1 + v.1 <= a + b; omega, by show a + b <= min (u.2 + v.2) 40; omega, ⟨by show 0 <= u.1 + v.1; omega, by show u.1 + v.1 <= min (u.2 + v.2) 40; omega, by show min (u.2 + v.2) 40 <= 40; omega⟩⟩
theorem KB.part {n m i : Nat} {L : LI} {B : LP} {x t : List Int} (h : KB n m L B) (hx : L[i]? = some x) (w : Wi t x) : KB (n + 1) m (cK L i t) (cL B i) := by
 have hi : i < n := by rw [← h.ll]; exact gZ hx
 obtain ⟨p, hp⟩ := fj (l := B) (i := i) (by rw [h.lb]; exact hi)
 have k := h.ok i x p hx hp
 have lt : t.length = m := w.1.trans k.lr
 have ll : (loose p).length = m := by unfold loose; rw [List.length_map, k.lp]
 have lo : ∀ (l : Nat) (z : Int) (u : Int × Int), (∃ a, x[l]? = some a /\ 0 <= z /\ z <= a) -> (loose p)[l]? = some u -> u.1 <= z /\ z <= u.2 /\ PairOk u := fun l z u e1 e2 => by
  obtain ⟨a, e1, z0, z1⟩ := e1
  obtain ⟨v, e3, rfl⟩ := dj e2
  obtain ⟨a1, a2, a3, a4, a5⟩ := k.ok l a v e1 e3
  exact ⟨by show (0 : Int) <= z; omega, by show z <= v.2; omega, ⟨by show (0 : Int) <= 0; omega, by show 0 <= v.2; omega, a5⟩⟩
 have wt : ∀ (l : Nat) (a b : Int), x[l]? = some a -> t[l]? = some b -> 0 <= b /\ b <= a := fun l a b h1 h2 => by
  have := w.2 l
  rwa [ck h1, ck h2] at this
 unfold cK cL
 rw [ck hx, ck hp]
 have e : n + 1 = i + 2 + (n - (i + 1)) := by omega
 rw [e]
 refine ((h.take (by omega)).app (KB.two ⟨iP k.lr lt, ll, fun l z u h1 h2 => ?_⟩ ⟨lt, ll, fun l z u h1 h2 => ?_⟩)).app h.drop
 ·unfold bx at h1
  obtain ⟨⟨a, b⟩, e1, rfl⟩ := dj h1
  obtain ⟨e1a, e1b⟩ := List.getElem?_zip_eq_some.mp e1
  have := wt l a b e1a e1b
  exact lo l _ u ⟨a, e1a, by show 0 <= a - b; omega, by show a - b <= a; omega⟩ h2
 ·obtain ⟨a, ha⟩ := fj (l := x) (i := l) (by have := gZ h1; have := k.lr; omega)
  have := wt l a z ha h1
  exact lo l z u ⟨a, ha, this.1, this.2⟩ h2
end L2.Pu
namespace L2.Pu
open PySem PySem.W
section
variable {tb : String -> Option Builtin} {p : Program} {w : World} {n₀ : Nat} {ann : Option Value} {env : Env} {q : Pos}
theorem li (k : Nat) {n N : Nat} {s s' r : Shared} {b : List Stmt} {c : Code} {pos p' : Pos} (h : segRun tb p w n₀ ann 1 n s (piecesOf (b.take k) env c pos [topFrame q]) = some (.next, s', c, p'))
  (k' : topRun tb p w n₀ ann N s' (restOf (b.drop k) env c p' [topFrame q]) = some r) : topRun tb p w n₀ ann (n + N) s (restOf b env c pos [topFrame q]) = some r := by
 have := piece_app h k'
 rwa [List.take_append_drop] at this
theorem vE {N : Nat} {s r : Shared} {b : List Stmt} {c : Code} {pos : Pos} (e : b = []) (k : topRun tb p w n₀ ann N s ⟨doneF .next, c, pos, [topFrame q]⟩ = some r) : topRun tb p w n₀ ann N s (restOf b env c pos [topFrame q]) = some r := by
 subst e
 exact piece_nil k
end
end L2.Pu
set_option maxHeartbeats 8000000
namespace L2.Pu
open PySem PySem.Spec PyProof.Rows
theorem pgN {X : Cx} (i : Nat) {x : Str} {pos : Pos} (hN : X.N.Nodup) (hi : X.N[i]? = some x := by rfl) (hx : Loc X.env.scope x := by first | exact Or.inl rfl | exact Or.inr rfl) (hf : X.fn x = true \/ X.env.scope.names.lookup x = some .local := by first | exact .inl rfl | exact .inr rfl | assumption) : PG X (.Name x pos) (eD i) := qE hN hi hx hf
theorem psS {X : Cx} (i : Nat) {x : Str} {e : Expr} {te : TE} {pos pos' : Pos} (hN : X.N.Nodup) (he : PE X e te) (hi : X.N[i]? = some x := by rfl) (hx : Loc X.env.scope x := by first | exact Or.inl rfl | exact Or.inr rfl) (hs : swapsWith e (some (.Name x pos')) pos.line X.env = pure false := by rfl) (hf : X.fn x = true \/ X.env.scope.names.lookup x = some .local := by first | exact .inl rfl | exact .inr rfl | assumption) : PS X (.Assign [.Name x pos'] e pos) (fA te (eD i)) := lP hN hi hx he hs hf
theorem fsc {N Q : List Str} {c : Scope} (a : c.kind = .function := by rfl) (b : c.isCoroutine = false := by rfl) (g : c.isGenerator = false := by rfl) (d : N.Nodup := by decide +kernel) (e : N.take Q.length = Q := by rfl) (f : ∀ x ∈ Q, c.names.lookup x = some .local \/ c.names.lookup x = some .cell := by decide +kernel) (h : ∀ y ∈ c.names, y.2 ≠ .free := by decide +kernel) : FnScope N Q c := ⟨a, b, g, d, e, f, h⟩
theorem aN0 (δ : Dn) (β : Bg) (r : List D) (β' : Bg) (h : ah δ β = some (.ok r, β')) : r.length = 0 := wB h
end L2.Pu
namespace Law
open PySem L2 L2.Pu
def top (i : Nat) : Stmt := PySem.Challenge.pw_edgetally_k10_bounds_go_along.main.body.getD i (.Pass ⟨0, 0, 0, 0⟩)
abbrev tj : Stmt := top 11
abbrev jG : Stmt := top 12
abbrev jm : Stmt := top 13
abbrev jH : Stmt := top 14
abbrev gz : Stmt := top 15
abbrev qw : Stmt := top 16
abbrev jj : Stmt := top 17
abbrev gS : Stmt := top 18
abbrev jl : Stmt := top 19
abbrev jk : Stmt := top 20
abbrev gU : Stmt := top 21
abbrev jE : Stmt := top 22
abbrev gT : Stmt := top 23
abbrev jD : Stmt := top 25
abbrev jF : Stmt := top 26
abbrev qu : Stmt := top 29
abbrev pd : Stmt := top 30
abbrev pc : Stmt := top 31
abbrev lK : Stmt := top 32
abbrev pe : Stmt := top 33
abbrev lM : Stmt := top 34
abbrev lL : Stmt := top 35
abbrev qv : Stmt := top 36
abbrev nL : Stmt := top 37
abbrev gh : Stmt := top 38
abbrev gf : Stmt := top 39
abbrev gA : Stmt := ay (top 27) 0
abbrev iq : Stmt := ay (top 27) 11
abbrev jo : Stmt := ay (top 27) 5
abbrev ir : Stmt := ay (top 27) 10
abbrev lJ : Stmt := top 40
abbrev jA : Stmt := ay (top 2) 0
abbrev kM : Stmt := ay (top 3) 0
abbrev jB : Stmt := ay (top 4) 0
abbrev lF : Stmt := ay (top 5) 0
set_option genSizeOf false in
set_option genInjectivity false in
structure Ad where
 C_EdgeError : Addr
 x_EdgeError : Addr
 y_EdgeError : FuncData
 C_BadTable : Addr
 x_BadTable : Addr
 y_BadTable : FuncData
 C_BadBounds : Addr
 x_BadBounds : Addr
 y_BadBounds : FuncData
 C_BadCell : Addr
 x_BadCell : Addr
 y_BadCell : FuncData
 C_Table : Addr
 f_free : Addr
 d_free : FuncData
 f_check_rows : Addr
 d_check_rows : FuncData
 f_check_there : Addr
 d_check_there : FuncData
 f_check_pair : Addr
 d_check_pair : FuncData
 f_settled_bounds : Addr
 d_settled_bounds : FuncData
 f_keeps : Addr
 d_keeps : FuncData
 f_rows_turned : Addr
 d_rows_turned : FuncData
 f_bounds_turned : Addr
 d_bounds_turned : FuncData
 f_pair_joined : Addr
 d_pair_joined : FuncData
 f_rows_joined : Addr
 d_rows_joined : FuncData
 f_bounds_joined : Addr
 d_bounds_joined : FuncData
 f_row_parted : Addr
 d_row_parted : FuncData
 f_bounds_parted : Addr
 d_bounds_parted : FuncData
 f_two_joined : Addr
 d_two_joined : FuncData
 f_one_parted : Addr
 d_one_parted : FuncData
 f_l_bag : Addr
 d_l_bag : FuncData
 f_l_pull : Addr
 d_l_pull : FuncData
 f_l_same : Addr
 d_l_same : FuncData
 f_l_turned : Addr
 d_l_turned : FuncData
 f_l_free : Addr
 d_l_free : FuncData
 f_l_bounds : Addr
 d_l_bounds : FuncData
 f_l_copied : Addr
 d_l_copied : FuncData
 f_l_any : Addr
 d_l_any : FuncData
 f_l_pairs : Addr
 d_l_pairs : FuncData
 f_l_bounds_joined : Addr
 d_l_bounds_joined : FuncData
 f_l_bounds_parted : Addr
 d_l_bounds_parted : FuncData
 f_Table___init__ : Addr
 d_Table___init__ : FuncData
 f_Table_parted : Addr
 d_Table_parted : FuncData
 f_Table_cells : Addr
 d_Table_cells : FuncData
 f_Table_joined : Addr
 d_Table_joined : FuncData
 f_law : Addr
 d_law : FuncData
structure Fns (K : Frag) (mg : Str -> Option Value) (a : Ad) : Prop where
 n_ValueError : mg "ValueError" = none
 n_abs : mg "abs" = none
 n_all : mg "all" = none
 n_any : mg "any" = none
 n_bool : mg "bool" = none
 n_enumerate : mg "enumerate" = none
 n_int : mg "int" = none
 n_isinstance : mg "isinstance" = none
 n_len : mg "len" = none
 n_list : mg "list" = none
 n_max : mg "max" = none
 n_min : mg "min" = none
 n_range : mg "range" = none
 n_str : mg "str" = none
 n_sum : mg "sum" = none
 n_tuple : mg "tuple" = none
 n_zip : mg "zip" = none
 g_MOST : mr K mg "MOST" (.int 40)
 g_MOST_COLUMNS : mr K mg "MOST_COLUMNS" (.int 6)
 g_MOST_ROWS : mr K mg "MOST_ROWS" (.int 4)
 F_free : FunD K "free" "free" tj a.f_free a.d_free
 m_free : mg "free" = some (.ref a.f_free)
 bd_free : dH K a.d_free ["rows", "columns", "pair"] [.tup [.int 0, .int 40]]
 F_check_rows : FunD K "check_rows" "check_rows" jG a.f_check_rows a.d_check_rows
 m_check_rows : mg "check_rows" = some (.ref a.f_check_rows)
 b_check_rows : aQ K a.d_check_rows ["rows"] []
 F_check_there : FunD K "check_there" "check_there" jm a.f_check_there a.d_check_there
 m_check_there : mg "check_there" = some (.ref a.f_check_there)
 b_check_there : aQ K a.d_check_there ["place", "many"] []
 F_check_pair : FunD K "check_pair" "check_pair" jH a.f_check_pair a.d_check_pair
 m_check_pair : mg "check_pair" = some (.ref a.f_check_pair)
 b_check_pair : aQ K a.d_check_pair ["pair"] []
 F_settled_bounds : FunD K "settled_bounds" "settled_bounds" gz a.f_settled_bounds a.d_settled_bounds
 m_settled_bounds : mg "settled_bounds" = some (.ref a.f_settled_bounds)
 b_settled_bounds : aQ K a.d_settled_bounds ["bounds", "rows", "columns"] []
 F_keeps : FunD K "keeps" "keeps" qw a.f_keeps a.d_keeps
 m_keeps : mg "keeps" = some (.ref a.f_keeps)
 b_keeps : aQ K a.d_keeps ["rows", "bounds"] []
 F_rows_turned : FunD K "rows_turned" "rows_turned" jj a.f_rows_turned a.d_rows_turned
 m_rows_turned : mg "rows_turned" = some (.ref a.f_rows_turned)
 b_rows_turned : aQ K a.d_rows_turned ["rows"] []
 F_bounds_turned : FunD K "bounds_turned" "bounds_turned" gS a.f_bounds_turned a.d_bounds_turned
 m_bounds_turned : mg "bounds_turned" = some (.ref a.f_bounds_turned)
 b_bounds_turned : aQ K a.d_bounds_turned ["bounds"] []
 F_pair_joined : FunD K "pair_joined" "pair_joined" jl a.f_pair_joined a.d_pair_joined
 m_pair_joined : mg "pair_joined" = some (.ref a.f_pair_joined)
 b_pair_joined : aQ K a.d_pair_joined ["one", "other"] []
 F_rows_joined : FunD K "rows_joined" "rows_joined" jk a.f_rows_joined a.d_rows_joined
 m_rows_joined : mg "rows_joined" = some (.ref a.f_rows_joined)
 b_rows_joined : aQ K a.d_rows_joined ["bounds", "one", "other"] []
 F_bounds_joined : FunD K "bounds_joined" "bounds_joined" gU a.f_bounds_joined a.d_bounds_joined
 m_bounds_joined : mg "bounds_joined" = some (.ref a.f_bounds_joined)
 kb_rows_bounds_joined : KwOk K a.d_bounds_joined ["bounds", "one", "other", "rows"] ["rows"] 3 [.kw 0]
 F_row_parted : FunD K "row_parted" "row_parted" jE a.f_row_parted a.d_row_parted
 m_row_parted : mg "row_parted" = some (.ref a.f_row_parted)
 b_row_parted : aQ K a.d_row_parted ["bounds", "one"] []
 F_bounds_parted : FunD K "bounds_parted" "bounds_parted" gT a.f_bounds_parted a.d_bounds_parted
 m_bounds_parted : mg "bounds_parted" = some (.ref a.f_bounds_parted)
 kb_rows_bounds_parted : KwOk K a.d_bounds_parted ["bounds", "one", "rows"] ["rows"] 2 [.kw 0]
 F_two_joined : FunD K "two_joined" "two_joined" jD a.f_two_joined a.d_two_joined
 m_two_joined : mg "two_joined" = some (.ref a.f_two_joined)
 b_two_joined : aQ K a.d_two_joined ["rows", "one", "other"] []
 F_one_parted : FunD K "one_parted" "one_parted" jF a.f_one_parted a.d_one_parted
 m_one_parted : mg "one_parted" = some (.ref a.f_one_parted)
 b_one_parted : aQ K a.d_one_parted ["rows", "one", "taken"] []
 F_l_bag : FunD K "_law_bag" "_law_bag" qu a.f_l_bag a.d_l_bag
 m_l_bag : mg "_law_bag" = some (.ref a.f_l_bag)
 b_l_bag : aQ K a.d_l_bag ["_law_script"] []
 F_l_pull : FunD K "_law_pull" "_law_pull" pd a.f_l_pull a.d_l_pull
 m_l_pull : mg "_law_pull" = some (.ref a.f_l_pull)
 b_l_pull : aQ K a.d_l_pull ["_law_bag_here", "_law_lot"] []
 F_l_same : FunD K "_law_same" "_law_same" pc a.f_l_same a.d_l_same
 m_l_same : mg "_law_same" = some (.ref a.f_l_same)
 b_l_same : aQ K a.d_l_same ["_law_found", "_law_due"] []
 F_l_turned : FunD K "_law_turned" "_law_turned" lK a.f_l_turned a.d_l_turned
 m_l_turned : mg "_law_turned" = some (.ref a.f_l_turned)
 b_l_turned : aQ K a.d_l_turned ["_law_block"] []
 F_l_free : FunD K "_law_free" "_law_free" pe a.f_l_free a.d_l_free
 m_l_free : mg "_law_free" = some (.ref a.f_l_free)
 b_l_free : aQ K a.d_l_free ["_law_block", "_law_columns"] []
 F_l_bounds : FunD K "_law_bounds" "_law_bounds" lM a.f_l_bounds a.d_l_bounds
 m_l_bounds : mg "_law_bounds" = some (.ref a.f_l_bounds)
 b_l_bounds : aQ K a.d_l_bounds ["_law_bag_here", "_law_grid"] []
 F_l_copied : FunD K "_law_copied" "_law_copied" lL a.f_l_copied a.d_l_copied
 m_l_copied : mg "_law_copied" = some (.ref a.f_l_copied)
 b_l_copied : aQ K a.d_l_copied ["_law_block"] []
 F_l_any : FunD K "_law_any" "_law_any" qv a.f_l_any a.d_l_any
 m_l_any : mg "_law_any" = some (.ref a.f_l_any)
 b_l_any : aQ K a.d_l_any ["_law_bag_here"] []
 F_l_pairs : FunD K "_law_pairs" "_law_pairs" nL a.f_l_pairs a.d_l_pairs
 m_l_pairs : mg "_law_pairs" = some (.ref a.f_l_pairs)
 b_l_pairs : aQ K a.d_l_pairs ["_law_first", "_law_second"] []
 F_l_bounds_joined : FunD K "_law_bounds_joined" "_law_bounds_joined" gh a.f_l_bounds_joined a.d_l_bounds_joined
 m_l_bounds_joined : mg "_law_bounds_joined" = some (.ref a.f_l_bounds_joined)
 b_l_bounds_joined : aQ K a.d_l_bounds_joined ["_law_limits", "_law_one", "_law_other"] []
 F_l_bounds_parted : FunD K "_law_bounds_parted" "_law_bounds_parted" gf a.f_l_bounds_parted a.d_l_bounds_parted
 m_l_bounds_parted : mg "_law_bounds_parted" = some (.ref a.f_l_bounds_parted)
 b_l_bounds_parted : aQ K a.d_l_bounds_parted ["_law_limits", "_law_one"] []
 F_Table___init__ : FunD K "__init__" "Table.__init__" gA a.f_Table___init__ a.d_Table___init__
 mk_Table : Mk K a.C_Table a.f_Table___init__
 b_Table___init__ : aQ K a.d_Table___init__ ["self", "rows"] []
 F_Table_parted : FunD K "parted" "Table.parted" iq a.f_Table_parted a.d_Table_parted
 mt_Table_parted : Meth K a.C_Table "parted" a.f_Table_parted
 kb_rows_Table_parted : KwOk K a.d_Table_parted ["self", "one", "taken", "rows"] ["rows"] 3 [.kw 0]
 F_Table_cells : FunD K "cells" "Table.cells" jo a.f_Table_cells a.d_Table_cells
 mt_Table_cells : Meth K a.C_Table "cells" a.f_Table_cells
 b_Table_cells : aQ K a.d_Table_cells ["self"] []
 F_Table_joined : FunD K "joined" "Table.joined" ir a.f_Table_joined a.d_Table_joined
 mt_Table_joined : Meth K a.C_Table "joined" a.f_Table_joined
 kb_rows_Table_joined : KwOk K a.d_Table_joined ["self", "one", "other", "rows"] ["rows"] 3 [.kw 0]
 cl_Table : Cls K a.C_Table
 m_Table : mg "Table" = some (.ref a.C_Table)
 na_Table_counts : fq K a.C_Table "counts"
 FX_EdgeError : FunD K "__init__" "EdgeError.__init__" jA a.x_EdgeError a.y_EdgeError
 b_EdgeError : aQ K a.y_EdgeError ["self", "word", "why"] []
 m_EdgeError : mg "EdgeError" = some (.ref a.C_EdgeError)
 FX_BadTable : FunD K "__init__" "BadTable.__init__" kM a.x_BadTable a.y_BadTable
 b_BadTable : aQ K a.y_BadTable ["self", "why"] []
 m_BadTable : mg "BadTable" = some (.ref a.C_BadTable)
 xm_BadTable : XMk K a.C_BadTable a.x_BadTable
 w_BadTable : findIn K (.ref a.C_BadTable) "word" = some none
 FX_BadBounds : FunD K "__init__" "BadBounds.__init__" jB a.x_BadBounds a.y_BadBounds
 b_BadBounds : aQ K a.y_BadBounds ["self", "why"] []
 m_BadBounds : mg "BadBounds" = some (.ref a.C_BadBounds)
 xm_BadBounds : XMk K a.C_BadBounds a.x_BadBounds
 w_BadBounds : findIn K (.ref a.C_BadBounds) "word" = some none
 FX_BadCell : FunD K "__init__" "BadCell.__init__" lF a.x_BadCell a.y_BadCell
 b_BadCell : aQ K a.y_BadCell ["self", "why"] []
 m_BadCell : mg "BadCell" = some (.ref a.C_BadCell)
 xm_BadCell : XMk K a.C_BadCell a.x_BadCell
 w_BadCell : findIn K (.ref a.C_BadCell) "word" = some none
 cE : ClsFn K a.C_EdgeError "__init__" a.x_EdgeError
section
variable (P : Program) (w : World) {K : Frag} {mg : Str -> Option Value} (base : Heap) {a : Ad}
def yt (K : Frag) : Sp := fun vs H Q _ => ∃ (x C : Addr) (wd y : V), vs = [.ref x, wd, y] /\ H x = some (de C x none) /\ XC K C /\ findIn K (.ref C) "word" = some none /\ ∀ (d : Addr) (H' : Hp), H' x = some (de C x (some d)) -> (∀ b o, H b = some o -> b ≠ x -> H' b = some o) -> Q .non H'
theorem ox : FnScope ["self", "word", "why"] ["self", "word", "why"] (am jA) := fsc
theorem mM (N : Fns K mg a) : FnOk P w K mg base (CXE P w) 1 a.x_EdgeError a.y_EdgeError ["self", "word", "why"] (yt K) := by
 refine N.FX_EdgeError.ok ox (fun vs H Q E h => ?_) (fun cdv A outer s H vs Q E hr h => ?_)
 ·obtain ⟨x, C, wd, y, rfl, _⟩ := h
  rfl
 ·obtain ⟨x, C, wd, y, rfl, hx, c, hf, k⟩ := h
  refine ⟨_, bY (dn (u4 rfl N.n_ValueError (bv (pv 0) (bv (pv 2) ef)))) (eP (uY (pv 0) (pv 1) rfl)), ?_⟩
  refine ⟨_, rfl, _, rfl, x, C, none, _, rfl, (by show 1 <= sizeLine; decide), hx, c, ?_⟩
  refine ⟨_, rfl, _, rfl, x, C, rfl, ao, c, hf, fun d hd hda => ?_⟩
  refine k d _ ao fun b o e hb => ?_
  have hdn : H d = none := by rw [upd_ne hda] at hd; exact hd
  rw [upd_ne hb, upd_ne (ne_of_none e hdn), upd_ne hb]
  exact e
theorem o8 : FnScope ["self", "why"] ["self", "why"] (am kM) := fsc
theorem jK (N : Fns K mg a) : FnOk P w K mg base (CXE P w) 2 a.x_BadTable a.y_BadTable ["self", "why"] (oI a.C_BadTable 1) := by
 have GE := mM P w base N
 refine N.FX_BadTable.ok o8 (fun vs H Q E h => ?_) (fun cdv A outer s H vs Q E hr h => ?_)
 ·obtain ⟨x, rest, rfl, hl, _⟩ := h
  show rest.length + 1 = 2
  rw [hl]
 ·obtain ⟨x, rest, rfl, hl, hx, k⟩ := h
  obtain ⟨y, rfl⟩ : ∃ y, rest = [y] := List.length_eq_one_iff.mp hl
  refine ⟨_, eP (dn (iS N.cE GE hr rfl N.m_EdgeError N.b_EdgeError .nil cw (bv (pv 0) (bv lQ (bv (pv 1) ef))))), ?_⟩
  exact ⟨_, rfl, _, rfl, x, a.C_BadTable, _, y, rfl, hx, N.xm_BadTable.xc, N.w_BadTable, fun d H' h1 h2 => k _ H' h1 h2⟩
theorem oy : FnScope ["self", "why"] ["self", "why"] (am jB) := fsc
theorem jp (N : Fns K mg a) : FnOk P w K mg base (CXE P w) 2 a.x_BadBounds a.y_BadBounds ["self", "why"] (oI a.C_BadBounds 1) := by
 have GE := mM P w base N
 refine N.FX_BadBounds.ok oy (fun vs H Q E h => ?_) (fun cdv A outer s H vs Q E hr h => ?_)
 ·obtain ⟨x, rest, rfl, hl, _⟩ := h
  show rest.length + 1 = 2
  rw [hl]
 ·obtain ⟨x, rest, rfl, hl, hx, k⟩ := h
  obtain ⟨y, rfl⟩ : ∃ y, rest = [y] := List.length_eq_one_iff.mp hl
  refine ⟨_, eP (dn (iS N.cE GE hr rfl N.m_EdgeError N.b_EdgeError .nil cw (bv (pv 0) (bv lQ (bv (pv 1) ef))))), ?_⟩
  exact ⟨_, rfl, _, rfl, x, a.C_BadBounds, _, y, rfl, hx, N.xm_BadBounds.xc, N.w_BadBounds, fun d H' h1 h2 => k _ H' h1 h2⟩
theorem qb : FnScope ["self", "why"] ["self", "why"] (am lF) := fsc
theorem kO (N : Fns K mg a) : FnOk P w K mg base (CXE P w) 2 a.x_BadCell a.y_BadCell ["self", "why"] (oI a.C_BadCell 1) := by
 have GE := mM P w base N
 refine N.FX_BadCell.ok qb (fun vs H Q E h => ?_) (fun cdv A outer s H vs Q E hr h => ?_)
 ·obtain ⟨x, rest, rfl, hl, _⟩ := h
  show rest.length + 1 = 2
  rw [hl]
 ·obtain ⟨x, rest, rfl, hl, hx, k⟩ := h
  obtain ⟨y, rfl⟩ : ∃ y, rest = [y] := List.length_eq_one_iff.mp hl
  refine ⟨_, eP (dn (iS N.cE GE hr rfl N.m_EdgeError N.b_EdgeError .nil cw (bv (pv 0) (bv lQ (bv (pv 1) ef))))), ?_⟩
  exact ⟨_, rfl, _, rfl, x, a.C_BadCell, _, y, rfl, hx, N.xm_BadCell.xc, N.w_BadCell, fun d H' h1 h2 => k _ H' h1 h2⟩
theorem gR : FnScope ["_law_bag_here", "_law_lot", "_law_cells", "_law_at", "_law_cell"] ["_law_bag_here", "_law_lot"] (am pd) := fsc
theorem jM (N : Fns K mg a) : FnOk P w K mg base (CXE P w) 2 a.f_l_pull a.d_l_pull ["_law_bag_here", "_law_lot"] (spF K 2 bO) := by
 refine N.F_l_pull.ok (k := 1) gR (fun vs H Q E h => h.1) (fun cdv A outer s H vs Q E hr h => ?_)
 obtain ⟨_, F, ds, β, fr, hd, r, β', e, k⟩ := h
 obtain ⟨lot, rfl, ok, h0, h1, rfl, rfl⟩ := tL e
 obtain ⟨v, w', rfl, d1, d2⟩ := DenL.two hd
 unfold Den at d1
 obtain ⟨b, l, ebg, rfl⟩ := d1
 cases d2.int
 obtain ⟨hb, hl⟩ := fr.bag b l ebg
 obtain ⟨ab, al, nbl⟩ := fr.bgA b l ebg
 obtain ⟨hk, hck, hc0, ek⟩ := ok.at
 obtain ⟨_, _, hcp, _⟩ := qz ok h0
 have len : ((β.cells.map V.int).length : Int) = (β.cells.length : Int) := by rw [List.length_map]
 have hat : atI (β.cells.map V.int) (β.pos : Int) = some (.int β.cell) := yd (by rw [List.getElem?_map, hck]; rfl)
 refine ⟨_, bY (lP (i := 2) gR.nd rfl (Or.inl rfl) (fM dy (pv 0) bH (fun _ _ => rfl)))
  (bY (lP (i := 3) gR.nd rfl (Or.inl rfl) (c7 ix (fM dy (pv 0) bH (fun _ _ => rfl)) (k6 aB (by rfl) N.n_len PySem.boot_len (bv (pv 2) ef))))
  (bY (lP (i := 4) gR.nd rfl (Or.inl rfl) (fM dy (pv 2) (pv 3) (fun _ _ => rfl)))
  (bY (wU (qA AW (pv 4) (c7 yR bH bH) (pF _))
   (bY (dN (c7 qI (pv 4) (pv 1)) (eY (pv 2) (pv 3) cZ)) (eP (aI (c7 ix (pv 4) (pv 1))))) mH)
  (bY (dN (c7 lT (fM dy (pv 0) bH (fun _ _ => rfl)) bH) (eY (pv 0) bH cZ))
  (bY (dN (c7 ix (c7 yT (c7 lT (c7 lT (fM dy (pv 0) bH (fun _ _ => rfl)) (c7 ix (pv 4) bH)) bH) bH) bH) (eY (pv 0) bH cZ))
  (eP (aI (c7 ix (c7 qI (fM dy (pv 0) bH (fun _ _ => rfl)) bH) (pv 1))))))))), ?_⟩
 refine ⟨_, rfl, b, _, _, _, rfl, rfl, SqL.of hb, rfl, ?_⟩
 refine ⟨_, rfl, b, _, _, _, rfl, rfl, SqL.of hb, rfl, _, rfl, l, _, rfl, .inl (SqL.of hl), _, _, rfl, rfl, ?_, ?_⟩
 ·have := hk
  rw [len]
  omega
 refine ⟨_, rfl, _, rfl, l, _, _, _, rfl, rfl, SqL.of hl, by rw [len, ek]; exact hat, ?_⟩
 refine ⟨_, rfl, _, _, rfl, rfl, ⟨by decide, by decide, by decide⟩, _, _, rfl, rfl, _, rfl, ?_⟩
 have occ : ∀ {H' : Hp} {p : Addr} {o : HO}, (∀ c, F.A c -> H' c ≠ none) -> ∀ c, F.A c -> upd H' p o c ≠ none := fun {H' p o} f c hc z => by
  by_cases q : c = p
  ·subst q; rw [ao] at z; cases z
  ·rw [upd_ne q] at z; exact f c hc z
 refine ite2 (fun hbig => ?_) (fun hbig => ?_)
 ·have big : (10 : Int) ^ 18 <= β.cell := of_decide_eq_true hbig
  refine ⟨_, rfl, _, rfl, _, _, rfl, rfl, ⟨h0, h1⟩, _, rfl, _, rfl, l, _, _, β.pos, rfl, rfl, hl, ?_, ?_⟩
  ·rw [len, ek, List.length_map]
   exact xU hk
  refine ⟨_, rfl, _, rfl, _, _, rfl, rfl, h0, ?_⟩
  have e1 : gW β lot = β.cell % lot := if_pos big
  have e2 : iR β lot = ⟨β.cells.set β.pos (β.cell / lot), β.i, β.j⟩ := if_pos big
  rw [e1, e2] at k
  refine k _ _ ⟨fun c o hc n => by rw [upd_ne (n b l ebg).2]; exact hc, occ fr.occ, fr.bgA, fun b' l' e' => ?_⟩ rfl
  rw [ebg] at e'
  cases e'
  exact ⟨by rw [upd_ne nbl]; exact hb, by rw [ao, List.map_set]⟩
 ·have big : ¬ (10 : Int) ^ 18 <= β.cell := fun q => hbig (decide_eq_true q)
  refine ⟨_, rfl, b, _, _, _, rfl, rfl, SqL.of hb, rfl, _, _, rfl, rfl, _, rfl, b, _, _, 1, rfl, rfl, hb, rfl, ?_⟩
  have hb1 : (upd H b (.lst [.ref l, .int (β.i + 1), .int β.j])) b = some (.lst [.ref l, .int (β.i + 1), .int β.j]) := ao
  refine ⟨_, rfl, b, _, _, _, rfl, rfl, SqL.of hb1, rfl, _, rfl, _, _, rfl, rfl, (by show (0 : Int) < 2147483629; decide), _, _, rfl, rfl, _, _, rfl, rfl, _, _, rfl, rfl, .inr ⟨by decide, by decide⟩, _, _, rfl, rfl, (by show (0 : Int) < 2147483629; decide), _, rfl, b, _, _, 2, rfl, rfl, hb1, rfl, ?_⟩
  have hb2 : (upd (upd H b (.lst [.ref l, .int (β.i + 1), .int β.j])) b (.lst [.ref l, .int (β.i + 1), .int β.nxt])) b = some (.lst [.ref l, .int (β.i + 1), .int β.nxt]) := ao
  refine ⟨_, rfl, b, _, _, _, rfl, rfl, SqL.of hb2, rfl, _, _, rfl, rfl, ⟨by decide, by decide⟩, _, rfl, _, _, rfl, rfl, h0, ?_⟩
  have e1 : gW β lot = β.nxt / 64 % lot := if_neg big
  have e2 : iR β lot = ⟨β.cells, β.i + 1, β.nxt⟩ := if_neg big
  rw [e1, e2] at k
  refine k _ _ ⟨fun c o hc n => by rw [upd_ne (n b l ebg).1, upd_ne (n b l ebg).1]; exact hc, occ (occ fr.occ), fr.bgA, fun b' l' e' => ?_⟩ rfl
  rw [ebg] at e'
  cases e'
  exact ⟨hb2, by rw [upd_ne nbl.symm, upd_ne nbl.symm]; exact hl⟩
theorem uS : FnScope ["_law_script"] ["_law_script"] (am qu) := fsc
theorem nd1 : (["_law_cell"] : List Str).Nodup := by decide +kernel
theorem va (N : Fns K mg a) : FnOk P w K mg base (CXE P w) 1 a.f_l_bag a.d_l_bag ["_law_script"] (AQ K) := by
 refine N.F_l_bag.ok uS (fun vs H Q E h => ?_) (fun cdv A outer s H vs Q E hr h => ?_)
 ·obtain ⟨a, ns, rfl, _⟩ := h
  rfl
 ·obtain ⟨a, ns, rfl, hS, k⟩ := h
  refine ⟨_, eP (aI (lR (bv (c7 yV (kq rfl (vars := ["_law_cell"]) (CmpScope.plain rfl (by decide +kernel) (by decide +kernel)) (xA (pz qr (pv 0) qD (qC bH)))
   (fun cl C fp s H => ⟨qE (i := 0) nd1 rfl (Or.inl rfl), pw, fun D => aR rfl (k6 vO (by rfl) N.n_abs PyProof.Rows.Boot.«abs» (bv (pv 0) ef)) rfl⟩)) (lR (bv bH ef))) (bv bH (bv bH ef))))), ?_⟩
  obtain ⟨ms, ems, lms⟩ := Bd ns
  refine ⟨_, rfl, 63, rfl, a, _, rfl, hS, fun p hp => ?_⟩
  rw [ems]
  have s1 : bN H (upd H p (.lst (ms.map V.int))) := bN.upd hp
  refine ⟨p, rfl, ⟨_, SqL.of ao⟩, fun D hD => ?_⟩
  have nDp : D ≠ p := fun z => by subst z; rw [ao] at hD; cases hD
  refine sD (xs := ms.map V.int) (fun i σ H2 => ∃ cs : List Int, (∃ v, σ = [v]) /\ cs.length = i /\ (∀ c ∈ cs, 0 <= c) /\ H2 D = some (.lst (cs.map V.int)) /\ H2 p = some (.lst (ms.map V.int)) /\ bN H H2) ⟨[], ⟨_, rfl⟩, rfl, (fun _ h => nomatch h), ao, by rw [upd_ne nDp.symm, ao], s1.trans (bN.upd hD)⟩
   (fun i σ H2 _ ⟨_, _, _, _, _, e, _⟩ => SqL.of e) ?_ ?_
  ·rintro i x σ H2 hi ⟨cs, ⟨v, rfl⟩, hcl, hc0, hDc, hp2, s2⟩
   have hil : i < ms.length := by have := (List.getElem?_eq_some_iff.mp hi).1; rwa [List.length_map] at this
   obtain ⟨z, rfl⟩ : ∃ z, x = V.int z := by
    rw [List.getElem?_map] at hi
    cases e : ms[i]? with
    | none => rw [e] at hi; cases hi
    | some z => rw [e] at hi; exact ⟨z, (Option.some.inj hi).symm⟩
   unfold eD yo
   refine iteT ?_
   refine ⟨_, rfl, _, rfl, cs.map V.int, hDc, by rw [List.length_map]; exact nK (by omega), cs ++ [if z < 0 then -z else z], ⟨_, rfl⟩, by rw [List.length_append, hcl]; rfl, fun c hc => ?_, by rw [ao, List.map_append]; rfl, by rw [upd_ne nDp.symm]; exact hp2, fun b o e => ?_⟩
   ·rcases List.mem_append.mp hc with hc | hc
    ·exact hc0 c hc
    ·obtain rfl : c = _ := by simpa using hc
     split <;> omega
   ·rw [upd_ne (ne_of_none e (s1.free hD))]
    exact s2 b o e
  ·rintro σ H2 ⟨cs, ⟨v, rfl⟩, hcl, hc0, hDc, hp2, s2⟩
   rw [List.length_map] at hcl
   refine ⟨by decide, fun p2 hp2' => ⟨D, p2, _, _, rfl, rfl, by rw [upd_ne (ne_of_none hDc hp2')]; exact hDc, ao, by rw [List.length_map]; exact Nat.le_of_lt (nK (by simp; omega)), fun p3 hp3 => ⟨(by show 3 <= sizeLine; decide), fun p4 hp4 => ?_⟩⟩⟩
   have s3 : bN H2 (upd H2 p2 (.lst [V.int 1])) := bN.upd hp2'
   have s4 := s3.trans (bN.upd (o := .lst (cs.map V.int ++ [V.int 1])) hp3)
   have n34 : p3 ≠ p4 := fun z => by subst z; rw [ao] at hp4; cases hp4
   refine k p4 p3 _ ((s2.trans s4).free hp4) ((s2.trans s3).free hp3) ⟨cs ++ [1], 0, 0, ao, by rw [upd_ne n34, ao, List.map_append]; rfl, by simp, by rw [List.length_append]; simp; omega, fun c hc => ?_, by decide⟩ ((s2.trans s4).trans (bN.upd hp4))
   rcases List.mem_append.mp hc with hc | hc
   ·exact hc0 c hc
   ·obtain rfl : c = 1 := by simpa using hc
    decide
theorem xv : FnScope ["rows", "columns", "pair"] ["rows", "columns", "pair"] (am tj) := fsc
noncomputable def uh (K : Frag) (a : Ad) : G :=
  aO (aM 1 [2, 1] (bA dA (ac (ad 0) (ah))) (tgC 0) (fun _ => M.ret true) (cEm (aM 1 [1] (bA dA (ac (ad 2) (ah))) (tgC 0) (fun _ => M.ret true) (cEm (ad 1)))))
noncomputable def m_free (K : Frag) (a : Ad) : List D -> M D := aP 3 (uh K a)
theorem xM (N : Fns K mg a) : FnOk P w K mg base (CXE P w) 2 a.f_free a.d_free ["rows", "columns", "pair"] (spF K 3 (m_free K a)) := by
 unfold m_free
 exact bT (k := 1) 3 3 (uh K a) N.F_free xv rfl rfl fun cdv A outer s H E hr => aC (aV (aI (bL rfl (CmpScope.ofB (Nc := ["row", "pair", "columns"]) (vars := ["row"]) (caps := [2, 1]) rfl (by decide +kernel) (by rfl) (by rfl) (by rfl)) (da (by rfl) N.n_range (aa (ae 0 (pv 0)) (ag))) (fun cl C fp s H => ⟨(pgN 0 (show (["row", "pair", "columns"] : List Str).Nodup by decide +kernel)), aW, fun D => aR rfl (bL rfl (CmpScope.ofB (Nc := ["column", "pair"]) (vars := ["column"]) (caps := [1]) rfl (by decide +kernel) (by rfl) (by rfl) (by rfl)) (da (by rfl) N.n_range (aa (ae 2 (pv 2)) (ag))) (fun cl C fp s H => ⟨(pgN 0 (show (["column", "pair"] : List Str).Nodup by decide +kernel)), aW, fun D => aR rfl (ae 1 (pv 1)) rfl⟩) aD aG (fun D => aX)) rfl⟩) aD aG (fun D => aX))))
theorem ji : FnScope ["rows", "columns"] ["rows"] (am jG) := fsc
noncomputable def gG (K : Frag) (a : Ad) : G :=
  ak (gIf (bW (fB (bQ leD leD (fC (.int 1)) (ai aY (ac (ad 0) (ah))) (fC (.int 4))))) (bI a.C_BadTable (ac (cD (bM (fC (.int 4)) (bM (ai aY (ac (ad 0) (ah))) (c9)))) (ah))) (gNil))
  (ak (ba 1 (ai aY (ac (f2 ixD (ad 0) (fC (.int 0))) (ah))))
  (ak (gIf (bW (fB (bQ leD leD (fC (.int 1)) (ad 1) (fC (.int 6))))) (bI a.C_BadTable (ac (cD (bM (fC (.int 6)) (bM (ad 1) (c9)))) (ah))) (gNil))
  (ak (gIf (bZ (ai lw (ac (aM 1 [1] (bc (ad 0)) (tgC 0) (fun _ => M.ret true) (cEm (f2 (cx) (ai aY (ac (ad 0) (ah))) (ad 1)))) (ah)))) (bI a.C_BadTable (ac (fC (.str (Str.ofString "the rows are of unlike lengths"))) (ah))) (gNil))
  (ak (gIf (bZ (ai lw (ac (aM 2 [] (bc (ad 0)) (tgC 0) (fun _ => M.ret true) (cNx (bc (ad 0)) (tgC 1) (fun _ => M.ret true) (cEm (f2 (ltD) (ad 1) (fC (.int 0)))))) (ah)))) (bI a.C_BadTable (ac (fC (.str (Str.ofString "a count is below nought"))) (ah))) (gNil))
  (gIf (fB (f2 (gtD) (ai km (ac (aM 1 [] (bc (ad 0)) (tgC 0) (fun _ => M.ret true) (cEm (ai km (ac (ad 0) (ah))))) (ah))) (fC (.int 40)))) (bI a.C_BadTable (ac (cD (bM (fC (.int 40)) (c9))) (ah))) (gNil))))))
noncomputable def m_check_rows (K : Frag) (a : Ad) : List D -> M D := aP 2 (gG K a)
theorem jq (N : Fns K mg a) : FnOk P w K mg base (CXE P w) 4 a.f_check_rows a.d_check_rows ["rows"] (spF K 1 (m_check_rows K a)) := by
 have X_BadTable := jK P w base N
 unfold m_check_rows
 exact bT (k := 3) 1 2 (gG K a) N.F_check_rows ji rfl rfl fun cdv A outer s H E hr => aq (bE (fK (mx fN fN ia ia (aE) (aA aB bB (by rfl) N.n_len PySem.boot_len (aa (ae 0 (pv 0)) (ag))) (fS N.g_MOST_ROWS))) (aC (dm N.xm_BadTable.xc (af aN0) (by decide) (cG hr.hd (d9 N.xm_BadTable X_BadTable (hr.mono (by decide)) rfl N.m_BadTable N.b_BadTable .nil cw (aa (fU (c := ((Str.ofString "a table has 1 to ").length + (1921 + ((Str.ofString " rows, not ").length + (1921 + 0))))) (cP (dE (fS N.g_MOST_ROWS) (cP (dE (aA aB bB (by rfl) N.n_len PySem.boot_len (aa (ae 0 (pv 0)) (ag))) (g6))))) (by decide +kernel)) (ag)))))) (bf))
   (aq (bu (psS 1 ji.nd (aA aB bB (by rfl) N.n_len PySem.boot_len (aa (bD aN bF (ae 0 (pv 0)) (aE)) (ag)))))
   (aq (bE (fK (mx fN fN ia ia (aE) (ae 1 (pv 1)) (fS N.g_MOST_COLUMNS))) (aC (dm N.xm_BadTable.xc (af aN0) (by decide) (cG hr.hd (d9 N.xm_BadTable X_BadTable (hr.mono (by decide)) rfl N.m_BadTable N.b_BadTable .nil cw (aa (fU (c := ((Str.ofString "a table has 1 to ").length + (1921 + ((Str.ofString " columns, not ").length + (1921 + 0))))) (cP (dE (fS N.g_MOST_COLUMNS) (cP (dE (ae 1 (pv 1)) (g6))))) (by decide +kernel)) (ag)))))) (bf))
   (aq (bE (dC (aA (j7 rfl) se (by rfl) N.n_any PyProof.Rows.Boot.«any» (aa (bL rfl (CmpScope.ofB (Nc := ["counts", "columns"]) (vars := ["counts"]) (caps := [1]) rfl (by decide +kernel) (by rfl) (by rfl) (by rfl)) (cf (ae 0 (pv 0))) (fun cl C fp s H => ⟨(pgN 0 (show (["counts", "columns"] : List Str).Nodup by decide +kernel)), aW, fun D => aR rfl (gO (eZ hr) gn (aA aB bB (by rfl) N.n_len PySem.boot_len (aa (ae 0 (pv 0)) (ag))) (ae 1 (pv 1))) rfl⟩) aD aG (fun D => aX)) (ag)))) (aC (dm N.xm_BadTable.xc (af aN0) (by decide) (cG hr.hd (d9 N.xm_BadTable X_BadTable (hr.mono (by decide)) rfl N.m_BadTable N.b_BadTable .nil cw (aa (wK) (ag)))))) (bf))
   (aq (bE (dC (aA (j7 rfl) se (by rfl) N.n_any PyProof.Rows.Boot.«any» (aa (bL rfl (CmpScope.ofB (Nc := ["counts", "count"]) (vars := ["counts", "count"]) (caps := []) rfl (by decide +kernel) (by rfl) (by rfl) (by rfl)) (cf (ae 0 (pv 0))) (fun cl C fp s H => ⟨(pgN 0 (show (["counts", "count"] : List Str).Nodup by decide +kernel)), aW, fun D => qF rfl rfl rfl (cf (ae 0 (pv 0))) (pgN 1 (show (["counts", "count"] : List Str).Nodup by decide +kernel)) (aW) (aR rfl (gO rO vv (ae 1 (pv 1)) (aE)) rfl)⟩) aD aG (fun D => qO aD aG (aX))) (ag)))) (aC (dm N.xm_BadTable.xc (af aN0) (by decide) (cG hr.hd (d9 N.xm_BadTable X_BadTable (hr.mono (by decide)) rfl N.m_BadTable N.b_BadTable .nil cw (aa (wK) (ag)))))) (bf))
   (aC (bE (cu wW y8 (aA (oa rfl) tX (by rfl) N.n_sum PyProof.Rows.Boot.«sum» (aa (bL rfl (CmpScope.ofB (Nc := ["counts"]) (vars := ["counts"]) (caps := []) rfl (by decide +kernel) (by rfl) (by rfl) (by rfl)) (cf (ae 0 (pv 0))) (fun cl C fp s H => ⟨(pgN 0 (show (["counts"] : List Str).Nodup by decide +kernel)), aW, fun D => aR rfl (aA (oa rfl) tX (by rfl) N.n_sum PyProof.Rows.Boot.«sum» (aa (ae 0 (pv 0)) (ag))) rfl⟩) aD aG (fun D => aX)) (ag))) (fS N.g_MOST)) (aC (dm N.xm_BadTable.xc (af aN0) (by decide) (cG hr.hd (d9 N.xm_BadTable X_BadTable (hr.mono (by decide)) rfl N.m_BadTable N.b_BadTable .nil cw (aa (fU (c := ((Str.ofString "a table has at most ").length + (1921 + ((Str.ofString " things").length + 0)))) (cP (dE (fS N.g_MOST) (cP (g6)))) (by decide +kernel)) (ag)))))) (bf)))))))
theorem mD : FnScope ["place", "many"] ["place", "many"] (am jm) := fsc
noncomputable def ge (K : Frag) (a : Ad) : G :=
  gIf (bW (fB (bQ leD ltD (fC (.int 0)) (ad 0) (ad 1)))) (bI a.C_BadCell (ac (cD (bM (ad 0) (bM (ad 1) (c9)))) (ah))) (gNil)
noncomputable def m_check_there (K : Frag) (a : Ad) : List D -> M D := aP 2 (ge K a)
theorem iz (N : Fns K mg a) : FnOk P w K mg base (CXE P w) 4 a.f_check_there a.d_check_there ["place", "many"] (spF K 2 (m_check_there K a)) := by
 have X_BadCell := kO P w base N
 unfold m_check_there
 exact bT (k := 3) 2 2 (ge K a) N.F_check_there mD rfl rfl fun cdv A outer s H E hr => aC (bE (fK (mx fN rO ia vv (aE) (ae 0 (pv 0)) (ae 1 (pv 1)))) (aC (dm N.xm_BadCell.xc (af aN0) (by decide) (cG hr.hd (d9 N.xm_BadCell X_BadCell (hr.mono (by decide)) rfl N.m_BadCell N.b_BadCell .nil cw (aa (fU (c := ((Str.ofString "there is no number ").length + (1921 + ((Str.ofString " among ").length + (1921 + 0))))) (cP (dE (ae 0 (pv 0)) (cP (dE (ae 1 (pv 1)) (g6))))) (by decide +kernel)) (ag)))))) (bf))
theorem f8 : FnScope ["pair", "low", "high"] ["pair"] (am jH) := fsc
noncomputable def gH (K : Frag) (a : Ad) : G :=
  ak (gL (ad 0) (sgT (eU (sgN 1) (eU (sgN 2) gy))))
  (gIf (bW (fB (iF leD leD leD (fC (.int 0)) (ad 1) (ad 2) (fC (.int 40))))) (bI a.C_BadBounds (ac (cD (bM (ad 1) (bM (ad 2) (c9)))) (ah))) (gNil))
noncomputable def m_check_pair (K : Frag) (a : Ad) : List D -> M D := aP 3 (gH K a)
theorem oC (N : Fns K mg a) : FnOk P w K mg base (CXE P w) 4 a.f_check_pair a.d_check_pair ["pair"] (spF K 1 (m_check_pair K a)) := by
 have X_BadBounds := jp P w base N
 unfold m_check_pair
 exact bT (k := 3) 1 3 (gH K a) N.F_check_pair f8 rfl rfl fun cdv A outer s H E hr => aq (AS (pJ (fE dr (fE dr mT)) (fD (fD kX))) (dN (ae 0 (pv 0)) (di rfl (aU (pgN 1 f8.nd) (aU (pgN 2 f8.nd) cz)))))
   (aC (bE (fK (uM fN fN fN ia ia ia (aE) (ae 1 (pv 1)) (ae 2 (pv 2)) (fS N.g_MOST))) (aC (dm N.xm_BadBounds.xc (af aN0) (by decide) (cG hr.hd (d9 N.xm_BadBounds X_BadBounds (hr.mono (by decide)) rfl N.m_BadBounds N.b_BadBounds .nil cw (aa (fU (c := ((Str.ofString "a cell has no bounds from ").length + (1921 + ((Str.ofString " to ").length + (1921 + 0))))) (cP (dE (ae 1 (pv 1)) (cP (dE (ae 2 (pv 2)) (g6))))) (by decide +kernel)) (ag)))))) (bf)))
theorem d4 : FnScope ["bounds", "rows", "columns", "pairs", "pair"] ["bounds", "rows", "columns"] (am gz) := fsc
noncomputable def eF (K : Frag) (a : Ad) : G :=
  ak (gIf (fB (f2 (fG) (ad 0) (fC .non))) (aO (ul (m_free K a) (ac (ad 1) (ac (ad 2) (ah))) [.tup [.int 0, .int 40]])) (gNil))
  (ak (gIf (db (fB (f2 (cx) (ai aY (ac (ad 0) (ah))) (ad 1))) (bZ (ai lw (ac (aM 1 [2] (bc (ad 0)) (tgC 0) (fun _ => M.ret true) (cEm (f2 (cx) (ai aY (ac (ad 0) (ah))) (ad 1)))) (ah))))) (bI a.C_BadBounds (ac (cD (bM (ad 1) (bM (ad 2) (c9)))) (ah))) (gNil))
  (ak (ie (bc (ad 0)) (sgN 3) (ie (bc (ad 3)) (sgN 4) (bV (au (m_check_pair K a) (ac (ad 4) (ah))))))
  (aO (aM 1 [] (bc (ad 0)) (tgC 0) (fun _ => M.ret true) (cEm (ai eA (ac (ad 0) (ah))))))))
noncomputable def m_settled_bounds (K : Frag) (a : Ad) : List D -> M D := aP 5 (eF K a)
theorem kL (N : Fns K mg a) : FnOk P w K mg base (CXE P w) 5 a.f_settled_bounds a.d_settled_bounds ["bounds", "rows", "columns"] (spF K 3 (m_settled_bounds K a)) := by
 have G_free := xM P w base N
 have G_check_pair := oC P w base N
 have X_BadBounds := jp P w base N
 unfold m_settled_bounds
 exact bT (k := 4) 3 5 (eF K a) N.F_settled_bounds d4 rfl rfl fun cdv A outer s H E hr => aq (bE (cu pB sd (ae 0 (pv 0)) (rn)) (aC (aV (aI (xm G_free (hr.mono (by decide)) (by rfl) N.m_free N.F_free.kp N.bd_free az (aa (ae 1 (pv 1)) (aa (ae 2 (pv 2)) (ag))) (fun δ β r β' h => by rw [(af (af aN0)) δ β r β' h]; rfl))))) (bf))
   (aq (bE (jz (oY (cu (eZ hr) gn (aA aB bB (by rfl) N.n_len PySem.boot_len (aa (ae 0 (pv 0)) (ag))) (ae 1 (pv 1))) (lA (dC (aA (j7 rfl) se (by rfl) N.n_any PyProof.Rows.Boot.«any» (aa (bL rfl (CmpScope.ofB (Nc := ["pairs", "columns"]) (vars := ["pairs"]) (caps := [2]) rfl (by decide +kernel) (by rfl) (by rfl) (by rfl)) (cf (ae 0 (pv 0))) (fun cl C fp s H => ⟨(pgN 0 (show (["pairs", "columns"] : List Str).Nodup by decide +kernel)), aW, fun D => aR rfl (gO (eZ hr) gn (aA aB bB (by rfl) N.n_len PySem.boot_len (aa (ae 0 (pv 0)) (ag))) (ae 1 (pv 1))) rfl⟩) aD aG (fun D => aX)) (ag))))))) (aC (dm N.xm_BadBounds.xc (af aN0) (by decide) (cG hr.hd (d9 N.xm_BadBounds X_BadBounds (hr.mono (by decide)) rfl N.m_BadBounds N.b_BadBounds .nil cw (aa (fU (c := ((Str.ofString "these are no bounds of ").length + (1921 + ((Str.ofString " rows and ").length + (1921 + ((Str.ofString " columns").length + 0)))))) (cP (dE (ae 1 (pv 1)) (cP (dE (ae 2 (pv 2)) (cP (g6)))))) (by decide +kernel)) (ag)))))) (bf))
   (aq (kn dr (iw mJ rfl (cf (ae 0 (pv 0))) (pgN 3 d4.nd) (aC (kn dr (iw mJ rfl (cf (ae 3 (pv 3))) (pgN 4 d4.nd) (aC (io (dn (ax G_check_pair (hr.mono (by decide)) (by rfl) N.m_check_pair N.F_check_pair.kp N.b_check_pair az (aa (ae 4 (pv 4)) (ag)) (af aN0))))))))))
   (aC (aV (aI (bL rfl (CmpScope.ofB (Nc := ["pairs"]) (vars := ["pairs"]) (caps := []) rfl (by decide +kernel) (by rfl) (by rfl) (by rfl)) (cf (ae 0 (pv 0))) (fun cl C fp s H => ⟨(pgN 0 (show (["pairs"] : List Str).Nodup by decide +kernel)), aW, fun D => aR rfl (dJ bC fX (by rfl) N.n_list PyProof.Rows.Boot.«list» (aa (ae 0 (pv 0)) (ag))) rfl⟩) aD aG (fun D => aX)))))))
theorem o9 : FnScope ["rows", "bounds", "settled"] ["rows", "bounds"] (am qw) := fsc
noncomputable def mZ (K : Frag) (a : Ad) : G :=
  ak (bV (au (m_check_rows K a) (ac (ad 0) (ah))))
  (ak (ba 2 (au (m_settled_bounds K a) (ac (ad 1) (ac (ai aY (ac (ad 0) (ah))) (ac (ai aY (ac (f2 ixD (ad 0) (fC (.int 0))) (ah))) (ah))))))
  (aO (ai sG (ac (aM 5 [] (cU (ac (ad 0) (ac (ad 2) (ah)))) (tgT (bp (tgC 0) (bp (tgC 1) cR))) (fun _ => M.ret true) (cNx (cU (ac (ad 0) (ac (ad 1) (ah)))) (tgT (bp (tgC 2) (bp (tgT (bp (tgC 3) (bp (tgC 4) cR))) cR))) (fun _ => M.ret true) (cEm (bQ leD leD (ad 3) (ad 2) (ad 4))))) (ah)))))
noncomputable def m_keeps (K : Frag) (a : Ad) : List D -> M D := aP 3 (mZ K a)
theorem vc (N : Fns K mg a) : FnOk P w K mg base (CXE P w) 6 a.f_keeps a.d_keeps ["rows", "bounds"] (spF K 2 (m_keeps K a)) := by
 have G_check_rows := jq P w base N
 have G_settled_bounds := kL P w base N
 unfold m_keeps
 exact bT (k := 5) 2 3 (mZ K a) N.F_keeps o9 rfl rfl fun cdv A outer s H E hr => aq (io (dn (ax G_check_rows (hr.mono (by decide)) (by rfl) N.m_check_rows N.F_check_rows.kp N.b_check_rows az (aa (ae 0 (pv 0)) (ag)) (af aN0))))
   (aq (bu (psS 2 o9.nd (ax G_settled_bounds (hr.mono (by decide)) (by rfl) N.m_settled_bounds N.F_settled_bounds.kp N.b_settled_bounds az (aa (ae 1 (pv 1)) (aa (aA aB bB (by rfl) N.n_len PySem.boot_len (aa (ae 0 (pv 0)) (ag))) (aa (aA aB bB (by rfl) N.n_len PySem.boot_len (aa (bD aN bF (ae 0 (pv 0)) (aE)) (ag))) (ag)))) (af (af (af aN0))))))
   (aC (aV (aI (aA (uA rfl) A3 (by rfl) N.n_all PyProof.Rows.Boot.«all» (aa (bL rfl (CmpScope.ofB (Nc := ["counts", "pairs", "count", "low", "high"]) (vars := ["counts", "pairs", "count", "low", "high"]) (caps := []) rfl (by decide +kernel) (by rfl) (by rfl) (by rfl)) (iZ (by rfl) N.n_zip (aa (ae 0 (pv 0)) (aa (ae 2 (pv 2)) (ag)))) (fun cl C fp s H => ⟨(di rfl (aU (pgN 0 (show (["counts", "pairs", "count", "low", "high"] : List Str).Nodup by decide +kernel)) (aU (pgN 1 (show (["counts", "pairs", "count", "low", "high"] : List Str).Nodup by decide +kernel)) cz))), aW, fun D => qF rfl rfl rfl (iZ (by rfl) N.n_zip (aa (ae 0 (pv 0)) (aa (ae 1 (pv 1)) (ag)))) (di rfl (aU (pgN 2 (show (["counts", "pairs", "count", "low", "high"] : List Str).Nodup by decide +kernel)) (aU (di rfl (aU (pgN 3 (show (["counts", "pairs", "count", "low", "high"] : List Str).Nodup by decide +kernel)) (aU (pgN 4 (show (["counts", "pairs", "count", "low", "high"] : List Str).Nodup by decide +kernel)) cz))) cz))) (aW) (aR rfl (xl fN fN ia ia (ae 3 (pv 3)) (ae 2 (pv 2)) (ae 4 (pv 4))) rfl)⟩) (e8 (bj aD (bj aD dQ)) (bh (bh cY))) (eV (bi aG (bi aG dP))) (fun D => qO (e8 (bj aD (bj (e8 (bj aD (bj aD dQ)) (bh (bh cY))) dQ)) (bh (bh cY))) (eV (bi aG (bi (eV (bi aG (bi aG dP))) dP))) (aX))) (ag)))))))
theorem mB : FnScope ["rows"] ["rows"] (am jj) := fsc
noncomputable def js (K : Frag) (a : Ad) : G :=
  aO (aM 1 [0] (bA dA (ac (ai aY (ac (f2 ixD (ad 0) (fC (.int 0))) (ah))) (ah))) (tgC 0) (fun _ => M.ret true) (cEm (aM 1 [0] (bc (ad 1)) (tgC 0) (fun _ => M.ret true) (cEm (f2 ixD (ad 0) (ad 1))))))
noncomputable def m_rows_turned (K : Frag) (a : Ad) : List D -> M D := aP 1 (js K a)
theorem cT (N : Fns K mg a) : FnOk P w K mg base (CXE P w) 2 a.f_rows_turned a.d_rows_turned ["rows"] (spF K 1 (m_rows_turned K a)) := by
 unfold m_rows_turned
 exact bT (k := 1) 1 1 (js K a) N.F_rows_turned mB rfl rfl fun cdv A outer s H E hr => aC (aV (aI (bL rfl (CmpScope.ofB (Nc := ["column", "rows"]) (vars := ["column"]) (caps := [0]) rfl (by decide +kernel) (by rfl) (by rfl) (by rfl)) (da (by rfl) N.n_range (aa (aA aB bB (by rfl) N.n_len PySem.boot_len (aa (bD aN bF (ae 0 (pv 0)) (aE)) (ag))) (ag))) (fun cl C fp s H => ⟨(pgN 0 (show (["column", "rows"] : List Str).Nodup by decide +kernel)), aW, fun D => aR rfl (bL rfl (CmpScope.ofB (Nc := ["cells", "column"]) (vars := ["cells"]) (caps := [0]) rfl (by decide +kernel) (by rfl) (by rfl) (by rfl)) (cf (ae 1 (pv 1))) (fun cl C fp s H => ⟨(pgN 0 (show (["cells", "column"] : List Str).Nodup by decide +kernel)), aW, fun D => aR rfl (bD aN bF (ae 0 (pv 0)) (ae 1 (pv 1))) rfl⟩) aD aG (fun D => aX)) rfl⟩) aD aG (fun D => aX))))
theorem kY : FnScope ["bounds"] ["bounds"] (am gS) := fsc
noncomputable def fe (K : Frag) (a : Ad) : G :=
  aO (au (m_rows_turned K a) (ac (ad 0) (ah)))
noncomputable def m_bounds_turned (K : Frag) (a : Ad) : List D -> M D := aP 1 (fe K a)
theorem k8 (N : Fns K mg a) : FnOk P w K mg base (CXE P w) 3 a.f_bounds_turned a.d_bounds_turned ["bounds"] (spF K 1 (m_bounds_turned K a)) := by
 have G_rows_turned := cT P w base N
 unfold m_bounds_turned
 exact bT (k := 2) 1 1 (fe K a) N.F_bounds_turned kY rfl rfl fun cdv A outer s H E hr => aC (aV (aI (ax G_rows_turned (hr.mono (by decide)) (by rfl) N.m_rows_turned N.F_rows_turned.kp N.b_rows_turned az (aa (ae 0 (pv 0)) (ag)) (af aN0))))
theorem mC : FnScope ["one", "other"] ["one", "other"] (am jl) := fsc
noncomputable def gc (K : Frag) (a : Ad) : G :=
  aO (ai bz (ac (f2 bK (f2 ixD (ad 0) (fC (.int 0))) (f2 ixD (ad 1) (fC (.int 0)))) (ac (ai h9 (ac (f2 bK (f2 ixD (ad 0) (fC (.int 1))) (f2 ixD (ad 1) (fC (.int 1)))) (ac (fC (.int 40)) (ah)))) (ah))))
noncomputable def m_pair_joined (K : Frag) (a : Ad) : List D -> M D := aP 2 (gc K a)
theorem mL (N : Fns K mg a) : FnOk P w K mg base (CXE P w) 2 a.f_pair_joined a.d_pair_joined ["one", "other"] (spF K 2 (m_pair_joined K a)) := by
 unfold m_pair_joined
 exact bT (k := 1) 2 2 (gc K a) N.F_pair_joined mC rfl rfl fun cdv A outer s H E hr => aC (aV (aI (gl (aa (bt aT bP (bD aN bF (ae 0 (pv 0)) (aE)) (bD aN bF (ae 1 (pv 1)) (aE))) (aa (aA (hZ rfl) oO (by rfl) N.n_min PyProof.Rows.Boot.«min» (aa (bt aT bP (bD aN bF (ae 0 (pv 0)) (aE)) (bD aN bF (ae 1 (pv 1)) (aE))) (aa (fS N.g_MOST) (ag)))) (ag))))))
theorem im : FnScope ["bounds", "one", "other", "told"] ["bounds", "one", "other"] (am jk) := fsc
noncomputable def gb (K : Frag) (a : Ad) : G :=
  ak (hW 3 (cV 1 [] (bc (ad 0)) (tgC 0) (fun _ => M.ret true) (cEm (ai eA (ac (ad 0) (ah))))))
  (ak (kz 3 (ad 1) (aM 2 [] (cU (ac (f2 ixD (ad 0) (ad 1)) (ac (f2 ixD (ad 0) (ad 2)) (ah)))) (tgT (bp (tgC 0) (bp (tgC 1) cR))) (fun _ => M.ret true) (cEm (au (m_pair_joined K a) (ac (ad 0) (ac (ad 1) (ah)))))))
  (ak (m5 3 (ad 2))
  (aO (ad 3))))
noncomputable def m_rows_joined (K : Frag) (a : Ad) : List D -> M D := aP 4 (gb K a)
theorem mK (N : Fns K mg a) : FnOk P w K mg base (CXE P w) 3 a.f_rows_joined a.d_rows_joined ["bounds", "one", "other"] (spF K 3 (m_rows_joined K a)) := by
 have G_pair_joined := mL P w base N
 unfold m_rows_joined
 exact bT (k := 2) 3 4 (gb K a) N.F_rows_joined im rfl rfl fun cdv A outer s H E hr => aq (s0 (i := 3) im.nd rfl (by first | exact Or.inl rfl | exact Or.inr rfl) rfl (CmpScope.ofB (Nc := ["pairs"]) (vars := ["pairs"]) (caps := []) rfl (by decide +kernel) (by rfl) (by rfl) (by rfl)) (cf (ae 0 (pv 0))) (fun cl C fp s H => ⟨(pgN 0 (show (["pairs"] : List Str).Nodup by decide +kernel)), aW, fun D => aR rfl (dJ bC fX (by rfl) N.n_list PyProof.Rows.Boot.«list» (aa (ae 0 (pv 0)) (ag))) rfl⟩) aD aG (fun D => aX))
   (aq (s9 (dN (bL rfl (CmpScope.ofB (Nc := ["here", "there"]) (vars := ["here", "there"]) (caps := []) rfl (by decide +kernel) (by rfl) (by rfl) (by rfl)) (iZ (by rfl) N.n_zip (aa (bD aN bF (ae 0 (pv 0)) (ae 1 (pv 1))) (aa (bD aN bF (ae 0 (pv 0)) (ae 2 (pv 2))) (ag)))) (fun cl C fp s H => ⟨(di rfl (aU (pgN 0 (show (["here", "there"] : List Str).Nodup by decide +kernel)) (aU (pgN 1 (show (["here", "there"] : List Str).Nodup by decide +kernel)) cz))), aW, fun D => aR rfl (ax G_pair_joined (hr.mono (by decide)) (by rfl) N.m_pair_joined N.F_pair_joined.kp N.b_pair_joined cw (aa (ae 0 (pv 0)) (aa (ae 1 (pv 1)) (ag))) (af (af aN0))) rfl⟩) (e8 (bj aD (bj aD dQ)) (bh (bh cY))) (eV (bi aG (bi aG dP))) (fun D => aX)) (eY (pv 3) (ae 1 (pv 1)) cZ)))
   (aq (wQ (qB (pv 3) (ae 2 (pv 2))))
   (aC (aV (aI (ae 3 (pv 3)))))))
theorem k4 : FnScope ["bounds", "one", "other", "rows"] ["bounds", "one", "other", "rows"] (am gU) := fsc
noncomputable def dG (K : Frag) (a : Ad) : G :=
  ak (gIf (bZ (ad 3)) (aO (au (m_rows_joined K a) (ac (ad 0) (ac (ad 1) (ac (ad 2) (ah)))))) (gNil))
  (aO (au (m_rows_turned K a) (ac (au (m_rows_joined K a) (ac (au (m_rows_turned K a) (ac (ad 0) (ah))) (ac (ad 1) (ac (ad 2) (ah))))) (ah))))
noncomputable def m_bounds_joined (K : Frag) (a : Ad) : List D -> M D := aP 4 (dG K a)
theorem la (N : Fns K mg a) : FnOk P w K mg base (CXE P w) 4 a.f_bounds_joined a.d_bounds_joined ["bounds", "one", "other", "rows"] (spF K 4 (m_bounds_joined K a)) := by
 have G_rows_joined := mK P w base N
 have G_rows_turned := cT P w base N
 unfold m_bounds_joined
 exact bT (k := 3) 4 4 (dG K a) N.F_bounds_joined k4 rfl rfl fun cdv A outer s H E hr => aq (bE (dC (ae 3 (pv 3))) (aC (aV (aI (ax G_rows_joined (hr.mono (by decide)) (by rfl) N.m_rows_joined N.F_rows_joined.kp N.b_rows_joined az (aa (ae 0 (pv 0)) (aa (ae 1 (pv 1)) (aa (ae 2 (pv 2)) (ag)))) (af (af (af aN0))))))) (bf))
   (aC (aV (aI (ax G_rows_turned (hr.mono (by decide)) (by rfl) N.m_rows_turned N.F_rows_turned.kp N.b_rows_turned az (aa (ax G_rows_joined (hr.mono (by decide)) (by rfl) N.m_rows_joined N.F_rows_joined.kp N.b_rows_joined az (aa (ax G_rows_turned (hr.mono (by decide)) (by rfl) N.m_rows_turned N.F_rows_turned.kp N.b_rows_turned az (aa (ae 0 (pv 0)) (ag)) (af aN0)) (aa (ae 1 (pv 1)) (aa (ae 2 (pv 2)) (ag)))) (af (af (af aN0)))) (ag)) (af aN0)))))
theorem f7 : FnScope ["bounds", "one", "told", "loosened"] ["bounds", "one"] (am jE) := fsc
noncomputable def gE (K : Frag) (a : Ad) : G :=
  ak (hW 2 (cV 1 [] (bc (ad 0)) (tgC 0) (fun _ => M.ret true) (cEm (ai eA (ac (ad 0) (ah))))))
  (ak (ba 3 (aM 2 [] (bc (f2 ixD (ad 0) (ad 1))) (tgT (bp (tgC 0) (bp (tgC 1) cR))) (fun _ => M.ret true) (cEm (ai bz (ac (fC (.int 0)) (ac (ad 1) (ah)))))))
  (ak (pP 2 (ad 1) (f2 bK (ad 1) (fC (.int 1))) (ai dD (ac (ad 3) (ac (ai eA (ac (ad 3) (ah))) (ah)))))
  (aO (ad 2))))
noncomputable def m_row_parted (K : Frag) (a : Ad) : List D -> M D := aP 4 (gE K a)
theorem oA (N : Fns K mg a) : FnOk P w K mg base (CXE P w) 2 a.f_row_parted a.d_row_parted ["bounds", "one"] (spF K 2 (m_row_parted K a)) := by
 unfold m_row_parted
 exact bT (k := 1) 2 4 (gE K a) N.F_row_parted f7 rfl rfl fun cdv A outer s H E hr => aq (s0 (i := 2) f7.nd rfl (by first | exact Or.inl rfl | exact Or.inr rfl) rfl (CmpScope.ofB (Nc := ["pairs"]) (vars := ["pairs"]) (caps := []) rfl (by decide +kernel) (by rfl) (by rfl) (by rfl)) (cf (ae 0 (pv 0))) (fun cl C fp s H => ⟨(pgN 0 (show (["pairs"] : List Str).Nodup by decide +kernel)), aW, fun D => aR rfl (dJ bC fX (by rfl) N.n_list PyProof.Rows.Boot.«list» (aa (ae 0 (pv 0)) (ag))) rfl⟩) aD aG (fun D => aX))
   (aq (pa (i := 3) f7.nd rfl (by first | exact Or.inl rfl | exact Or.inr rfl) rfl (CmpScope.ofB (Nc := ["low", "high"]) (vars := ["low", "high"]) (caps := []) rfl (by decide +kernel) (by rfl) (by rfl) (by rfl)) (cf (bD aN bF (ae 0 (pv 0)) (ae 1 (pv 1)))) (fun cl C fp s H => ⟨(di rfl (aU (pgN 0 (show (["low", "high"] : List Str).Nodup by decide +kernel)) (aU (pgN 1 (show (["low", "high"] : List Str).Nodup by decide +kernel)) cz))), aW, fun D => aR rfl (gl (aa (aE) (aa (ae 1 (pv 1)) (ag)))) rfl⟩) (e8 (bj aD (bj aD dQ)) (bh (bh cY))) (eV (bi aG (bi aG dP))) (fun D => aX))
   (aq (AR (dN (oG (aa (ae 3 (pv 3)) (aa (dJ bC fX (by rfl) N.n_list PyProof.Rows.Boot.«list» (aa (ae 3 (pv 3)) (ag))) (ag)))) (u3 (pv 2) (ae 1 (pv 1)) (bt aT bP (ae 1 (pv 1)) (aE)))))
   (aC (aV (aI (ae 2 (pv 2)))))))
theorem kZ : FnScope ["bounds", "one", "rows"] ["bounds", "one", "rows"] (am gT) := fsc
noncomputable def dF (K : Frag) (a : Ad) : G :=
  ak (gIf (bZ (ad 2)) (aO (au (m_row_parted K a) (ac (ad 0) (ac (ad 1) (ah))))) (gNil))
  (aO (au (m_rows_turned K a) (ac (au (m_row_parted K a) (ac (au (m_rows_turned K a) (ac (ad 0) (ah))) (ac (ad 1) (ah)))) (ah))))
noncomputable def m_bounds_parted (K : Frag) (a : Ad) : List D -> M D := aP 3 (dF K a)
theorem k9 (N : Fns K mg a) : FnOk P w K mg base (CXE P w) 3 a.f_bounds_parted a.d_bounds_parted ["bounds", "one", "rows"] (spF K 3 (m_bounds_parted K a)) := by
 have G_row_parted := oA P w base N
 have G_rows_turned := cT P w base N
 unfold m_bounds_parted
 exact bT (k := 2) 3 3 (dF K a) N.F_bounds_parted kZ rfl rfl fun cdv A outer s H E hr => aq (bE (dC (ae 2 (pv 2))) (aC (aV (aI (ax G_row_parted (hr.mono (by decide)) (by rfl) N.m_row_parted N.F_row_parted.kp N.b_row_parted az (aa (ae 0 (pv 0)) (aa (ae 1 (pv 1)) (ag))) (af (af aN0)))))) (bf))
   (aC (aV (aI (ax G_rows_turned (hr.mono (by decide)) (by rfl) N.m_rows_turned N.F_rows_turned.kp N.b_rows_turned az (aa (ax G_row_parted (hr.mono (by decide)) (by rfl) N.m_row_parted N.F_row_parted.kp N.b_row_parted az (aa (ax G_rows_turned (hr.mono (by decide)) (by rfl) N.m_rows_turned N.F_rows_turned.kp N.b_rows_turned az (aa (ae 0 (pv 0)) (ag)) (af aN0)) (aa (ae 1 (pv 1)) (ag))) (af (af aN0))) (ag)) (af aN0)))))
theorem jg : FnScope ["rows", "one", "other", "told"] ["rows", "one", "other"] (am jD) := fsc
noncomputable def gD (K : Frag) (a : Ad) : G :=
  ak (bV (au (m_check_there K a) (ac (ad 1) (ac (ai aY (ac (ad 0) (ah))) (ah)))))
  (ak (bV (au (m_check_there K a) (ac (ad 2) (ac (ai aY (ac (ad 0) (ah))) (ah)))))
  (ak (gIf (fB (f2 (dO) (ad 1) (ad 2))) (bI a.C_BadCell (ac (cD (bM (ad 1) (c9))) (ah))) (gNil))
  (ak (hW 3 (oK lY (ac (ad 0) (ah))))
  (ak (kz 3 (ad 1) (aM 2 [] (cU (ac (f2 ixD (ad 0) (ad 1)) (ac (f2 ixD (ad 0) (ad 2)) (ah)))) (tgT (bp (tgC 0) (bp (tgC 1) cR))) (fun _ => M.ret true) (cEm (f2 bK (ad 0) (ad 1)))))
  (ak (m5 3 (ad 2))
  (aO (ad 3)))))))
noncomputable def m_two_joined (K : Frag) (a : Ad) : List D -> M D := aP 4 (gD K a)
theorem oz (N : Fns K mg a) : FnOk P w K mg base (CXE P w) 5 a.f_two_joined a.d_two_joined ["rows", "one", "other"] (spF K 3 (m_two_joined K a)) := by
 have G_check_there := iz P w base N
 have X_BadCell := kO P w base N
 unfold m_two_joined
 exact bT (k := 4) 3 4 (gD K a) N.F_two_joined jg rfl rfl fun cdv A outer s H E hr => aq (io (dn (ax G_check_there (hr.mono (by decide)) (by rfl) N.m_check_there N.F_check_there.kp N.b_check_there az (aa (ae 1 (pv 1)) (aa (aA aB bB (by rfl) N.n_len PySem.boot_len (aa (ae 0 (pv 0)) (ag))) (ag))) (af (af aN0)))))
   (aq (io (dn (ax G_check_there (hr.mono (by decide)) (by rfl) N.m_check_there N.F_check_there.kp N.b_check_there az (aa (ae 2 (pv 2)) (aa (aA aB bB (by rfl) N.n_len PySem.boot_len (aa (ae 0 (pv 0)) (ag))) (ag))) (af (af aN0)))))
   (aq (bE (cu (gB hr) iX (ae 1 (pv 1)) (ae 2 (pv 2))) (aC (dm N.xm_BadCell.xc (af aN0) (by decide) (cG hr.hd (d9 N.xm_BadCell X_BadCell (hr.mono (by decide)) rfl N.m_BadCell N.b_BadCell .nil cw (aa (fU (c := ((Str.ofString "number ").length + (1921 + ((Str.ofString " is not joined with itself").length + 0)))) (cP (dE (ae 1 (pv 1)) (cP (g6)))) (by decide +kernel)) (ag)))))) (bf))
   (aq (sZ (psS 3 jg.nd (pE bC qN (by rfl) N.n_list PyProof.Rows.Boot.«list» (aa (ae 0 (pv 0)) (ag)))))
   (aq (s9 (dN (bL rfl (CmpScope.ofB (Nc := ["here", "there"]) (vars := ["here", "there"]) (caps := []) rfl (by decide +kernel) (by rfl) (by rfl) (by rfl)) (iZ (by rfl) N.n_zip (aa (bD aN bF (ae 0 (pv 0)) (ae 1 (pv 1))) (aa (bD aN bF (ae 0 (pv 0)) (ae 2 (pv 2))) (ag)))) (fun cl C fp s H => ⟨(di rfl (aU (pgN 0 (show (["here", "there"] : List Str).Nodup by decide +kernel)) (aU (pgN 1 (show (["here", "there"] : List Str).Nodup by decide +kernel)) cz))), aW, fun D => aR rfl (bt aT bP (ae 0 (pv 0)) (ae 1 (pv 1))) rfl⟩) (e8 (bj aD (bj aD dQ)) (bh (bh cY))) (eV (bi aG (bi aG dP))) (fun D => aX)) (eY (pv 3) (ae 1 (pv 1)) cZ)))
   (aq (wQ (qB (pv 3) (ae 2 (pv 2))))
   (aC (aV (aI (ae 3 (pv 3))))))))))
theorem jh : FnScope ["rows", "one", "taken", "left"] ["rows", "one", "taken"] (am jF) := fsc
noncomputable def gF (K : Frag) (a : Ad) : G :=
  ak (bV (au (m_check_there K a) (ac (ad 1) (ac (ai aY (ac (ad 0) (ah))) (ah)))))
  (ak (gIf (fB (f2 (cx) (ai aY (ac (ad 2) (ah))) (ai aY (ac (f2 ixD (ad 0) (ad 1)) (ah))))) (bI a.C_BadTable (ac (cD (bM (ai aY (ac (ad 2) (ah))) (bM (ai aY (ac (f2 ixD (ad 0) (ad 1)) (ah))) (c9)))) (ah))) (gNil))
  (ak (ba 3 (aM 2 [] (cU (ac (f2 ixD (ad 0) (ad 1)) (ac (ad 2) (ah)))) (tgT (bp (tgC 0) (bp (tgC 1) cR))) (fun _ => M.ret true) (cEm (f2 mz (ad 0) (ad 1)))))
  (aO (f2 bK (f2 bK (fSl (ad 0) none (some (ad 1))) (ai dD (ac (ad 3) (ac (ad 2) (ah))))) (fSl (ad 0) (some (f2 bK (ad 1) (fC (.int 1)))) none)))))
noncomputable def m_one_parted (K : Frag) (a : Ad) : List D -> M D := aP 4 (gF K a)
theorem oB (N : Fns K mg a) : FnOk P w K mg base (CXE P w) 5 a.f_one_parted a.d_one_parted ["rows", "one", "taken"] (spF K 3 (m_one_parted K a)) := by
 have G_check_there := iz P w base N
 have X_BadTable := jK P w base N
 unfold m_one_parted
 exact bT (k := 4) 3 4 (gF K a) N.F_one_parted jh rfl rfl fun cdv A outer s H E hr => aq (io (dn (ax G_check_there (hr.mono (by decide)) (by rfl) N.m_check_there N.F_check_there.kp N.b_check_there az (aa (ae 1 (pv 1)) (aa (aA aB bB (by rfl) N.n_len PySem.boot_len (aa (ae 0 (pv 0)) (ag))) (ag))) (af (af aN0)))))
   (aq (bE (cu (eZ hr) gn (aA aB bB (by rfl) N.n_len PySem.boot_len (aa (ae 2 (pv 2)) (ag))) (aA aB bB (by rfl) N.n_len PySem.boot_len (aa (bD aN bF (ae 0 (pv 0)) (ae 1 (pv 1))) (ag)))) (aC (dm N.xm_BadTable.xc (af aN0) (by decide) (cG hr.hd (d9 N.xm_BadTable X_BadTable (hr.mono (by decide)) rfl N.m_BadTable N.b_BadTable .nil cw (aa (fU (c := (1921 + ((Str.ofString " counts are taken out of ").length + (1921 + 0)))) (dE (aA aB bB (by rfl) N.n_len PySem.boot_len (aa (ae 2 (pv 2)) (ag))) (cP (dE (aA aB bB (by rfl) N.n_len PySem.boot_len (aa (bD aN bF (ae 0 (pv 0)) (ae 1 (pv 1))) (ag))) (g6)))) (by decide +kernel)) (ag)))))) (bf))
   (aq (pa (i := 3) jh.nd rfl (by first | exact Or.inl rfl | exact Or.inr rfl) rfl (CmpScope.ofB (Nc := ["count", "gone"]) (vars := ["count", "gone"]) (caps := []) rfl (by decide +kernel) (by rfl) (by rfl) (by rfl)) (iZ (by rfl) N.n_zip (aa (bD aN bF (ae 0 (pv 0)) (ae 1 (pv 1))) (aa (ae 2 (pv 2)) (ag)))) (fun cl C fp s H => ⟨(di rfl (aU (pgN 0 (show (["count", "gone"] : List Str).Nodup by decide +kernel)) (aU (pgN 1 (show (["count", "gone"] : List Str).Nodup by decide +kernel)) cz))), aW, fun D => aR rfl (bt lS oN (ae 0 (pv 0)) (ae 1 (pv 1))) rfl⟩) (e8 (bj aD (bj aD dQ)) (bh (bh cY))) (eV (bi aG (bi aG dP))) (fun D => aX))
   (aC (aV (aI (bt aT bP (bt aT bP (gr (ae 0 (pv 0)) (iB) (iA (ae 1 (pv 1)))) (oG (aa (ae 3 (pv 3)) (aa (ae 2 (pv 2)) (ag))))) (gr (ae 0 (pv 0)) (iA (bt aT bP (ae 1 (pv 1)) (aE))) (iB))))))))
theorem sX : FnScope ["_law_found", "_law_due"] ["_law_found", "_law_due"] (am pc) := fsc
noncomputable def lj (K : Frag) (a : Ad) (rec : List D -> M D) : G :=
  ak (gIf (bZ (ai eC (ac (ad 1) (ac (ai bz (ac (fC (.ty "list")) (ac (fC (.ty "tuple")) (ah)))) (ah))))) (ak (gIf (db (fB (f2 (cx) (ai cc (ac (ad 1) (ac (fC (.ty "list")) (ah)))) (ai cc (ac (ad 0) (ac (fC (.ty "list")) (ah)))))) (fB (f2 (cx) (ai cc (ac (ad 1) (ac (fC (.ty "tuple")) (ah)))) (ai cc (ac (ad 0) (ac (fC (.ty "tuple")) (ah))))))) (aO (fC (.bl false))) (gNil))
  (ak (gIf (fB (f2 (cx) (ai aY (ac (ad 0) (ah))) (ai aY (ac (ad 1) (ah))))) (aO (fC (.bl false))) (gNil))
  (aO (f2 (inD true) (fC (.bl false)) (aM 2 [] (cU (ac (ad 0) (ac (ad 1) (ah)))) (tgT (bp (tgC 0) (bp (tgC 1) cR))) (fun _ => M.ret true) (cEm (au rec (ac (ad 0) (ac (ad 1) (ah)))))))))) (gNil))
  (ak (gIf (fB (f2 (fG) (ad 1) (fC .non))) (aO (f2 (fG) (ad 0) (fC .non))) (gNil))
  (ak (gIf (db (fB (f2 (cx) (ai cc (ac (ad 1) (ac (fC (.ty "str")) (ah)))) (ai cc (ac (ad 0) (ac (fC (.ty "str")) (ah)))))) (fB (f2 (cx) (ai cc (ac (ad 1) (ac (fC (.ty "bool")) (ah)))) (ai cc (ac (ad 0) (ac (fC (.ty "bool")) (ah))))))) (aO (fC (.bl false))) (gNil))
  (aO (i6 (ai eC (ac (ad 0) (ac (ai bz (ac (fC (.ty "int")) (ac (fC (.ty "str")) (ah)))) (ah)))) (f2 (dO) (ad 0) (ad 1))))))
noncomputable def m_l_same (K : Frag) (a : Ad) : Nat -> List D -> M D
 | 0 => fun _ => M.fail
 | n + 1 => aP 2 (lj K a (m_l_same K a n))
theorem lU (N : Fns K mg a) : ∀ n, FnOk P w K mg base (CXE P w) (n + 1) a.f_l_same a.d_l_same ["_law_found", "_law_due"] (spF K 2 (m_l_same K a n))
 | 0 => ⟨fun vs H Q E h => h.1, fun A outer s H args us vs Q E hr e0 hb r h => by
   obtain ⟨_, F, ds, β, _, _, rr, β1, e, _⟩ := h
   cases e⟩
 | n + 1 => by
  have GREC := lU N n
  unfold m_l_same
  exact bT (k := n + 1) 2 2 (lj K a (m_l_same K a n)) N.F_l_same sX rfl rfl fun cdv A outer s H E hr => aq (bE (dC (aA mh tZ (by rfl) N.n_isinstance PyProof.Rows.Boot.«isinstance» (aa (ae 1 (pv 1)) (aa (gl (aa (v_c (cA (v := .ty "list") (by rfl) N.n_list PyProof.Rows.Boot.«list» rfl) (fun _ _ => rfl)) (aa (v_c (cA (v := .ty "tuple") (by rfl) N.n_tuple PyProof.Rows.Boot.«tuple» rfl) (fun _ _ => rfl)) (ag)))) (ag))))) (aq (bE (jz (oY (cu (eZ hr) gn (aA cW g0 (by rfl) N.n_isinstance PyProof.Rows.Boot.«isinstance» (aa (ae 1 (pv 1)) (aa (v_c (cA (v := .ty "list") (by rfl) N.n_list PyProof.Rows.Boot.«list» rfl) (fun _ _ => rfl)) (ag)))) (aA cW g0 (by rfl) N.n_isinstance PyProof.Rows.Boot.«isinstance» (aa (ae 0 (pv 0)) (aa (v_c (cA (v := .ty "list") (by rfl) N.n_list PyProof.Rows.Boot.«list» rfl) (fun _ _ => rfl)) (ag))))) (lA (cu (eZ hr) gn (aA cW g0 (by rfl) N.n_isinstance PyProof.Rows.Boot.«isinstance» (aa (ae 1 (pv 1)) (aa (v_c (cA (v := .ty "tuple") (by rfl) N.n_tuple PyProof.Rows.Boot.«tuple» rfl) (fun _ _ => rfl)) (ag)))) (aA cW g0 (by rfl) N.n_isinstance PyProof.Rows.Boot.«isinstance» (aa (ae 0 (pv 0)) (aa (v_c (cA (v := .ty "tuple") (by rfl) N.n_tuple PyProof.Rows.Boot.«tuple» rfl) (fun _ _ => rfl)) (ag)))))))) (aC (aV (aI (iM)))) (bf))
   (aq (bE (cu (eZ hr) gn (aA aB bB (by rfl) N.n_len PySem.boot_len (aa (ae 0 (pv 0)) (ag))) (aA aB bB (by rfl) N.n_len PySem.boot_len (aa (ae 1 (pv 1)) (ag)))) (aC (aV (aI (iM)))) (bf))
   (aC (aV (aI (gO pA (l_in (neg := true)) (iM) (bL rfl (CmpScope.ofB (Nc := ["_law_one", "_law_other"]) (vars := ["_law_one", "_law_other"]) (caps := []) rfl (by decide +kernel) (by rfl) (by rfl) (by rfl)) (iZ (by rfl) N.n_zip (aa (ae 0 (pv 0)) (aa (ae 1 (pv 1)) (ag)))) (fun cl C fp s H => ⟨(di rfl (aU (pgN 0 (show (["_law_one", "_law_other"] : List Str).Nodup by decide +kernel)) (aU (pgN 1 (show (["_law_one", "_law_other"] : List Str).Nodup by decide +kernel)) cz))), aW, fun D => aR rfl (ax GREC (hr.mono (Nat.le_refl _)) (by rfl) N.m_l_same N.F_l_same.kp N.b_l_same cw (aa (ae 0 (pv 0)) (aa (ae 1 (pv 1)) (ag))) (af (af aN0))) rfl⟩) (e8 (bj aD (bj aD dQ)) (bh (bh cY))) (eV (bi aG (bi aG dP))) (fun D => aX)))))))) (bf))
   (aq (bE (cu pB sd (ae 1 (pv 1)) (rn)) (aC (aV (aI (gO pB sd (ae 0 (pv 0)) (rn))))) (bf))
   (aq (bE (jz (oY (cu (eZ hr) gn (aA cW g0 (by rfl) N.n_isinstance PyProof.Rows.Boot.«isinstance» (aa (ae 1 (pv 1)) (aa (v_c (cA (v := .ty "str") (by rfl) N.n_str PyProof.Rows.Boot.«str» rfl) (fun _ _ => rfl)) (ag)))) (aA cW g0 (by rfl) N.n_isinstance PyProof.Rows.Boot.«isinstance» (aa (ae 0 (pv 0)) (aa (v_c (cA (v := .ty "str") (by rfl) N.n_str PyProof.Rows.Boot.«str» rfl) (fun _ _ => rfl)) (ag))))) (lA (cu (eZ hr) gn (aA cW g0 (by rfl) N.n_isinstance PyProof.Rows.Boot.«isinstance» (aa (ae 1 (pv 1)) (aa (v_c (cA (v := .ty "bool") (by rfl) N.n_bool PyProof.Rows.Boot.«bool» rfl) (fun _ _ => rfl)) (ag)))) (aA cW g0 (by rfl) N.n_isinstance PyProof.Rows.Boot.«isinstance» (aa (ae 0 (pv 0)) (aa (v_c (cA (v := .ty "bool") (by rfl) N.n_bool PyProof.Rows.Boot.«bool» rfl) (fun _ _ => rfl)) (ag)))))))) (aC (aV (aI (iM)))) (bf))
   (aC (aV (aI (AH (aA mh tZ (by rfl) N.n_isinstance PyProof.Rows.Boot.«isinstance» (aa (ae 0 (pv 0)) (aa (gl (aa (v_c (cA (v := .ty "int") (by rfl) N.n_int PyProof.Rows.Boot.«int» rfl) (fun _ _ => rfl)) (aa (v_c (cA (v := .ty "str") (by rfl) N.n_str PyProof.Rows.Boot.«str» rfl) (fun _ _ => rfl)) (ag)))) (ag)))) (AG (gO (gB hr) iX (ae 0 (pv 0)) (ae 1 (pv 1))))))))))
theorem tE (N : Fns K mg a) : FnOk P w K mg base (CXE P w) 7 a.f_l_same a.d_l_same ["_law_found", "_law_due"] (spF K 2 (m_l_same K a 5)) := (lU P w base N 5).mono (by decide)
theorem qc : FnScope ["_law_block"] ["_law_block"] (am lK) := fsc
noncomputable def l8 (K : Frag) (a : Ad) : G :=
  aO (aM 1 [0] (bA dA (ac (ai aY (ac (f2 ixD (ad 0) (fC (.int 0))) (ah))) (ah))) (tgC 0) (fun _ => M.ret true) (cEm (aM 1 [0] (bc (ad 1)) (tgC 0) (fun _ => M.ret true) (cEm (f2 ixD (ad 0) (ad 1))))))
noncomputable def m_l_turned (K : Frag) (a : Ad) : List D -> M D := aP 1 (l8 K a)
theorem qd (N : Fns K mg a) : FnOk P w K mg base (CXE P w) 2 a.f_l_turned a.d_l_turned ["_law_block"] (spF K 1 (m_l_turned K a)) := by
 unfold m_l_turned
 exact bT (k := 1) 1 1 (l8 K a) N.F_l_turned qc rfl rfl fun cdv A outer s H E hr => aC (aV (aI (bL rfl (CmpScope.ofB (Nc := ["_law_to", "_law_block"]) (vars := ["_law_to"]) (caps := [0]) rfl (by decide +kernel) (by rfl) (by rfl) (by rfl)) (da (by rfl) N.n_range (aa (aA aB bB (by rfl) N.n_len PySem.boot_len (aa (bD aN bF (ae 0 (pv 0)) (aE)) (ag))) (ag))) (fun cl C fp s H => ⟨(pgN 0 (show (["_law_to", "_law_block"] : List Str).Nodup by decide +kernel)), aW, fun D => aR rfl (bL rfl (CmpScope.ofB (Nc := ["_law_row", "_law_to"]) (vars := ["_law_row"]) (caps := [0]) rfl (by decide +kernel) (by rfl) (by rfl) (by rfl)) (cf (ae 1 (pv 1))) (fun cl C fp s H => ⟨(pgN 0 (show (["_law_row", "_law_to"] : List Str).Nodup by decide +kernel)), aW, fun D => aR rfl (bD aN bF (ae 0 (pv 0)) (ae 1 (pv 1))) rfl⟩) aD aG (fun D => aX)) rfl⟩) aD aG (fun D => aX))))
theorem sY : FnScope ["_law_block", "_law_columns"] ["_law_block", "_law_columns"] (am pe) := fsc
noncomputable def nW (K : Frag) (a : Ad) : G :=
  iE (fi 1 [1] (bA dA (ac (ad 0) (ah))) (tgC 0) (fun _ => M.ret true) (lu (cV 1 [] (bA dA (ac (ad 1) (ah))) (tgC 0) (fun _ => M.ret true) (cEm (ai bz (ac (fC (.int 0)) (ac (fC (.int 40)) (ah))))))))
noncomputable def gX (K : Frag) (a : Ad) : List D -> M (List (List D)) := je 2 (nW K a)
theorem rQ (N : Fns K mg a) : FnOk P w K mg base (CXE P w) 2 a.f_l_free a.d_l_free ["_law_block", "_law_columns"] (spG K 2 (gX K a)) := by
 unfold gX
 exact qS (k := 1) 2 2 (nW K a) N.F_l_free sY rfl rfl fun cdv A outer s H E hr => aC (qt (aI (ui rfl (CmpScope.ofB (Nc := ["_law_at", "_law_columns"]) (vars := ["_law_at"]) (caps := [1]) rfl (by decide +kernel) (by rfl) (by rfl) (by rfl)) (da (by rfl) N.n_range (aa (ae 0 (pv 0)) (ag))) (fun cl C fp s H => ⟨(pgN 0 (show (["_law_at", "_law_columns"] : List Str).Nodup by decide +kernel)), aW, fun D => aR rfl (tJ rfl (CmpScope.ofB (Nc := ["_law_to"]) (vars := ["_law_to"]) (caps := []) rfl (by decide +kernel) (by rfl) (by rfl) (by rfl)) (da (by rfl) N.n_range (aa (ae 1 (pv 1)) (ag))) (fun cl C fp s H => ⟨(pgN 0 (show (["_law_to"] : List Str).Nodup by decide +kernel)), aW, fun D => aR rfl (gl (aa (aE) (aa (aE) (ag)))) rfl⟩) aD aG (fun D => aX)) rfl⟩) aD aG (fun D => mU))))
theorem cF : FnScope ["_law_bag_here", "_law_grid", "_law_told", "_law_at", "_law_row", "_law_to", "_law_count", "_law_way"] ["_law_bag_here", "_law_grid"] (am lM) := fsc
noncomputable def i4 (K : Frag) (a : Ad) : G :=
  ak (jU 2 (jY (gX K a) (ac (ai aY (ac (ad 1) (ah))) (ac (ai aY (ac (f2 ixD (ad 1) (fC (.int 0))) (ah))) (ah)))))
  (ak (gIf (fB (f2 (dO) (au bO (ac (ad 0) (ac (fC (.int 3)) (ah)))) (fC (.int 0)))) (aO (ad 2)) (gNil))
  (ak (ie (rT (ac (ad 1) (ah))) (sgT (eU (sgN 3) (eU (sgN 4) gy))) (ie (rT (ac (ad 4) (ah))) (sgT (eU (sgN 5) (eU (sgN 6) gy))) (ak (ba 7 (au bO (ac (ad 0) (ac (fC (.int 4)) (ah)))))
  (ak (gIf (fB (f2 (dO) (ad 7) (fC (.int 0)))) (hX 2 (ad 3) (ad 5) (ai bz (ac (f2 mz (ad 6) (au bO (ac (ad 0) (ac (f2 bK (ad 6) (fC (.int 1))) (ah))))) (ac (ai h9 (ac (fC (.int 40)) (ac (f2 bK (ad 6) (au bO (ac (ad 0) (ac (fC (.int 3)) (ah))))) (ah)))) (ah))))) (gNil))
  (gIf (fB (f2 (dO) (ad 7) (fC (.int 1)))) (hX 2 (ad 3) (ad 5) (ai bz (ac (fC (.int 0)) (ac (ai mS (ac (ad 6) (ac (au bO (ac (ad 0) (ac (fC (.int 3)) (ah)))) (ah)))) (ah))))) (gNil))))))
  (aO (ad 2))))
noncomputable def m_l_bounds (K : Frag) (a : Ad) : List D -> M D := aP 8 (i4 K a)
theorem qe (N : Fns K mg a) : FnOk P w K mg base (CXE P w) 3 a.f_l_bounds a.d_l_bounds ["_law_bag_here", "_law_grid"] (spF K 2 (m_l_bounds K a)) := by
 have GG_l_free := rQ P w base N
 have G_l_pull := jM P w base N
 unfold m_l_bounds
 exact bT (k := 2) 2 8 (i4 K a) N.F_l_bounds cF rfl rfl fun cdv A outer s H E hr => aq (rH (psS 2 cF.nd (uj GG_l_free (hr.mono (by decide)) (by rfl) N.m_l_free N.F_l_free.kp N.b_l_free az (aa (aA aB bB (by rfl) N.n_len PySem.boot_len (aa (ae 1 (pv 1)) (ag))) (aa (aA aB bB (by rfl) N.n_len PySem.boot_len (aa (bD aN bF (ae 1 (pv 1)) (aE)) (ag))) (ag))) (af (af aN0)))))
   (aq (bE (cu (gB hr) iX (ax G_l_pull (hr.mono (by decide)) (by rfl) N.m_l_pull N.F_l_pull.kp N.b_l_pull az (aa (ae 0 (pv 0)) (aa (aE) (ag))) (af (af aN0))) (aE)) (aC (aV (aI (ae 2 (pv 2))))) (bf))
   (aq (kn (pJ (fE dr (fE dr mT)) (fD (fD kX))) (iw mJ rfl (uc (by rfl) N.n_enumerate (aa (ae 1 (pv 1)) (ag))) (di rfl (aU (pgN 3 cF.nd) (aU (pgN 4 cF.nd) cz))) (aC (kn (pJ (fE dr (fE dr mT)) (fD (fD kX))) (iw mJ rfl (uc (by rfl) N.n_enumerate (aa (ae 4 (pv 4)) (ag))) (di rfl (aU (pgN 5 cF.nd) (aU (pgN 6 cF.nd) cz))) (aq (bu (psS 7 cF.nd (ax G_l_pull (hr.mono (by decide)) (by rfl) N.m_l_pull N.F_l_pull.kp N.b_l_pull az (aa (ae 0 (pv 0)) (aa (aE) (ag))) (af (af aN0)))))
   (aq (bE (cu (gB hr) iX (ae 7 (pv 7)) (aE)) (aC (pf (dN (gl (aa (bt lS oN (ae 6 (pv 6)) (ax G_l_pull (hr.mono (by decide)) (by rfl) N.m_l_pull N.F_l_pull.kp N.b_l_pull az (aa (ae 0 (pv 0)) (aa (bt aT bP (ae 6 (pv 6)) (aE)) (ag))) (af (af aN0)))) (aa (aA (hZ rfl) oO (by rfl) N.n_min PyProof.Rows.Boot.«min» (aa (aE) (aa (bt aT bP (ae 6 (pv 6)) (ax G_l_pull (hr.mono (by decide)) (by rfl) N.m_l_pull N.F_l_pull.kp N.b_l_pull az (aa (ae 0 (pv 0)) (aa (aE) (ag))) (af (af aN0)))) (ag)))) (ag)))) (eY (fM dy (pv 2) (ae 3 (pv 3)) (fun _ _ => rfl)) (ae 5 (pv 5)) cZ)))) (bf))
   (aC (bE (cu (gB hr) iX (ae 7 (pv 7)) (aE)) (aC (pf (dN (gl (aa (aE) (aa (aA (oh rfl) wX (by rfl) N.n_max PyProof.Rows.Boot.«max» (aa (ae 6 (pv 6)) (aa (ax G_l_pull (hr.mono (by decide)) (by rfl) N.m_l_pull N.F_l_pull.kp N.b_l_pull az (aa (ae 0 (pv 0)) (aa (aE) (ag))) (af (af aN0))) (ag)))) (ag)))) (eY (fM dy (pv 2) (ae 3 (pv 3)) (fun _ _ => rfl)) (ae 5 (pv 5)) cZ)))) (bf))))))))))
   (aC (aV (aI (ae 2 (pv 2)))))))
theorem kN : FnScope ["_law_block"] ["_law_block"] (am lL) := fsc
noncomputable def l9 (K : Frag) (a : Ad) : G :=
  aO (aM 1 [] (bc (ad 0)) (tgC 0) (fun _ => M.ret true) (cEm (ai eA (ac (ad 0) (ah)))))
noncomputable def m_l_copied (K : Frag) (a : Ad) : List D -> M D := aP 1 (l9 K a)
theorem kP (N : Fns K mg a) : FnOk P w K mg base (CXE P w) 2 a.f_l_copied a.d_l_copied ["_law_block"] (spF K 1 (m_l_copied K a)) := by
 unfold m_l_copied
 exact bT (k := 1) 1 1 (l9 K a) N.F_l_copied kN rfl rfl fun cdv A outer s H E hr => aC (aV (aI (bL rfl (CmpScope.ofB (Nc := ["_law_row"]) (vars := ["_law_row"]) (caps := []) rfl (by decide +kernel) (by rfl) (by rfl) (by rfl)) (cf (ae 0 (pv 0))) (fun cl C fp s H => ⟨(pgN 0 (show (["_law_row"] : List Str).Nodup by decide +kernel)), aW, fun D => aR rfl (dJ bC fX (by rfl) N.n_list PyProof.Rows.Boot.«list» (aa (ae 0 (pv 0)) (ag))) rfl⟩) aD aG (fun D => aX))))
noncomputable def kS (K : Frag) (a : Ad) : G :=
  iE (fi 1 [] (bc (ad 0)) (tgC 0) (fun _ => M.ret true) (lu (oK lY (ac (ad 0) (ah)))))
noncomputable def fP (K : Frag) (a : Ad) : List D -> M (List (List D)) := je 1 (kS K a)
theorem pC (N : Fns K mg a) : FnOk P w K mg base (CXE P w) 2 a.f_l_copied a.d_l_copied ["_law_block"] (spG K 1 (fP K a)) := by
 unfold fP
 exact qS (k := 1) 1 1 (kS K a) N.F_l_copied kN rfl rfl fun cdv A outer s H E hr => aC (qt (aI (ui rfl (CmpScope.ofB (Nc := ["_law_row"]) (vars := ["_law_row"]) (caps := []) rfl (by decide +kernel) (by rfl) (by rfl) (by rfl)) (cf (ae 0 (pv 0))) (fun cl C fp s H => ⟨(pgN 0 (show (["_law_row"] : List Str).Nodup by decide +kernel)), aW, fun D => aR rfl (pE bC qN (by rfl) N.n_list PyProof.Rows.Boot.«list» (aa (ae 0 (pv 0)) (ag))) rfl⟩) aD aG (fun D => mU))))
theorem c6 : FnScope ["_law_bag_here", "_law_block", "_law_columns", "_law_left", "_law_utmost", "_law_grid", "_law_at", "_law_to"] ["_law_bag_here"] (am qv) := fsc
noncomputable def mY (K : Frag) (a : Ad) : G :=
  ak (ba 1 (f2 bK (fC (.int 1)) (au bO (ac (ad 0) (ac (fC (.int 4)) (ah))))))
  (ak (ba 2 (f2 bK (fC (.int 1)) (au bO (ac (ad 0) (ac (fC (.int 6)) (ah))))))
  (ak (ba 3 (au bO (ac (ad 0) (ac (fC (.int 41)) (ah)))))
  (ak (ba 4 (f2 ixD (ai dD (ac (fC (.int 12)) (ac (fC (.int 12)) (ac (fC (.int 12)) (ac (fC (.int 12)) (ac (fC (.int 12)) (ac (fC (.int 40)) (ah)))))))) (au bO (ac (ad 0) (ac (fC (.int 6)) (ah))))))
  (ak (jU 5 (fi 1 [2] (bA dA (ac (ad 1) (ah))) (tgC 0) (fun _ => M.ret true) (lu (rS (ac (fC (.int 0)) (ah)) (ad 1)))))
  (ak (ie (bA dA (ac (ad 1) (ah))) (sgN 6) (ie (bA dA (ac (ad 2) (ah))) (sgN 7) (ak (hX 5 (ad 6) (ad 7) (au bO (ac (ad 0) (ac (f2 bK (ai h9 (ac (ad 3) (ac (ad 4) (ah)))) (fC (.int 1))) (ah)))))
  (ff 3 (f2 mz (ad 3) (f2 ixD (f2 ixD (ad 5) (ad 6)) (ad 7)))))))
  (aO (ad 5)))))))
noncomputable def m_l_any (K : Frag) (a : Ad) : List D -> M D := aP 8 (mY K a)
theorem vb (N : Fns K mg a) : FnOk P w K mg base (CXE P w) 3 a.f_l_any a.d_l_any ["_law_bag_here"] (spF K 1 (m_l_any K a)) := by
 have G_l_pull := jM P w base N
 unfold m_l_any
 exact bT (k := 2) 1 8 (mY K a) N.F_l_any c6 rfl rfl fun cdv A outer s H E hr => aq (bu (psS 1 c6.nd (bt aT bP (aE) (ax G_l_pull (hr.mono (by decide)) (by rfl) N.m_l_pull N.F_l_pull.kp N.b_l_pull az (aa (ae 0 (pv 0)) (aa (aE) (ag))) (af (af aN0))))))
   (aq (bu (psS 2 c6.nd (bt aT bP (aE) (ax G_l_pull (hr.mono (by decide)) (by rfl) N.m_l_pull N.F_l_pull.kp N.b_l_pull az (aa (ae 0 (pv 0)) (aa (aE) (ag))) (af (af aN0))))))
   (aq (bu (psS 3 c6.nd (ax G_l_pull (hr.mono (by decide)) (by rfl) N.m_l_pull N.F_l_pull.kp N.b_l_pull az (aa (ae 0 (pv 0)) (aa (aE) (ag))) (af (af aN0)))))
   (aq (bu (psS 4 c6.nd (bD aN bF (oG (aa (aE) (aa (aE) (aa (aE) (aa (aE) (aa (aE) (aa (aE) (ag)))))))) (ax G_l_pull (hr.mono (by decide)) (by rfl) N.m_l_pull N.F_l_pull.kp N.b_l_pull az (aa (ae 0 (pv 0)) (aa (aE) (ag))) (af (af aN0))))))
   (aq (yw (i := 5) c6.nd rfl (by first | exact Or.inl rfl | exact Or.inr rfl) rfl (CmpScope.ofB (Nc := ["_law_at", "_law_columns"]) (vars := ["_law_at"]) (caps := [2]) rfl (by decide +kernel) (by rfl) (by rfl) (by rfl)) (da (by rfl) N.n_range (aa (ae 1 (pv 1)) (ag))) (fun cl C fp s H => ⟨(pgN 0 (show (["_law_at", "_law_columns"] : List Str).Nodup by decide +kernel)), aW, fun D => aR rfl (AY (aa (aE) (ag)) (ae 1 (pv 1))) rfl⟩) aD aG (fun D => mU))
   (aq (kn dr (iw mJ rfl (da (by rfl) N.n_range (aa (ae 1 (pv 1)) (ag))) (pgN 6 c6.nd) (aC (kn dr (iw mJ rfl (da (by rfl) N.n_range (aa (ae 2 (pv 2)) (ag))) (pgN 7 c6.nd) (aq (pf (dN (ax G_l_pull (hr.mono (by decide)) (by rfl) N.m_l_pull N.F_l_pull.kp N.b_l_pull az (aa (ae 0 (pv 0)) (aa (bt aT bP (aA (hZ rfl) oO (by rfl) N.n_min PyProof.Rows.Boot.«min» (aa (ae 3 (pv 3)) (aa (ae 4 (pv 4)) (ag)))) (aE)) (ag))) (af (af aN0))) (eY (fM dy (pv 5) (ae 6 (pv 6)) (fun _ _ => rfl)) (ae 7 (pv 7)) cZ)))
   (aC (yu (psS 3 c6.nd (bt lS oN (ae 3 (pv 3)) (bD aN bF (bD aN bF (ae 5 (pv 5)) (ae 6 (pv 6))) (ae 7 (pv 7)))))))))))))
   (aC (aV (aI (ae 5 (pv 5))))))))))
theorem rF : FnScope ["_law_first", "_law_second"] ["_law_first", "_law_second"] (am nL) := fsc
noncomputable def jT (K : Frag) (a : Ad) : G :=
  aO (ai bz (ac (f2 bK (f2 ixD (ad 0) (fC (.int 0))) (f2 ixD (ad 1) (fC (.int 0)))) (ac (ai h9 (ac (fC (.int 40)) (ac (f2 bK (f2 ixD (ad 0) (fC (.int 1))) (f2 ixD (ad 1) (fC (.int 1)))) (ah)))) (ah))))
noncomputable def m_l_pairs (K : Frag) (a : Ad) : List D -> M D := aP 2 (jT K a)
theorem rR (N : Fns K mg a) : FnOk P w K mg base (CXE P w) 2 a.f_l_pairs a.d_l_pairs ["_law_first", "_law_second"] (spF K 2 (m_l_pairs K a)) := by
 unfold m_l_pairs
 exact bT (k := 1) 2 2 (jT K a) N.F_l_pairs rF rfl rfl fun cdv A outer s H E hr => aC (aV (aI (gl (aa (bt aT bP (bD aN bF (ae 0 (pv 0)) (aE)) (bD aN bF (ae 1 (pv 1)) (aE))) (aa (aA (hZ rfl) oO (by rfl) N.n_min PyProof.Rows.Boot.«min» (aa (aE) (aa (bt aT bP (bD aN bF (ae 0 (pv 0)) (aE)) (bD aN bF (ae 1 (pv 1)) (aE))) (ag)))) (ag))))))
theorem fV : FnScope ["_law_limits", "_law_one", "_law_other", "_law_told"] ["_law_limits", "_law_one", "_law_other"] (am gh) := fsc
noncomputable def d7 (K : Frag) (a : Ad) : G :=
  ak (jU 3 (jY (fP K a) (ac (ad 0) (ah))))
  (ak (ma 3 (ad 1) (cV 2 [] (cU (ac (f2 ixD (ad 0) (ad 1)) (ac (f2 ixD (ad 0) (ad 2)) (ah)))) (tgT (bp (tgC 0) (bp (tgC 1) cR))) (fun _ => M.ret true) (cEm (au (m_l_pairs K a) (ac (ad 0) (ac (ad 1) (ah)))))))
  (aO (f2 bK (fSl (ad 3) none (some (ad 2))) (fSl (ad 3) (some (f2 bK (ad 2) (fC (.int 1)))) none))))
noncomputable def m_l_bounds_joined (K : Frag) (a : Ad) : List D -> M D := aP 4 (d7 K a)
theorem jO (N : Fns K mg a) : FnOk P w K mg base (CXE P w) 3 a.f_l_bounds_joined a.d_l_bounds_joined ["_law_limits", "_law_one", "_law_other"] (spF K 3 (m_l_bounds_joined K a)) := by
 have GG_l_copied := pC P w base N
 have G_l_pairs := rR P w base N
 unfold m_l_bounds_joined
 exact bT (k := 2) 3 4 (d7 K a) N.F_l_bounds_joined fV rfl rfl fun cdv A outer s H E hr => aq (rH (psS 3 fV.nd (uj GG_l_copied (hr.mono (by decide)) (by rfl) N.m_l_copied N.F_l_copied.kp N.b_l_copied az (aa (ae 0 (pv 0)) (ag)) (af aN0))))
   (aq (yv (dN (tJ rfl (CmpScope.ofB (Nc := ["_law_first", "_law_second"]) (vars := ["_law_first", "_law_second"]) (caps := []) rfl (by decide +kernel) (by rfl) (by rfl) (by rfl)) (iZ (by rfl) N.n_zip (aa (bD aN bF (ae 0 (pv 0)) (ae 1 (pv 1))) (aa (bD aN bF (ae 0 (pv 0)) (ae 2 (pv 2))) (ag)))) (fun cl C fp s H => ⟨(di rfl (aU (pgN 0 (show (["_law_first", "_law_second"] : List Str).Nodup by decide +kernel)) (aU (pgN 1 (show (["_law_first", "_law_second"] : List Str).Nodup by decide +kernel)) cz))), aW, fun D => aR rfl (ax G_l_pairs (hr.mono (by decide)) (by rfl) N.m_l_pairs N.F_l_pairs.kp N.b_l_pairs cw (aa (ae 0 (pv 0)) (aa (ae 1 (pv 1)) (ag))) (af (af aN0))) rfl⟩) (e8 (bj aD (bj aD dQ)) (bh (bh cY))) (eV (bi aG (bi aG dP))) (fun D => aX)) (eY (pv 3) (ae 1 (pv 1)) cZ)))
   (aC (aV (aI (bt aT bP (gr (ae 3 (pv 3)) (iB) (iA (ae 2 (pv 2)))) (gr (ae 3 (pv 3)) (iA (bt aT bP (ae 2 (pv 2)) (aE))) (iB)))))))
theorem dM : FnScope ["_law_limits", "_law_one", "_law_told", "_law_loose"] ["_law_limits", "_law_one"] (am gf) := fsc
noncomputable def d6 (K : Frag) (a : Ad) : G :=
  ak (ba 2 (au (m_l_copied K a) (ac (ad 0) (ah))))
  (ak (ba 3 (aM 1 [] (bc (f2 ixD (ad 0) (ad 1))) (tgC 0) (fun _ => M.ret true) (cEm (ai bz (ac (fC (.int 0)) (ac (f2 ixD (ad 0) (fC (.int 1))) (ah)))))))
  (aO (f2 bK (f2 bK (fSl (ad 2) none (some (ad 1))) (ai dD (ac (ad 3) (ac (ai eA (ac (ad 3) (ah))) (ah))))) (fSl (ad 2) (some (f2 bK (ad 1) (fC (.int 1)))) none))))
noncomputable def m_l_bounds_parted (K : Frag) (a : Ad) : List D -> M D := aP 4 (d6 K a)
theorem jN (N : Fns K mg a) : FnOk P w K mg base (CXE P w) 3 a.f_l_bounds_parted a.d_l_bounds_parted ["_law_limits", "_law_one"] (spF K 2 (m_l_bounds_parted K a)) := by
 have G_l_copied := kP P w base N
 unfold m_l_bounds_parted
 exact bT (k := 2) 2 4 (d6 K a) N.F_l_bounds_parted dM rfl rfl fun cdv A outer s H E hr => aq (bu (psS 2 dM.nd (ax G_l_copied (hr.mono (by decide)) (by rfl) N.m_l_copied N.F_l_copied.kp N.b_l_copied az (aa (ae 0 (pv 0)) (ag)) (af aN0))))
   (aq (pa (i := 3) dM.nd rfl (by first | exact Or.inl rfl | exact Or.inr rfl) rfl (CmpScope.ofB (Nc := ["_law_duo"]) (vars := ["_law_duo"]) (caps := []) rfl (by decide +kernel) (by rfl) (by rfl) (by rfl)) (cf (bD aN bF (ae 0 (pv 0)) (ae 1 (pv 1)))) (fun cl C fp s H => ⟨(pgN 0 (show (["_law_duo"] : List Str).Nodup by decide +kernel)), aW, fun D => aR rfl (gl (aa (aE) (aa (bD aN bF (ae 0 (pv 0)) (aE)) (ag)))) rfl⟩) aD aG (fun D => aX))
   (aC (aV (aI (bt aT bP (bt aT bP (gr (ae 2 (pv 2)) (iB) (iA (ae 1 (pv 1)))) (oG (aa (ae 3 (pv 3)) (aa (dJ bC fX (by rfl) N.n_list PyProof.Rows.Boot.«list» (aa (ae 3 (pv 3)) (ag))) (ag))))) (gr (ae 2 (pv 2)) (iA (bt aT bP (ae 1 (pv 1)) (aE))) (iB)))))))
theorem kK : FnScope ["self", "rows"] ["self", "rows"] (am gA) := fsc
noncomputable def lh (K : Frag) (a : Ad) : IP :=
  iY (bV (au (m_check_rows K a) (ac (ad 1) (ah))))
  (l4 (aM 1 [] (bc (ad 1)) (tgC 0) (fun _ => M.ret true) (cEm (ai eA (ac (ad 0) (ah)))))
  (w4))
noncomputable def c8 (K : Frag) (a : Ad) : List D -> M (List D) := kx 2 (lh K a)
theorem jL (N : Fns K mg a) : FnOk P w K mg base (CXE P w) 5 a.f_Table___init__ a.d_Table___init__ ["self", "rows"] (spI K a.C_Table ["counts"] 1 (c8 K a)) := by
 have G_check_rows := jq P w base N
 unfold c8
 exact x5 (k := 4) 1 2 (lh K a) N.F_Table___init__ kK rfl rfl fun cdv A outer s H E hr => A6 (io (dn (ax G_check_rows (hr.mono (by decide)) (by rfl) N.m_check_rows N.F_check_rows.kp N.b_check_rows az (aa (ae 1 (pv 1)) (ag)) (af aN0))))
   (A7 N.cl_Table N.na_Table_counts (by decide) (by decide) (yD (pv 0) (bL rfl (CmpScope.ofB (Nc := ["counts"]) (vars := ["counts"]) (caps := []) rfl (by decide +kernel) (by rfl) (by rfl) (by rfl)) (cf (ae 1 (pv 1))) (fun cl C fp s H => ⟨(pgN 0 (show (["counts"] : List Str).Nodup by decide +kernel)), aW, fun D => aR rfl (dJ bC fX (by rfl) N.n_list PyProof.Rows.Boot.«list» (aa (ae 0 (pv 0)) (ag))) rfl⟩) aD aG (fun D => aX)) rfl)
   (A8))
theorem lH : FnScope ["self", "one", "taken", "rows"] ["self", "one", "taken", "rows"] (am iq) := fsc
noncomputable def dS (K : Frag) (a : Ad) : G :=
  ak (gIf (bZ (ad 3)) (aO (gq a.C_Table ["counts"] (c8 K a) (ac (au (m_one_parted K a) (ac (f1 (i5 a.C_Table "counts") (ad 0)) (ac (ad 1) (ac (ad 2) (ah))))) (ah)) [])) (gNil))
  (aO (gq a.C_Table ["counts"] (c8 K a) (ac (au (m_rows_turned K a) (ac (au (m_one_parted K a) (ac (au (m_rows_turned K a) (ac (f1 (i5 a.C_Table "counts") (ad 0)) (ah))) (ac (ad 1) (ac (ad 2) (ah))))) (ah))) (ah)) []))
noncomputable def ci (K : Frag) (a : Ad) : List D -> M D := aP 4 (dS K a)
theorem lV (N : Fns K mg a) : FnOk P w K mg base (CXE P w) 7 a.f_Table_parted a.d_Table_parted ["self", "one", "taken", "rows"] (spF K 4 (ci K a)) := by
 have G_one_parted := oB P w base N
 have GI_Table := jL P w base N
 have G_rows_turned := cT P w base N
 unfold ci
 exact bT (k := 6) 4 4 (dS K a) N.F_Table_parted lH rfl rfl fun cdv A outer s H E hr => aq (bE (dC (ae 3 (pv 3))) (aC (aV (aI (jx N.mk_Table GI_Table (hr.mono (by decide)) (by rfl) N.m_Table (dH.nil N.b_Table___init__) az (aa (ax G_one_parted (hr.mono (by decide)) (by rfl) N.m_one_parted N.F_one_parted.kp N.b_one_parted az (aa (lC N.cl_Table N.na_Table_counts (ae 0 (pv 0))) (aa (ae 1 (pv 1)) (aa (ae 2 (pv 2)) (ag)))) (af (af (af aN0)))) (ag)) (fun δ β r β' h => by rw [(af aN0) δ β r β' h]; rfl))))) (bf))
   (aC (aV (aI (jx N.mk_Table GI_Table (hr.mono (by decide)) (by rfl) N.m_Table (dH.nil N.b_Table___init__) az (aa (ax G_rows_turned (hr.mono (by decide)) (by rfl) N.m_rows_turned N.F_rows_turned.kp N.b_rows_turned az (aa (ax G_one_parted (hr.mono (by decide)) (by rfl) N.m_one_parted N.F_one_parted.kp N.b_one_parted az (aa (ax G_rows_turned (hr.mono (by decide)) (by rfl) N.m_rows_turned N.F_rows_turned.kp N.b_rows_turned az (aa (lC N.cl_Table N.na_Table_counts (ae 0 (pv 0))) (ag)) (af aN0)) (aa (ae 1 (pv 1)) (aa (ae 2 (pv 2)) (ag)))) (af (af (af aN0)))) (ag)) (af aN0)) (ag)) (fun δ β r β' h => by rw [(af aN0) δ β r β' h]; rfl)))))
theorem mE : FnScope ["self"] ["self"] (am jo) := fsc
noncomputable def jt (K : Frag) (a : Ad) : G :=
  aO (aM 1 [] (bc (f1 (i5 a.C_Table "counts") (ad 0))) (tgC 0) (fun _ => M.ret true) (cEm (ai eA (ac (ad 0) (ah)))))
noncomputable def dk (K : Frag) (a : Ad) : List D -> M D := aP 1 (jt K a)
theorem mP (N : Fns K mg a) : FnOk P w K mg base (CXE P w) 2 a.f_Table_cells a.d_Table_cells ["self"] (spF K 1 (dk K a)) := by
 unfold dk
 exact bT (k := 1) 1 1 (jt K a) N.F_Table_cells mE rfl rfl fun cdv A outer s H E hr => aC (aV (aI (bL rfl (CmpScope.ofB (Nc := ["counts"]) (vars := ["counts"]) (caps := []) rfl (by decide +kernel) (by rfl) (by rfl) (by rfl)) (cf (lC N.cl_Table N.na_Table_counts (ae 0 (pv 0)))) (fun cl C fp s H => ⟨(pgN 0 (show (["counts"] : List Str).Nodup by decide +kernel)), aW, fun D => aR rfl (dJ bC fX (by rfl) N.n_list PyProof.Rows.Boot.«list» (aa (ae 0 (pv 0)) (ag))) rfl⟩) aD aG (fun D => aX))))
theorem lI : FnScope ["self", "one", "other", "rows"] ["self", "one", "other", "rows"] (am ir) := fsc
noncomputable def dU (K : Frag) (a : Ad) : G :=
  ak (gIf (bZ (ad 3)) (aO (gq a.C_Table ["counts"] (c8 K a) (ac (au (m_two_joined K a) (ac (f1 (i5 a.C_Table "counts") (ad 0)) (ac (ad 1) (ac (ad 2) (ah))))) (ah)) [])) (gNil))
  (aO (gq a.C_Table ["counts"] (c8 K a) (ac (au (m_rows_turned K a) (ac (au (m_two_joined K a) (ac (au (m_rows_turned K a) (ac (f1 (i5 a.C_Table "counts") (ad 0)) (ah))) (ac (ad 1) (ac (ad 2) (ah))))) (ah))) (ah)) []))
noncomputable def cj (K : Frag) (a : Ad) : List D -> M D := aP 4 (dU K a)
theorem lW (N : Fns K mg a) : FnOk P w K mg base (CXE P w) 7 a.f_Table_joined a.d_Table_joined ["self", "one", "other", "rows"] (spF K 4 (cj K a)) := by
 have G_two_joined := oz P w base N
 have GI_Table := jL P w base N
 have G_rows_turned := cT P w base N
 unfold cj
 exact bT (k := 6) 4 4 (dU K a) N.F_Table_joined lI rfl rfl fun cdv A outer s H E hr => aq (bE (dC (ae 3 (pv 3))) (aC (aV (aI (jx N.mk_Table GI_Table (hr.mono (by decide)) (by rfl) N.m_Table (dH.nil N.b_Table___init__) az (aa (ax G_two_joined (hr.mono (by decide)) (by rfl) N.m_two_joined N.F_two_joined.kp N.b_two_joined az (aa (lC N.cl_Table N.na_Table_counts (ae 0 (pv 0))) (aa (ae 1 (pv 1)) (aa (ae 2 (pv 2)) (ag)))) (af (af (af aN0)))) (ag)) (fun δ β r β' h => by rw [(af aN0) δ β r β' h]; rfl))))) (bf))
   (aC (aV (aI (jx N.mk_Table GI_Table (hr.mono (by decide)) (by rfl) N.m_Table (dH.nil N.b_Table___init__) az (aa (ax G_rows_turned (hr.mono (by decide)) (by rfl) N.m_rows_turned N.F_rows_turned.kp N.b_rows_turned az (aa (ax G_two_joined (hr.mono (by decide)) (by rfl) N.m_two_joined N.F_two_joined.kp N.b_two_joined az (aa (ax G_rows_turned (hr.mono (by decide)) (by rfl) N.m_rows_turned N.F_rows_turned.kp N.b_rows_turned az (aa (lC N.cl_Table N.na_Table_counts (ae 0 (pv 0))) (ag)) (af aN0)) (aa (ae 1 (pv 1)) (aa (ae 2 (pv 2)) (ag)))) (af (af (af aN0)))) (ag)) (af aN0)) (ag)) (fun δ β r β' h => by rw [(af aN0) δ β r β' h]; rfl)))))
theorem bG : FnScope ["_law_script", "_law_bag_here", "_law_block", "_law_limits", "_law_handed", "_law_down", "_law_lines", "_law_pairs_here", "_law_one", "_law_other", "_law_table", "_law_due", "_law_told", "_law_later"] ["_law_script"] (am lJ) := fsc
noncomputable def l7 (K : Frag) (a : Ad) : G :=
  ak (ba 2 (au (m_l_any K a) (ac (ad 1) (ah))))
  (ak (ba 3 (au (m_l_bounds K a) (ac (ad 1) (ac (ad 2) (ah)))))
  (ak (ba 4 (au (m_l_copied K a) (ac (ad 3) (ah))))
  (ak (gIf (bW (bZ (au (m_l_same K a 5) (ac (au (m_bounds_turned K a) (ac (ad 4) (ah))) (ac (au (m_l_turned K a) (ac (ad 3) (ah))) (ah)))))) (aO (fC (.bl false))) (gNil))
  (ak (ba 5 (f2 (dO) (au bO (ac (ad 1) (ac (fC (.int 2)) (ah)))) (fC (.int 0))))
  (ak (ba 6 (ad 2))
  (ak (ba 7 (ad 3))
  (ak (gIf (bW (bZ (ad 5))) (ak (ba 6 (au (m_l_turned K a) (ac (ad 2) (ah))))
  (ba 7 (au (m_l_turned K a) (ac (ad 3) (ah))))) (gNil))
  (ak (ba 8 (au bO (ac (ad 1) (ac (ai aY (ac (ad 6) (ah))) (ah)))))
  (ak (ba 9 (f2 vf (f2 bK (f2 bK (ad 8) (fC (.int 1))) (au bO (ac (ad 1) (ac (ai mS (ac (fC (.int 1)) (ac (f2 mz (ai aY (ac (ad 6) (ah))) (fC (.int 1))) (ah)))) (ah))))) (ai aY (ac (ad 6) (ah)))))
  (ak (ba 10 (gq a.C_Table ["counts"] (c8 K a) (ac (au (m_l_copied K a) (ac (ad 2) (ah))) (ah)) []))
  (ak (gIf (fB (f2 (gtD) (ai aY (ac (ad 6) (ah))) (fC (.int 1)))) (ak (ba 11 (au (m_l_bounds_joined K a) (ac (ad 7) (ac (ad 8) (ac (ad 9) (ah))))))
  (ak (gIf (bW (bZ (ad 5))) (ba 11 (au (m_l_turned K a) (ac (ad 11) (ah)))) (gNil))
  (ak (ba 12 (jX (m_bounds_joined K a) (ac (ad 4) (ac (ad 8) (ac (ad 9) (ah)))) (ac (ad 5) (ah)) [.kw 0]))
  (gIf (db (bW (bZ (au (m_l_same K a 5) (ac (ad 12) (ac (ad 11) (ah)))))) (fB (f2 (oM) (au (m_keeps K a) (ac (kB a.C_Table "cells" (dk K a) (jW a.C_Table "joined" (cj K a) (ad 10) (ac (ad 8) (ac (ad 9) (ah))) (ac (ad 5) (ah)) [.kw 0]) ah []) (ac (ad 12) (ah)))) (fC (.bl true))))) (aO (fC (.bl false))) (gNil))))) (gNil))
  (ak (gIf (fB (f2 (ltD) (ai aY (ac (ad 6) (ah))) (fC (.int 4)))) (ak (ba 11 (au (m_l_bounds_parted K a) (ac (ad 7) (ac (ad 8) (ah)))))
  (ak (gIf (bW (bZ (ad 5))) (ba 11 (au (m_l_turned K a) (ac (ad 11) (ah)))) (gNil))
  (ak (ba 12 (jX (m_bounds_parted K a) (ac (ad 4) (ac (ad 8) (ah))) (ac (ad 5) (ah)) [.kw 0]))
  (ak (ba 13 (jW a.C_Table "parted" (ci K a) (ad 10) (ac (ad 8) (ac (aM 1 [1] (bc (f2 ixD (ad 6) (ad 8))) (tgC 0) (fun _ => M.ret true) (cEm (au bO (ac (ad 1) (ac (f2 bK (ad 0) (fC (.int 1))) (ah)))))) (ah))) (ac (ad 5) (ah)) [.kw 0]))
  (gIf (db (bW (bZ (au (m_l_same K a 5) (ac (ad 12) (ac (ad 11) (ah)))))) (fB (f2 (oM) (au (m_keeps K a) (ac (kB a.C_Table "cells" (dk K a) (ad 13) ah []) (ac (ad 12) (ah)))) (fC (.bl true))))) (aO (fC (.bl false))) (gNil)))))) (gNil))
  (aO (f2 (dO) (ad 4) (ad 3)))))))))))))))
theorem yX {f : Addr} {fd : FuncData} (F : FunD K "law" "law" lJ f fd) (N : Fns K mg a) (T : ∀ β : Bg, β.ok -> ∃ β', l7 K a [none, some (.sh .bag), none, none, none, none, none, none, none, none, none, none, none, none] β = some (.rt (.bl true), β')) :
  FnOk P w K mg base (CXE P w) 8 f fd ["_law_script"] (wP K) := by
 have G_l_bag := va P w base N
 have G_l_any := vb P w base N
 have G_l_bounds := qe P w base N
 have G_l_copied := kP P w base N
 have G_l_turned := qd P w base N
 have G_bounds_turned := k8 P w base N
 have G_l_same := tE P w base N
 have G_l_pull := jM P w base N
 have GI_Table := jL P w base N
 have G_l_bounds_joined := jO P w base N
 have G_bounds_joined := la P w base N
 have G_Table_joined := lW P w base N
 have G_Table_cells := mP P w base N
 have G_keeps := vc P w base N
 have G_l_bounds_parted := jN P w base N
 have G_bounds_parted := k9 P w base N
 have G_Table_parted := lV P w base N
 refine F.okE (k := 7) bG (fun vs H Q E h => ?_) (fun cdv A outer s H vs Q E hr h => ?_)
 ·obtain ⟨a, ns, rfl, _⟩ := h
  rfl
 ·obtain ⟨a1, ns, rfl, hS, hlen, k⟩ := h
  have rest : PSs (cI (CXE P w) P w K mg base ["_law_script", "_law_bag_here", "_law_block", "_law_limits", "_law_handed", "_law_down", "_law_lines", "_law_pairs_here", "_law_one", "_law_other", "_law_table", "_law_due", "_law_told", "_law_later"] "law" (am lJ) f cdv A outer s H E) (bX lJ).tail (tG K H (l7 K a) (fun _ => E)) := aq (bu (psS 2 bG.nd (ax G_l_any (hr.mono (by decide)) (by rfl) N.m_l_any N.F_l_any.kp N.b_l_any az (aa (ae 1 (pv 1)) (ag)) (af aN0))))
   (aq (bu (psS 3 bG.nd (ax G_l_bounds (hr.mono (by decide)) (by rfl) N.m_l_bounds N.F_l_bounds.kp N.b_l_bounds az (aa (ae 1 (pv 1)) (aa (ae 2 (pv 2)) (ag))) (af (af aN0)))))
   (aq (bu (psS 4 bG.nd (ax G_l_copied (hr.mono (by decide)) (by rfl) N.m_l_copied N.F_l_copied.kp N.b_l_copied az (aa (ae 3 (pv 3)) (ag)) (af aN0))))
   (aq (bE (fK (dC (ax G_l_same (hr.mono (by decide)) (by rfl) N.m_l_same N.F_l_same.kp N.b_l_same az (aa (ax G_bounds_turned (hr.mono (by decide)) (by rfl) N.m_bounds_turned N.F_bounds_turned.kp N.b_bounds_turned az (aa (ae 4 (pv 4)) (ag)) (af aN0)) (aa (ax G_l_turned (hr.mono (by decide)) (by rfl) N.m_l_turned N.F_l_turned.kp N.b_l_turned az (aa (ae 3 (pv 3)) (ag)) (af aN0)) (ag))) (af (af aN0))))) (aC (aV (aI (iM)))) (bf))
   (aq (bu (psS 5 bG.nd (gO (gB hr) iX (ax G_l_pull (hr.mono (by decide)) (by rfl) N.m_l_pull N.F_l_pull.kp N.b_l_pull az (aa (ae 1 (pv 1)) (aa (aE) (ag))) (af (af aN0))) (aE))))
   (aq (bu (psS 6 bG.nd (ae 2 (pv 2))))
   (aq (bu (psS 7 bG.nd (ae 3 (pv 3))))
   (aq (bE (fK (dC (ae 5 (pv 5)))) (aq (bu (psS 6 bG.nd (ax G_l_turned (hr.mono (by decide)) (by rfl) N.m_l_turned N.F_l_turned.kp N.b_l_turned az (aa (ae 2 (pv 2)) (ag)) (af aN0))))
   (aC (bu (psS 7 bG.nd (ax G_l_turned (hr.mono (by decide)) (by rfl) N.m_l_turned N.F_l_turned.kp N.b_l_turned az (aa (ae 3 (pv 3)) (ag)) (af aN0)))))) (bf))
   (aq (bu (psS 8 bG.nd (ax G_l_pull (hr.mono (by decide)) (by rfl) N.m_l_pull N.F_l_pull.kp N.b_l_pull az (aa (ae 1 (pv 1)) (aa (aA aB bB (by rfl) N.n_len PySem.boot_len (aa (ae 6 (pv 6)) (ag))) (ag))) (af (af aN0)))))
   (aq (bu (psS 9 bG.nd (bt ix A2 (bt aT bP (bt aT bP (ae 8 (pv 8)) (aE)) (ax G_l_pull (hr.mono (by decide)) (by rfl) N.m_l_pull N.F_l_pull.kp N.b_l_pull az (aa (ae 1 (pv 1)) (aa (aA (oh rfl) wX (by rfl) N.n_max PyProof.Rows.Boot.«max» (aa (aE) (aa (bt lS oN (aA aB bB (by rfl) N.n_len PySem.boot_len (aa (ae 6 (pv 6)) (ag))) (aE)) (ag)))) (ag))) (af (af aN0)))) (aA aB bB (by rfl) N.n_len PySem.boot_len (aa (ae 6 (pv 6)) (ag))))))
   (aq (bu (psS 10 bG.nd (jx N.mk_Table GI_Table (hr.mono (by decide)) (by rfl) N.m_Table (dH.nil N.b_Table___init__) az (aa (ax G_l_copied (hr.mono (by decide)) (by rfl) N.m_l_copied N.F_l_copied.kp N.b_l_copied az (aa (ae 2 (pv 2)) (ag)) (af aN0)) (ag)) (fun δ β r β' h => by rw [(af aN0) δ β r β' h]; rfl))))
   (aq (bE (cu wW y8 (aA aB bB (by rfl) N.n_len PySem.boot_len (aa (ae 6 (pv 6)) (ag))) (aE)) (aq (bu (psS 11 bG.nd (ax G_l_bounds_joined (hr.mono (by decide)) (by rfl) N.m_l_bounds_joined N.F_l_bounds_joined.kp N.b_l_bounds_joined az (aa (ae 7 (pv 7)) (aa (ae 8 (pv 8)) (aa (ae 9 (pv 9)) (ag)))) (af (af (af aN0))))))
   (aq (bE (fK (dC (ae 5 (pv 5)))) (aC (bu (psS 11 bG.nd (ax G_l_turned (hr.mono (by decide)) (by rfl) N.m_l_turned N.F_l_turned.kp N.b_l_turned az (aa (ae 11 (pv 11)) (ag)) (af aN0))))) (bf))
   (aq (bu (psS 12 bG.nd (qm G_bounds_joined (hr.mono (by decide)) (by rfl) N.m_bounds_joined N.F_bounds_joined.kp N.kb_rows_bounds_joined az (aa (ae 4 (pv 4)) (aa (ae 8 (pv 8)) (aa (ae 9 (pv 9)) (ag)))) (kg (ae 5 (pv 5)) (lB)) (af (af (af aN0))) (af aN0) rfl)))
   (aC (bE (jz (oY (fK (dC (ax G_l_same (hr.mono (by decide)) (by rfl) N.m_l_same N.F_l_same.kp N.b_l_same az (aa (ae 12 (pv 12)) (aa (ae 11 (pv 11)) (ag))) (af (af aN0))))) (lA (cu qG tY (ax G_keeps (hr.mono (by decide)) (by rfl) N.m_keeps N.F_keeps.kp N.b_keeps az (aa (ql N.cl_Table N.mt_Table_cells G_Table_cells (hr.mono (by decide)) (dH.nil N.b_Table_cells) az (qk N.cl_Table N.mt_Table_joined G_Table_joined (hr.mono (by decide)) N.kb_rows_Table_joined az (ae 10 (pv 10)) (aa (ae 8 (pv 8)) (aa (ae 9 (pv 9)) (ag))) (kg (ae 5 (pv 5)) (lB)) (af (af aN0)) (af aN0) rfl) rfl) (aa (ae 12 (pv 12)) (ag))) (af (af aN0))) (iM))))) (aC (aV (aI (iM)))) (bf)))))) (bf))
   (aq (bE (cu rO vv (aA aB bB (by rfl) N.n_len PySem.boot_len (aa (ae 6 (pv 6)) (ag))) (aE)) (aq (bu (psS 11 bG.nd (ax G_l_bounds_parted (hr.mono (by decide)) (by rfl) N.m_l_bounds_parted N.F_l_bounds_parted.kp N.b_l_bounds_parted az (aa (ae 7 (pv 7)) (aa (ae 8 (pv 8)) (ag))) (af (af aN0)))))
   (aq (bE (fK (dC (ae 5 (pv 5)))) (aC (bu (psS 11 bG.nd (ax G_l_turned (hr.mono (by decide)) (by rfl) N.m_l_turned N.F_l_turned.kp N.b_l_turned az (aa (ae 11 (pv 11)) (ag)) (af aN0))))) (bf))
   (aq (bu (psS 12 bG.nd (qm G_bounds_parted (hr.mono (by decide)) (by rfl) N.m_bounds_parted N.F_bounds_parted.kp N.kb_rows_bounds_parted az (aa (ae 4 (pv 4)) (aa (ae 8 (pv 8)) (ag))) (kg (ae 5 (pv 5)) (lB)) (af (af aN0)) (af aN0) rfl)))
   (aq (bu (psS 13 bG.nd (qk N.cl_Table N.mt_Table_parted G_Table_parted (hr.mono (by decide)) N.kb_rows_Table_parted az (ae 10 (pv 10)) (aa (ae 8 (pv 8)) (aa (bL rfl (CmpScope.ofB (Nc := ["_law_count", "_law_bag_here"]) (vars := ["_law_count"]) (caps := [1]) rfl (by decide +kernel) (by rfl) (by rfl) (by rfl)) (cf (bD aN bF (ae 6 (pv 6)) (ae 8 (pv 8)))) (fun cl C fp s H => ⟨(pgN 0 (show (["_law_count", "_law_bag_here"] : List Str).Nodup by decide +kernel)), aW, fun D => aR rfl (ax G_l_pull (hr.mono (by decide)) (by rfl) N.m_l_pull N.F_l_pull.kp N.b_l_pull cw (aa (ae 1 (pv 1)) (aa (bt aT bP (ae 0 (pv 0)) (aE)) (ag))) (af (af aN0))) rfl⟩) aD aG (fun D => aX)) (ag))) (kg (ae 5 (pv 5)) (lB)) (af (af aN0)) (af aN0) rfl)))
   (aC (bE (jz (oY (fK (dC (ax G_l_same (hr.mono (by decide)) (by rfl) N.m_l_same N.F_l_same.kp N.b_l_same az (aa (ae 12 (pv 12)) (aa (ae 11 (pv 11)) (ag))) (af (af aN0))))) (lA (cu qG tY (ax G_keeps (hr.mono (by decide)) (by rfl) N.m_keeps N.F_keeps.kp N.b_keeps az (aa (ql N.cl_Table N.mt_Table_cells G_Table_cells (hr.mono (by decide)) (dH.nil N.b_Table_cells) az (ae 13 (pv 13)) rfl) (aa (ae 12 (pv 12)) (ag))) (af (af aN0))) (iM))))) (aC (aV (aI (iM)))) (bf))))))) (bf))
   (aC (aV (aI (gO (gB hr) iX (ae 4 (pv 4)) (ae 3 (pv 3))))))))))))))))))
  refine ⟨_, bY (rest := (bX lJ).tail) (psS 1 bG.nd (kr G_l_bag (hr.mono (by decide)) rfl N.m_l_bag N.F_l_bag.kp N.b_l_bag .nil cw (bv (pv 0) ef))) rest, ?_⟩
  refine ⟨_, rfl, a1, ns, rfl, hS, fun b l H1 hb1 hl1 B1 s1 => ?_⟩
  obtain ⟨β, ok, sok⟩ := yb (K := K) (a := a1) (n := ["_law_script", "_law_bag_here", "_law_block", "_law_limits", "_law_handed", "_law_down", "_law_lines", "_law_pairs_here", "_law_one", "_law_other", "_law_table", "_law_due", "_law_told", "_law_later"].length - 2) s1 hb1 hl1 B1
  obtain ⟨β', e⟩ := T β ok
  exact ⟨_, _, _, β, _, β', sok, e, fun v B' H' s fr hv => by cases hv.bl; exact k H'⟩
end
section
variable {K : Frag} {a : Ad}
abbrev wA (r c l u : Int) (g : List (List D)) (s6 s7 : Option Sl) : Ds := [some (.sh .bag), some (.sh (.int r)), some (.sh (.int c)), some (.sh (.int l)), some (.sh (.int u)), some (.grd g), s6, s7]
def Ay (r c : Nat) (u : Int) (s6 : Option Sl) (δ : Ds) (β : Bg) : Prop := β.ok /\ ∃ (rows : LI) (l : Int) (s7 : Option Sl), δ = wA r c l u (gI rows) s6 s7 /\ Shp r c rows /\ (∀ row ∈ rows, ∀ x ∈ row, 0 <= x) /\ 0 <= l /\ tot rows + l <= 40
theorem ye {β : Bg} (ok : β.ok) : ∃ (rows : LI) (r c : Nat) (β' : Bg), m_l_any K a [.bag] β = some (.ok (aK rows), β') /\ Tab r c rows /\ β'.ok := by
 suffices h : ∃ g β', m_l_any K a [.bag] β = some (g, β') /\ (∃ (rows : LI) (r c : Nat), g = .ok (aK rows) /\ Tab r c rows /\ β'.ok) by
  obtain ⟨g, β', e, rows, r, c, rfl, h1, h2⟩ := h
  exact ⟨rows, r, c, β', e, h1, h2⟩
 refine pZ ?_
 unfold mY
 obtain ⟨r0, β1, p1, a0, a1, ok1⟩ := bU ok (lot := 4) (by decide) (by decide)
 refine bq (d := .int (1 + r0)) (β1 := β1) (x_2 rfl (aw rfl p1) rfl) ?_
 obtain ⟨c0, β2, p2, b0, b1, ok2⟩ := bU ok1 (lot := 6) (by decide) (by decide)
 refine bq (d := .int (1 + c0)) (β1 := β2) (x_2 rfl (aw rfl p2) rfl) ?_
 obtain ⟨l0, β3, p3, d0, d1, ok3⟩ := bU ok2 (lot := 41) (by decide) (by decide)
 refine bq (d := .int l0) (β1 := β3) (aw rfl p3) ?_
 obtain ⟨u0, β4, p4, e0, e1, ok4⟩ := bU ok3 (lot := 6) (by decide) (by decide)
 have hu : ∃ u : Int, ixD (.lst [.int 12, .int 12, .int 12, .int 12, .int 12, .int 40]) (.int u0) = some (.int u) /\ 0 <= u /\ u <= 40 := by
  obtain rfl | rfl | rfl | rfl | rfl | rfl : u0 = 0 \/ u0 = 1 \/ u0 = 2 \/ u0 = 3 \/ u0 = 4 \/ u0 = 5 := by omega
  ·exact ⟨12, rfl, by decide, by decide⟩
  ·exact ⟨12, rfl, by decide, by decide⟩
  ·exact ⟨12, rfl, by decide, by decide⟩
  ·exact ⟨12, rfl, by decide, by decide⟩
  ·exact ⟨12, rfl, by decide, by decide⟩
  ·exact ⟨40, rfl, by decide, by decide⟩
 obtain ⟨u, hu, u0', u1'⟩ := hu
 refine bq (d := .int u) (β1 := β4) (x_2 (aJ rfl rfl) (aw rfl p4) hu) ?_
 obtain ⟨r, hr⟩ : ∃ r : Nat, (r : Int) = 1 + r0 := ⟨(1 + r0).toNat, by omega⟩
 obtain ⟨c, hc⟩ : ∃ c : Nat, (c : Int) = 1 + c0 := ⟨(1 + c0).toNat, by omega⟩
 rw [← hr, ← hc]
 refine rk (rows := (List.range r).map fun _ => List.replicate c (D.int 0)) (β1 := β4) (j6 (List.range r) (fun i => D.int (0 + (i : Int))) _ (fu (ds := dh 0 r) rfl (rg1 (by omega) (by omega))) (fun x _ => ⟨_, rfl, AZ (x := .int 0) (c := c) rfl rfl (by omega)⟩) (bw (by rw [List.length_range]; omega))) ?_ ?_
 ·rw [List.all_eq_true]
  intro x hx
  obtain ⟨_, _, rfl⟩ := List.mem_map.mp hx
  rw [← List.map_replicate (f := D.int)]
  exact nT _
 have hg : (List.range r).map (fun _ => List.replicate c (D.int 0)) = gI (List.replicate r (List.replicate c 0)) := by
  show _ = List.map _ _
  rw [List.map_replicate, List.map_const', List.map_replicate, List.length_range]
 rw [hg]
 refine kf (ds := dh 0 r) (β1 := β4) (fu rfl (rg1 (by omega) (by omega))) (fun _ δ β => ∃ s6, Ay r c u s6 δ β) ⟨none, ok4, List.replicate r (List.replicate c 0), l0, none, rfl, ⟨by simp, fun row h => ?_⟩, fun row h x hx => ?_, d0, ?_⟩ ?_ ?_
 ·rw [(List.mem_replicate.mp h).2]; simp
 ·rw [(List.mem_replicate.mp h).2] at hx
  rw [(List.mem_replicate.mp hx).2]; exact Int.le_refl _
 ·have : tot (List.replicate r (List.replicate c 0)) = 0 := by
   unfold tot
   rw [List.map_replicate]
   have z : ∀ n : Nat, (List.replicate n (0 : Int)).sum = 0 := fun n => by
    induction n with
    | zero => rfl
    | succ n ih => rw [List.replicate_succ, List.sum_cons, ih]; rfl
   rw [z, z]
  omega
 ·rintro i d δ β' hd ⟨s6, okA, rows, l, s7, rfl, sh, nn, hl, ht⟩
  obtain ⟨hi, rfl⟩ := wS hd
  refine ⟨wA r c l u (gI rows) (some (.sh (.int i))) s7, rfl, aL ?_⟩
  refine kf (ds := dh 0 c) (β1 := β') (fu rfl (rg1 (by omega) (by omega))) (fun _ => Ay r c u (some (.sh (.int i)))) ⟨okA, rows, l, s7, rfl, sh, nn, hl, ht⟩ ?_ (fun δ β h => eh ⟨_, h⟩)
  rintro j d δ β2 hd ⟨okB, rows, l, s7, rfl, sh, nn, hl, ht⟩
  obtain ⟨hj, rfl⟩ := wS hd
  refine ⟨wA r c l u (gI rows) (some (.sh (.int i))) (some (.sh (.int j))), rfl, ?_⟩
  obtain ⟨v, β5, p5, v0, v1, ok5⟩ := bU okB (lot := min l u + 1) (by omega) (by omega)
  obtain ⟨row, hrow, lrow⟩ := sh.at hi
  obtain ⟨x, hx⟩ := xa (l := row) (i := j) (by omega)
  refine wH (d := .int v) (β1 := β5) (β2 := β5) (β3 := β5) (rows := gI rows) (ds := row.map D.int) (ka := i) (kb := j) (ja := i) (jb := j) (aw (as := [.bag, .int (min l u + 1)]) (β1 := β2) ?_ p5) rfl rfl rfl ?_ ?_ ?_ rfl ?_
  ·refine aj rfl (aj (x_2 (x := .int (min l u)) (aJ (as := [.int l, .int u]) rfl ?_) rfl rfl) rfl)
   show h9 [.int l, .int u] = some (.int (min l u))
   unfold h9
   simp only
   congr 2
   split <;> omega
  ·rw [List.length_map, sh.1]; exact fY (by omega) (by omega)
  ·rw [List.getElem?_map, hrow]; rfl
  ·rw [List.length_map, lrow]; exact fY (by omega) (by omega)
  have hset : (gI rows).set i ((row.map D.int).set j (.int v)) = gI (rows.set i (row.set j v)) := by
   show _ = List.map _ _
   rw [List.map_set, List.map_set]
  rw [hset]
  have hl' : v <= l := by omega
  refine aL (yh (d := .int (l - v)) (β1 := β5) ?_ (eh ⟨ok5, rows.set i (row.set j v), l - v, _, rfl, sh.set hrow, yZ nn hrow v0, by omega, ?_⟩) rfl)
  ·refine x_2 (y := .int v) rfl (x_2 (x := .lst ((row.set j v).map D.int)) (x_2 rfl rfl ?_) rfl ?_) rfl
   ·refine jS (by omega) ?_
    rw [List.getElem?_map, List.getElem?_map, Int.toNat_natCast, List.getElem?_set, if_pos rfl, if_pos (by rw [sh.1]; omega)]; rfl
   ·refine jS (by omega) ?_
    rw [List.getElem?_map, Int.toNat_natCast, List.getElem?_set, if_pos rfl, if_pos (by rw [lrow]; omega)]; rfl
  ·have := xp (v := v) hrow hx
   have := nn row (List.mem_of_getElem? hrow) x (List.mem_of_getElem? hx)
   omega
 ·rintro δ β' ⟨s6, okA, rows, l, s7, rfl, sh, nn, hl, ht⟩
  exact aL (bn rfl ⟨rows, r, c, rfl, ⟨sh, nn, by omega, by omega, by omega, by omega, by omega⟩, okA⟩)
end
section
variable {K : Frag} {a : Ad} {β : Bg}
theorem gJ {r c : Nat} {rows : LI} (h : Shp r c rows) : (gI rows).length = r := by rw [List.length_map, h.1]
theorem oH {α : Type} {u : α -> D} {d0 : α} {r c : Nat} {rows : List (List α)} (sh : Shp r c rows) (r0 : 1 <= r) (r1 : r <= 30) (c1 : c <= 30) {δ : Dn} (hδ : δ.getD 0 none = some (lG (rows.map fun row => row.map u))) : aM 1 [0] (bA dA (ac (ai aY (ac (f2 ixD (ad 0) (fC (.int 0))) (ah))) (ah))) (tgC 0) (fun _ => M.ret true) (cEm (aM 1 [0] (bc (ad 1)) (tgC 0) (fun _ => M.ret true) (cEm (f2 ixD (ad 0) (ad 1))))) δ β = some (.ok (lG ((tpA d0 c rows).map fun row => row.map u)), β) := by
 obtain ⟨row0, hrow0, lrow0⟩ := sh.at (i := 0) (by omega)
 have hr0 : (rows.map fun row => row.map u)[0]? = some (row0.map u) := by rw [List.getElem?_map, hrow0]; rfl
 have el : ai aY (ac (f2 ixD (ad 0) (fC (.int 0))) (ah)) δ β = some (.ok (.int (c : Int)), β) := aJ (aj (x := .lst (row0.map u)) (x_2 (gi hδ) rfl (gp hr0)) rfl) (dR (by rw [List.length_map, lrow0]))
 have e := bS (nv := 1) (caps := [0]) (it := bA dA (ac (ai aY (ac (f2 ixD (ad 0) (fC (.int 0))) (ah))) (ah))) (tg := tgC 0) (f := aM 1 [0] (bc (ad 1)) (tgC 0) (fun _ => M.ret true) (cEm (f2 ixD (ad 0) (ad 1)))) (δ := δ) (β := β) (List.range c) (fun i => D.int (0 + (i : Int))) (fun j => D.lst (rows.map fun row => u (row.getD j d0))) (fu (ds := dh 0 c) (aj el rfl) (rg1 (by omega) (by omega))) ?_ (bw (by rw [List.length_range]; omega))
 ·rw [e]
  unfold tpA
  show _ = some (Except.ok (D.lst (List.map D.lst (List.map _ (List.map _ _)))), β)
  rw [List.map_map, List.map_map]
  congr 4
  refine List.map_congr_left fun j _ => ?_
  show _ = D.lst ((rows.map fun row => row.getD j d0).map u)
  rw [List.map_map]; rfl
 ·intro j hj
  have hjc := List.mem_range.mp hj
  have hcs : cSt 1 [0] δ = [none, some (lG (rows.map fun row => row.map u))] := by
   unfold cSt
   simp only [List.map_cons, List.map_nil, hδ]; rfl
  refine ⟨[some (.int (0 + (j : Int))), some (lG (rows.map fun row => row.map u))], by rw [hcs]; rfl, ?_⟩
  refine bS (nv := 1) (caps := [0]) rows (fun row => D.lst (row.map u)) _ (by show some (Except.ok ((rows.map fun row => row.map u).map D.lst), β) = _; rw [List.map_map]; rfl) (fun row hr => ⟨_, rfl, x_2 (x := .lst (row.map u)) (y := .int (0 + (j : Int))) rfl rfl ?_⟩) (bw (by rw [sh.1]; omega))
  have hl := sh.2 row hr
  obtain ⟨x, hx⟩ := xa (l := row) (i := j) (by omega)
  rw [Int.zero_add]
  refine xT ?_
  rw [List.getElem?_map, hx, List.getD_eq_getElem?_getD, hx]; rfl
theorem gQ {r c : Nat} {rows : LI} (sh : Shp r c rows) (r0 : 1 <= r) (r1 : r <= 30) (c1 : c <= 30) : m_rows_turned K a [aK rows] β = some (.ok (aK (tp c rows)), β) :=
 bb (aL (bn (oH sh r0 r1 c1 rfl) ⟨rfl, rfl⟩))
theorem rY {r c : Nat} {rows : LI} (sh : Shp r c rows) (r0 : 1 <= r) (r1 : r <= 30) (c1 : c <= 30) : m_l_turned K a [aK rows] β = some (.ok (aK (tp c rows)), β) :=
 bb (aL (bn (oH sh r0 r1 c1 rfl) ⟨rfl, rfl⟩))
theorem eS {r c : Nat} {b : LP} (sh : Shp r c b) (r0 : 1 <= r) (r1 : r <= 30) (c1 : c <= 30) : m_rows_turned K a [aF b] β = some (.ok (aF (tpB c b)), β) :=
 bb (aL (bn (oH sh r0 r1 c1 rfl) ⟨rfl, rfl⟩))
theorem lturnedB_ok {r c : Nat} {b : LP} (sh : Shp r c b) (r0 : 1 <= r) (r1 : r <= 30) (c1 : c <= 30) : m_l_turned K a [aF b] β = some (.ok (aF (tpB c b)), β) :=
 bb (aL (bn (oH sh r0 r1 c1 rfl) ⟨rfl, rfl⟩))
theorem j4 {rows : List (List D)} (h : rows.length <= 1000) : m_l_copied K a [lG rows] β = some (.ok (lG rows), β) :=
 bb (aL (bn (bS rows D.lst D.lst rfl (fun x _ => ⟨_, rfl, rfl⟩) (bw h)) ⟨rfl, rfl⟩))
theorem sA {rows : List (List D)} (h : rows.length <= 1000) : fP K a [lG rows] β = some (.ok rows, β) := by
 have e := j6 (nv := 1) (caps := []) (it := bc (ad 0)) (tg := tgC 0) (f := oK lY (ac (ad 0) (ah))) (δ := [some (lG rows)]) (β := β) rows D.lst (fun x => x) rfl (fun x _ => ⟨_, rfl, rfl⟩) (bw h)
 rw [List.map_id'] at e
 exact q8 (aL (qj e ⟨rfl, rfl⟩))
theorem tW {r c : Nat} (hr : r <= 1000) (hc : c <= 1000) : gX K a [.int (r : Int), .int (c : Int)] β = some (.ok (gP (kA r c)), β) := by
 have h2 : ∀ x : Nat, cV 1 [] (bA dA (ac (ad 1) (ah))) (tgC 0) (fun _ => M.ret true) (cEm (ai bz (ac (fC (.int 0)) (ac (fC (.int 40)) (ah))))) [some (.int (0 + (x : Int))), some (.int (c : Int))] β = some (.ok ((List.replicate c ((0 : Int), (40 : Int))).map pD), β) := fun x => by
  have h := j5 (nv := 1) (caps := []) (it := bA dA (ac (ad 1) (ah))) (tg := tgC 0) (f := ai bz (ac (fC (.int 0)) (ac (fC (.int 40)) (ah)))) (δ := [some (.int (0 + (x : Int))), some (.int (c : Int))]) (β := β) (List.range c) (fun i => D.int (0 + (i : Int))) (fun _ => pD (0, 40))
   (fu rfl (rg1 (by omega) (by omega))) (fun x _ => ⟨_, rfl, aJ rfl kT⟩) (bw (by rw [List.length_range]; omega))
  rw [gY] at h
  rw [List.map_replicate]
  exact h
 have h := j6 (nv := 1) (caps := [1]) (it := bA dA (ac (ad 0) (ah))) (tg := tgC 0) (f := cV 1 [] (bA dA (ac (ad 1) (ah))) (tgC 0) (fun _ => M.ret true) (cEm (ai bz (ac (fC (.int 0)) (ac (fC (.int 40)) (ah)))))) (δ := [some (.int (r : Int)), some (.int (c : Int))]) (β := β) (List.range r) (fun i => D.int (0 + (i : Int))) (fun _ => (List.replicate c ((0 : Int), (40 : Int))).map pD)
  (fu rfl (rg1 (by omega) (by omega))) (fun x _ => ⟨_, rfl, h2 x⟩) (bw (by rw [List.length_range]; omega))
 rw [gY] at h
 refine q8 (aL (qj h ⟨rfl, ?_⟩))
 show gP (kA r c) = _
 show List.map _ _ = _
 rw [List.map_replicate]
theorem qy {rows : LI} (hl : rows.length <= 30) (hw : ∀ row ∈ rows, row.length <= 30) : m_check_rows K a [aK rows] β = some (if iQ rows = true then .ok .non else .error a.C_BadTable, β) := by
 refine bb ?_
 unfold gG
 have hm : (gI rows).map D.lst = rows.map fun row => D.lst (row.map D.int) := by rw [List.map_map]; rfl
 refine dI (c := !(decide ((1 : Int) <= (rows.length : Int)) && decide ((rows.length : Int) <= 4))) (β1 := β) (gj (x_B (mv rfl (aJ rfl (e9 (r := rows.length) (by rw [List.length_map]))) rfl))) ?_
 cases q1 : (decide ((1 : Int) <= (rows.length : Int)) && decide ((rows.length : Int) <= 4)) with
 | false =>
  rw [Bool.not_false, if_pos rfl]
  refine eK (aj (ik (gw rfl (by decide) (by decide) (gw (aJ rfl (e9 (r := rows.length) (by rw [List.length_map]))) (by omega) (by omega) rfl))) rfl) ⟨rfl, ?_⟩
  rw [if_neg]
  intro z
  have t := fW z
  have := t.r0
  have := t.r1
  simp only [Bool.and_eq_false_iff, decide_eq_false_iff_not] at q1
  omega
 | true =>
 rw [Bool.not_true, if_neg Bool.false_ne_true]
 refine br ?_
 simp only [Bool.and_eq_true, decide_eq_true_eq] at q1
 obtain ⟨row0, rest, rfl⟩ : ∃ x xs, rows = x :: xs := by
  cases rows with
  | nil => simp at q1
  | cons x xs => exact ⟨x, xs, rfl⟩
 have hw0 := hw row0 List.mem_cons_self
 refine bq (d := .int (row0.length : Int)) (β1 := β) (aJ (aj (x := .lst (row0.map D.int)) (x_2 rfl rfl ix0) rfl) (dR (by rw [List.length_map]))) ?_
 refine dI (c := !(decide ((1 : Int) <= (row0.length : Int)) && decide ((row0.length : Int) <= 6))) (β1 := β) (gj (x_B (mv rfl rfl rfl))) ?_
 cases q2 : (decide ((1 : Int) <= (row0.length : Int)) && decide ((row0.length : Int) <= 6)) with
 | false =>
  rw [Bool.not_false, if_pos rfl]
  refine eK (aj (ik (gw rfl (by decide) (by decide) (gw rfl (by omega) (by omega) rfl))) rfl) ⟨rfl, ?_⟩
  rw [if_neg]
  intro z
  have t := fW z
  have c0 := t.c0
  have c1 := t.c1
  simp only [List.headD_cons] at c0 c1
  simp only [Bool.and_eq_false_iff, decide_eq_false_iff_not] at q2
  omega
 | true =>
 rw [Bool.not_true, if_neg Bool.false_ne_true]
 refine br ?_
 simp only [Bool.and_eq_true, decide_eq_true_eq] at q2
 have e1 : aM 1 [1] (bc (ad 0)) (tgC 0) (fun _ => M.ret true) (cEm (f2 (cx) (ai aY (ac (ad 0) (ah))) (ad 1))) [some (aK (row0 :: rest)), some (.int (row0.length : Int))] β = some (.ok (.lst ((row0 :: rest).map fun row => D.bl (!decide ((row.length : Int) = (row0.length : Int))))), β) :=
  bS (nv := 1) (caps := [1]) (row0 :: rest) (fun row => D.lst (row.map D.int)) _ (by show some (Except.ok ((gI (row0 :: rest)).map D.lst), β) = _; rw [hm]) (fun row _ => ⟨_, rfl, x_2 (aJ rfl (dR (r := row.length) (by rw [List.length_map]))) rfl ne_int⟩) (bw (by omega))
 refine dI (c := (row0 :: rest).any fun row => !decide ((row.length : Int) = (row0.length : Int))) (β1 := β) (cJ (aJ (aj e1 rfl) (any_map _ _)) rfl) ?_
 cases q3 : ((row0 :: rest).any fun row => !decide ((row.length : Int) = (row0.length : Int))) with
 | true =>
  rw [if_pos rfl]
  refine eK rfl ⟨rfl, ?_⟩
  rw [if_neg]
  intro z
  have t := (fW z).shp
  rw [List.any_eq_true] at q3
  obtain ⟨row, hr, q⟩ := q3
  have := t.2 row hr
  simp only [List.headD_cons] at this
  simp [this] at q
 | false =>
 rw [if_neg Bool.false_ne_true]
 refine br ?_
 have e2 : aM 2 [] (bc (ad 0)) (tgC 0) (fun _ => M.ret true) (cNx (bc (ad 0)) (tgC 1) (fun _ => M.ret true) (cEm (f2 (ltD) (ad 1) (fC (.int 0))))) [some (aK (row0 :: rest)), some (.int (row0.length : Int))] β = some (.ok (.lst ((row0 :: rest).flatMap fun row => row.map fun x => D.bl (decide (x < 0)))), β) := by
  refine qZ (nv := 2) (caps := []) (row0 :: rest) (fun row => D.lst (row.map D.int)) _ (by show some (Except.ok ((gI (row0 :: rest)).map D.lst), β) = _; rw [hm]) (fun row _ => ⟨_, rfl, tK row D.int _ rfl (fun x _ => ⟨_, rfl, rfl⟩)⟩) (bw ?_)
  have := pQ (f := fun row : List Int => row.map fun x => D.bl (decide (x < 0))) (n := 30) (l := row0 :: rest) fun x hx => by rw [List.length_map]; exact hw x hx
  omega
 refine dI (c := (row0 :: rest).any fun row => row.any fun x => decide (x < 0)) (β1 := β) (cJ (aJ (aj e2 rfl) (Au _ _ _)) rfl) ?_
 cases q4 : ((row0 :: rest).any fun row => row.any fun x => decide (x < 0)) with
 | true =>
  rw [if_pos rfl]
  refine eK rfl ⟨rfl, ?_⟩
  rw [if_neg]
  intro z
  have t := (fW z).nn
  simp only [List.any_eq_true, decide_eq_true_eq] at q4
  obtain ⟨row, hr, x, hx, q⟩ := q4
  have := t row hr x hx
  omega
 | false =>
 rw [if_neg Bool.false_ne_true]
 refine br (aL ?_)
 have e3 : aM 1 [] (bc (ad 0)) (tgC 0) (fun _ => M.ret true) (cEm (ai km (ac (ad 0) (ah)))) [some (aK (row0 :: rest)), some (.int (row0.length : Int))] β = some (.ok (.lst ((row0 :: rest).map fun row => D.int row.sum)), β) :=
  bS (nv := 1) (caps := []) (row0 :: rest) (fun row => D.lst (row.map D.int)) _ (by show some (Except.ok ((gI (row0 :: rest)).map D.lst), β) = _; rw [hm]) (fun row _ => ⟨_, rfl, aJ rfl (qp row)⟩) (bw (by omega))
 have e4 : km [.lst ((row0 :: rest).map fun row => D.int row.sum)] = some (.int (tot (row0 :: rest))) := by
  have := qp ((row0 :: rest).map List.sum)
  rw [List.map_map] at this
  exact this
 refine dI (c := decide (40 < tot (row0 :: rest))) (β1 := β) (x_B (x_2 (aJ (aj e3 rfl) e4) rfl gt_int)) ?_
 by_cases q5 : 40 < tot (row0 :: rest)
 ·rw [if_pos (by simpa using q5)]
  refine eK (aj (ik (gw rfl (by decide) (by decide) rfl)) rfl) ⟨rfl, ?_⟩
  rw [if_neg]
  intro z
  have t := (fW z).tot
  omega
 ·rw [if_neg (by simpa using q5)]
  refine br (eh ⟨rfl, ?_⟩)
  rw [if_pos]
  refine jy (r := (row0 :: rest).length) (c := row0.length) ⟨⟨rfl, fun row hr => ?_⟩, fun row hr x hx => ?_, by omega, by omega, by omega, by omega, by omega⟩
  ·rw [List.any_eq_false] at q3
   have := q3 row hr
   simp only [Bool.not_eq_true', decide_eq_false_iff_not, Decidable.not_not] at this
   omega
  ·rw [List.any_eq_false] at q4
   have h := q4 row hr
   simp only [List.any_eq_true, decide_eq_true_eq, not_exists, not_and] at h
   have := h x hx
   omega
theorem uZ {p q : Int × Int} : m_pair_joined K a [pD p, pD q] β = some (.ok (pD (pj p q)), β) := by
 refine bb ?_
 unfold gc
 exact aL (bn (aJ (aj (x_2 (x_2 rfl rfl sk) (x_2 rfl rfl sk) rfl) (aj (aJ (aj (x_2 (x_2 rfl rfl pN) (x_2 rfl rfl pN) rfl) (aj rfl rfl)) vg) rfl)) kT) ⟨rfl, rfl⟩)
theorem tN {p q : Int × Int} : m_l_pairs K a [pD p, pD q] β = some (.ok (pD (pj p q)), β) := by
 refine bb ?_
 unfold jT
 refine aL (bn (aJ (aj (x_2 (x_2 rfl rfl sk) (x_2 rfl rfl sk) rfl) (aj (aJ (aj rfl (aj (x_2 (x_2 rfl rfl pN) (x_2 rfl rfl pN) rfl) rfl)) vg) rfl)) kT) ⟨rfl, ?_⟩)
 unfold pj pD
 rw [Int.min_comm]
theorem kv {b : LP} {i : Nat} {x : List (Int × Int)} (h : b[i]? = some x) : ixD (aF b) (.int (i : Int)) = some (.lst (x.map pD)) := gp (by rw [List.getElem?_map, h]; rfl)
theorem nP (x y : List (Int × Int)) : (x.zip y).map (fun z => pD (pj z.1 z.2)) = (em x y).map pD := by
 unfold em
 rw [List.map_map]; rfl
theorem qR {b : LP} {i j : Nat} {x y : List (Int × Int)} (hx : b[i]? = some x) (hy : b[j]? = some y) : ((gP b).set i ((em x y).map pD)).eraseIdx j = gP (cN b i j) := by
 unfold cN
 rw [ck hx, ck hy]
 show _ = List.map _ _
 rw [cn, List.map_set]
theorem lf {n k : Nat} (h : k < n) : ixN n (k : Int) = some k := fY (by omega) (by omega)
theorem wV {b : LP} (h : b.length <= 1000) {δ : Dn} (hδ : δ.getD 0 none = some (aF b)) : cV 1 [] (bc (ad 0)) (tgC 0) (fun _ => M.ret true) (cEm (ai eA (ac (ad 0) (ah)))) δ β = some (.ok ((gP b).map D.lst), β) :=
 j5 (nv := 1) (caps := []) (gP b) D.lst D.lst (jv (gi hδ) rfl) (fun x _ => ⟨_, rfl, rfl⟩) (bw (by rw [List.length_map]; exact h))
theorem pk {n m i j : Nat} {b : LP} (sh : Shp n m b) (n1 : n <= 30) (m1 : m <= 30) (hi : i < n) (hj : j < n) : m_rows_joined K a [aF b, .int (i : Int), .int (j : Int)] β = some (.ok (aF (cN b i j)), β) := by
 obtain ⟨x, hx, lx⟩ := sh.at hi
 obtain ⟨y, hy, ly⟩ := sh.at hj
 have lb := sh.1
 refine bb ?_
 unfold gb
 refine oX (ds := (gP b).map D.lst) (β1 := β) (wV (by omega) rfl) ?_
 have e := bS (nv := 2) (caps := []) (it := cU (ac (f2 ixD (ad 0) (ad 1)) (ac (f2 ixD (ad 0) (ad 2)) (ah)))) (tg := tgT (bp (tgC 0) (bp (tgC 1) cR))) (f := au (m_pair_joined K a) (ac (ad 0) (ac (ad 1) (ah)))) (δ := [some (aF b), some (.int (i : Int)), some (.int (j : Int)), none]) (β := β) (x.zip y) (fun z => D.tup [pD z.1, pD z.2]) (fun z => pD (pj z.1 z.2)) (ke (u := pD) (v := pD) (x_2 rfl rfl (kv hx)) (x_2 rfl rfl (kv hy))) (fun z _ => ⟨[some (pD z.1), some (pD z.2)], rfl, aw rfl uZ⟩) (bw (by rw [List.length_zip]; omega))
 rw [nP] at e
 refine sO (d := .lst ((em x y).map pD)) (β1 := β) (β2 := β) (cs := (gP b).map D.lst) (ka := (i : Int)) (ja := i) e rfl rfl (lf (by rw [List.length_map, List.length_map, lb]; exact hi)) ?_
 refine wI (β1 := β) (cs := ((gP b).map D.lst).set i (.lst ((em x y).map pD))) (k := (j : Int)) (j := j) rfl rfl (lf (by rw [List.length_set, List.length_map, List.length_map, lb]; exact hj)) ?_
 refine aL (bn rfl ⟨rfl, ?_⟩)
 show Except.ok (D.lst ((gP (cN b i j)).map D.lst)) = _
 rw [← qR hx hy, cn, List.map_set]
theorem tR {n m i j : Nat} {b : LP} (sh : Shp n m b) (n1 : n <= 30) (m1 : m <= 30) (hi : i < n) (hj : j < n) : m_l_bounds_joined K a [aF b, .int (i : Int), .int (j : Int)] β = some (.ok (aF (cN b i j)), β) := by
 obtain ⟨x, hx, lx⟩ := sh.at hi
 obtain ⟨y, hy, ly⟩ := sh.at hj
 have lb := sh.1
 refine bb ?_
 unfold d7
 refine rk (rows := gP b) (β1 := β) (qi rfl (sA (by rw [List.length_map]; omega))) (pI _) ?_
 refine AD (ds := (em x y).map pD) (rows := gP b) (ka := i) (ja := i) (β1 := β) (β2 := β) ?_ rfl rfl (lf (by rw [List.length_map, lb]; exact hi)) (iT _) (pI _) ?_
 ·rw [← nP]
  exact j5 (nv := 2) (caps := []) (x.zip y) (fun z => D.tup [pD z.1, pD z.2]) (fun z => pD (pj z.1 z.2)) (ke (u := pD) (v := pD) (x_2 rfl rfl (kv hx)) (x_2 rfl rfl (kv hy))) (fun z _ => ⟨[some (pD z.1), some (pD z.2)], rfl, aw rfl tN⟩) (bw (by rw [List.length_zip]; omega))
 refine aL (bn (d := aF (cN b i j)) (β1 := β) ?_ ⟨rfl, rfl⟩)
 have hlen : (((gP b).set i ((em x y).map pD)).map D.lst).length = n := by rw [List.length_map, List.length_set, List.length_map, lb]
 refine x_2 (β1 := β) (mt (xs := ((gP b).set i ((em x y).map pD)).map D.lst) (k := (j : Int)) rfl rfl) (ju (xs := ((gP b).set i ((em x y).map pD)).map D.lst) (k := ((j + 1 : Nat) : Int)) rfl rfl) ?_
 rw [j0, jc, iI (by rw [List.length_take, List.length_drop, hlen]; omega), ← List.eraseIdx_eq_take_drop_succ]
 show _ = some (D.lst ((gP (cN b i j)).map D.lst))
 rw [← qR hx hy, cn]
theorem vn {x y : D} : dD [x, y] = some (.lst [x, y]) := by
 unfold dD
 rw [if_pos (bw (by show 2 <= 1000; decide))]
theorem qQ {b : LP} {i : Nat} {x : List (Int × Int)} (hx : b[i]? = some x) : aF (cL b i) = .lst (((gP b).map D.lst).take i ++ [.lst ((loose x).map pD), .lst ((loose x).map pD)] ++ ((gP b).map D.lst).drop (i + 1)) := by
 unfold cL
 rw [ck hx]
 show D.lst ((List.map _ _).map D.lst) = _
 rw [List.map_append, List.map_append, List.map_append, List.map_append, List.map_take, List.map_take, List.map_drop, List.map_drop]
 rfl
theorem pi {n m i : Nat} {b : LP} (sh : Shp n m b) (n1 : n <= 30) (m1 : m <= 30) (hi : i < n) : m_row_parted K a [aF b, .int (i : Int)] β = some (.ok (aF (cL b i)), β) := by
 obtain ⟨x, hx, lx⟩ := sh.at hi
 have lb := sh.1
 have lg : ((gP b).map D.lst).length = n := by rw [List.length_map, List.length_map, lb]
 refine bb ?_
 unfold gE
 refine oX (ds := (gP b).map D.lst) (β1 := β) (wV (by omega) rfl) ?_
 refine bq (d := .lst ((loose x).map pD)) (β1 := β) ?_ ?_
 ·have e := bS (nv := 2) (caps := []) (it := bc (f2 ixD (ad 0) (ad 1))) (tg := tgT (bp (tgC 0) (bp (tgC 1) cR))) (f := ai bz (ac (fC (.int 0)) (ac (ad 1) (ah)))) (δ := vw [some (.sh (aF b)), some (.sh (.int (i : Int))), some (.own ((gP b).map D.lst)), none]) (β := β) x pD (fun p => pD (0, p.2)) (jv (x_2 rfl rfl (kv hx)) rfl) (fun p _ => ⟨[some (.int p.1), some (.int p.2)], rfl, aJ rfl kT⟩) (bw (by omega))
  refine e.trans ?_
  unfold loose
  rw [List.map_map]; rfl
 refine AC (ys := [.lst ((loose x).map pD), .lst ((loose x).map pD)]) (ds := (gP b).map D.lst) (a := (i : Int)) (b := ((i + 1 : Nat) : Int)) (β1 := β) (β2 := β) (β3 := β) (aJ (aj rfl (aj (aJ rfl rfl) rfl)) vn) rfl (x_2 rfl rfl rfl) rfl (by rw [lg]; simp only [List.length_cons, List.length_nil]; omega) ?_
 refine aL (bn rfl ⟨rfl, ?_⟩)
 rw [qQ hx]
 show _ = Except.ok (D.lst (nl _ _ _ _))
 unfold nl
 rw [HT.sIx_nat, HT.sIx_nat, lg, show min i n = i by omega, show max i (min (i + 1) n) = i + 1 by omega]
theorem tM {n m i : Nat} {b : LP} (sh : Shp n m b) (n1 : n <= 30) (m1 : m <= 30) (hi : i < n) : m_l_bounds_parted K a [aF b, .int (i : Int)] β = some (.ok (aF (cL b i)), β) := by
 obtain ⟨x, hx, lx⟩ := sh.at hi
 have lb := sh.1
 have lg : ((gP b).map D.lst).length = n := by rw [List.length_map, List.length_map, lb]
 refine bb ?_
 unfold d6
 refine bq (d := aF b) (β1 := β) (aw rfl (j4 (by rw [List.length_map]; omega))) ?_
 refine bq (d := .lst ((loose x).map pD)) (β1 := β) ?_ ?_
 ·have e := bS (nv := 1) (caps := []) (it := bc (f2 ixD (ad 0) (ad 1))) (tg := tgC 0) (f := ai bz (ac (fC (.int 0)) (ac (f2 ixD (ad 0) (fC (.int 1))) (ah)))) (δ := vw [some (.sh (aF b)), some (.sh (.int (i : Int))), some (.sh (aF b)), none]) (β := β) x pD (fun p => pD (0, p.2)) (jv (x_2 rfl rfl (kv hx)) rfl) (fun p _ => ⟨[some (pD p)], rfl, aJ (aj rfl (aj (x_2 rfl rfl pN) rfl)) kT⟩) (bw (by omega))
  refine e.trans ?_
  unfold loose
  rw [List.map_map]; rfl
 refine aL (bn (d := aF (cL b i)) (β1 := β) ?_ ⟨rfl, rfl⟩)
 rw [qQ hx, ← j0, ← jc]
 refine x_2 (x_2 (mt (xs := (gP b).map D.lst) (k := (i : Int)) rfl rfl) (aJ (aj rfl (aj (aJ rfl rfl) rfl)) vn) (iI ?_)) (ju (xs := (gP b).map D.lst) (k := ((i + 1 : Nat) : Int)) rfl (x_2 rfl rfl rfl)) (iI ?_)
 ·rw [j0, List.length_take, lg]; simp only [List.length_cons, List.length_nil]; omega
 ·rw [j0, jc, List.length_append, List.length_take, List.length_drop, lg]; simp only [List.length_cons, List.length_nil]; omega
theorem bjoin_row {n m i j : Nat} {b : LP} (sh : Shp n m b) (n1 : n <= 30) (m1 : m <= 30) (hi : i < n) (hj : j < n) : m_bounds_joined K a [aF b, .int (i : Int), .int (j : Int), .bl true] β = some (.ok (aF (cN b i j)), β) := by
 refine bb ?_
 unfold dG
 exact oF (cJ (x := .bl true) rfl rfl) (bn (aw rfl (pk sh n1 m1 hi hj)) ⟨rfl, rfl⟩)
theorem uD {n m i j : Nat} {b : LP} (sh : Shp n m b) (n0 : 1 <= n) (n1 : n <= 30) (m1 : m <= 30) (m2 : 2 <= m) (hi : i < m) (hj : j < m) (sj : Shp (m - 1) n (cN (tpB m b) i j)) : m_bounds_joined K a [aF b, .int (i : Int), .int (j : Int), .bl false] β = some (.ok (aF (tpB n (cN (tpB m b) i j))), β) := by
 refine bb ?_
 unfold dG
 have s1 : Shp m n (tpB m b) := gs sh.1
 exact eQ (cJ (x := .bl false) rfl rfl) (br (aL (bn (aw (aj (aw (aj (aw rfl (eS sh n0 n1 m1)) rfl) (pk s1 m1 n1 hi hj)) rfl) (eS sj (by omega) (by omega) n1)) ⟨rfl, rfl⟩)))
theorem uB {n m i : Nat} {b : LP} (sh : Shp n m b) (n1 : n <= 30) (m1 : m <= 30) (hi : i < n) : m_bounds_parted K a [aF b, .int (i : Int), .bl true] β = some (.ok (aF (cL b i)), β) := by
 refine bb ?_
 unfold dF
 exact oF (cJ (x := .bl true) rfl rfl) (bn (aw rfl (pi sh n1 m1 hi)) ⟨rfl, rfl⟩)
theorem uC {n m i : Nat} {b : LP} (sh : Shp n m b) (n0 : 1 <= n) (n1 : n <= 30) (m1 : m <= 29) (hi : i < m) (sp : Shp (m + 1) n (cL (tpB m b) i)) : m_bounds_parted K a [aF b, .int (i : Int), .bl false] β = some (.ok (aF (tpB n (cL (tpB m b) i))), β) := by
 refine bb ?_
 unfold dF
 have s1 : Shp m n (tpB m b) := gs sh.1
 exact eQ (cJ (x := .bl false) rfl rfl) (br (aL (bn (aw (aj (aw (aj (aw rfl (eS sh n0 n1 (by omega))) rfl) (pi s1 (by omega) n1 hi)) rfl) (eS sp (by omega) (by omega) n1)) ⟨rfl, rfl⟩)))
def PB (b : LP) : Prop := ∀ row ∈ b, ∀ p ∈ row, -1000 <= p.1 /\ p.1 <= 1000 /\ -1000 <= p.2 /\ p.2 <= 1000
theorem Bnd.pb {r c : Nat} {b : LP} (h : Bnd r c b) : PB b := fun row hr p hp => by
 obtain ⟨h1, h2, h3⟩ := h.ok row hr p hp
 omega
theorem xI {p : Int × Int} (hp : -1000 <= p.1 /\ p.1 <= 1000 /\ -1000 <= p.2 /\ p.2 <= 1000) : m_check_pair K a [pD p] β = some (if pairB p = true then .ok .non else .error a.C_BadBounds, β) := by
 refine bb ?_
 unfold gH
 refine AE (d := pD p) (β1 := β) rfl rfl (aL ?_)
 refine dI (c := !(decide (0 <= p.1) && decide (p.1 <= p.2) && decide (p.2 <= 40))) (β1 := β) (gj (x_B (uI rfl rfl rfl rfl))) ?_
 have hq : pairB p = (decide (0 <= p.1) && decide (p.1 <= p.2) && decide (p.2 <= 40)) := rfl
 rw [← hq]
 cases pairB p with
 | true =>
  exact br (eh ⟨rfl, rfl⟩)
 | false =>
  exact eK (aj (ik (gw rfl (by omega) (by omega) (gw rfl (by omega) (by omega) rfl))) rfl) ⟨rfl, rfl⟩
theorem rD {r c : Nat} {b : LP} (hr : r <= 1000) (hc : c <= 1000) (hl : b.length <= 1000) (hp : PB b) : m_settled_bounds K a [aF b, .int (r : Int), .int (c : Int)] β = some (if ky b r c = true then .ok (aF b) else .error a.C_BadBounds, β) := by
 refine bb ?_
 unfold eF
 refine eQ (β1 := β) (x_B (x_2 rfl rfl rfl)) (br ?_)
 have e1 : aM 1 [2] (bc (ad 0)) (tgC 0) (fun _ => M.ret true) (cEm (f2 (cx) (ai aY (ac (ad 0) (ah))) (ad 1))) [some (aF b), some (.int (r : Int)), some (.int (c : Int)), none, none] β = some (.ok (.lst (b.map fun row => D.bl (!decide ((row.length : Int) = (c : Int))))), β) :=
  bS (nv := 1) (caps := [2]) b (fun row => D.lst (row.map pD)) _ (by show some _ = _; rw [List.map_map]; rfl) (fun row _ => ⟨_, rfl, x_2 (aJ rfl (dR (r := row.length) (by rw [List.length_map]))) rfl ne_int⟩) (bw hl)
 refine dI (c := (!decide ((b.length : Int) = (r : Int))) || b.any fun row => !decide ((row.length : Int) = (c : Int))) (β1 := β) (Az (x_B (x_2 (aJ rfl (e9 (r := b.length) (by rw [List.length_map]))) rfl ne_int)) (cJ (aJ (aj e1 rfl) (any_map b _)) rfl)) ?_
 have shb : ((!decide ((b.length : Int) = (r : Int))) || b.any fun row => !decide ((row.length : Int) = (c : Int))) = false ↔ Shp r c b := by
  simp only [Bool.or_eq_false_iff, Bool.not_eq_false', decide_eq_true_eq, List.any_eq_false, Bool.not_eq_true', decide_eq_false_iff_not, Decidable.not_not]
  exact ⟨fun ⟨h1, h2⟩ => ⟨by omega, fun row hr => by have := h2 row hr; omega⟩, fun ⟨h1, h2⟩ => ⟨by omega, fun row hr => by have := h2 row hr; omega⟩⟩
 cases q : ((!decide ((b.length : Int) = (r : Int))) || b.any fun row => !decide ((row.length : Int) = (c : Int))) with
 | true =>
  rw [if_pos rfl]
  refine eK (aj (ik (gw rfl (by omega) (by omega) (gw rfl (by omega) (by omega) rfl))) rfl) ⟨rfl, ?_⟩
  rw [if_neg]
  intro z
  rw [shb.mpr (g9.mp z).shp] at q; cases q
 | false =>
  rw [if_neg Bool.false_ne_true]
  have sh := shb.mp q
  refine br ?_
  refine kf (ds := (gP b).map D.lst) (β1 := β) rfl (fun i δ β' => β = β' /\ (∃ s3 s4, δ = [some (.sh (aF b)), some (.sh (.int (r : Int))), some (.sh (.int (c : Int))), s3, s4]) /\ ∀ k < i, ∀ row, b[k]? = some row -> row.all pairB = true) ⟨rfl, ⟨none, none, rfl⟩, fun k hk => by omega⟩ ?_ ?_
  ·rintro i d δ _ hd ⟨rfl, ⟨s3, s4, rfl⟩, hk⟩
   obtain ⟨y, hy, rfl⟩ := dj hd
   obtain ⟨row, hrow, rfl⟩ := dj hy
   have hrm := List.mem_of_getElem? hrow
   refine ⟨_, rfl, aL ?_⟩
   refine kf (ds := row.map pD) (β1 := β) rfl (fun j δ β' => β = β' /\ (∃ s4, δ = [some (.sh (aF b)), some (.sh (.int (r : Int))), some (.sh (.int (c : Int))), some (.sh (.lst (row.map pD))), s4]) /\ ∀ k < j, ∀ p, row[k]? = some p -> pairB p = true) ⟨rfl, ⟨s4, rfl⟩, fun k hk => by omega⟩ ?_ ?_
   ·rintro j d δ _ hd ⟨rfl, ⟨s4, rfl⟩, hk2⟩
    obtain ⟨p, hpp, rfl⟩ := dj hd
    have hpm := List.mem_of_getElem? hpp
    have hc := xI (K := K) (a := a) (β := β) (hp row hrm p hpm)
    refine ⟨_, rfl, aL ?_⟩
    cases z : pairB p with
    | true =>
     rw [z, if_pos rfl] at hc
     refine jw (aw rfl hc) (eh ⟨rfl, ⟨_, rfl⟩, fun k hk3 p' hp' => ?_⟩)
     by_cases w : k = j
     ·subst w
      rw [hpp] at hp'; cases hp'
      exact z
     ·exact hk2 k (by omega) p' hp'
    | false =>
     rw [z, if_neg Bool.false_ne_true] at hc
     refine xg (aw rfl hc) ⟨rfl, ?_⟩
     rw [if_neg]
     intro w
     have := jJ.mpr ((g9.mp w).ok row hrm p hpm)
     rw [z] at this; cases this
   ·rintro δ _ ⟨rfl, ⟨s4, rfl⟩, hk2⟩
    rw [List.length_map] at hk2
    refine eh ⟨rfl, ⟨_, _, rfl⟩, fun k hk3 row' hr' => ?_⟩
    by_cases z : k = i
    ·subst z
     rw [hrow] at hr'; cases hr'
     rw [List.all_eq_true]
     intro p hp
     obtain ⟨k, hk4, e⟩ := List.getElem_of_mem hp
     exact hk2 k hk4 p (List.getElem?_eq_some_iff.mpr ⟨hk4, e⟩)
    ·exact hk k (by omega) row' hr'
  ·rintro δ _ ⟨rfl, ⟨s3, s4, rfl⟩, hk⟩
   rw [List.length_map, List.length_map] at hk
   have good : ky b r c = true := g9.mpr ⟨sh, fun row hr p hp => by
    obtain ⟨k, hk4, e⟩ := List.getElem_of_mem hr
    have := hk k hk4 row (List.getElem?_eq_some_iff.mpr ⟨hk4, e⟩)
    rw [List.all_eq_true] at this
    exact jJ.mp (this p hp)⟩
   refine aL (bn (bS (nv := 1) (caps := []) (gP b) D.lst D.lst rfl (fun x _ => ⟨_, rfl, rfl⟩) (bw (by rw [List.length_map]; exact hl))) ⟨rfl, ?_⟩)
   rw [if_pos good]
theorem vx {r c : Nat} {rows : LI} {b : LP} (t : Tab r c rows) (hl : b.length <= 30) (hp : PB b) : m_keeps K a [aK rows, aF b] β = some (if ky b r c = true then .ok (.bl (pM rows b)) else .error a.C_BadBounds, β) := by
 have r0 := t.r0
 have r1 := t.r1
 have c1 := t.c1
 have e := qy (K := K) (a := a) (β := β) (rows := rows) (by rw [t.shp.1]; omega) (fun row hr => by rw [t.shp.2 row hr]; omega)
 rw [jy t, if_pos rfl] at e
 have e2 := rD (K := K) (a := a) (β := β) (r := r) (c := c) (by omega) (by omega) (by omega) hp
 obtain ⟨row0, hrow0, lrow0⟩ := t.shp.at (i := 0) (by omega)
 have hr0 : (gI rows)[0]? = some (row0.map D.int) := by rw [List.getElem?_map, hrow0]; rfl
 refine bb ?_
 unfold mZ
 refine jw (aw rfl e) ?_
 have args : ∀ {δ : Dn}, δ = [some (aK rows), some (aF b), none] -> ac (ad 1) (ac (ai aY (ac (ad 0) (ah))) (ac (ai aY (ac (f2 ixD (ad 0) (fC (.int 0))) (ah))) (ah))) δ β = some (.ok [aF b, .int (r : Int), .int (c : Int)], β) := fun {δ} h => by
  subst h
  exact aj rfl (aj (aJ rfl (e9 (by rw [List.length_map, t.shp.1]))) (aj (aJ (aj (x := .lst (row0.map D.int)) (x_2 rfl rfl (gp hr0)) rfl) (dR (by rw [List.length_map, lrow0]))) rfl))
 cases q : ky b r c with
 | false =>
  rw [q, if_neg Bool.false_ne_true] at e2
  exact yg (aw (args rfl) e2) ⟨rfl, rfl⟩
 | true =>
 rw [q, if_pos rfl] at e2
 refine bq (aw (args rfl) e2) (aL ?_)
 have e3 : aM 5 [] (cU (ac (ad 0) (ac (ad 2) (ah)))) (tgT (bp (tgC 0) (bp (tgC 1) cR))) (fun _ => M.ret true) (cNx (cU (ac (ad 0) (ac (ad 1) (ah)))) (tgT (bp (tgC 2) (bp (tgT (bp (tgC 3) (bp (tgC 4) cR))) cR))) (fun _ => M.ret true) (cEm (bQ leD leD (ad 3) (ad 2) (ad 4)))) [some (aK rows), some (aF b), some (aF b)] β =
   some (.ok (.lst ((rows.zip b).flatMap fun q => (q.1.zip q.2).map fun w => D.bl (decide (w.2.1 <= w.1) && decide (w.1 <= w.2.2)))), β) := by
  refine qZ (nv := 5) (caps := []) (rows.zip b) (fun q => D.tup [.lst (q.1.map D.int), .lst (q.2.map pD)]) _ (ke (u := fun row : List Int => D.lst (row.map D.int)) (v := fun row : List (Int × Int) => D.lst (row.map pD)) ?_ ?_) (fun q _ => ⟨_, rfl, tK (q.1.zip q.2) (fun w => D.tup [.int w.1, pD w.2]) _ (ke rfl rfl) (fun w _ => ⟨_, rfl, mv rfl rfl rfl⟩)⟩) (bw ?_)
  ·show some (Except.ok (D.lst ((gI rows).map D.lst)), β) = _
   rw [List.map_map]; rfl
  ·show some (Except.ok (D.lst ((gP b).map D.lst)), β) = _
   rw [List.map_map]; rfl
  ·have := pQ (f := fun q : List Int × List (Int × Int) => (q.1.zip q.2).map fun w => D.bl (decide (w.2.1 <= w.1) && decide (w.1 <= w.2.2))) (n := 30) (l := rows.zip b) fun q hq => by
    obtain ⟨i, h1, _⟩ := iU hq
    have := t.shp.2 q.1 (List.mem_of_getElem? h1)
    rw [List.length_map, List.length_zip]
    omega
   have h2 : (rows.zip b).length <= 30 := by rw [List.length_zip]; omega
   omega
 exact bn (aJ (aj e3 rfl) (Av _ _ _)) ⟨rfl, rfl⟩
abbrev bdS (rows : LI) (b : LP) (s3 s4 s5 s6 s7 : Option Sl) : Ds := [some (.sh .bag), some (.sh (aK rows)), some (.grd (gP b)), s3, s4, s5, s6, s7]
def BdI (r c : Nat) (rows : LI) (s3 s4 : Option Sl) (δ : Ds) (β : Bg) : Prop := β.ok /\ ∃ (b : LP) (s5 s6 s7 : Option Sl), δ = bdS rows b s3 s4 s5 s6 s7 /\ Bnd r c b /\ Kp rows b
theorem rZ {r c : Nat} {rows : LI} (t : Tab r c rows) (ok : β.ok) : ∃ (b : LP) (β' : Bg), m_l_bounds K a [.bag, aK rows] β = some (.ok (aF b), β') /\ Bnd r c b /\ Kp rows b /\ β'.ok := by
 suffices h : ∃ g β', m_l_bounds K a [.bag, aK rows] β = some (g, β') /\ (∃ (b : LP), g = .ok (aF b) /\ Bnd r c b /\ Kp rows b /\ β'.ok) by
  obtain ⟨g, β', e, b, rfl, h1, h2⟩ := h
  exact ⟨b, β', e, h1, h2⟩
 have r1 := t.r1
 have c1 := t.c1
 have c0 := t.c0
 have r0 := t.r0
 obtain ⟨row0, hrow0, lrow0⟩ := t.shp.at (i := 0) (by omega)
 have hr0 : (gI rows)[0]? = some (row0.map D.int) := by rw [List.getElem?_map, hrow0]; rfl
 refine pZ ?_
 unfold i4
 refine rk (β1 := β) (qi (as := [.int (r : Int), .int (c : Int)]) (β1 := β) (aj (aJ rfl (e9 (by rw [List.length_map, t.shp.1]))) (aj (aJ (aj (x := .lst (row0.map D.int)) (x_2 rfl rfl (gp hr0)) rfl) (dR (by rw [List.length_map, lrow0]))) rfl)) (tW (by omega) (by omega))) (pI _) ?_
 obtain ⟨w0, β1, p1, a0, a1, ok1⟩ := bU ok (lot := 3) (by decide) (by decide)
 refine dI (c := decide (w0 = 0)) (β1 := β1) (x_B (x_2 (aw rfl p1) rfl eq_int)) ?_
 by_cases hw : w0 = 0
 ·rw [if_pos (by simpa using hw)]
  exact bn rfl ⟨_, rfl, Bnd.free r c, Kp.free t, ok1⟩
 rw [if_neg (by simpa using hw)]
 refine br ?_
 refine kf (ds := dY 0 ((gI rows).map D.lst)) (β1 := β1) rfl (fun _ δ β => ∃ s3 s4, BdI r c rows s3 s4 δ β) ⟨none, none, ok1, kA r c, none, none, none, rfl, Bnd.free r c, Kp.free t⟩ ?_ ?_
 ·rintro i d δ β2 hd ⟨s3, s4, ok2, b, s5, s6, s7, rfl, hb, hk⟩
  obtain ⟨x, hx, rfl⟩ := qU hd
  obtain ⟨y, hy, rfl⟩ := dj hx
  obtain ⟨row, hrow, rfl⟩ := dj hy
  have hi : i < r := by rw [← t.shp.1]; exact (List.getElem?_eq_some_iff.mp hrow).1
  have lrow : row.length = c := t.shp.2 row (List.mem_of_getElem? hrow)
  refine ⟨bdS rows b (some (.sh (.int i))) (some (.sh (.lst (row.map D.int)))) s5 s6 s7, rfl, aL ?_⟩
  refine kf (ds := dY 0 (row.map D.int)) (β1 := β2) rfl (fun _ => BdI r c rows (some (.sh (.int i))) (some (.sh (.lst (row.map D.int))))) ⟨ok2, b, s5, s6, s7, rfl, hb, hk⟩ ?_ (fun δ β h => eh ⟨_, _, h⟩)
  rintro j d δ β3 hd ⟨ok3, b, s5, s6, s7, rfl, hb, hk⟩
  obtain ⟨x, hx, rfl⟩ := qU hd
  obtain ⟨n, hn, rfl⟩ := dj hx
  have hj : j < c := by rw [← lrow]; exact (List.getElem?_eq_some_iff.mp hn).1
  have hn40 := t.le40 row (List.mem_of_getElem? hrow) n (List.mem_of_getElem? hn)
  obtain ⟨brow, hbrow, lbrow⟩ := hb.shp.at hi
  refine ⟨bdS rows b (some (.sh (.int i))) (some (.sh (.lst (row.map D.int)))) (some (.sh (.int j))) (some (.sh (.int n))) s7, rfl, ?_⟩
  obtain ⟨w, β4, p4, w0, w1, ok4⟩ := bU ok3 (lot := 4) (by decide) (by decide)
  refine bq (d := .int w) (β1 := β4) (aw rfl p4) ?_
  have put : ∀ (p : Int × Int) (δ : Ds), PairOk p -> p.1 <= n -> n <= p.2 -> ∀ {β5 : Bg} {fv : FD} {h : G} {Q : Out -> Bg -> Prop}, fv (vwA (bdS rows b (some (.sh (.int i))) (some (.sh (.lst (row.map D.int)))) (some (.sh (.int j))) (some (.sh (.int n))) (some (.sh (.int w))))) β4 = some (.ok (pD p), β5) ->
    (∀ b, Bnd r c b -> Kp rows b -> Gw h (bdS rows b (some (.sh (.int i))) (some (.sh (.lst (row.map D.int)))) (some (.sh (.int j))) (some (.sh (.int n))) (some (.sh (.int w)))) β5 Q) ->
    Gw (ak (hX 2 (ad 3) (ad 5) fv) h) (bdS rows b (some (.sh (.int i))) (some (.sh (.lst (row.map D.int)))) (some (.sh (.int j))) (some (.sh (.int n))) (some (.sh (.int w)))) β4 Q := fun p δ hp h1 h2 β5 fv h Q e k => by
   refine wH (d := pD p) (rows := gP b) (ds := brow.map pD) (ka := i) (kb := j) (ja := i) (jb := j) e rfl rfl rfl ?_ ?_ ?_ rfl ?_
   ·rw [List.length_map, hb.shp.1]; exact fY (by omega) (by omega)
   ·rw [List.getElem?_map, hbrow]; rfl
   ·rw [List.length_map, lbrow]; exact fY (by omega) (by omega)
   ·have hset : (gP b).set i ((brow.map pD).set j (pD p)) = gP (b.set i (brow.set j p)) := by
     show _ = List.map _ _
     rw [List.map_set, List.map_set]
    rw [hset]
    exact k _ (hb.set hbrow hp) (hk.set hbrow (kc hrow hn) h1 h2)
  refine dI (c := decide (w = 0)) (β1 := β4) (x_B (x_2 rfl rfl eq_int)) ?_
  by_cases q0 : w = 0
  ·rw [if_pos (by simpa using q0)]
   obtain ⟨u, β5, p5, u0, u1, ok5⟩ := bU ok4 (lot := n + 1) (by omega) (by omega)
   obtain ⟨v, β6, p6, v0, v1, ok6⟩ := bU ok5 (lot := 3) (by decide) (by decide)
   refine put (n - u, min 40 (n + v)) [] ⟨by show 0 <= n - u; omega, by show n - u <= min 40 (n + v); omega, by show min 40 (n + v) <= 40; omega⟩ (by show n - u <= n; omega) (by show n <= min 40 (n + v); omega) (β5 := β6) ?_ fun b hb hk => ?_
   ·exact aJ (aj (x_2 rfl (aw (aj rfl (aj (x_2 rfl rfl rfl) rfl)) p5) rfl) (aj (aJ (aj rfl (aj (x_2 rfl (aw rfl p6) rfl) rfl)) vg) rfl)) kT
   ·refine aL (eQ (β1 := β6) ?_ (br (eh ⟨ok6, b, _, _, _, rfl, hb, hk⟩)))
    rw [show (false : Bool) = decide (w = 1) by rw [q0]; rfl]
    exact x_B (x_2 rfl rfl eq_int)
  ·rw [if_neg (by simpa using q0)]
   refine br (aL (dI (c := decide (w = 1)) (β1 := β4) (x_B (x_2 rfl rfl eq_int)) ?_))
   by_cases q1 : w = 1
   ·rw [if_pos (by simpa using q1)]
    obtain ⟨v, β6, p6, v0, v1, ok6⟩ := bU ok4 (lot := 3) (by decide) (by decide)
    refine put (0, max n v) [] ⟨by show (0 : Int) <= 0; omega, by show 0 <= max n v; omega, by show max n v <= 40; omega⟩ (by show 0 <= n; omega) (by show n <= max n v; omega) (β5 := β6) ?_ fun b hb hk => eh ⟨ok6, b, _, _, _, rfl, hb, hk⟩
    exact aJ (aj rfl (aj (aJ (aj rfl (aj (aw rfl p6) rfl)) y0) rfl)) kT
   ·rw [if_neg (by simpa using q1)]
    exact br (eh ⟨ok4, b, _, _, _, rfl, hb, hk⟩)
 ·rintro δ β2 ⟨s3, s4, ok2, b, s5, s6, s7, rfl, hb, hk⟩
  exact aL (bn rfl ⟨b, rfl, hb, hk, ok2⟩)
abbrev dL (a : Ad) (rows : LI) : D := .obj a.C_Table ["counts"] [aK rows]
theorem pK {rows : LI} (h : rows.length <= 1000) {f : FD} {δ : Dn} (e : f δ β = some (.ok (aK rows), β)) : aM 1 [] (bc f) (tgC 0) (fun _ => M.ret true) (cEm (ai eA (ac (ad 0) (ah)))) δ β = some (.ok (aK rows), β) :=
 bS (gI rows) D.lst D.lst (jv e rfl) (fun x _ => ⟨_, rfl, rfl⟩) (bw (by rw [List.length_map]; exact h))
theorem xO {rows : LI} (hl : rows.length <= 30) (hw : ∀ row ∈ rows, row.length <= 30) : c8 K a [aK rows] β = some (if iQ rows = true then .ok [aK rows] else .error a.C_BadTable, β) := by
 refine vC fun x => ?_
 have e := qy (K := K) (a := a) (β := β) hl hw
 unfold lh
 cases q : iQ rows with
 | true =>
  rw [q, if_pos rfl] at e
  rw [if_pos rfl]
  refine zg (δ := [some (.sh (.adr x)), some (.sh (aK rows))]) (δ1 := [some (.sh (.adr x)), some (.sh (aK rows))]) (β1 := β) (x := x) ?_ rfl rfl (zh (d := aK rows) (β1 := β) (pK (by omega) rfl) rfl)
  unfold bV
  rw [aw (aj rfl rfl) e]
 | false =>
  rw [q, if_neg Bool.false_ne_true] at e
  rw [if_neg Bool.false_ne_true]
  refine xX (δ := [some (.sh (.adr x)), some (.sh (aK rows))]) (δ1 := [some (.sh (.adr x)), some (.sh (aK rows))]) ?_
  unfold bV
  rw [aw (aj rfl rfl) e]
theorem jP {r c : Nat} {rows : LI} (t : Tab r c rows) {g : FL} {δ : Dn} {β0 : Bg} (e : g δ β0 = some (.ok [aK rows], β)) : gq a.C_Table ["counts"] (c8 K a) g [] δ β0 = some (.ok (dL a rows), β) :=
 yf e (by
  rw [List.append_nil, xO (by rw [t.shp.1]; have := t.r1; omega) (fun row hr => by rw [t.shp.2 row hr]; have := t.c1; omega), if_pos (jy t)])
theorem xw (n : Nat) : m_l_same K a n = en n := by
 induction n with
 | zero => rfl
 | succ n ih =>
  show aP 2 (lj K a (m_l_same K a n)) = aP 2 (hG (en n))
  rw [ih]; rfl
theorem rG {d : D} (h : okD 4 d) : m_l_same K a 5 [d, d] β = some (.ok (.bl true), β) := by
 rw [xw]
 exact mF 4 d β h
theorem qJ (n : Nat) (i : Int) : okD n (.int i) := by cases n <;> trivial
theorem vd (n : Nat) (p : Int × Int) : okD (n + 1) (pD p) := ⟨by show 2 <= sizeLine; decide, fun x hx => by
 rcases List.mem_cons.mp hx with rfl | hx
 ·exact qJ _ _
 ·obtain rfl : x = .int p.2 := by simpa using hx
  exact qJ _ _⟩
theorem yY {n : Nat} {rows : List (List D)} (h1 : rows.length <= 1000) (h2 : ∀ row ∈ rows, row.length <= 1000 /\ ∀ x ∈ row, okD n x) : okD (n + 2) (lG rows) := ⟨bw (by rw [List.length_map]; exact h1), fun x hx => by
 obtain ⟨row, hr, rfl⟩ := List.mem_map.mp hx
 exact ⟨bw (h2 row hr).1, (h2 row hr).2⟩⟩
theorem zj {b : LP} : dO (aF b) (aF b) = some (.bl true) := x8 (vN 3 (fun x hx => by
 obtain ⟨y, hy, rfl⟩ := List.mem_map.mp hx
 obtain ⟨row, hr, rfl⟩ := List.mem_map.mp hy
 intro z hz
 obtain ⟨i, _, rfl⟩ := List.mem_map.mp hz
 intro u hu
 rcases List.mem_cons.mp hu with rfl | hu
 ·trivial
 ·obtain rfl : u = .int i.2 := by simpa using hu
  trivial) (by decide))
end
abbrev iL (xs : List Int) : D := .lst (xs.map D.int)
section
variable {K : Frag} {a : Ad} {β : Bg}
theorem kU {i n : Int} (h0 : -1000 <= i) (h1 : i <= 1000) (h2 : -1000 <= n) (h3 : n <= 1000) : m_check_there K a [.int i, .int n] β = some (if 0 <= i /\ i < n then .ok .non else .error a.C_BadCell, β) := by
 refine bb ?_
 unfold ge
 refine aL (dI (c := !(decide (0 <= i) && decide (i < n))) (β1 := β) (gj (x_B (sN rfl rfl rfl))) ?_)
 by_cases q : 0 <= i /\ i < n
 ·have e : (decide (0 <= i) && decide (i < n)) = true := by simpa using q
  rw [e, Bool.not_true, if_neg Bool.false_ne_true, if_pos q]
  exact br (eh ⟨rfl, rfl⟩)
 ·have e : (decide (0 <= i) && decide (i < n)) = false := by
   rw [Bool.eq_false_iff]
   simpa using q
  rw [e, Bool.not_false, if_pos rfl, if_neg q]
  exact eK (aj (ik (gw rfl (by omega) (by omega) (gw rfl (by omega) (by omega) rfl))) rfl) ⟨rfl, rfl⟩
theorem x0 (rows : LI) (i j : Nat) (x y : List Int) (hx : rows[i]? = some x) (hy : rows[j]? = some y) : ((gI rows).set i ((cb x y).map D.int)).eraseIdx j = gI (cM rows i j) := by
 have ex : rows.getD i [] = x := by rw [List.getD_eq_getElem?_getD, hx]; rfl
 have ey : rows.getD j [] = y := by rw [List.getD_eq_getElem?_getD, hy]; rfl
 unfold cM gI
 rw [ex, ey, cn, List.map_set]
theorem ug (rows : LI) (i j : Nat) (x y : List Int) (hx : rows[i]? = some x) (hy : rows[j]? = some y) : aK (cM rows i j) = D.lst ((((gI rows).set i ((cb x y).map D.int)).map D.lst).eraseIdx j) := by
 show D.lst (List.map D.lst (gI (cM rows i j))) = _
 rw [← x0 rows i j x y hx hy, cn]
theorem Be {rows : LI} {i j : Nat} {x y : List Int} (hx : rows[i]? = some x) (hy : rows[j]? = some y) {δ : Dn} (h0 : δ.getD 0 none = some (aK rows)) (h1 : δ.getD 1 none = some (.int (i : Int))) (h2 : δ.getD 2 none = some (.int (j : Int))) :
  cU (ac (f2 ixD (ad 0) (ad 1)) (ac (f2 ixD (ad 0) (ad 2)) (ah))) δ β = some (.ok ((x.zip y).map fun p => D.tup [.int p.1, .int p.2]), β) :=
 ke (u := D.int) (v := D.int) (x_2 (gi h0) (gi h1) (gp (by rw [List.getElem?_map, hx]; rfl))) (x_2 (gi h0) (gi h2) (gp (by rw [List.getElem?_map, hy]; rfl)))
theorem sH (x y : List Int) : (x.zip y).map (fun p => D.int (p.1 + p.2)) = (cb x y).map D.int := by
 unfold cb
 rw [List.map_map]; rfl
theorem nV {r c i j : Nat} {rows : LI} (sh : Shp r c rows) (r1 : r <= 30) (c1 : c <= 30) (hi : i < r) (hj : j < r) (hne : i ≠ j) : m_two_joined K a [aK rows, .int (i : Int), .int (j : Int)] β = some (.ok (aK (cM rows i j)), β) := by
 refine bb ?_
 unfold gD
 obtain ⟨x, hx, lx⟩ := sh.at hi
 obtain ⟨y, hy, ly⟩ := sh.at hj
 refine jw (β1 := β) (d := .non) (aw (aj rfl (aj (aJ rfl (e9 (gJ sh))) rfl)) (by rw [kU (by omega) (by omega) (by omega) (by omega), if_pos (by omega)])) ?_
 refine jw (β1 := β) (d := .non) (aw (aj rfl (aj (aJ rfl (e9 (gJ sh))) rfl)) (by rw [kU (by omega) (by omega) (by omega) (by omega), if_pos (by omega)])) ?_
 refine eQ (β1 := β) (x_B (c := false) (x_2 rfl rfl (by rw [eq_int]; congr 2; rw [decide_eq_false_iff_not]; omega))) (br ?_)
 refine oX (ds := (gI rows).map D.lst) (β1 := β) rfl ?_
 refine sO (d := .lst ((cb x y).map D.int)) (cs := (gI rows).map D.lst) (ka := i) (ja := i) (β1 := β) (β2 := β) ?_ rfl rfl ?_ ?_
 ·rw [← sH]
  refine bS (nv := 2) (caps := []) (x.zip y) (fun p => D.tup [.int p.1, .int p.2]) (fun p => D.int (p.1 + p.2)) (Be hx hy rfl rfl rfl) (fun p _ => ⟨_, rfl, rfl⟩) (bw (by rw [List.length_zip]; omega))
 ·rw [List.length_map, gJ sh]; exact fY (by omega) (by omega)
 refine wI (cs := ((gI rows).map D.lst).set i (.lst ((cb x y).map D.int))) (k := j) (j := j) (β1 := β) rfl rfl ?_ ?_
 ·rw [List.length_set, List.length_map, gJ sh]; exact fY (by omega) (by omega)
 refine aL (bn (d := aK (cM rows i j)) (β1 := β) ?_ ⟨rfl, rfl⟩)
 rw [ug rows i j x y hx hy, List.map_set]
 rfl
theorem rC (x y : List Int) : (x.zip y).map (fun p => D.int (p.1 - p.2)) = (bx x y).map D.int := by
 unfold bx
 rw [List.map_map]; rfl
theorem nR {r c i : Nat} {rows : LI} {x t : List Int} (sh : Shp r c rows) (r1 : r <= 30) (c1 : c <= 30) (hx : rows[i]? = some x) (lt : t.length = c) : m_one_parted K a [aK rows, .int (i : Int), iL t] β = some (.ok (aK (cK rows i t)), β) := by
 have hi : i < r := by rw [← sh.1]; exact (List.getElem?_eq_some_iff.mp hx).1
 have lx : x.length = c := sh.2 x (List.mem_of_getElem? hx)
 have hr : (gI rows)[i]? = some (x.map D.int) := by rw [List.getElem?_map, hx]; rfl
 refine bb ?_
 unfold gF
 refine jw (β1 := β) (d := .non) (aw (aj rfl (aj (aJ rfl (e9 (gJ sh))) rfl)) (by rw [kU (by omega) (by omega) (by omega) (by omega), if_pos (by omega)])) ?_
 refine eQ (β1 := β) (x_B (c := false) (x_2 (aJ rfl (dR (r := c) (by rw [List.length_map, lt]))) (aJ (aj (x_2 rfl rfl (gp hr)) rfl) (dR (r := c) (by rw [List.length_map, lx]))) (by rw [ne_int]; simp))) (br ?_)
 refine bq (d := iL (bx x t)) (β1 := β) ?_ ?_
 ·show _ = some (Except.ok (D.lst ((bx x t).map D.int)), β)
  rw [← rC]
  exact bS (nv := 2) (caps := []) (x.zip t) (fun p => D.tup [.int p.1, .int p.2]) (fun p => D.int (p.1 - p.2)) (ke (u := D.int) (v := D.int) (x_2 rfl rfl (gp hr)) rfl) (fun p _ => ⟨_, rfl, rfl⟩) (bw (by rw [List.length_zip]; omega))
 refine aL (bn (d := aK (cK rows i t)) (β1 := β) ?_ ⟨rfl, rfl⟩)
 rw [xZ hx]
 have e1 : fSl (ad 0) none (some (ad 1)) (vwA ([some (.sh (aK rows)), some (.sh (.int (i : Int))), some (.sh (iL t)), some (.sh (iL (bx x t)))])) β = some (.ok (.lst (((gI rows).map D.lst).take i)), β) := by
  rw [← j0]; exact mt rfl rfl
 have e2 : fSl (ad 0) (some (f2 bK (ad 1) (fC (.int 1)))) none (vwA ([some (.sh (aK rows)), some (.sh (.int (i : Int))), some (.sh (iL t)), some (.sh (iL (bx x t)))])) β = some (.ok (.lst (((gI rows).map D.lst).drop (i + 1))), β) := by
  rw [← jc]; exact ju rfl (x_2 rfl rfl rfl)
 have lg : ((gI rows).map D.lst).length = r := by rw [List.length_map, gJ sh]
 refine x_2 (x_2 e1 (aJ rfl vn) (iI ?_)) e2 (iI ?_)
 ·rw [List.length_take, lg]; simp only [List.length_cons, List.length_nil]; omega
 ·rw [List.length_append, List.length_take, List.length_drop, lg]; simp only [List.length_cons, List.length_nil]; omega
theorem tjoined_row {r c i j : Nat} {rows : LI} (t : Tab r c rows) (hi : i < r) (hj : j < r) (hne : i ≠ j) : cj K a [dL a rows, .int (i : Int), .int (j : Int), .bl true] β = some (.ok (dL a (cM rows i j)), β) := by
 have r0 := t.r0
 have r1 := t.r1
 have c0 := t.c0
 have c1 := t.c1
 refine bb ?_
 unfold dU
 refine oF (β1 := β) (cJ (x := .bl true) rfl rfl) (bn (β1 := β) (jP ((t.gd.join hi hj hne).tab (by omega) (by omega) c0 c1) ?_) ⟨rfl, rfl⟩)
 exact aj (aw (aj (lz rfl rfl) rfl) (nV t.shp (by omega) (by omega) hi hj hne)) rfl
theorem qa {r c i j : Nat} {rows : LI} (t : Tab r c rows) (hi : i < c) (hj : j < c) (hne : i ≠ j) : cj K a [dL a rows, .int (i : Int), .int (j : Int), .bl false] β = some (.ok (dL a (tp r (cM (tp c rows) i j))), β) := by
 have r0 := t.r0
 have r1 := t.r1
 have c0 := t.c0
 have c1 := t.c1
 refine bb ?_
 unfold dU
 have g := t.gd.tp.join hi hj hne
 refine eQ (β1 := β) (cJ (x := .bl false) rfl rfl) (br (aL (bn (β1 := β) (jP (g.tp.tab (by omega) (by omega) (by omega) (by omega)) ?_) ⟨rfl, rfl⟩)))
 exact aj (aw (aj (aw (aj (aw (aj (lz rfl rfl) rfl) (gQ t.shp (by omega) (by omega) (by omega))) rfl) (nV t.gd.tp.shp (by omega) (by omega) hi hj hne)) rfl) (gQ g.shp (by omega) (by omega) (by omega))) rfl
theorem p8 {r c i : Nat} {rows : LI} {x t : List Int} (T : Tab r c rows) (r3 : r <= 3) (hx : rows[i]? = some x) (w : Wi t x) : ci K a [dL a rows, .int (i : Int), iL t, .bl true] β = some (.ok (dL a (cK rows i t)), β) := by
 have r0 := T.r0
 have c0 := T.c0
 have c1 := T.c1
 have lx := T.shp.2 x (List.mem_of_getElem? hx)
 refine bb ?_
 unfold dS
 refine oF (β1 := β) (cJ (x := .bl true) rfl rfl) (bn (β1 := β) (jP ((T.gd.part hx w).tab (by omega) (by omega) c0 c1) ?_) ⟨rfl, rfl⟩)
 exact aj (aw (aj (lz rfl rfl) rfl) (nR T.shp (by omega) (by omega) hx (w.1.trans lx))) rfl
theorem p9 {r c i : Nat} {rows : LI} {x t : List Int} (T : Tab r c rows) (c5 : c <= 5) (hx : (tp c rows)[i]? = some x) (w : Wi t x) : ci K a [dL a rows, .int (i : Int), iL t, .bl false] β = some (.ok (dL a (tp r (cK (tp c rows) i t))), β) := by
 have r0 := T.r0
 have r1 := T.r1
 have c0 := T.c0
 have g := T.gd.tp
 have lx := g.shp.2 x (List.mem_of_getElem? hx)
 have g2 := g.part hx w
 refine bb ?_
 unfold dS
 refine eQ (β1 := β) (cJ (x := .bl false) rfl rfl) (br (aL (bn (β1 := β) (jP (g2.tp.tab (by omega) (by omega) (by omega) (by omega)) ?_) ⟨rfl, rfl⟩)))
 exact aj (aw (aj (aw (aj (aw (aj (lz rfl rfl) rfl) (gQ T.shp (by omega) (by omega) (by omega))) rfl) (nR g.shp (by omega) (by omega) hx (w.1.trans lx))) rfl) (gQ g2.shp (by omega) (by omega) (by omega))) rfl
theorem pV {rows : LI} (h : rows.length <= 1000) : dk K a [dL a rows] β = some (.ok (aK rows), β) :=
 bb (aL (bn (pK h (lz rfl rfl)) ⟨rfl, rfl⟩))
end
section
variable {K : Frag} {a : Ad}
theorem qK {r c : Nat} {b : LP} (sh : Shp r c b) (r1 : r <= 1000) (c1 : c <= 1000) : okD 4 (aF b) := yY (n := 2) (by rw [List.length_map, sh.1]; exact r1) fun row hr => by
 obtain ⟨ps, hp, rfl⟩ := List.mem_map.mp hr
 refine ⟨by rw [List.length_map, sh.2 ps hp]; exact c1, fun x hx => ?_⟩
 obtain ⟨p, _, rfl⟩ := List.mem_map.mp hx
 exact vd _ _
theorem zd {r c : Nat} {rows : LI} {b : LP} {β : Bg} (t : Tab r c rows) (k : KB r c rows b) : m_keeps K a [aK rows, aF b] β = some (.ok (.bl true), β) := by
 have := t.r1
 rw [vx t (by rw [k.lb]; omega) (Bnd.pb k.bnd), if_pos (g9.mpr k.bnd), sf.mpr k.kp]
theorem yi {i v n : Nat} (hi : i < n) (hn : 2 <= n) (hv : v < n - 1) : (i + 1 + v) % n < n /\ (i + 1 + v) % n ≠ i := by
 refine ⟨Nat.mod_lt _ (by omega), ?_⟩
 by_cases q : i + 1 + v < n
 ·rw [Nat.mod_eq_of_lt q]; omega
 ·rw [Nat.mod_eq_sub_mod (by omega), Nat.mod_eq_of_lt (by omega)]; omega
structure Way (K : Frag) (a : Ad) (rows : LI) (b : LP) (down : Bool) (n m : Nat) (L : LI) (B : LP) (f : LI -> LI) (fB : LP -> LP) : Prop where
 n0 : 1 <= n
 n1 : n <= 6
 m0 : 1 <= m
 m1 : m <= 6
 gd : Gd n m L
 kb : KB n m L B
 tT : down = true -> ∀ X, fB X = X
 tF : down = false -> ∀ (k : Nat) (X : LP) (β : Bg), Shp k m X -> 1 <= k -> k <= 30 -> m_l_turned K a [aF X] β = some (.ok (aF (fB X)), β)
 jn : ∀ (i j : Nat) (β : Bg), i < n -> j < n -> i ≠ j -> cj K a [dL a rows, .int (i : Int), .int (j : Int), .bl down] β = some (.ok (dL a (f (cM L i j))), β) /\ m_bounds_joined K a [aF b, .int (i : Int), .int (j : Int), .bl down] β = some (.ok (aF (fB (cN B i j))), β) /\ ∃ r c, Tab r c (f (cM L i j)) /\ KB r c (f (cM L i j)) (fB (cN B i j))
 pt : ∀ (i : Nat) (x tk : List Int) (β : Bg), n <= 3 -> L[i]? = some x -> Wi tk x -> ci K a [dL a rows, .int (i : Int), iL tk, .bl down] β = some (.ok (dL a (f (cK L i tk))), β) /\ m_bounds_parted K a [aF b, .int (i : Int), .bl down] β = some (.ok (aF (fB (cL B i))), β) /\ ∃ r c, Tab r c (f (cK L i tk)) /\ KB r c (f (cK L i tk)) (fB (cL B i))
theorem AA {r c : Nat} {rows : LI} {b : LP} (t : Tab r c rows) (k : KB r c rows b) : Way K a rows b true r c rows b (fun X => X) (fun X => X) := by
 have r0 := t.r0
 have r1 := t.r1
 have c0 := t.c0
 have c1 := t.c1
 refine ⟨r0, by omega, c0, c1, t.gd, k, fun _ _ => rfl, fun z => (by cases z), fun i j β hi hj hne => ⟨tjoined_row t hi hj hne, bjoin_row k.bnd.shp (by omega) (by omega) hi hj, _, _, (t.gd.join hi hj hne).tab (by omega) (by omega) c0 c1, k.join t.gd hi hj hne⟩, fun i x tk β h3 hx w => ?_⟩
 have hi : i < r := by rw [← t.shp.1]; exact gZ hx
 exact ⟨p8 t h3 hx w, uB k.bnd.shp (by omega) (by omega) hi, _, _, (t.gd.part hx w).tab (by omega) (by omega) c0 c1, k.part hx w⟩
theorem AB {r c : Nat} {rows : LI} {b : LP} (t : Tab r c rows) (k : KB r c rows b) : Way K a rows b false c r (tp c rows) (tpB c b) (tp r) (tpB r) := by
 have r0 := t.r0
 have r1 := t.r1
 have c0 := t.c0
 have c1 := t.c1
 have kt := k.tp
 refine ⟨c0, c1, r0, by omega, t.gd.tp, kt, fun z => (by cases z), fun _ n X β sh h0 h1 => lturnedB_ok sh h0 h1 (by omega), fun i j β hi hj hne => ?_, fun i x tk β h3 hx w => ?_⟩
 ·have kj := kt.join t.gd.tp hi hj hne
  exact ⟨qa t hi hj hne, uD k.bnd.shp r0 (by omega) (by omega) (by omega) hi hj kj.bnd.shp, _, _, (t.gd.tp.join hi hj hne).tp.tab (by omega) (by omega) (by omega) (by omega), kj.tp⟩
 ·have hi : i < c := by rw [← t.gd.tp.shp.1]; exact gZ hx
  have kp := kt.part hx w
  exact ⟨p9 t (by omega) hx w, uC k.bnd.shp r0 (by omega) (by omega) hi kp.bnd.shp, _, _, (t.gd.tp.part hx w).tp.tab (by omega) (by omega) (by omega) (by omega), kp.tp⟩
abbrev l10 (a : Ad) (rows : LI) (b : LP) (down : Bool) (L : LI) (B : LP) (i j : Nat) (s11 s12 s13 : Option Sl) : Ds := [none, some (.sh .bag), some (.sh (aK rows)), some (.sh (aF b)), some (.sh (aF b)), some (.sh (.bl down)), some (.sh (aK L)), some (.sh (aF B)), some (.sh (.int (i : Int))), some (.sh (.int (j : Int))), some (.sh (dL a rows)), s11, s12, s13]
theorem vq (β : Bg) (ok : β.ok) :
  ∃ β', l7 K a [none, some (.sh .bag), none, none, none, none, none, none, none, none, none, none, none, none] β = some (.rt (.bl true), β') := by
 suffices h : Gw (l7 K a) [none, some (.sh .bag), none, none, none, none, none, none, none, none, none, none, none, none] β (fun o _ => o = .rt (.bl true)) by
  obtain ⟨o, β', e, rfl⟩ := h
  exact ⟨β', e⟩
 unfold l7
 obtain ⟨rows, r, c, β1, e1, t, ok1⟩ := ye (K := K) (a := a) ok
 refine bq (d := aK rows) (β1 := β1) (aw rfl e1) ?_
 obtain ⟨b, β2, e2, hb, hk, ok2⟩ := rZ (K := K) (a := a) t ok1
 refine bq (d := aF b) (β1 := β2) (aw rfl e2) ?_
 clear e1 e2 ok1
 have r0 := t.r0
 have r1 := t.r1
 have c0 := t.c0
 have c1 := t.c1
 have lb : (gP b).length <= 1000 := by rw [List.length_map, hb.shp.1]; omega
 have k := KB.of t.shp hb hk
 refine bq (d := aF b) (β1 := β2) (aw rfl (j4 lb)) ?_
 have et : m_bounds_turned K a [aF b] β2 = some (.ok (aF (tpB c b)), β2) := by
  refine bb ?_
  unfold fe
  exact aL (bn (aw rfl (eS hb.shp r0 (by omega) (by omega))) ⟨rfl, rfl⟩)
 refine eQ (gj (c := true) (cJ (x := .bl true) (aw (aj (aw rfl et) (aj (aw rfl (lturnedB_ok hb.shp r0 (by omega) (by omega))) rfl)) (rG (qK k.tp.bnd.shp (by omega) (by omega)))) rfl)) (br ?_)
 obtain ⟨v, β3, p3, v0, v1, ok3⟩ := bU ok2 (lot := 2) (by decide) (by decide)
 refine bq (d := .bl (decide (v = 0))) (β1 := β3) (x_2 (aw rfl p3) rfl eq_int) ?_
 generalize decide (v = 0) = down
 refine bq (d := aK rows) (β1 := β3) rfl ?_
 refine bq (d := aF b) (β1 := β3) rfl ?_
 refine rj (fun δ β => β3 = β /\ ∃ n m L B f fB, Way K a rows b down n m L B f fB /\ δ = [none, some (.sh .bag), some (.sh (aK rows)), some (.sh (aF b)), some (.sh (aF b)), some (.sh (.bl down)), some (.sh (aK L)), some (.sh (aF B)), none, none, none, none, none, none]) ?_ ?_
 ·refine aL (dI (c := !down) (β1 := β3) (gj (cJ (x := .bl down) rfl rfl)) ?_)
  cases down with
  | true =>
   rw [Bool.not_true, if_neg Bool.false_ne_true]
   exact br (il ⟨rfl, _, _, _, _, _, _, AA t k, rfl⟩)
  | false =>
   rw [Bool.not_false, if_pos rfl]
   refine eM (bq (d := aK (tp c rows)) (β1 := β3) (aw rfl (rY t.shp r0 (by omega) (by omega))) ?_)
   exact bq (d := aF (tpB c b)) (β1 := β3) (aw rfl (lturnedB_ok hb.shp r0 (by omega) (by omega))) (il ⟨rfl, _, _, _, _, _, _, AB t k, rfl⟩)
 rintro δ _ ⟨rfl, n, m, L, B, f, fB, W, rfl⟩
 have n0 := W.n0
 have n1 := W.n1
 have m0 := W.m0
 have m1 := W.m1
 have sB := W.kb.bnd.shp
 have eL : ∀ {δ : Dn} {β : Bg}, δ.getD 6 none = some (aK L) -> ai aY (ac (ad 6) ah) δ β = some (.ok (.int (n : Int)), β) := fun {δ β} e => aJ (aj (gi e) rfl) (e9 (by rw [List.length_map, W.gd.shp.1]))
 obtain ⟨i', β4, p4, i0, i1, ok4⟩ := bU ok3 (lot := (n : Int)) (by omega) (by omega)
 refine bq (d := .int i') (β1 := β4) (aw (aj rfl (aj (eL rfl) rfl)) p4) ?_
 obtain ⟨i, rfl⟩ : ∃ i : Nat, i' = (i : Int) := ⟨i'.toNat, by omega⟩
 have hi : i < n := by omega
 obtain ⟨u', β5, p5, u0, u1, ok5⟩ := bU ok4 (lot := max 1 ((n : Int) - 1)) (by omega) (by omega)
 obtain ⟨u, rfl⟩ : ∃ u : Nat, u' = (u : Int) := ⟨u'.toNat, by omega⟩
 refine bq (d := .int (((i + 1 + u) % n : Nat) : Int)) (β1 := β5) (x_2 (x := .int ((i + 1 + u : Nat) : Int)) (x_2 (x_2 rfl rfl rfl) (aw (aj rfl (aj (aJ (aj rfl (aj (x_2 (eL rfl) rfl rfl) rfl)) y0) rfl)) p5) ?_) (eL rfl) ?_) ?_
 ·show some (D.int ((i : Int) + 1 + (u : Int))) = _
  congr 2
 ·show (if decide ((0 : Int) < (n : Int)) = true then some (D.int (((i + 1 + u : Nat) : Int) % (n : Int))) else none) = _
  have hm : ∀ z : Nat, (z : Int) % (n : Int) = ((z % n : Nat) : Int) := fun z => by simp
  rw [decide_eq_true (show (0 : Int) < (n : Int) by omega), if_pos rfl, hm]
 have hj : 2 <= n -> (i + 1 + u) % n < n /\ (i + 1 + u) % n ≠ i := fun h => yi hi h (by omega)
 generalize (i + 1 + u) % n = j at hj
 refine bq (d := dL a rows) (β1 := β5) (jP t (aj (aw rfl (j4 (by rw [gJ t.shp]; omega))) rfl)) ?_
 have fin : ∀ (X : LI) (Y : LP), (∃ r c, Tab r c X /\ KB r c X Y) -> okD 4 (aF Y) /\ ∀ β, m_keeps K a [aK X, aF Y] β = some (.ok (.bl true), β) := fun X Y h => by
  obtain ⟨r', c', t', k'⟩ := h
  have := t'.r1
  have := t'.c1
  exact ⟨qK k'.bnd.shp (by omega) (by omega), fun β => zd t' k'⟩
 have turn : ∀ {X : LP} {N : Nat} {β : Bg} {s12 s13 : Option Sl} {h : G} {Q : Out -> Bg -> Prop}, Shp N m X -> 1 <= N -> N <= 30 -> Gw h (l10 a rows b down L B i j (some (.sh (aF (fB X)))) s12 s13) β Q -> Gw (ak (gIf (bW (bZ (ad 5))) (ba 11 (au (m_l_turned K a) (ac (ad 11) (ah)))) (gNil)) h) (l10 a rows b down L B i j (some (.sh (aF X))) s12 s13) β Q := fun {X N β s12 s13 h Q} sh h0 h1 kk => by
  refine dI (c := !down) (β1 := β) (gj (cJ (x := .bl down) rfl rfl)) ?_
  cases down with
  | true =>
   rw [Bool.not_true, if_neg Bool.false_ne_true]
   rw [W.tT rfl] at kk
   exact br kk
  | false =>
   rw [Bool.not_false, if_pos rfl]
   exact bq (d := aF (fB X)) (β1 := β) (aw rfl (W.tF rfl N X β sh h0 h1)) kk
 refine rj (fun δ β => β.ok /\ ∃ s11 s12, δ = l10 a rows b down L B i j s11 s12 none) ?_ ?_
 ·refine aL (dI (c := decide ((1 : Int) < (n : Int))) (β1 := β5) (x_B (x_2 (eL rfl) rfl gt_int)) ?_)
  by_cases q : (1 : Int) < (n : Int)
  ·rw [if_pos (decide_eq_true q)]
   obtain ⟨j1, j2⟩ := hj (by omega)
   obtain ⟨t1, t2, t3⟩ := W.jn i j β5 hi j1 (fun z => j2 z.symm)
   obtain ⟨f1, f2⟩ := fin _ _ t3
   refine eM (bq (d := aF (cN B i j)) (β1 := β5) (aw rfl (tR sB (by omega) (by omega) hi j1)) ?_)
   refine eM (turn (W.kb.join W.gd hi j1 (fun z => j2 z.symm)).bnd.shp (by omega) (by omega) ?_)
   refine eM (bq (d := aF (fB (cN B i j))) (β1 := β5) (qh (ks := [.bl down]) rfl rfl t2) ?_)
   refine eQ (β1 := β5) (wG (gj (c := true) (cJ (x := .bl true) (aw rfl (rG f1)) rfl)) (x_B (x_2 (x := .bl true) (aw (aj (sM (qg (ks := [.bl down]) rfl rfl rfl t1) rfl (pV (by have := t3; obtain ⟨r', c', t', _⟩ := t3; rw [t'.shp.1]; have := t'.r1; omega))) (aj rfl rfl)) (f2 β5)) rfl rfl))) (br (il ⟨ok5, _, _, rfl⟩))
  ·rw [if_neg (by simpa using q)]
   exact br (il ⟨ok5, none, none, rfl⟩)
 rintro δ β6 ⟨ok6, s11, s12, rfl⟩
 refine rj (fun δ β => ∃ s11 s12 s13, δ = l10 a rows b down L B i j s11 s12 s13) ?_ ?_
 ·refine aL (dI (c := decide ((n : Int) < 4)) (β1 := β6) (x_B (x_2 (eL rfl) rfl rfl)) ?_)
  by_cases q : (n : Int) < 4
  ·rw [if_pos (decide_eq_true q)]
   obtain ⟨x, hx, lx⟩ := W.gd.shp.at (i := i) hi
   have hr : (gI L)[i]? = some (x.map D.int) := by rw [List.getElem?_map, hx]; rfl
   have nx : ∀ y ∈ x, 0 <= y := W.gd.nn x (List.mem_of_getElem? hx)
   have lex : ∀ y ∈ x, y <= 40 := W.gd.le40 x (List.mem_of_getElem? hx)
   have z0 : Wi x x := ⟨rfl, fun l => by
    rw [List.getD_eq_getElem?_getD]
    cases e : x[l]? with
    | none => exact ⟨Int.le_refl 0, Int.le_refl 0⟩
    | some y => exact ⟨nx y (List.mem_of_getElem? e), Int.le_refl y⟩⟩
   have kp := W.kb.part hx z0
   refine eM (bq (d := aF (cL B i)) (β1 := β6) (aw rfl (tM sB (by omega) (by omega) hi)) ?_)
   refine eM (turn kp.bnd.shp (by omega) (by omega) ?_)
   refine eM (bq (d := aF (fB (cL B i))) (β1 := β6) (qh (ks := [.bl down]) rfl rfl (W.pt i x x β6 (by omega) hx z0).2.1) ?_)
   obtain ⟨tk, β7, e7, wi, ok7⟩ := uK (δ := vw (l10 a rows b down L B i j (some (.sh (aF (fB (cL B i))))) (some (.sh (aF (fB (cL B i))))) none)) (kl := 6) (ki := 8) hr nx lex (by omega) rfl rfl rfl ok6
   obtain ⟨t1, t2, t3⟩ := W.pt i x tk β7 (by omega) hx wi
   obtain ⟨f1, f2⟩ := fin _ _ t3
   refine eM (bq (d := dL a (f (cK L i tk))) (β1 := β7) (qg (ks := [.bl down]) rfl (aj rfl (aj e7 rfl)) rfl t1) ?_)
   refine eQ (β1 := β7) (wG (gj (c := true) (cJ (x := .bl true) (aw rfl (rG f1)) rfl)) (x_B (x_2 (x := .bl true) (aw (aj (sM rfl rfl (pV (by obtain ⟨r', c', t', _⟩ := t3; rw [t'.shp.1]; have := t'.r1; omega))) (aj rfl rfl)) (f2 β7)) rfl rfl))) (br (il ⟨_, _, _, rfl⟩))
  ·rw [if_neg (by simpa using q)]
   exact br (il ⟨s11, s12, none, rfl⟩)
 rintro δ β7 ⟨s11, s12, s13, rfl⟩
 exact aL (bn (x_2 rfl rfl zj) rfl)
end
abbrev E (P : Params) (n : String) (t : Nat) (v : Value) : DictEntry := ⟨PyData.keyHash P (Str.ofString n), .str (Str.ofString n) t, v⟩
abbrev FN (x q : Str) (s : Stmt) (dV kV doc pm : Value) (an : Option Addr) (cd ct : Value) : FuncData := PySem.W.fnOf x q (gv s) (bX s) (am s) dV kV doc pm an cd ct
abbrev fO (f : FuncData) : Obj := ⟨.type "function", none, .func f, #[]⟩
abbrev tO (l : List Value) : Obj := ⟨.type "tuple", none, .seq l.toArray 0, #[]⟩
abbrev cO (l : List Value) : Obj := ⟨.type "code", none, .fields l.toArray, #[]⟩
abbrev eB (P : Params) (n : String) (t : Nat) : DictEntry := E P n t (.builtin n)
abbrev eT (P : Params) (n : String) (t : Nat) : DictEntry := E P n t (.type n)
abbrev eR (P : Params) (n : String) (t r : Nat) : DictEntry := E P n t (.ref r)
abbrev nO (l : List Value) : Obj := ⟨.none, none, .fields l.toArray, #[]⟩
abbrev fB (x q : Str) (s : Stmt) : Obj := ⟨.none, none, .func ⟨x, q, gv s, .stmts (bX s), am s, 0, [], .none, .none, .none, .none, none, .none, .none, 0⟩, #[]⟩
abbrev cC (n q : Str) (t l a po ko fl r : Nat) (b : Bool) (tx r2 : Nat) (x y z w : Value) (u l2 v : Nat) : Obj := cO [.str n t, .str q (t + 1), .str "/claim/cut.py" (t + 2), .int l 0, .int a 0, .int po 0, .int ko 0, .int fl 0, .ref r, .bool b, .int tx 0, .ref r2, x, y, z, w, .int u 0, .int l2 0, .str "/claim/cut.py" v]
abbrev fL (x q : Str) (i c : Nat) : Obj := fO (FN x q (top i) .none .none .none (.str "law_edgetally_k10_bounds_go_along" 543) none (.ref c) .none)
section
variable (P : Params)
def b0 : Obj := ⟨(.type "dict"), none, (.dict #[(E P "__name__" 1 (.str "builtins" 160)), (E P "__doc__" 2 (.builtin "builtins.__doc__:str#opaque")), (E P "__package__" 3 (.builtin "builtins.__package__:str#opaque")), (E P "__loader__" 4 (.builtin "builtins.__loader__:shared#opaque")), (E P "__spec__" 5 (.builtin "builtins.__spec__#opaque")), (eB P "__build_class__" 6), (eB P "__import__" 7), (eB P "abs" 8), (eB P "all" 9), (eB P "any" 10), (eB P "ascii" 11), (eB P "bin" 12), (eB P "breakpoint" 13), (eB P "callable" 14), (eB P "chr" 15), (eB P "compile" 16), (eB P "delattr" 17), (eB P "dir" 18), (eB P "divmod" 19), (eB P "eval" 20), (eB P "exec" 21), (eB P "format" 22), (eB P "getattr" 23), (eB P "globals" 24), (eB P "hasattr" 25), (eB P "hash" 26), (eB P "hex" 27), (eB P "id" 28), (eB P "input" 29), (eB P "isinstance" 30), (eB P "issubclass" 31), (eB P "iter" 32), (eB P "aiter" 33), (eB P "len" 34), (eB P "locals" 35), (eB P "max" 36), (eB P "min" 37), (eB P "next" 38), (eB P "anext" 39), (eB P "oct" 40), (eB P "ord" 41), (eB P "pow" 42), (eB P "print" 43), (eB P "repr" 44), (eB P "round" 45), (eB P "setattr" 46), (eB P "sorted" 47), (eB P "sum" 48), (eB P "vars" 49), (E P "None" 50 .none), (E P "Ellipsis" 51 .ellipsis), (E P "NotImplemented" 52 .notImplemented), (E P "False" 53 (.bool false)), (E P "True" 54 (.bool true)), (eT P "bool" 55), (eT P "memoryview" 56), (eT P "bytearray" 57), (eT P "bytes" 58), (eT P "classmethod" 59), (eT P "complex" 60), (eT P "dict" 61), (eT P "enumerate" 62), (eT P "filter" 63), (eT P "float" 64), (eT P "frozenset" 65), (eT P "property" 66), (eT P "int" 67), (eT P "list" 68), (eT P "map" 69), (eT P "object" 70), (eT P "range" 71), (eT P "reversed" 72), (eT P "set" 73), (eT P "slice" 74), (eT P "staticmethod" 75), (eT P "str" 76), (eT P "super" 77), (eT P "tuple" 78), (eT P "type" 79), (eT P "zip" 80), (E P "__debug__" 81 (.bool true)), (eT P "BaseException" 82), (eT P "BaseExceptionGroup" 83), (eT P "Exception" 84), (eT P "GeneratorExit" 85), (eT P "KeyboardInterrupt" 86), (eT P "SystemExit" 87), (eT P "ArithmeticError" 88), (eT P "AssertionError" 89), (eT P "AttributeError" 90), (eT P "BufferError" 91), (eT P "EOFError" 92), (eT P "ImportError" 93), (eT P "LookupError" 94), (eT P "MemoryError" 95), (eT P "NameError" 96), (eT P "OSError" 97), (eT P "ReferenceError" 98), (eT P "RuntimeError" 99), (eT P "StopAsyncIteration" 100), (eT P "StopIteration" 101), (eT P "SyntaxError" 102), (eT P "SystemError" 103), (eT P "TypeError" 104), (eT P "ValueError" 105), (eT P "Warning" 106), (eT P "FloatingPointError" 107), (eT P "OverflowError" 108), (eT P "ZeroDivisionError" 109), (eT P "BytesWarning" 110), (eT P "DeprecationWarning" 111), (eT P "EncodingWarning" 112), (eT P "FutureWarning" 113), (eT P "ImportWarning" 114), (eT P "PendingDeprecationWarning" 115), (eT P "ResourceWarning" 116), (eT P "RuntimeWarning" 117), (eT P "SyntaxWarning" 118), (eT P "UnicodeWarning" 119), (eT P "UserWarning" 120), (eT P "BlockingIOError" 121), (eT P "ChildProcessError" 122), (eT P "ConnectionError" 123), (eT P "FileExistsError" 124), (eT P "FileNotFoundError" 125), (eT P "InterruptedError" 126), (eT P "IsADirectoryError" 127), (eT P "NotADirectoryError" 128), (eT P "PermissionError" 129), (eT P "ProcessLookupError" 130), (eT P "TimeoutError" 131), (eT P "IndentationError" 132), (eT P "_IncompleteInputError" 133), (eT P "IndexError" 134), (eT P "KeyError" 135), (eT P "ModuleNotFoundError" 136), (eT P "NotImplementedError" 137), (eT P "PythonFinalizationError" 138), (eT P "RecursionError" 139), (eT P "UnboundLocalError" 140), (eT P "UnicodeError" 141), (eT P "BrokenPipeError" 142), (eT P "ConnectionAbortedError" 143), (eT P "ConnectionRefusedError" 144), (eT P "ConnectionResetError" 145), (eT P "TabError" 146), (eT P "UnicodeDecodeError" 147), (eT P "UnicodeEncodeError" 148), (eT P "UnicodeTranslateError" 149), (eT P "ExceptionGroup" 150), (E P "EnvironmentError" 151 (.type "OSError")), (E P "IOError" 152 (.type "OSError")), (eB P "open" 153), (E P "quit" 154 (.builtin "builtins.quit#opaque")), (E P "exit" 155 (.builtin "builtins.exit#opaque")), (E P "copyright" 156 (.builtin "builtins.copyright#opaque")), (E P "credits" 157 (.builtin "builtins.credits#opaque")), (E P "license" 158 (.builtin "builtins.license#opaque")), (E P "help" 159 (.builtin "builtins.help#opaque"))] 159), #[]⟩
def b1 : Obj := ⟨(.type "dict"), none, (.dict #[(eR P "builtins" 162 4), (eR P "__main__" 163 5)] 2), #[]⟩
def b2 : Obj := ⟨.none, none, (.dict #[] 0), #[]⟩
def b3 : Obj := ⟨(.type "dict"), none, (.dict #[(E P "__name__" 165 (.str "law_edgetally_k10_bounds_go_along" 543)), (E P "__doc__" 166 .none), (E P "__package__" 167 .none), (E P "__loader__" 168 (.builtin "__main__.__loader__#opaque")), (E P "__spec__" 169 .none), (eR P "__annotations__" 170 6), (eR P "__builtins__" 171 4), (E P "__file__" 173 (.str "/claim/cut.py" 172)), (E P "__cached__" 174 .none), (eR P "_wall" 193 21), (eR P "EdgeError" 223 38), (eR P "BadTable" 248 59), (eR P "BadBounds" 273 79), (eR P "BadCell" 298 99), (E P "MOST" 302 (.int 40 301)), (E P "MOST_ROWS" 304 (.int 4 303)), (E P "MOST_COLUMNS" 306 (.int 6 305)), (eR P "FREE" 308 102), (eR P "free" 315 108), (eR P "check_rows" 321 113), (eR P "check_there" 329 120), (eR P "check_pair" 338 127), (eR P "settled_bounds" 344 132), (eR P "keeps" 350 137), (eR P "rows_turned" 356 142), (eR P "bounds_turned" 363 149), (eR P "pair_joined" 371 156), (eR P "rows_joined" 377 161), (eR P "bounds_joined" 388 169), (eR P "row_parted" 394 174), (eR P "bounds_parted" 404 182), (eR P "two_joined" 412 187), (eR P "one_parted" 418 192), (eR P "Table" 542 290), (eR P "_law_bag" 550 299), (eR P "_law_pull" 561 306), (eR P "_law_same" 567 311), (eR P "_law_turned" 573 316), (eR P "_law_free" 579 321), (eR P "_law_bounds" 593 328), (eR P "_law_copied" 599 333), (eR P "_law_any" 605 338), (eR P "_law_pairs" 613 345), (eR P "_law_bounds_joined" 619 350), (eR P "_law_bounds_parted" 625 355), (eR P "law" 631 360)] 46), #[]⟩
def b4 : Obj := ⟨(.type "module"), (some 0), .plain, #[]⟩
def b5 : Obj := ⟨(.type "module"), (some 3), .plain, #[]⟩
def b6 : Obj := ⟨(.type "dict"), none, (.dict #[] 0), #[]⟩
def b7 : Obj := tO []
def b8 : Obj := nO []
def b9 : Obj := cC "<module>" "<module>" 176 1 0 0 0 0 7 false 175 8 .none .none .none .none 179 1 180
def b10 : Obj := ⟨(.type "frame"), none, .plain, #[(some (.ref 9)), (some (.ref 3)), (some (.ref 3)), none, (some (.str "__main__" 164)), none, (some (.ref 0))]⟩
def b12 : Obj := nO [(.int 1 0), (.int 0 0), (.ref 20), (.int 5 0), (.int 0 0), (.ref 27), (.int 10 0), (.int 0 0), (.ref 47), (.int 14 0), (.int 0 0), (.ref 67), (.int 18 0), (.int 0 0), (.ref 87), (.int 27 0), (.int 0 0), (.ref 107), (.int 29 0), (.int 0 0), (.ref 112), (.int 41 0), (.int 0 0), (.ref 119), (.int 44 0), (.int 0 0), (.ref 126), (.int 48 0), (.int 0 0), (.ref 131), (.int 57 0), (.int 0 0), (.ref 136), (.int 61 0), (.int 0 0), (.ref 141), (.int 63 0), (.int 0 0), (.ref 148), (.int 65 0), (.int 0 0), (.ref 155), (.int 67 0), (.int 0 0), (.ref 160), (.int 72 0), (.int 0 0), (.ref 168), (.int 76 0), (.int 0 0), (.ref 173), (.int 81 0), (.int 0 0), (.ref 181), (.int 86 0), (.int 0 0), (.ref 186), (.int 95 0), (.int 0 0), (.ref 191), (.int 101 0), (.int 0 0), (.ref 198), (.int 147 0), (.int 0 0), (.ref 298), (.int 149 0), (.int 0 0), (.ref 305), (.int 159 0), (.int 0 0), (.ref 310), (.int 171 0), (.int 0 0), (.ref 315), (.int 173 0), (.int 0 0), (.ref 320), (.int 175 0), (.int 0 0), (.ref 327), (.int 187 0), (.int 0 0), (.ref 332), (.int 189 0), (.int 0 0), (.ref 337), (.int 200 0), (.int 0 0), (.ref 344), (.int 202 0), (.int 0 0), (.ref 349), (.int 206 0), (.int 0 0), (.ref 354), (.int 210 0), (.int 0 0), (.ref 359)]
def b13 : Obj := cC "<module>" "<module>" 182 1 0 0 0 0 11 false 181 12 .none .none .none .none 185 1 186
def b14 : Obj := ⟨(.type "frame"), none, .plain, #[(some (.ref 13)), (some (.ref 3)), (some (.ref 3)), none, (some (.str "__main__" 164)), none, (some (.ref 0))]⟩
def b17 : Obj := tO [(.str "k" 190)]
def b19 : Obj := fB "_wall" "_wall" (top 0)
def b20 : Obj := cC "_wall" "_wall" 187 1 1 0 0 3 15 true 181 16 .none (.ref 17) (.ref 18) (.ref 19) 191 1 192
def b21 : Obj := fO (FN "_wall" "_wall" (top 0) .none .none .none (.str "__main__" 164) none (.ref 20) .none)
def b22 : Obj := tO [(.type "ValueError")]
def b23 : Obj := ⟨(.type "builtin_function_or_method"), none, (.fields #[(.builtin "type.__prepare__"), (.type "type")]), #[]⟩
def b24 : Obj := ⟨(.type "dict"), none, (.dict #[(E P "__module__" 203 (.str "edgetally.errors" 194)), (E P "__qualname__" 205 (.str "EdgeError" 204)), (E P "__firstlineno__" 207 (.int 5 206)), (eR P "__init__" 216 35), (eR P "__static_attributes__" 218 36)] 5), #[]⟩
def b26 : Obj := nO [(.int 7 0), (.int 4 0), (.ref 34)]
def b27 : Obj := cC "EdgeError" "EdgeError" 198 5 0 0 0 0 25 false 181 26 .none .none .none .none 201 5 202
def b28 : Obj := ⟨(.type "frame"), none, .plain, #[(some (.ref 27)), (some (.ref 3)), (some (.ref 24)), none, (some (.str "edgetally.errors" 194)), none, (some (.ref 0))]⟩
def b31 : Obj := tO [(.str "self" 211), (.str "word" 212), (.str "why" 213)]
def b33 : Obj := fB "__init__" "EdgeError.__init__" (ay (top 2) 0)
def b34 : Obj := cC "__init__" "EdgeError.__init__" 208 7 3 0 0 3 29 true 181 30 .none (.ref 31) (.ref 32) (.ref 33) 214 7 215
def b35 : Obj := fO (FN "__init__" "EdgeError.__init__" (ay (top 2) 0) .none .none .none (.str "edgetally.errors" 194) none (.ref 34) .none)
def b36 : Obj := tO [(.str "word" 217)]
def b37 : Obj := ⟨(.type "dict"), none, (.dict #[(E P "__module__" 203 (.str "edgetally.errors" 194)), (E P "__firstlineno__" 207 (.int 5 206)), (eR P "__init__" 216 35), (eR P "__static_attributes__" 218 36), (eR P "__weakref__" 220 39), (E P "__doc__" 221 .none)] 3), #[]⟩
def b38 : Obj := ⟨(.type "type"), none, (.cls ⟨"EdgeError", [(.type "ValueError")], [(.ref 38), (.type "ValueError"), (.type "Exception"), (.type "BaseException"), (.type "object")], 37, "EdgeError", true, [], [(.ref 59), (.ref 79), (.ref 99)], false, none, false⟩), #[(some (.ref 22)), none, (some (.str "EdgeError" 196)), (some (.str "EdgeError" 204)), (some (.builtin "ValueError.__new__")), (some (.bool true))]⟩
def b39 : Obj := ⟨(.type "getset_descriptor"), none, (.fields #[(.str "__weakref__" 219), (.ref 38), (.builtin "ExceptionGroup.__weakref__"), .none]), #[]⟩
def b40 : Obj := ⟨(.type "super"), none, (.fields #[(.ref 38), (.ref 38), (.ref 38)]), #[]⟩
def b41 : Obj := ⟨(.type "builtin_function_or_method"), none, (.fields #[(.builtin "object.__init_subclass__"), (.ref 38)]), #[]⟩
def b42 : Obj := tO [(.ref 38)]
def b44 : Obj := ⟨(.type "dict"), none, (.dict #[(E P "__module__" 231 (.str "edgetally.errors" 194)), (E P "__qualname__" 233 (.str "BadTable" 232)), (E P "__firstlineno__" 235 (.int 10 234)), (eR P "__init__" 244 56), (eR P "__static_attributes__" 245 57)] 5), #[]⟩
def b46 : Obj := nO [(.int 12 0), (.int 4 0), (.ref 55)]
def b47 : Obj := cC "BadTable" "BadTable" 226 10 0 0 0 0 45 false 181 46 .none .none .none .none 229 10 230
def b48 : Obj := ⟨(.type "frame"), none, .plain, #[(some (.ref 47)), (some (.ref 3)), (some (.ref 44)), none, (some (.str "edgetally.errors" 194)), none, (some (.ref 0))]⟩
def b49 : Obj := tO [(.str "these rows are no table's" 236)]
def b52 : Obj := tO [(.str "self" 240), (.str "why" 241)]
def b54 : Obj := fB "__init__" "BadTable.__init__" (ay (top 3) 0)
def b55 : Obj := cC "__init__" "BadTable.__init__" 237 12 2 0 0 3 50 true 181 51 .none (.ref 52) (.ref 53) (.ref 54) 242 12 243
def b56 : Obj := fO (FN "__init__" "BadTable.__init__" (ay (top 3) 0) (.ref 49) .none .none (.str "edgetally.errors" 194) none (.ref 55) .none)
def b58 : Obj := ⟨(.type "dict"), none, (.dict #[(E P "__module__" 231 (.str "edgetally.errors" 194)), (E P "__firstlineno__" 235 (.int 10 234)), (eR P "__init__" 244 56), (eR P "__static_attributes__" 245 57), (E P "__doc__" 246 .none)] 2), #[]⟩
def b59 : Obj := ⟨(.type "type"), none, (.cls ⟨"BadTable", [(.ref 38)], [(.ref 59), (.ref 38), (.type "ValueError"), (.type "Exception"), (.type "BaseException"), (.type "object")], 58, "BadTable", true, [], [], false, none, false⟩), #[(some (.ref 42)), none, (some (.str "BadTable" 224)), (some (.str "BadTable" 232)), (some (.builtin "ValueError.__new__")), (some (.bool true))]⟩
def b60 : Obj := ⟨(.type "super"), none, (.fields #[(.ref 59), (.ref 59), (.ref 59)]), #[]⟩
def b61 : Obj := ⟨(.type "builtin_function_or_method"), none, (.fields #[(.builtin "object.__init_subclass__"), (.ref 59)]), #[]⟩
def b64 : Obj := ⟨(.type "dict"), none, (.dict #[(E P "__module__" 256 (.str "edgetally.errors" 194)), (E P "__qualname__" 258 (.str "BadBounds" 257)), (E P "__firstlineno__" 260 (.int 14 259)), (eR P "__init__" 269 76), (eR P "__static_attributes__" 270 77)] 5), #[]⟩
def b66 : Obj := nO [(.int 16 0), (.int 4 0), (.ref 75)]
def b67 : Obj := cC "BadBounds" "BadBounds" 251 14 0 0 0 0 65 false 181 66 .none .none .none .none 254 14 255
def b68 : Obj := ⟨(.type "frame"), none, .plain, #[(some (.ref 67)), (some (.ref 3)), (some (.ref 64)), none, (some (.str "edgetally.errors" 194)), none, (some (.ref 0))]⟩
def b69 : Obj := tO [(.str "these bounds are no table's" 261)]
def b72 : Obj := tO [(.str "self" 265), (.str "why" 266)]
def b74 : Obj := fB "__init__" "BadBounds.__init__" (ay (top 4) 0)
def b75 : Obj := cC "__init__" "BadBounds.__init__" 262 16 2 0 0 3 70 true 181 71 .none (.ref 72) (.ref 73) (.ref 74) 267 16 268
def b76 : Obj := fO (FN "__init__" "BadBounds.__init__" (ay (top 4) 0) (.ref 69) .none .none (.str "edgetally.errors" 194) none (.ref 75) .none)
def b78 : Obj := ⟨(.type "dict"), none, (.dict #[(E P "__module__" 256 (.str "edgetally.errors" 194)), (E P "__firstlineno__" 260 (.int 14 259)), (eR P "__init__" 269 76), (eR P "__static_attributes__" 270 77), (E P "__doc__" 271 .none)] 2), #[]⟩
def b79 : Obj := ⟨(.type "type"), none, (.cls ⟨"BadBounds", [(.ref 38)], [(.ref 79), (.ref 38), (.type "ValueError"), (.type "Exception"), (.type "BaseException"), (.type "object")], 78, "BadBounds", true, [], [], false, none, false⟩), #[(some (.ref 62)), none, (some (.str "BadBounds" 249)), (some (.str "BadBounds" 257)), (some (.builtin "ValueError.__new__")), (some (.bool true))]⟩
def b80 : Obj := ⟨(.type "super"), none, (.fields #[(.ref 79), (.ref 79), (.ref 79)]), #[]⟩
def b81 : Obj := ⟨(.type "builtin_function_or_method"), none, (.fields #[(.builtin "object.__init_subclass__"), (.ref 79)]), #[]⟩
def b84 : Obj := ⟨(.type "dict"), none, (.dict #[(E P "__module__" 281 (.str "edgetally.errors" 194)), (E P "__qualname__" 283 (.str "BadCell" 282)), (E P "__firstlineno__" 285 (.int 18 284)), (eR P "__init__" 294 96), (eR P "__static_attributes__" 295 97)] 5), #[]⟩
def b86 : Obj := nO [(.int 20 0), (.int 4 0), (.ref 95)]
def b87 : Obj := cC "BadCell" "BadCell" 276 18 0 0 0 0 85 false 181 86 .none .none .none .none 279 18 280
def b88 : Obj := ⟨(.type "frame"), none, .plain, #[(some (.ref 87)), (some (.ref 3)), (some (.ref 84)), none, (some (.str "edgetally.errors" 194)), none, (some (.ref 0))]⟩
def b89 : Obj := tO [(.str "there is no such cell" 286)]
def b92 : Obj := tO [(.str "self" 290), (.str "why" 291)]
def b94 : Obj := fB "__init__" "BadCell.__init__" (ay (top 5) 0)
def b95 : Obj := cC "__init__" "BadCell.__init__" 287 20 2 0 0 3 90 true 181 91 .none (.ref 92) (.ref 93) (.ref 94) 292 20 293
def b96 : Obj := fO (FN "__init__" "BadCell.__init__" (ay (top 5) 0) (.ref 89) .none .none (.str "edgetally.errors" 194) none (.ref 95) .none)
def b98 : Obj := ⟨(.type "dict"), none, (.dict #[(E P "__module__" 281 (.str "edgetally.errors" 194)), (E P "__firstlineno__" 285 (.int 18 284)), (eR P "__init__" 294 96), (eR P "__static_attributes__" 295 97), (E P "__doc__" 296 .none)] 2), #[]⟩
def b99 : Obj := ⟨(.type "type"), none, (.cls ⟨"BadCell", [(.ref 38)], [(.ref 99), (.ref 38), (.type "ValueError"), (.type "Exception"), (.type "BaseException"), (.type "object")], 98, "BadCell", true, [], [], false, none, false⟩), #[(some (.ref 82)), none, (some (.str "BadCell" 274)), (some (.str "BadCell" 282)), (some (.builtin "ValueError.__new__")), (some (.bool true))]⟩
def wz : Obj := ⟨(.type "super"), none, (.fields #[(.ref 99), (.ref 99), (.ref 99)]), #[]⟩
def wy : Obj := ⟨(.type "builtin_function_or_method"), none, (.fields #[(.builtin "object.__init_subclass__"), (.ref 99)]), #[]⟩
def wx : Obj := tO [(.int 0 307), (.int 40 301)]
def ww : Obj := ⟨(.type "dict"), none, (.dict #[(eR P "pair" 309 102)] 1), #[]⟩
def At : Obj := fB "free" "free" (top 11)
def wv : Obj := cC "free" "free" 310 27 2 0 1 3 104 true 181 105 .none .none .none (.ref 106) 313 27 314
def wu : Obj := fO (FN "free" "free" (top 11) .none (.ref 103) .none (.str "edgetally.bounds" 299) none (.ref 107) .none)
def As : Obj := fB "check_rows" "check_rows" (top 12)
def wr : Obj := cC "check_rows" "check_rows" 316 29 1 0 0 3 109 true 181 110 .none .none .none (.ref 111) 319 29 320
def wq : Obj := fO (FN "check_rows" "check_rows" (top 12) .none .none .none (.str "edgetally.bounds" 299) none (.ref 112) .none)
def Ar : Obj := tO [(.str "place" 325), (.str "many" 326)]
def Aq : Obj := fB "check_there" "check_there" (top 13)
def wo : Obj := cC "check_there" "check_there" 322 41 2 0 0 3 114 true 181 115 .none (.ref 116) (.ref 117) (.ref 118) 327 41 328
def wn : Obj := fO (FN "check_there" "check_there" (top 13) .none .none .none (.str "edgetally.bounds" 299) none (.ref 119) .none)
def Ao : Obj := tO [(.str "pair" 333), (.str "low" 334), (.str "high" 335)]
def An : Obj := fB "check_pair" "check_pair" (top 14)
def wm : Obj := cC "check_pair" "check_pair" 330 44 1 0 0 3 121 true 181 122 .none (.ref 123) (.ref 124) (.ref 125) 336 44 337
def wl : Obj := fO (FN "check_pair" "check_pair" (top 14) .none .none .none (.str "edgetally.bounds" 299) none (.ref 126) .none)
def Am : Obj := fB "settled_bounds" "settled_bounds" (top 15)
def wk : Obj := cC "settled_bounds" "settled_bounds" 339 48 3 0 0 3 128 true 181 129 .none .none .none (.ref 130) 342 48 343
def wj : Obj := fO (FN "settled_bounds" "settled_bounds" (top 15) .none .none .none (.str "edgetally.bounds" 299) none (.ref 131) .none)
def Al : Obj := fB "keeps" "keeps" (top 16)
def wg : Obj := cC "keeps" "keeps" 345 57 2 0 0 3 133 true 181 134 .none .none .none (.ref 135) 348 57 349
def wf : Obj := fO (FN "keeps" "keeps" (top 16) .none .none .none (.str "edgetally.bounds" 299) none (.ref 136) .none)
def Ak : Obj := fB "rows_turned" "rows_turned" (top 17)
def we : Obj := cC "rows_turned" "rows_turned" 351 61 1 0 0 3 138 true 181 139 .none .none .none (.ref 140) 354 61 355
def wc : Obj := fO (FN "rows_turned" "rows_turned" (top 17) .none .none .none (.str "edgetally.bounds" 299) none (.ref 141) .none)
def Aj : Obj := tO [(.str "bounds" 360)]
def Ai : Obj := fB "bounds_turned" "bounds_turned" (top 18)
def wb : Obj := cC "bounds_turned" "bounds_turned" 357 63 1 0 0 3 143 true 181 144 .none (.ref 145) (.ref 146) (.ref 147) 361 63 362
def wa : Obj := fO (FN "bounds_turned" "bounds_turned" (top 18) .none .none .none (.str "edgetally.bounds" 299) none (.ref 148) .none)
def Ah : Obj := tO [(.str "one" 367), (.str "other" 368)]
def Ag : Obj := fB "pair_joined" "pair_joined" (top 19)
def v9 : Obj := cC "pair_joined" "pair_joined" 364 65 2 0 0 3 150 true 181 151 .none (.ref 152) (.ref 153) (.ref 154) 369 65 370
def v8 : Obj := fO (FN "pair_joined" "pair_joined" (top 19) .none .none .none (.str "edgetally.bounds" 299) none (.ref 155) .none)
def Af : Obj := fB "rows_joined" "rows_joined" (top 20)
def v7 : Obj := cC "rows_joined" "rows_joined" 372 67 3 0 0 3 157 true 181 158 .none .none .none (.ref 159) 375 67 376
def v6 : Obj := fO (FN "rows_joined" "rows_joined" (top 20) .none .none .none (.str "edgetally.bounds" 299) none (.ref 160) .none)
def v5 : Obj := ⟨(.type "dict"), none, (.dict #[(E P "rows" 378 (.bool true))] 1), #[]⟩
def Ae : Obj := tO [(.str "bounds" 382), (.str "one" 383), (.str "other" 384), (.str "rows" 385)]
def Ac : Obj := fB "bounds_joined" "bounds_joined" (top 21)
def v4 : Obj := cC "bounds_joined" "bounds_joined" 379 72 3 0 1 3 163 true 181 164 .none (.ref 165) (.ref 166) (.ref 167) 386 72 387
def v3 : Obj := fO (FN "bounds_joined" "bounds_joined" (top 21) .none (.ref 162) .none (.str "edgetally.bounds" 299) none (.ref 168) .none)
def Ab : Obj := fB "row_parted" "row_parted" (top 22)
def vZ : Obj := cC "row_parted" "row_parted" 389 76 2 0 0 3 170 true 181 171 .none .none .none (.ref 172) 392 76 393
def vY : Obj := fO (FN "row_parted" "row_parted" (top 22) .none .none .none (.str "edgetally.bounds" 299) none (.ref 173) .none)
def vX : Obj := ⟨(.type "dict"), none, (.dict #[(E P "rows" 395 (.bool true))] 1), #[]⟩
def Aa : Obj := tO [(.str "bounds" 399), (.str "one" 400), (.str "rows" 401)]
def z9 : Obj := fB "bounds_parted" "bounds_parted" (top 23)
def vW : Obj := cC "bounds_parted" "bounds_parted" 396 81 2 0 1 3 176 true 181 177 .none (.ref 178) (.ref 179) (.ref 180) 402 81 403
def vV : Obj := fO (FN "bounds_parted" "bounds_parted" (top 23) .none (.ref 175) .none (.str "edgetally.bounds" 299) none (.ref 181) .none)
def z7 : Obj := fB "two_joined" "two_joined" (top 25)
def vU : Obj := cC "two_joined" "two_joined" 407 86 3 0 0 3 183 true 181 184 .none .none .none (.ref 185) 410 86 411
def vT : Obj := fO (FN "two_joined" "two_joined" (top 25) .none .none .none (.str "edgetally.table" 405) none (.ref 186) .none)
def z6 : Obj := fB "one_parted" "one_parted" (top 26)
def vS : Obj := cC "one_parted" "one_parted" 413 95 3 0 0 3 188 true 181 189 .none .none .none (.ref 190) 416 95 417
def vR : Obj := fO (FN "one_parted" "one_parted" (top 26) .none .none .none (.str "edgetally.table" 405) none (.ref 191) .none)
def b195 : Obj := ⟨(.type "dict"), none, (.dict #[(E P "__module__" 426 (.str "edgetally.table" 405)), (E P "__qualname__" 428 (.str "Table" 427)), (E P "__firstlineno__" 430 (.int 101 429)), (eR P "__init__" 436 204), (eR P "__eq__" 444 211), (eR P "__len__" 451 218), (eR P "__str__" 457 223), (eR P "__repr__" 464 230), (eR P "cells" 470 235), (eR P "rowsums" 477 242), (eR P "columnsums" 484 249), (eR P "total" 491 256), (eR P "turned" 498 263), (eR P "joined" 509 271), (eR P "parted" 520 279), (eR P "more" 532 287), (eR P "__static_attributes__" 534 288)] 17), #[]⟩
def b197 : Obj := nO [(.int 103 0), (.int 4 0), (.ref 203), (.int 107 0), (.int 4 0), (.ref 210), (.int 110 0), (.int 4 0), (.ref 217), (.int 113 0), (.int 4 0), (.ref 222), (.int 116 0), (.int 4 0), (.ref 229), (.int 119 0), (.int 4 0), (.ref 234), (.int 122 0), (.int 4 0), (.ref 241), (.int 125 0), (.int 4 0), (.ref 248), (.int 128 0), (.int 4 0), (.ref 255), (.int 131 0), (.int 4 0), (.ref 262), (.int 134 0), (.int 4 0), (.ref 270), (.int 139 0), (.int 4 0), (.ref 278), (.int 144 0), (.int 4 0), (.ref 286)]
def b198 : Obj := cC "Table" "Table" 421 101 0 0 0 0 196 false 181 197 .none .none .none .none 424 101 425
def b199 : Obj := ⟨(.type "frame"), none, .plain, #[(some (.ref 198)), (some (.ref 3)), (some (.ref 195)), none, (some (.str "edgetally.table" 405)), none, (some (.ref 0))]⟩
def b202 : Obj := fB "__init__" "Table.__init__" (ay (top 27) 0)
def z5 : Obj := cC "__init__" "Table.__init__" 431 103 2 0 0 3 200 true 181 201 .none .none .none (.ref 202) 434 103 435
def zZ : Obj := fO (FN "__init__" "Table.__init__" (ay (top 27) 0) .none .none .none (.str "edgetally.table" 405) none (.ref 203) .none)
def b207 : Obj := tO [(.str "self" 440), (.str "other" 441)]
def b209 : Obj := fB "__eq__" "Table.__eq__" (ay (top 27) 1)
def b210 : Obj := cC "__eq__" "Table.__eq__" 437 107 2 0 0 3 205 true 181 206 .none (.ref 207) (.ref 208) (.ref 209) 442 107 443
def b211 : Obj := fO (FN "__eq__" "Table.__eq__" (ay (top 27) 1) .none .none .none (.str "edgetally.table" 405) none (.ref 210) .none)
def b214 : Obj := tO [(.str "self" 448)]
def b216 : Obj := fB "__len__" "Table.__len__" (ay (top 27) 2)
def b217 : Obj := cC "__len__" "Table.__len__" 445 110 1 0 0 3 212 true 181 213 .none (.ref 214) (.ref 215) (.ref 216) 449 110 450
def b218 : Obj := fO (FN "__len__" "Table.__len__" (ay (top 27) 2) .none .none .none (.str "edgetally.table" 405) none (.ref 217) .none)
def b221 : Obj := fB "__str__" "Table.__str__" (ay (top 27) 3)
def b222 : Obj := cC "__str__" "Table.__str__" 452 113 1 0 0 3 219 true 181 220 .none .none .none (.ref 221) 455 113 456
def b223 : Obj := fO (FN "__str__" "Table.__str__" (ay (top 27) 3) .none .none .none (.str "edgetally.table" 405) none (.ref 222) .none)
def b226 : Obj := tO [(.str "self" 461)]
def b228 : Obj := fB "__repr__" "Table.__repr__" (ay (top 27) 4)
def b229 : Obj := cC "__repr__" "Table.__repr__" 458 116 1 0 0 3 224 true 181 225 .none (.ref 226) (.ref 227) (.ref 228) 462 116 463
def b230 : Obj := fO (FN "__repr__" "Table.__repr__" (ay (top 27) 4) .none .none .none (.str "edgetally.table" 405) none (.ref 229) .none)
def b233 : Obj := fB "cells" "Table.cells" (ay (top 27) 5)
def zY : Obj := cC "cells" "Table.cells" 465 119 1 0 0 3 231 true 181 232 .none .none .none (.ref 233) 468 119 469
def zX : Obj := fO (FN "cells" "Table.cells" (ay (top 27) 5) .none .none .none (.str "edgetally.table" 405) none (.ref 234) .none)
def b238 : Obj := tO [(.str "self" 474)]
def b240 : Obj := fB "rowsums" "Table.rowsums" (ay (top 27) 6)
def b241 : Obj := cC "rowsums" "Table.rowsums" 471 122 1 0 0 3 236 true 181 237 .none (.ref 238) (.ref 239) (.ref 240) 475 122 476
def b242 : Obj := fO (FN "rowsums" "Table.rowsums" (ay (top 27) 6) .none .none .none (.str "edgetally.table" 405) none (.ref 241) .none)
def b245 : Obj := tO [(.str "self" 481)]
def b247 : Obj := fB "columnsums" "Table.columnsums" (ay (top 27) 7)
def b248 : Obj := cC "columnsums" "Table.columnsums" 478 125 1 0 0 3 243 true 181 244 .none (.ref 245) (.ref 246) (.ref 247) 482 125 483
def b249 : Obj := fO (FN "columnsums" "Table.columnsums" (ay (top 27) 7) .none .none .none (.str "edgetally.table" 405) none (.ref 248) .none)
def b252 : Obj := tO [(.str "self" 488)]
def b254 : Obj := fB "total" "Table.total" (ay (top 27) 8)
def b255 : Obj := cC "total" "Table.total" 485 128 1 0 0 3 250 true 181 251 .none (.ref 252) (.ref 253) (.ref 254) 489 128 490
def b256 : Obj := fO (FN "total" "Table.total" (ay (top 27) 8) .none .none .none (.str "edgetally.table" 405) none (.ref 255) .none)
def b259 : Obj := tO [(.str "self" 495)]
def b261 : Obj := fB "turned" "Table.turned" (ay (top 27) 9)
def b262 : Obj := cC "turned" "Table.turned" 492 131 1 0 0 3 257 true 181 258 .none (.ref 259) (.ref 260) (.ref 261) 496 131 497
def b263 : Obj := fO (FN "turned" "Table.turned" (ay (top 27) 9) .none .none .none (.str "edgetally.table" 405) none (.ref 262) .none)
def zW : Obj := ⟨(.type "dict"), none, (.dict #[(E P "rows" 499 (.bool true))] 1), #[]⟩
def b267 : Obj := tO [(.str "self" 503), (.str "one" 504), (.str "other" 505), (.str "rows" 506)]
def b269 : Obj := fB "joined" "Table.joined" (ay (top 27) 10)
def zV : Obj := cC "joined" "Table.joined" 500 134 3 0 1 3 265 true 181 266 .none (.ref 267) (.ref 268) (.ref 269) 507 134 508
def zU : Obj := fO (FN "joined" "Table.joined" (ay (top 27) 10) .none (.ref 264) .none (.str "edgetally.table" 405) none (.ref 270) .none)
def zS : Obj := ⟨(.type "dict"), none, (.dict #[(E P "rows" 510 (.bool true))] 1), #[]⟩
def b275 : Obj := tO [(.str "self" 514), (.str "one" 515), (.str "taken" 516), (.str "rows" 517)]
def b277 : Obj := fB "parted" "Table.parted" (ay (top 27) 11)
def zR : Obj := cC "parted" "Table.parted" 511 139 3 0 1 3 273 true 181 274 .none (.ref 275) (.ref 276) (.ref 277) 518 139 519
def zQ : Obj := fO (FN "parted" "Table.parted" (ay (top 27) 11) .none (.ref 272) .none (.str "edgetally.table" 405) none (.ref 278) .none)
def b280 : Obj := ⟨(.type "dict"), none, (.dict #[(E P "many" 522 (.int 1 521))] 1), #[]⟩
def b283 : Obj := tO [(.str "self" 526), (.str "row" 527), (.str "column" 528), (.str "many" 529)]
def b285 : Obj := fB "more" "Table.more" (ay (top 27) 12)
def b286 : Obj := cC "more" "Table.more" 523 144 3 0 1 3 281 true 181 282 .none (.ref 283) (.ref 284) (.ref 285) 530 144 531
def b287 : Obj := fO (FN "more" "Table.more" (ay (top 27) 12) .none (.ref 280) .none (.str "edgetally.table" 405) none (.ref 286) .none)
def b288 : Obj := tO [(.str "counts" 533)]
def zP : Obj := ⟨(.type "dict"), none, (.dict #[(E P "__module__" 426 (.str "edgetally.table" 405)), (E P "__firstlineno__" 430 (.int 101 429)), (eR P "__init__" 436 204), (eR P "__eq__" 444 211), (eR P "__len__" 451 218), (eR P "__str__" 457 223), (eR P "__repr__" 464 230), (eR P "cells" 470 235), (eR P "rowsums" 477 242), (eR P "columnsums" 484 249), (eR P "total" 491 256), (eR P "turned" 498 263), (eR P "joined" 509 271), (eR P "parted" 520 279), (eR P "more" 532 287), (eR P "__static_attributes__" 534 288), (eR P "__dict__" 536 291), (eR P "__weakref__" 538 292), (E P "__doc__" 539 .none), (E P "__hash__" 540 .none)] 5), #[]⟩
def zO : Obj := ⟨(.type "type"), none, (.cls ⟨"Table", [(.type "object")], [(.ref 290), (.type "object")], 289, "Table", true, [], [], false, none, false⟩), #[none, none, (some (.str "Table" 419)), (some (.str "Table" 427)), (some (.builtin "object.__new__")), (some (.bool true))]⟩
def b291 : Obj := ⟨(.type "getset_descriptor"), none, (.fields #[(.str "__dict__" 535), (.ref 290), (.builtin "function.__dict__"), (.builtin "function.__dict__#set")]), #[]⟩
def b292 : Obj := ⟨(.type "getset_descriptor"), none, (.fields #[(.str "__weakref__" 537), (.ref 290), (.builtin "ExceptionGroup.__weakref__"), .none]), #[]⟩
def b293 : Obj := ⟨(.type "super"), none, (.fields #[(.ref 290), (.ref 290), (.ref 290)]), #[]⟩
def b294 : Obj := ⟨(.type "builtin_function_or_method"), none, (.fields #[(.builtin "object.__init_subclass__"), (.ref 290)]), #[]⟩
def b297 : Obj := fB "_law_bag" "_law_bag" (top 29)
def zN : Obj := cC "_law_bag" "_law_bag" 545 147 1 0 0 3 295 true 181 296 .none .none .none (.ref 297) 548 147 549
def zM : Obj := fL "_law_bag" "_law_bag" 29 298
def b302 : Obj := tO [(.str "_law_bag_here" 554), (.str "_law_lot" 555), (.str "_law_cells" 556), (.str "_law_at" 557), (.str "_law_cell" 558)]
def b304 : Obj := fB "_law_pull" "_law_pull" (top 30)
def zL : Obj := cC "_law_pull" "_law_pull" 551 149 2 0 0 3 300 true 181 301 .none (.ref 302) (.ref 303) (.ref 304) 559 149 560
def zK : Obj := fL "_law_pull" "_law_pull" 30 305
def b309 : Obj := fB "_law_same" "_law_same" (top 31)
def zJ : Obj := cC "_law_same" "_law_same" 562 159 2 0 0 3 307 true 181 308 .none .none .none (.ref 309) 565 159 566
def zI : Obj := fL "_law_same" "_law_same" 31 310
def b314 : Obj := fB "_law_turned" "_law_turned" (top 32)
def zH : Obj := cC "_law_turned" "_law_turned" 568 171 1 0 0 3 312 true 181 313 .none .none .none (.ref 314) 571 171 572
def zG : Obj := fL "_law_turned" "_law_turned" 32 315
def b319 : Obj := fB "_law_free" "_law_free" (top 33)
def zF : Obj := cC "_law_free" "_law_free" 574 173 2 0 0 3 317 true 181 318 .none .none .none (.ref 319) 577 173 578
def zE : Obj := fL "_law_free" "_law_free" 33 320
def b324 : Obj := tO [(.str "_law_bag_here" 583), (.str "_law_grid" 584), (.str "_law_told" 585), (.str "_law_at" 586), (.str "_law_row" 587), (.str "_law_to" 588), (.str "_law_count" 589), (.str "_law_way" 590)]
def b326 : Obj := fB "_law_bounds" "_law_bounds" (top 34)
def zD : Obj := cC "_law_bounds" "_law_bounds" 580 175 2 0 0 3 322 true 181 323 .none (.ref 324) (.ref 325) (.ref 326) 591 175 592
def zC : Obj := fL "_law_bounds" "_law_bounds" 34 327
def b331 : Obj := fB "_law_copied" "_law_copied" (top 35)
def zB : Obj := cC "_law_copied" "_law_copied" 594 187 1 0 0 3 329 true 181 330 .none .none .none (.ref 331) 597 187 598
def zA : Obj := fL "_law_copied" "_law_copied" 35 332
def b336 : Obj := fB "_law_any" "_law_any" (top 36)
def zz : Obj := cC "_law_any" "_law_any" 600 189 1 0 0 3 334 true 181 335 .none .none .none (.ref 336) 603 189 604
def zy : Obj := fL "_law_any" "_law_any" 36 337
def b341 : Obj := tO [(.str "_law_first" 609), (.str "_law_second" 610)]
def b343 : Obj := fB "_law_pairs" "_law_pairs" (top 37)
def zx : Obj := cC "_law_pairs" "_law_pairs" 606 200 2 0 0 3 339 true 181 340 .none (.ref 341) (.ref 342) (.ref 343) 611 200 612
def zw : Obj := fL "_law_pairs" "_law_pairs" 37 344
def b348 : Obj := fB "_law_bounds_joined" "_law_bounds_joined" (top 38)
def zv : Obj := cC "_law_bounds_joined" "_law_bounds_joined" 614 202 3 0 0 3 346 true 181 347 .none .none .none (.ref 348) 617 202 618
def zu : Obj := fL "_law_bounds_joined" "_law_bounds_joined" 38 349
def b353 : Obj := fB "_law_bounds_parted" "_law_bounds_parted" (top 39)
def zt : Obj := cC "_law_bounds_parted" "_law_bounds_parted" 620 206 2 0 0 3 351 true 181 352 .none .none .none (.ref 353) 623 206 624
def zr : Obj := fL "_law_bounds_parted" "_law_bounds_parted" 39 354
def b358 : Obj := fB "law" "law" (top 40)
def zq : Obj := cC "law" "law" 626 210 1 0 0 3 356 true 181 357 .none .none .none (.ref 358) 629 210 630
def zp : Obj := fL "law" "law" 40 359
def h0_3 : Obj := ⟨(.type "dict"), none, (.dict #[(E P "__name__" 165 (.str "__main__" 164)), (E P "__doc__" 166 .none), (E P "__package__" 167 .none), (E P "__loader__" 168 (.builtin "__main__.__loader__#opaque")), (E P "__spec__" 169 .none), (eR P "__annotations__" 170 6), (eR P "__builtins__" 171 4), (E P "__file__" 173 (.str "/claim/cut.py" 172)), (E P "__cached__" 174 .none)] 9), #[]⟩
def Bb : Obj := nO []
def h1_3 : Obj := ⟨(.type "dict"), none, (.dict #[(E P "__name__" 165 (.str "__main__" 164)), (E P "__doc__" 166 .none), (E P "__package__" 167 .none), (E P "__loader__" 168 (.builtin "__main__.__loader__#opaque")), (E P "__spec__" 169 .none), (eR P "__annotations__" 170 6), (eR P "__builtins__" 171 4), (E P "__file__" 173 (.str "/claim/cut.py" 172)), (E P "__cached__" 174 .none)] 9), #[]⟩
def A5 : Obj := nO [(.int 1 0), (.int 0 0), (.ref 20), (.int 5 0), (.int 0 0), (.ref 27), (.int 10 0), (.int 0 0), (.ref 47), (.int 14 0), (.int 0 0), (.ref 67), (.int 18 0), (.int 0 0), (.ref 87)]
def k1_3 : Obj := ⟨(.type "dict"), none, (.dict #[(E P "__name__" 165 (.str "edgetally.errors" 194)), (E P "__doc__" 166 .none), (E P "__package__" 167 .none), (E P "__loader__" 168 (.builtin "__main__.__loader__#opaque")), (E P "__spec__" 169 .none), (eR P "__annotations__" 170 6), (eR P "__builtins__" 171 4), (E P "__file__" 173 (.str "/claim/cut.py" 172)), (E P "__cached__" 174 .none), (eR P "_wall" 193 21), (eR P "EdgeError" 223 38), (eR P "BadTable" 248 59), (eR P "BadBounds" 273 79), (eR P "BadCell" 298 99)] 14), #[]⟩
def A4 : Obj := nO [(.int 1 0), (.int 0 0), (.ref 20), (.int 5 0), (.int 0 0), (.ref 27), (.int 10 0), (.int 0 0), (.ref 47), (.int 14 0), (.int 0 0), (.ref 67), (.int 18 0), (.int 0 0), (.ref 87), (.int 27 0), (.int 0 0), (.ref 107), (.int 29 0), (.int 0 0), (.ref 112), (.int 41 0), (.int 0 0), (.ref 119), (.int 44 0), (.int 0 0), (.ref 126), (.int 48 0), (.int 0 0), (.ref 131), (.int 57 0), (.int 0 0), (.ref 136), (.int 61 0), (.int 0 0), (.ref 141), (.int 63 0), (.int 0 0), (.ref 148), (.int 65 0), (.int 0 0), (.ref 155), (.int 67 0), (.int 0 0), (.ref 160), (.int 72 0), (.int 0 0), (.ref 168), (.int 76 0), (.int 0 0), (.ref 173), (.int 81 0), (.int 0 0), (.ref 181), (.int 86 0), (.int 0 0), (.ref 186), (.int 95 0), (.int 0 0), (.ref 191)]
def k2_3 : Obj := ⟨(.type "dict"), none, (.dict #[(E P "__name__" 165 (.str "edgetally.table" 405)), (E P "__doc__" 166 .none), (E P "__package__" 167 .none), (E P "__loader__" 168 (.builtin "__main__.__loader__#opaque")), (E P "__spec__" 169 .none), (eR P "__annotations__" 170 6), (eR P "__builtins__" 171 4), (E P "__file__" 173 (.str "/claim/cut.py" 172)), (E P "__cached__" 174 .none), (eR P "_wall" 193 21), (eR P "EdgeError" 223 38), (eR P "BadTable" 248 59), (eR P "BadBounds" 273 79), (eR P "BadCell" 298 99), (E P "MOST" 302 (.int 40 301)), (E P "MOST_ROWS" 304 (.int 4 303)), (E P "MOST_COLUMNS" 306 (.int 6 305)), (eR P "FREE" 308 102), (eR P "free" 315 108), (eR P "check_rows" 321 113), (eR P "check_there" 329 120), (eR P "check_pair" 338 127), (eR P "settled_bounds" 344 132), (eR P "keeps" 350 137), (eR P "rows_turned" 356 142), (eR P "bounds_turned" 363 149), (eR P "pair_joined" 371 156), (eR P "rows_joined" 377 161), (eR P "bounds_joined" 388 169), (eR P "row_parted" 394 174), (eR P "bounds_parted" 404 182), (eR P "two_joined" 412 187), (eR P "one_parted" 418 192)] 33), #[]⟩
def h0H : Heap := ⟨⟨[b0 P, b1 P, b2, h0_3 P, b4, b5, b6, b7, b8, b9, b10]⟩, {}⟩
def h1H : Heap := ⟨⟨[b0 P, b1 P, b2, h1_3 P, b4, b5, b6, b7, b8, b9, b10, b7, Bb, b13, b14]⟩, {}⟩
def k1H : Heap := ⟨⟨[b0 P, b1 P, b2, k1_3 P, b4, b5, b6, b7, b8, b9, b10, b7, A5, b13, b14, b7, b8, b17, b7, b19, b20, b21, b22, b23, b24 P, b7, b26, b27, b28, b7, b8, b31, b7, b33, b34, b35, b36, b37 P, b38, b39, b40, b41, b42, b23, b44 P, b7, b46, b47, b48, b49, b7, b8, b52, b7, b54, b55, b56, b7, b58 P, b59, b60, b61, b42, b23, b64 P, b7, b66, b67, b68, b69, b7, b8, b72, b7, b74, b75, b76, b7, b78 P, b79, b80, b81, b42, b23, b84 P, b7, b86, b87, b88, b89, b7, b8, b92, b7, b94, b95, b96, b7, b98 P, b99, wz, wy]⟩, {}⟩
def k2H : Heap := ⟨⟨[b0 P, b1 P, b2, k2_3 P, b4, b5, b6, b7, b8, b9, b10, b7, A4, b13, b14, b7, b8, b17, b7, b19, b20, b21, b22, b23, b24 P, b7, b26, b27, b28, b7, b8, b31, b7, b33, b34, b35, b36, b37 P, b38, b39, b40, b41, b42, b23, b44 P, b7, b46, b47, b48, b49, b7, b8, b52, b7, b54, b55, b56, b7, b58 P, b59, b60, b61, b42, b23, b64 P, b7, b66, b67, b68, b69, b7, b8, b72, b7, b74, b75, b76, b7, b78 P, b79, b80, b81, b42, b23, b84 P, b7, b86, b87, b88, b89, b7, b8, b92, b7, b94, b95, b96, b7, b98 P, b99, wz, wy, wx, ww P, b7, b8, At, wv, wu, b7, b8, As, wr, wq, b7, b8, Ar, b7, Aq, wo, wn, b7, b8, Ao, b7, An, wm, wl, b7, b8, Am, wk, wj, b7, b8, Al, wg, wf, b7, b8, Ak, we, wc, b7, b8, Aj, b7, Ai, wb, wa, b7, b8, Ah, b7, Ag, v9, v8, b7, b8, Af, v7, v6, v5 P, b7, b8, Ae, b7, Ac, v4, v3, b7, b8, Ab, vZ, vY, vX P, b7, b8, Aa, b7, z9, vW, vV, b7, b8, z7, vU, vT, b7, b8, z6, vS, vR]⟩, {}⟩
def k3H : Heap := ⟨⟨[b0 P, b1 P, b2, b3 P, b4, b5, b6, b7, b8, b9, b10, b7, b12, b13, b14, b7, b8, b17, b7, b19, b20, b21, b22, b23, b24 P, b7, b26, b27, b28, b7, b8, b31, b7, b33, b34, b35, b36, b37 P, b38, b39, b40, b41, b42, b23, b44 P, b7, b46, b47, b48, b49, b7, b8, b52, b7, b54, b55, b56, b7, b58 P, b59, b60, b61, b42, b23, b64 P, b7, b66, b67, b68, b69, b7, b8, b72, b7, b74, b75, b76, b7, b78 P, b79, b80, b81, b42, b23, b84 P, b7, b86, b87, b88, b89, b7, b8, b92, b7, b94, b95, b96, b7, b98 P, b99, wz, wy, wx, ww P, b7, b8, At, wv, wu, b7, b8, As, wr, wq, b7, b8, Ar, b7, Aq, wo, wn, b7, b8, Ao, b7, An, wm, wl, b7, b8, Am, wk, wj, b7, b8, Al, wg, wf, b7, b8, Ak, we, wc, b7, b8, Aj, b7, Ai, wb, wa, b7, b8, Ah, b7, Ag, v9, v8, b7, b8, Af, v7, v6, v5 P, b7, b8, Ae, b7, Ac, v4, v3, b7, b8, Ab, vZ, vY, vX P, b7, b8, Aa, b7, z9, vW, vV, b7, b8, z7, vU, vT, b7, b8, z6, vS, vR, b7, b23, b195 P, b7, b197, b198, b199, b7, b8, b202, z5, zZ, b7, b8, b207, b7, b209, b210, b211, b7, b8, b214, b7, b216, b217, b218, b7, b8, b221, b222, b223, b7, b8, b226, b7, b228, b229, b230, b7, b8, b233, zY, zX, b7, b8, b238, b7, b240, b241, b242, b7, b8, b245, b7, b247, b248, b249, b7, b8, b252, b7, b254, b255, b256, b7, b8, b259, b7, b261, b262, b263, zW P, b7, b8, b267, b7, b269, zV, zU, zS P, b7, b8, b275, b7, b277, zR, zQ, b280 P, b7, b8, b283, b7, b285, b286, b287, b288, zP P, zO, b291, b292, b293, b294, b7, b8, b297, zN, zM, b7, b8, b302, b7, b304, zL, zK, b7, b8, b309, zJ, zI, b7, b8, b314, zH, zG, b7, b8, b319, zF, zE, b7, b8, b324, b7, b326, zD, zC, b7, b8, b331, zB, zA, b7, b8, b336, zz, zy, b7, b8, b341, b7, b343, zx, zw, b7, b8, b348, zv, zu, b7, b8, b353, zt, zr, b7, b8, b358, zq, zp]⟩, {}⟩
end
noncomputable def KH : Params -> Frag := fun P =>
[(2, b2), (3, b3 P), (34, b34), (35, b35), (37, b37 P), (38, b38), (49, b49), (55, b55), (56, b56), (58, b58 P), (59, b59), (69, b69), (75, b75), (76, b76), (78, b78 P), (79, b79), (89, b89), (95, b95), (96, b96), (98, b98 P), (99, b99), (102, wx), (103, ww P), (107, wv), (108, wu), (112, wr), (113, wq), (119, wo), (120, wn), (126, wm), (127, wl), (131, wk), (132, wj), (136, wg), (137, wf), (141, we), (142, wc), (148, wb), (149, wa), (155, v9), (156, v8), (160, v7), (161, v6), (162, v5 P), (168, v4), (169, v3), (173, vZ), (174, vY), (175, vX P), (181, vW), (182, vV), (186, vU), (187, vT), (191, vS), (192, vR), (203, z5), (204, zZ), (234, zY), (235, zX), (264, zW P), (270, zV), (271, zU), (272, zS P), (278, zR), (279, zQ), (289, zP P), (290, zO), (298, zN), (299, zM), (305, zL), (306, zK), (310, zJ), (311, zI), (315, zH), (316, zG), (320, zF), (321, zE), (327, zD), (328, zC), (332, zB), (333, zA), (337, zz), (338, zy), (344, zx), (345, zw), (349, zv), (350, zu), (354, zt), (355, zr), (359, zq), (360, zp)]
def aH : List Addr := [2, 3, 34, 35, 37, 38, 49, 55, 56, 58, 59, 69, 75, 76, 78, 79, 89, 95, 96, 98, 99, 102, 103, 107, 108, 112, 113, 119, 120, 126, 127, 131, 132, 136, 137, 141, 142, 148, 149, 155, 156, 160, 161, 162, 168, 169, 173, 174, 175, 181, 182, 186, 187, 191, 192, 203, 204, 234, 235, 264, 270, 271, 272, 278, 279, 289, 290, 298, 299, 305, 306, 310, 311, 315, 316, 320, 321, 327, 328, 332, 333, 337, 338, 344, 345, 349, 350, 354, 355, 359, 360]
theorem eH : ∀ P, aH = (KH P).map (·.1) := fun _ => by kernel_rfl
def qH : Program := { PySem.Challenge.pw_edgetally_k10_bounds_go_along with main := { PySem.Challenge.pw_edgetally_k10_bounds_go_along.main with body := [top 0, top 2, top 3, top 4, top 5, top 7, top 8, top 9, top 10, top 12, top 13, top 14, top 15, top 16, top 17, top 18, top 19, top 20, top 22, top 25, top 26, top 27, top 29, top 30, top 31, top 32, top 33, top 34, top 35, top 36, top 37, top 38, top 39, top 40] } }
abbrev lvH : List (Str × PySem.W.WData) := [("FREE", PySem.W.WData.tuple [PySem.W.WData.int 0, PySem.W.WData.int 40])]
abbrev loH : List Str := ["BadTable", "BadBounds", "BadCell", "FREE", "free", "bounds_joined", "bounds_parted", "Table"]
noncomputable abbrev hkH := PySem.W.kHook KH aH eH
def xtH (s : Shared) : Bool := PySem.W.xlAt qH lvH s && PySem.W.recOk (PySem.W.RowW.records (PySem.W.OpenRow.toRowW (PySem.W.OpenLaw.row PySem.Challenge.rw_edgetally_k10_bounds_go_along))) s
abbrev pH : Program := PySem.W.RowW.prog (PySem.W.OpenRow.toRowW (PySem.W.OpenLaw.row PySem.Challenge.rw_edgetally_k10_bounds_go_along))
def bdH : List Stmt := PySem.W.behindTheImports pH
def evH : Env := { scope := pH.main.scope, locals := mainNs, globals := mainNs, cells := [], code := (.ref 13), frame := (some 14) }
def cH : Code := .body bdH evH
abbrev tpH : List Frame := [PySem.W.topFrame ⟨0, 0, 0, 0⟩]
theorem opH (w : World) : (PySem.W.fencedOpening PySem.treeTable pH w 5016).map (fun s => (s.heap, s.gens, s.drawn, s.toks)) = some (h0H w.params, #[], {}, 181) := by kernel_rfl
theorem szH (w : World) : ((h0H w.params).isNs mainGlobals && (#[] : Array GenState).size == 0, (h0H w.params).objs.size, (h0H w.params).nsMap mainGlobals "__annotations__") = (true, 11, (some (.ref 6))) := by kernel_rfl
theorem r1H (w : World) (os : OsState) : PySem.W.topGo PySem.treeTable pH w 11 (some (.ref 6)) 12 ⟨h0H w.params, #[], {}, 181, os⟩ (PySem.W.topStub pH) = some (⟨h1H w.params, #[], {}, 187, os⟩, ⟨denote PySem.treeTable (.body bdH evH), cH, ⟨0, 0, 0, 0⟩, tpH⟩) := by kernel_rfl
theorem r2H (w : World) (os : OsState) : PySem.W.segRun PySem.treeTable pH w 11 (some (.ref 6)) 1 1 ⟨h1H w.params, #[], {}, 187, os⟩ (PySem.W.blockOf bdH evH cH ⟨0, 0, 0, 0⟩ tpH) = some (.next, ⟨h1H w.params, #[], {}, 187, os⟩, cH, ⟨0, 0, 0, 0⟩) := by kernel_rfl
theorem c1H (w : World) (os : OsState) : PySem.W.segRun PySem.treeTable pH w 11 (some (.ref 6)) 1 996 ⟨h1H w.params, #[], {}, 187, os⟩ (PySem.W.piecesOf (bdH.take 6) evH cH ⟨0, 0, 0, 0⟩ tpH) = some (.next, ⟨k1H w.params, #[], {}, 299, os⟩, cH, ⟨18, 0, 21, 45⟩) := by kernel_rfl
theorem c2H (w : World) (os : OsState) : PySem.W.segRun PySem.treeTable pH w 11 (some (.ref 6)) 1 493 ⟨k1H w.params, #[], {}, 299, os⟩ (PySem.W.piecesOf ((bdH.drop 6).take 21) evH cH ⟨18, 0, 21, 45⟩ tpH) = some (.next, ⟨k2H w.params, #[], {}, 419, os⟩, cH, ⟨95, 0, 100, 54⟩) := by kernel_rfl
theorem c3H (w : World) (os : OsState) : PySem.W.segRun PySem.treeTable pH w 11 (some (.ref 6)) 1 959 ⟨k2H w.params, #[], {}, 419, os⟩ (PySem.W.piecesOf (((bdH.drop 6).drop 21).take 14) evH cH ⟨95, 0, 100, 54⟩ tpH) = some (.next, ⟨k3H w.params, #[], {}, 632, os⟩, cH, ⟨210, 0, 241, 37⟩) := by kernel_rfl
theorem e0H : (((bdH.drop 6).drop 21).drop 14) = [] := by kernel_rfl
theorem r9H (w : World) (os : OsState) : PySem.W.topRun PySem.treeTable pH w 11 (some (.ref 6)) 2 ⟨k3H w.params, #[], {}, 632, os⟩ ⟨PySem.W.doneF .next, cH, ⟨210, 0, 241, 37⟩, tpH⟩ = some ⟨k3H w.params, #[], {}, 632, os⟩ := by kernel_rfl
theorem rnH (w : World) (os : OsState) : PySem.W.topRun PySem.treeTable pH w 11 (some (.ref 6)) (12 + (1 + (996 + (493 + (959 + 2))))) ⟨h0H w.params, #[], {}, 181, os⟩ (PySem.W.topStub pH) = some ⟨k3H w.params, #[], {}, 632, os⟩ := PySem.W.go_top (r1H w os) (PySem.W.piece_block (r2H w os) (li 6 (c1H w os) (li 21 (c2H w os) (li 14 (c3H w os) (vE e0H (r9H w os))))))
theorem hlH : PySem.W.LeftO pH qH loH xtH (PySem.W.Hook.obs hkH) (PySem.W.Hook.val hkH) 5016 := PySem.W.LeftO.of_pieces (H₀ := h0H) (H₁ := k3H) opH szH rnH (by decide +kernel) fun w => by kernel_rfl
theorem wsH : PySem.W.OpenLaw.wellSaid PySem.Challenge.rw_edgetally_k10_bounds_go_along = true := by decide +kernel
theorem okH : (PySem.W.chainsOk qH && PySem.W.opensWell (PySem.W.RowW.prog (PySem.W.OpenRow.toRowW (PySem.W.OpenLaw.row PySem.Challenge.rw_edgetally_k10_bounds_go_along))) && (PySem.W.frees (PySem.W.OpenRow.toRowW (PySem.W.OpenLaw.row PySem.Challenge.rw_edgetally_k10_bounds_go_along)) && (PySem.W.RowW.within (PySem.W.OpenRow.toRowW (PySem.W.OpenLaw.row PySem.Challenge.rw_edgetally_k10_bounds_go_along))).isEmpty)) = true := by decide +kernel
abbrev adH : Ad := { C_EdgeError := 38, x_EdgeError := 35, y_EdgeError := FN "__init__" "EdgeError.__init__" (ay (top 2) 0) .none .none .none (.str "edgetally.errors" 194) none (.ref 34) .none, C_BadTable := 59, x_BadTable := 56, y_BadTable := FN "__init__" "BadTable.__init__" (ay (top 3) 0) (.ref 49) .none .none (.str "edgetally.errors" 194) none (.ref 55) .none, C_BadBounds := 79, x_BadBounds := 76, y_BadBounds := FN "__init__" "BadBounds.__init__" (ay (top 4) 0) (.ref 69) .none .none (.str "edgetally.errors" 194) none (.ref 75) .none, C_BadCell := 99, x_BadCell := 96, y_BadCell := FN "__init__" "BadCell.__init__" (ay (top 5) 0) (.ref 89) .none .none (.str "edgetally.errors" 194) none (.ref 95) .none, C_Table := 290, f_free := 108, d_free := FN "free" "free" (top 11) .none (.ref 103) .none (.str "edgetally.bounds" 299) none (.ref 107) .none, f_check_rows := 113, d_check_rows := FN "check_rows" "check_rows" (top 12) .none .none .none (.str "edgetally.bounds" 299) none (.ref 112) .none, f_check_there := 120, d_check_there := FN "check_there" "check_there" (top 13) .none .none .none (.str "edgetally.bounds" 299) none (.ref 119) .none, f_check_pair := 127, d_check_pair := FN "check_pair" "check_pair" (top 14) .none .none .none (.str "edgetally.bounds" 299) none (.ref 126) .none, f_settled_bounds := 132, d_settled_bounds := FN "settled_bounds" "settled_bounds" (top 15) .none .none .none (.str "edgetally.bounds" 299) none (.ref 131) .none, f_keeps := 137, d_keeps := FN "keeps" "keeps" (top 16) .none .none .none (.str "edgetally.bounds" 299) none (.ref 136) .none, f_rows_turned := 142, d_rows_turned := FN "rows_turned" "rows_turned" (top 17) .none .none .none (.str "edgetally.bounds" 299) none (.ref 141) .none, f_bounds_turned := 149, d_bounds_turned := FN "bounds_turned" "bounds_turned" (top 18) .none .none .none (.str "edgetally.bounds" 299) none (.ref 148) .none, f_pair_joined := 156, d_pair_joined := FN "pair_joined" "pair_joined" (top 19) .none .none .none (.str "edgetally.bounds" 299) none (.ref 155) .none, f_rows_joined := 161, d_rows_joined := FN "rows_joined" "rows_joined" (top 20) .none .none .none (.str "edgetally.bounds" 299) none (.ref 160) .none, f_bounds_joined := 169, d_bounds_joined := FN "bounds_joined" "bounds_joined" (top 21) .none (.ref 162) .none (.str "edgetally.bounds" 299) none (.ref 168) .none, f_row_parted := 174, d_row_parted := FN "row_parted" "row_parted" (top 22) .none .none .none (.str "edgetally.bounds" 299) none (.ref 173) .none, f_bounds_parted := 182, d_bounds_parted := FN "bounds_parted" "bounds_parted" (top 23) .none (.ref 175) .none (.str "edgetally.bounds" 299) none (.ref 181) .none, f_two_joined := 187, d_two_joined := FN "two_joined" "two_joined" (top 25) .none .none .none (.str "edgetally.table" 405) none (.ref 186) .none, f_one_parted := 192, d_one_parted := FN "one_parted" "one_parted" (top 26) .none .none .none (.str "edgetally.table" 405) none (.ref 191) .none, f_l_bag := 299, d_l_bag := FN "_law_bag" "_law_bag" (top 29) .none .none .none (.str "law_edgetally_k10_bounds_go_along" 543) none (.ref 298) .none, f_l_pull := 306, d_l_pull := FN "_law_pull" "_law_pull" (top 30) .none .none .none (.str "law_edgetally_k10_bounds_go_along" 543) none (.ref 305) .none, f_l_same := 311, d_l_same := FN "_law_same" "_law_same" (top 31) .none .none .none (.str "law_edgetally_k10_bounds_go_along" 543) none (.ref 310) .none, f_l_turned := 316, d_l_turned := FN "_law_turned" "_law_turned" (top 32) .none .none .none (.str "law_edgetally_k10_bounds_go_along" 543) none (.ref 315) .none, f_l_free := 321, d_l_free := FN "_law_free" "_law_free" (top 33) .none .none .none (.str "law_edgetally_k10_bounds_go_along" 543) none (.ref 320) .none, f_l_bounds := 328, d_l_bounds := FN "_law_bounds" "_law_bounds" (top 34) .none .none .none (.str "law_edgetally_k10_bounds_go_along" 543) none (.ref 327) .none, f_l_copied := 333, d_l_copied := FN "_law_copied" "_law_copied" (top 35) .none .none .none (.str "law_edgetally_k10_bounds_go_along" 543) none (.ref 332) .none, f_l_any := 338, d_l_any := FN "_law_any" "_law_any" (top 36) .none .none .none (.str "law_edgetally_k10_bounds_go_along" 543) none (.ref 337) .none, f_l_pairs := 345, d_l_pairs := FN "_law_pairs" "_law_pairs" (top 37) .none .none .none (.str "law_edgetally_k10_bounds_go_along" 543) none (.ref 344) .none, f_l_bounds_joined := 350, d_l_bounds_joined := FN "_law_bounds_joined" "_law_bounds_joined" (top 38) .none .none .none (.str "law_edgetally_k10_bounds_go_along" 543) none (.ref 349) .none, f_l_bounds_parted := 355, d_l_bounds_parted := FN "_law_bounds_parted" "_law_bounds_parted" (top 39) .none .none .none (.str "law_edgetally_k10_bounds_go_along" 543) none (.ref 354) .none, f_Table___init__ := 204, d_Table___init__ := FN "__init__" "Table.__init__" (ay (top 27) 0) .none .none .none (.str "edgetally.table" 405) none (.ref 203) .none, f_Table_parted := 279, d_Table_parted := FN "parted" "Table.parted" (ay (top 27) 11) .none (.ref 272) .none (.str "edgetally.table" 405) none (.ref 278) .none, f_Table_cells := 235, d_Table_cells := FN "cells" "Table.cells" (ay (top 27) 5) .none .none .none (.str "edgetally.table" 405) none (.ref 234) .none, f_Table_joined := 271, d_Table_joined := FN "joined" "Table.joined" (ay (top 27) 10) .none (.ref 264) .none (.str "edgetally.table" 405) none (.ref 270) .none, f_law := 360, d_law := FN "law" "law" (top 40) .none .none .none (.str "law_edgetally_k10_bounds_go_along" 543) none (.ref 359) .none }
section
variable {P : Params} {h : Heap} {mg : Str -> Option Value}
theorem fH {x q : Str} {s : Stmt} {f : Addr} {dV kV dc pm cd ct : Value} {an : Option Addr} (l : (KH P).lookup f = some (fO (FN x q s dV kV dc pm an cd ct)) := by kernel_rfl) (c : PySem.W.codeIn (KH P) cd q = true := by kernel_rfl) (k : keepIn (KH P) (.ref f) = true := by kernel_rfl) : FunD (KH P) x q s f (FN x q s dV kV dc pm an cd ct) := x3 l c k
theorem mO (X : (KH P).In h) (G : h.Ns mainGlobals mg) {n : Str} {v : Value} (e : PySem.W.nsIn (KH P) mainGlobals n = some (some v) := by kernel_rfl) : mg n = some v := mg_of X G e
theorem mN (X : (KH P).In h) (G : h.Ns mainGlobals mg) {n : Str} (e : PySem.W.nsIn (KH P) mainGlobals n = some none := by kernel_rfl) : mg n = none := PySem.W.mg_none_of X G e
theorem nH (X : (KH P).In h) (G : h.Ns mainGlobals mg) : Fns (KH P) mg adH where
 n_ValueError := mN X G
 n_abs := mN X G
 n_all := mN X G
 n_any := mN X G
 n_bool := mN X G
 n_enumerate := mN X G
 n_int := mN X G
 n_isinstance := mN X G
 n_len := mN X G
 n_list := mN X G
 n_max := mN X G
 n_min := mN X G
 n_range := mN X G
 n_str := mN X G
 n_sum := mN X G
 n_tuple := mN X G
 n_zip := mN X G
 g_MOST := pT (u := (.int 40 301)) (mO X G) mw
 g_MOST_COLUMNS := pT (u := (.int 6 305)) (mO X G) mw
 g_MOST_ROWS := pT (u := (.int 4 303)) (mO X G) mw
 F_free := fH
 m_free := mO X G
 bd_free := zo (us := [(.ref 102)]) 2 rfl (fun s us KX hl => by obtain ⟨u0, u1, rfl⟩ := lU2 hl; exact PySem.W.kp_binds KX fun S => by kernel_rfl) (x9 (xh (p := 102) (q1 := (.type "tuple")) (q2 := none) (q3 := #[(.int 0 307), (.int 40 301)]) (q4 := 0) (q5 := #[]) (by kernel_rfl) rfl (by decide) (by repeat (first | exact trivial | refine ⟨rfl, ?_⟩))) zn)
 F_check_rows := fH
 m_check_rows := mO X G
 b_check_rows := .all fun us hl => by obtain ⟨_, rfl⟩ := lU1 hl; rfl
 F_check_there := fH
 m_check_there := mO X G
 b_check_there := .all fun us hl => by obtain ⟨_, _, rfl⟩ := lU2 hl; rfl
 F_check_pair := fH
 m_check_pair := mO X G
 b_check_pair := .all fun us hl => by obtain ⟨_, rfl⟩ := lU1 hl; rfl
 F_settled_bounds := fH
 m_settled_bounds := mO X G
 b_settled_bounds := .all fun us hl => by obtain ⟨_, _, _, rfl⟩ := lU3 hl; rfl
 F_keeps := fH
 m_keeps := mO X G
 b_keeps := .all fun us hl => by obtain ⟨_, _, rfl⟩ := lU2 hl; rfl
 F_rows_turned := fH
 m_rows_turned := mO X G
 b_rows_turned := .all fun us hl => by obtain ⟨_, rfl⟩ := lU1 hl; rfl
 F_bounds_turned := fH
 m_bounds_turned := mO X G
 b_bounds_turned := .all fun us hl => by obtain ⟨_, rfl⟩ := lU1 hl; rfl
 F_pair_joined := fH
 m_pair_joined := mO X G
 b_pair_joined := .all fun us hl => by obtain ⟨_, _, rfl⟩ := lU2 hl; rfl
 F_rows_joined := fH
 m_rows_joined := mO X G
 b_rows_joined := .all fun us hl => by obtain ⟨_, _, _, rfl⟩ := lU3 hl; rfl
 F_bounds_joined := fH
 m_bounds_joined := mO X G
 kb_rows_bounds_joined := oP (sv := [.kw 0]) (.kw .nil) rfl (by decide) fun s us ws KX h1 h2 => by obtain ⟨u0, u1, u2, rfl⟩ := lU3 h1; obtain ⟨w0, rfl⟩ := lU1 h2; exact .of_eq rfl
 F_row_parted := fH
 m_row_parted := mO X G
 b_row_parted := .all fun us hl => by obtain ⟨_, _, rfl⟩ := lU2 hl; rfl
 F_bounds_parted := fH
 m_bounds_parted := mO X G
 kb_rows_bounds_parted := oP (sv := [.kw 0]) (.kw .nil) rfl (by decide) fun s us ws KX h1 h2 => by obtain ⟨u0, u1, rfl⟩ := lU2 h1; obtain ⟨w0, rfl⟩ := lU1 h2; exact .of_eq rfl
 F_two_joined := fH
 m_two_joined := mO X G
 b_two_joined := .all fun us hl => by obtain ⟨_, _, _, rfl⟩ := lU3 hl; rfl
 F_one_parted := fH
 m_one_parted := mO X G
 b_one_parted := .all fun us hl => by obtain ⟨_, _, _, rfl⟩ := lU3 hl; rfl
 F_l_bag := fH
 m_l_bag := mO X G
 b_l_bag := .all fun us hl => by obtain ⟨_, rfl⟩ := lU1 hl; rfl
 F_l_pull := fH
 m_l_pull := mO X G
 b_l_pull := .all fun us hl => by obtain ⟨_, _, rfl⟩ := lU2 hl; rfl
 F_l_same := fH
 m_l_same := mO X G
 b_l_same := .all fun us hl => by obtain ⟨_, _, rfl⟩ := lU2 hl; rfl
 F_l_turned := fH
 m_l_turned := mO X G
 b_l_turned := .all fun us hl => by obtain ⟨_, rfl⟩ := lU1 hl; rfl
 F_l_free := fH
 m_l_free := mO X G
 b_l_free := .all fun us hl => by obtain ⟨_, _, rfl⟩ := lU2 hl; rfl
 F_l_bounds := fH
 m_l_bounds := mO X G
 b_l_bounds := .all fun us hl => by obtain ⟨_, _, rfl⟩ := lU2 hl; rfl
 F_l_copied := fH
 m_l_copied := mO X G
 b_l_copied := .all fun us hl => by obtain ⟨_, rfl⟩ := lU1 hl; rfl
 F_l_any := fH
 m_l_any := mO X G
 b_l_any := .all fun us hl => by obtain ⟨_, rfl⟩ := lU1 hl; rfl
 F_l_pairs := fH
 m_l_pairs := mO X G
 b_l_pairs := .all fun us hl => by obtain ⟨_, _, rfl⟩ := lU2 hl; rfl
 F_l_bounds_joined := fH
 m_l_bounds_joined := mO X G
 b_l_bounds_joined := .all fun us hl => by obtain ⟨_, _, _, rfl⟩ := lU3 hl; rfl
 F_l_bounds_parted := fH
 m_l_bounds_parted := mO X G
 b_l_bounds_parted := .all fun us hl => by obtain ⟨_, _, rfl⟩ := lU2 hl; rfl
 F_Table___init__ := fH
 mk_Table := ⟨by kernel_rfl, by kernel_rfl, by kernel_rfl, by kernel_rfl⟩
 b_Table___init__ := .all fun us hl => by obtain ⟨_, _, rfl⟩ := lU2 hl; rfl
 F_Table_parted := fH
 mt_Table_parted := ⟨by kernel_rfl, by kernel_rfl, by kernel_rfl⟩
 kb_rows_Table_parted := oP (sv := [.kw 0]) (.kw .nil) rfl (by decide) fun s us ws KX h1 h2 => by obtain ⟨u0, u1, u2, rfl⟩ := lU3 h1; obtain ⟨w0, rfl⟩ := lU1 h2; exact .of_eq rfl
 F_Table_cells := fH
 mt_Table_cells := ⟨by kernel_rfl, by kernel_rfl, by kernel_rfl⟩
 b_Table_cells := .all fun us hl => by obtain ⟨_, rfl⟩ := lU1 hl; rfl
 F_Table_joined := fH
 mt_Table_joined := ⟨by kernel_rfl, by kernel_rfl, by kernel_rfl⟩
 kb_rows_Table_joined := oP (sv := [.kw 0]) (.kw .nil) rfl (by decide) fun s us ws KX h1 h2 => by obtain ⟨u0, u1, u2, rfl⟩ := lU3 h1; obtain ⟨w0, rfl⟩ := lU1 h2; exact .of_eq rfl
 cl_Table := ⟨by kernel_rfl, by kernel_rfl, by kernel_rfl, by kernel_rfl⟩
 m_Table := mO X G
 na_Table_counts := show findIn (KH P) _ _ = _ by kernel_rfl
 FX_EdgeError := fH
 b_EdgeError := .all fun us hl => by obtain ⟨_, _, _, rfl⟩ := lU3 hl; rfl
 m_EdgeError := mO X G
 FX_BadTable := fH
 b_BadTable := fun s us KX hl => by rw [List.append_nil] at hl; obtain ⟨_, _, rfl⟩ := lU2 hl; exact BindsTo.of_defaults (T := 49) rfl (KX _ _ (show (KH P).lookup 49 = some (tO [(.str "these rows are no table's" 236)]) by kernel_rfl)) rfl rfl rfl
 m_BadTable := mO X G
 xm_BadTable := ⟨rh (N := 58) (nm := "BadTable") (q := "BadTable") (bs := [(.ref 38)]) (bm := [(.ref 38), (.type "ValueError"), (.type "Exception"), (.type "BaseException"), (.type "object")]) (hdct := true) (sn := []) (sub := []) (ab := false) (col := none) (dd := none) (k0 := (some (.ref 42))) (k1 := none) (k2 := (some (.str "BadTable" 224))) (k3 := (some (.str "BadTable" 232))) (k5 := (some (.bool true))) (cd := ⟨"BadTable", [(.ref 38)], [(.ref 59), (.ref 38), (.type "ValueError"), (.type "Exception"), (.type "BaseException"), (.type "object")], 58, "BadTable", true, [], [], false, none, false⟩) (by kernel_rfl) (by kernel_rfl) (by kernel_rfl) (by kernel_rfl), by kernel_rfl, by kernel_rfl, by kernel_rfl⟩
 w_BadTable := by kernel_rfl
 FX_BadBounds := fH
 b_BadBounds := fun s us KX hl => by rw [List.append_nil] at hl; obtain ⟨_, _, rfl⟩ := lU2 hl; exact BindsTo.of_defaults (T := 69) rfl (KX _ _ (show (KH P).lookup 69 = some (tO [(.str "these bounds are no table's" 261)]) by kernel_rfl)) rfl rfl rfl
 m_BadBounds := mO X G
 xm_BadBounds := ⟨rh (N := 78) (nm := "BadBounds") (q := "BadBounds") (bs := [(.ref 38)]) (bm := [(.ref 38), (.type "ValueError"), (.type "Exception"), (.type "BaseException"), (.type "object")]) (hdct := true) (sn := []) (sub := []) (ab := false) (col := none) (dd := none) (k0 := (some (.ref 62))) (k1 := none) (k2 := (some (.str "BadBounds" 249))) (k3 := (some (.str "BadBounds" 257))) (k5 := (some (.bool true))) (cd := ⟨"BadBounds", [(.ref 38)], [(.ref 79), (.ref 38), (.type "ValueError"), (.type "Exception"), (.type "BaseException"), (.type "object")], 78, "BadBounds", true, [], [], false, none, false⟩) (by kernel_rfl) (by kernel_rfl) (by kernel_rfl) (by kernel_rfl), by kernel_rfl, by kernel_rfl, by kernel_rfl⟩
 w_BadBounds := by kernel_rfl
 FX_BadCell := fH
 b_BadCell := fun s us KX hl => by rw [List.append_nil] at hl; obtain ⟨_, _, rfl⟩ := lU2 hl; exact BindsTo.of_defaults (T := 89) rfl (KX _ _ (show (KH P).lookup 89 = some (tO [(.str "there is no such cell" 286)]) by kernel_rfl)) rfl rfl rfl
 m_BadCell := mO X G
 xm_BadCell := ⟨rh (N := 98) (nm := "BadCell") (q := "BadCell") (bs := [(.ref 38)]) (bm := [(.ref 38), (.type "ValueError"), (.type "Exception"), (.type "BaseException"), (.type "object")]) (hdct := true) (sn := []) (sub := []) (ab := false) (col := none) (dd := none) (k0 := (some (.ref 82))) (k1 := none) (k2 := (some (.str "BadCell" 274))) (k3 := (some (.str "BadCell" 282))) (k5 := (some (.bool true))) (cd := ⟨"BadCell", [(.ref 38)], [(.ref 99), (.ref 38), (.type "ValueError"), (.type "Exception"), (.type "BaseException"), (.type "object")], 98, "BadCell", true, [], [], false, none, false⟩) (by kernel_rfl) (by kernel_rfl) (by kernel_rfl) (by kernel_rfl), by kernel_rfl, by kernel_rfl, by kernel_rfl⟩
 w_BadCell := by kernel_rfl
 cE := ⟨by kernel_rfl, by kernel_rfl, by kernel_rfl, by kernel_rfl⟩
end
theorem wlkH : PySem.W.WalkO qH loH (PySem.W.XL qH lvH) (PySem.W.Hook.says hkH) (PySem.W.OpenRow.toRowW (PySem.W.OpenLaw.row PySem.Challenge.rw_edgetally_k10_bounds_go_along)) (Option.get (PySem.W.defOf qH "law") rfl).1 [] (fun f vs => PySem.call f vs) :=
 L2.walk_of (n := 63) (k := 8) (x := "_law_script") (CX := fun w => CXE _ w) (sp := fun w => wP (KH w.params)) rfl (by decide) rfl ⟨rfl, by decide, by decide⟩ (fun w h Y => PySem.W.kIn_of Y) (fun w mg fa h KX G hmg => by
  have e := hmg.symm.trans (mg_of KX G (v := .ref 360) (by kernel_rfl))
  cases e
  exact ⟨FN "law" "law" (top 40) .none .none .none (.str "law_edgetally_k10_bounds_go_along" 543) none (.ref 359) .none, fun s v => .of_eq rfl, fun base _ _ => yX _ _ _ (a := adH) (fH (by kernel_rfl) (by kernel_rfl) (by kernel_rfl)) (nH KX G) fun β ok => vq (K := KH w.params) (a := adH)  β ok⟩) (fun _ _ a ns hl _ hS => ⟨a, ns, rfl, hS, hl, fun _ => rfl⟩) fun _ _ _ _ _ h => by obtain ⟨x, C, H', _, fl⟩ := h; exact fl.wish
end Law
open PySem PySem.W PyProof.Rows
set_option maxHeartbeats 0 in
theorem PySem.Challenge.cw_edgetally_k10_bounds_go_along_holds : PySem.Challenge.rw_edgetally_k10_bounds_go_along.Holds := by
 w_on
 refine holds_law Law.wsH fun said => ?_
 refine holds_open (q := Law.qH) (loose := Law.loH) (Xt := Law.xtH) (XP := XL Law.qH Law.lvH) (Yf := Hook.obs Law.hkH) (Ya := Hook.val Law.hkH) (YP := Hook.says Law.hkH) (N := 5016) Law.hlH (Hook.of Law.hkH) (Hook.keeps Law.hkH) (fun s e => xl_of s (Bool.and_eq_true_iff.mp e).1) XL.keeps (by rfl) (by rfl) (by rfl) (fun s e => recFacts_of (Bool.and_eq_true_iff.mp e).2) (by rfl) said Law.okH ⟨rfl, rfl, rfl, rfl, rfl, by decide +kernel⟩ ?hw ?hc
 case hw => w_witness2
 exact Law.wlkH
