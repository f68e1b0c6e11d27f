import PyProof.Rows.All
import Wide.All
import OpenK.AllK
import Wide.FinOn
import Lean
import PyProof.EqAt
import PyProof.EqKinds
import PyProof.TupleCall
import PyProof.NsDelKeeps
import PyProof.ListRange
import PySem.Challenge.RW_edgetally_k04_table_told
set_option Elab.async false
set_option linter.all false
set_option maxRecDepth 100000
open PySem.W (Frag instObj methodObj hideAll hideAll_get of_hideAll hideAll_none lookIn plainGet hasDictIn findIn plainGet_of isFn takerIn looks_clsIn emptyDict looks_findIn keepIn specialIn mroIn kitOne kia_one kitx_list kitx_tuple kitx_dict callWith_K methodCall_KW cellsFrom_some mg_of clsIn Looks kia_tup subIn)
abbrev LI := List (List Int)
abbrev LP := List (List (Int × Int))
-- CHANGE: your row's module here, as the last of these rows
namespace L2
open PySem PySem.Spec PyProof.Rows
abbrev Key := Sum Int Str
def tW : Key -> Value -> Bool
 | .inl k, v => Value.isInt k v
 | .inr x, v => Value.isStrOf x v
def keyH (w : World) : Key -> Int
 | .inl k => hashInt k
 | .inr x => hashStr w x
theorem keyIs_shape : ∀ {k : Key} {v : Value}, tW k v = true -> (∃ i t, k = Sum.inl i /\ v = Value.int i t) \/ (∃ x t, k = Sum.inr x /\ v = Value.str x t)
 | .inl i, v, h => by
  obtain ⟨t, e⟩ := Value.isInt_shape (k := i) (v := v) h
  exact .inl ⟨i, t, rfl, e⟩
 | .inr x, v, h => by
  obtain ⟨t, e⟩ := Value.isStrOf_shape (x := x) (v := v) h
  exact .inr ⟨x, t, rfl, e⟩
theorem wL (a b : Int) : decide ((Sum.inl a : Key) = Sum.inl b) = (a == b) := by
 by_cases e : a = b
 ·subst e; simp
 ·have h : ¬ (Sum.inl a : Key) = Sum.inl b := fun q => e (Sum.inl.inj q)
  rw [decide_eq_false h]
  exact (beq_eq_false_iff_ne.mpr e).symm
theorem wI (a b : Str) : decide ((Sum.inr a : Key) = Sum.inr b) = decide (a = b) := by
 by_cases e : a = b
 ·subst e; simp
 ·have h : ¬ (Sum.inr a : Key) = Sum.inr b := fun q => e (Sum.inr.inj q)
  rw [decide_eq_false h, decide_eq_false e]
theorem wK (a : Int) (b : Str) : decide ((Sum.inl a : Key) = Sum.inr b) = false := decide_eq_false (fun q => nomatch q)
theorem wJ (a : Str) (b : Int) : decide ((Sum.inr a : Key) = Sum.inl b) = false := decide_eq_false (fun q => nomatch q)
def kS (prog : Program) (w : World) : PySem.KeyKind prog w Key where
 is := tW
 hash := keyH w
 inj := fun v a b ha hb => by
  rcases keyIs_shape ha with ⟨i, t, rfl, rfl⟩ | ⟨x, t, rfl, rfl⟩
  ·rcases keyIs_shape hb with ⟨j, u, rfl, e⟩ | ⟨y, u, rfl, e⟩
   ·injection e with e1 _; rw [e1]
   ·exact nomatch e
  ·rcases keyIs_shape hb with ⟨j, u, rfl, e⟩ | ⟨y, u, rfl, e⟩
   ·exact nomatch e
   ·injection e with e1 _; rw [e1]
 byValue := fun k v h => by
  rcases keyIs_shape h with ⟨i, t, rfl, rfl⟩ | ⟨x, t, rfl, rfl⟩ <;> rfl
 pyHash := fun hv h => by
  rcases keyIs_shape hv with ⟨i, t, rfl, rfl⟩ | ⟨x, t, rfl, rfl⟩
  ·exact wpAny_pyHash_int h
  ·exact wpAny_pyHash_str h
 eqBool := fun hu hv h => by
  rcases keyIs_shape hu with ⟨i, t, rfl, rfl⟩ | ⟨x, t, rfl, rfl⟩
  ·rcases keyIs_shape hv with ⟨j, u, rfl, rfl⟩ | ⟨y, u, rfl, rfl⟩
   ·rw [wL] at h; exact wpAny_eqBool_int h
   ·rw [wK] at h; exact SeqAt.EqAt.int_str i t y u _ _ _ _ h
  ·rcases keyIs_shape hv with ⟨j, u, rfl, rfl⟩ | ⟨y, u, rfl, rfl⟩
   ·rw [wJ] at h; exact SeqAt.EqAt.str_int x t j u _ _ _ _ h
   ·rw [wI] at h; exact wpAny_eqBool_str h
 «strs» := fun k x t v h => by
  rcases keyIs_shape h with ⟨i, u, rfl, e⟩ | ⟨y, u, rfl, e⟩
  ·exact nomatch e
  ·injection e with e1 _
   subst e1
   cases v <;> rfl
inductive V where
 | non | bl (b : Bool) | int (i : Int) | str (x : Str) | byt (b : Array UInt8) | flt (b : UInt64) | ref (a : Addr) | ty (n : String)
 deriving DecidableEq
def aD : V -> Value -> Prop
 | .non, u => u = Value.none
 | .bl b, u => u = Value.bool b
 | .int i, u => ∃ t, u = Value.int i t
 | .str x, u => ∃ t, u = Value.str x t
 | .byt b, u => ∃ t, u = Value.bytes b t
 | .flt b, u => ∃ t, u = Value.float b t
 | .ref a, u => u = Value.ref a
 | .ty n, u => u = Value.type n
abbrev am : List V -> List Value -> Prop := Paired aD
theorem am.length {xs : List V} {us : List Value} (r : am xs us) : xs.length = us.length := Paired.length r
theorem am.get : ∀ {xs : List V} {us : List Value} {i : Nat} {x : V}, am xs us -> xs[i]? = some x -> ∃ u, us[i]? = some u /\ aD x u
 | _, _, _, _, .nil, e => by simp at e
 | _, _, 0, _, .cons r _, e => by simp at e; subst e; exact ⟨_, rfl, r⟩
 | _, _, i + 1, x, .cons _ t, e => by
  obtain ⟨u, h1, h2⟩ := am.get (i := i) (x := x) t (by simpa using e)
  exact ⟨u, by simpa using h1, h2⟩
theorem am.set {x : V} {u : Value} (r : aD x u) : ∀ {xs : List V} {us : List Value} (i : Nat), am xs us -> am (xs.set i x) (us.set i u)
 | _, _, _, .nil => .nil
 | _, _, 0, .cons _ t => .cons r t
 | _, _, i + 1, .cons q t => .cons q (am.set r i t)
theorem am.append : ∀ {xs ys : List V} {us ws : List Value}, am xs us -> am ys ws -> am (xs ++ ys) (us ++ ws)
 | _, _, _, _, .nil, s => s
 | _, _, _, _, .cons r t, s => .cons r (am.append t s)
theorem am.take : ∀ {xs : List V} {us : List Value} (n : Nat), am xs us -> am (xs.take n) (us.take n)
 | _, _, 0, _ => .nil
 | _, _, _ + 1, .nil => .nil
 | _, _, n + 1, .cons r t => .cons r (am.take n t)
theorem am.drop : ∀ {xs : List V} {us : List Value} (n : Nat), am xs us -> am (xs.drop n) (us.drop n)
 | _, _, 0, r => r
 | _, _, _ + 1, .nil => .nil
 | _, _, n + 1, .cons _ t => am.drop n t
def fR : Option V -> Option Value -> Prop
 | some v, some u => aD v u
 | none, none => True
 | _, _ => False
def KV {κ : Type} : List (κ × V) -> List (κ × Value) -> Prop := Paired fun (p : κ × V) (q : κ × Value) => p.1 = q.1 /\ aD p.2 q.2
def kV : Key -> V
 | .inl i => .int i
 | .inr x => .str x
inductive HO where
 | lst (xs : List V)
 | tup (xs : List V)
 | dK (kvs : List (Key × V)) | dT (kvs : List (List Key × V))
 | set (S : Int -> Bool) (n : Nat)
 | ins (C dx : Addr) (fs : List (Str × V))
 | own (x : Addr)
 | xd (fs : List (Str × V))
 | met (f x : Addr)
 | rng (lo hi : Int)
 | frz (o : Obj) (u : HO)
 | tbl (ps : Array Value)
 | ext (φ : Heap -> Prop)
abbrev Hp := Addr -> Option HO
def upd (H : Hp) (a : Addr) (o : HO) : Hp := fun b => if b = a then some o else H b
theorem ai {H : Hp} {a : Addr} {o : HO} : upd H a o a = some o := by unfold upd; rw [if_pos rfl]
theorem upd_ne {H : Hp} {a b : Addr} {o : HO} (h : b ≠ a) : upd H a o b = H b := by unfold upd; rw [if_neg h]
theorem yg {H : Hp} {a b : Addr} {o u : HO} (h : H a = some o) (h' : H b = some u) (d : o ≠ u) : a ≠ b := by
 intro e; subst e; rw [h] at h'; exact d (Option.some.inj h')
theorem ne_of_none {H : Hp} {a b : Addr} {o : HO} (h : H a = some o) (h' : H b = none) : a ≠ b := by
 intro e; subst e; rw [h] at h'; cases h'
section
variable (P : Program) (w : World)
def aX (H : Hp) (h : Heap) (a : Addr) : HO -> Prop
 | .lst xs => xs.length <= sizeLine /\ ∃ (its : List Value) (n : Nat), am xs its /\ h.get? a = some { cls := .type "list", data := .seq its.toArray n }
 | .tup xs => xs.length <= sizeLine /\ ∃ its : List Value, am xs its /\ IsTup h a its.toArray
 | .dK kvs => kvs.length <= sizeLine /\ (a == sysModules) = false /\ ∃ vs, KV kvs vs /\ h.DictOf (kS P w) a vs
 | .dT kvs => kvs.length <= sizeLine /\ (a == sysModules) = false /\ ∃ xs : List (List Key × Addr × Value),
   Paired (fun (p : List Key × V) (q : List Key × Addr × Value) => p.1 = q.1 /\ H q.2.1 = some (.tup (p.1.map kV)) /\ aD p.2 q.2.2) kvs xs /\
   ∃ o es ep, h.get? a = some o /\ o.ExactDict /\ o.data = .dict es ep /\ es.toList = xs.map (entryOfKey (tupleKind (kS P w))) /\ (xs.map (·.1)).Nodup
 | .set S n => h.SetOf (intKind P w) a S n
 | .ins C dx fs => H dx = some (.own a) /\ fs.length <= 1000 /\ dx ≠ a /\ h.get? a = some (instObj C dx) /\
   ∃ mA, h.Ns1 dx mA /\ (∀ f, fR (fs.lookup f) (mA f)) /\ PySem.Within mA (fs.map (·.1))
 | .own _ => ∃ o, h.get? a = some o
 | .xd fs => ∃ mA, h.Ns1 a mA /\ ∀ f, fR (fs.lookup f) (mA f)
 | .rng lo hi => ∃ t u v, h.get? a = some { cls := .type "range", data := .fields #[.int lo t, .int hi u, .int 1 v] }
 | .frz o u => h.get? a = some o /\ aX H h a u
 | .tbl ps => h.get? a = some { cls := .none, data := .fields ps }
 | .met f x => h.get? a = some (methodObj (.ref f) (.ref x))
 | .ext φ => φ h /\ (∃ o, h.get? a = some o) /\ ∀ h1 h2 : Heap, φ h1 -> (∀ o, h1.get? a = some o -> h2.get? a = some o) -> φ h2
def HOk (H : Hp) (h : Heap) : Prop := ∀ a o, H a = some o -> aX P w H h a o
end
section
variable {P : Program} {w : World} {H H' : Hp} {h h' : Heap} {a : Addr} {o : HO}
theorem aX.lt (x : aX P w H h a o) : a < h.objs.size := by
 cases o with
 | lst xs => obtain ⟨_, _, _, _, e⟩ := x; exact Heap.lt_size e
 | tup xs => obtain ⟨_, _, _, p⟩ := x; exact p.lt
 | dK kvs => obtain ⟨_, _, _, _, o, _, _, e, _⟩ := x; exact Heap.lt_size e
 | dT kvs => obtain ⟨_, _, _, _, o, _, _, e, _⟩ := x; exact Heap.lt_size e
 | set S n => obtain ⟨o, _, _, _, e, _⟩ := x; exact Heap.lt_size e
 | ins C dx fs => obtain ⟨_, _, _, e, _⟩ := x; exact Heap.lt_size e
 | own y => obtain ⟨_, e⟩ := x; exact Heap.lt_size e
 | xd fs => obtain ⟨_, ⟨_, _, _, e, _⟩, _⟩ := x; exact Heap.lt_size e
 | rng lo hi => obtain ⟨_, _, _, e⟩ := x; exact Heap.lt_size e
 | frz ob u => obtain ⟨e, _⟩ := x; exact Heap.lt_size e
 | tbl ps => exact Heap.lt_size (show h.get? a = some _ from x)
 | met f y => exact Heap.lt_size (show h.get? a = some _ from x)
 | ext φ => obtain ⟨_, ⟨_, e⟩, _⟩ := x; exact Heap.lt_size e
theorem Paired.mapP {α β : Type} {F G : α -> β -> Prop} : ∀ {l₁ : List α} {l₂ : List β}, Paired F l₁ l₂ -> (∀ a b, F a b -> G a b) -> Paired G l₁ l₂
 | _, _, .nil, _ => .nil
 | _, _, .cons r t, f => .cons (f _ _ r) (Paired.mapP t f)
theorem aX.stay (x : aX P w H h a o) (k : ∀ b u, (b = a \/ H b = some (.own a)) -> h.get? b = some u -> h'.get? b = some u)
  (ho : ∀ b, H b = some (.own a) -> H' b = some (.own a)) (ht : ∀ b xs, H b = some (.tup xs) -> H' b = some (.tup xs)) : aX P w H' h' a o := by
 induction o with
 | lst xs => obtain ⟨z, its, n, r, e⟩ := x; exact ⟨z, its, n, r, k _ _ (.inl rfl) e⟩
 | tup xs => obtain ⟨z, its, r, ob, e, c⟩ := x; exact ⟨z, its, r, ob, k _ _ (.inl rfl) e, c⟩
 | dK kvs => obtain ⟨z, y, vs, r, ob, es, ep, e, c⟩ := x; exact ⟨z, y, vs, r, ob, es, ep, k _ _ (.inl rfl) e, c⟩
 | dT kvs =>
  obtain ⟨z, y, xs, r, ob, es, ep, e, c⟩ := x
  exact ⟨z, y, xs, Paired.mapP r fun p q z => ⟨z.1, ht _ _ z.2.1, z.2.2⟩, ob, es, ep, k _ _ (.inl rfl) e, c⟩
 | set S n => obtain ⟨ob, es, ep, t, e, c⟩ := x; exact ⟨ob, es, ep, t, k _ _ (.inl rfl) e, c⟩
 | ins C dx fs =>
  obtain ⟨d, z, ne, e, mA, ⟨od, es, ep, e2, c⟩, r⟩ := x
  exact ⟨ho _ d, z, ne, k _ _ (.inl rfl) e, mA, ⟨od, es, ep, k _ _ (.inr d) e2, c⟩, r⟩
 | own y => obtain ⟨ob, e⟩ := x; exact ⟨ob, k _ _ (.inl rfl) e⟩
 | xd fs => obtain ⟨mA, ⟨od, es, ep, e, c⟩, r⟩ := x; exact ⟨mA, ⟨od, es, ep, k _ _ (.inl rfl) e, c⟩, r⟩
 | rng lo hi => obtain ⟨t, u, v, e⟩ := x; exact ⟨t, u, v, k _ _ (.inl rfl) e⟩
 | frz ob u ih => obtain ⟨e, q⟩ := x; exact ⟨k _ _ (.inl rfl) e, ih q⟩
 | tbl ps =>
  have e : h.get? a = some { cls := .none, data := .fields ps } := x
  show h'.get? a = some { cls := .none, data := .fields ps }
  exact k a _ (.inl rfl) e
 | met f y =>
  have e : h.get? a = some (methodObj (.ref f) (.ref y)) := x
  show h'.get? a = some (methodObj (.ref f) (.ref y))
  exact k a _ (.inl rfl) e
 | ext φ => obtain ⟨p, ⟨o, e⟩, st⟩ := x; exact ⟨st _ _ p fun o q => k _ _ (.inl rfl) q, ⟨o, k _ _ (.inl rfl) e⟩, st⟩
theorem HOk.lt (x : HOk P w H h) (e : H a = some o) : a < h.objs.size := (x a o e).lt
theorem HOk.fresh (x : HOk P w H h) (e : h.objs.size <= a) : H a = none := by
 cases q : H a with
 | none => rfl
 | some u => exact absurd (Nat.lt_of_lt_of_le (x.lt q) e) (Nat.lt_irrefl _)
theorem HOk.kept (x : HOk P w H h) (k : ∀ b u, h.get? b = some u -> h'.get? b = some u) : HOk P w H h' := fun a o e =>
 (x a o e).stay (fun b u _ q => k b u q) (fun _ q => q) fun _ _ q => q
theorem HOk.laid (x : HOk P w H h) (k : ∀ b u, h.get? b = some u -> h'.get? b = some u) (hp : h.objs.size <= a) (new : aX P w (upd H a o) h' a o) : HOk P w (upd H a o) h' := fun b u e => by
 have hn := x.fresh hp
 by_cases hb : b = a
 ·subst hb; rw [ai] at e; cases e; exact new
 ·rw [upd_ne hb] at e
  exact (x b u e).stay (fun c v _ q => k c v q) (fun c q => by rw [upd_ne (ne_of_none q hn)]; exact q) fun c xs q => by rw [upd_ne (ne_of_none q hn)]; exact q
end
def Rd (H : Hp) (a : Addr) (u : HO) : Prop := H a = some u \/ ∃ o, H a = some (.frz o u)
theorem Rd.ok {P : Program} {w : World} {H : Hp} {h : Heap} {a : Addr} {u : HO} (r : Rd H a u) (x : HOk P w H h) : aX P w H h a u := by
 rcases r with r | ⟨o, r⟩
 ·exact x a u r
 ·obtain ⟨_, q⟩ := x a _ r
  exact q
def Mut : Option HO -> Prop
 | some (.lst _) => True
 | some (.dK _) => True
 | some (.dT _) => True
 | some (.set _ _) => True
 | some (.ins _ _ _) => True
 | some (.ext _) => True
 | _ => False
section
variable {P : Program} {w : World} {H : Hp} {h h' : Heap} {x e : Addr} {o' : HO}
theorem HOk.write (ok : HOk P w H h) (mu : Mut (H x)) (he : e = x \/ H e = some (.own x)) (k : ∀ b u, b ≠ e -> h.get? b = some u -> h'.get? b = some u) (heo : ∃ u, h'.get? e = some u)
  (new : aX P w (upd H x o') h' x o') : HOk P w (upd H x o') h' := fun b u q => by
 have nown : ∀ c y, H c = some (.own y) -> c ≠ x := fun c y r z => by subst z; rw [r] at mu; exact mu
 have ntup : ∀ c xs, H c = some (.tup xs) -> c ≠ x := fun c xs r z => by subst z; rw [r] at mu; exact mu
 by_cases hb : b = x
 ·subst hb; rw [ai] at q; cases q; exact new
 ·rw [upd_ne hb] at q
  by_cases hbe : b = e
  ·have q' : H b = some (.own x) := by
    rcases he with z | z
    ·exact absurd (hbe.trans z) hb
    ·rw [hbe]; exact z
   rw [q] at q'; cases q'
   obtain ⟨v, hv⟩ := heo
   exact ⟨v, by rw [hbe]; exact hv⟩
  ·refine (ok b u q).stay (fun c v hc r => k c v ?_ r) (fun c r => by rw [upd_ne (nown c b r)]; exact r) fun c xs r => by rw [upd_ne (ntup c xs r)]; exact r
   rcases hc with rfl | hc
   ·exact hbe
   ·rintro rfl
    rcases he with z | z
    ·exact nown c b hc z
    ·rw [hc] at z; cases z; exact hb rfl
end
structure Un (fs ex : List Addr) (H H' : Hp) (h h' : Heap) : Prop where
 keep : ∀ b o, h.get? b = some o -> H b = none -> b ∉ fs -> b ∉ ex -> h'.get? b = some o
 slot : ∀ b o, h.get? b = some o -> H b = none -> b ∈ fs -> b ∉ ex -> ∃ sl, h'.get? b = some { o with slots := sl }
 free : ∀ b o, h.get? b = some o -> H b = none -> b ∉ ex -> H' b = none
 there : ∀ b o, h.get? b = some o -> b ∉ ex -> ∃ o', h'.get? b = some o'
 tups : ∀ b xs, H b = some (.tup xs) -> H' b = some (.tup xs)
 frzs : ∀ b o u, H b = some (.frz o u) -> H' b = some (.frz o u)
 tbls : ∀ b ps, H b = some (.tbl ps) -> ∃ more, H' b = some (.tbl (ps ++ more))
section
variable {fs fs' ex ex' : List Addr} {H H1 H2 : Hp} {h h1 h2 h' : Heap} {a x e : Addr} {o : HO}
theorem Un.any (u : Un fs ex H H1 h h1) {b : Addr} {ob : Obj} (q : h.get? b = some ob) (n : H b = none) (hx : b ∉ ex) : ∃ sl, h1.get? b = some { ob with slots := sl } := by
 by_cases hb : b ∈ fs
 ·exact u.slot b ob q n hb hx
 ·exact ⟨ob.slots, u.keep b ob q n hb hx⟩
theorem Un.trans (a : Un fs ex H H1 h h1) (b : Un fs ex H1 H2 h1 h2) : Un fs ex H H2 h h2 where
 keep := fun c ob q n hc hx => b.keep c ob (a.keep c ob q n hc hx) (a.free c ob q n hx) hc hx
 slot := fun c ob q n hc hx => by
  obtain ⟨sl, e1⟩ := a.slot c ob q n hc hx
  obtain ⟨sl', e2⟩ := b.slot c _ e1 (a.free c ob q n hx) hc hx
  exact ⟨sl', e2⟩
 free := fun c ob q n hx => by
  obtain ⟨o', e1⟩ := a.there c ob q hx
  exact b.free c o' e1 (a.free c ob q n hx) hx
 there := fun c ob q hx => by
  obtain ⟨o', e1⟩ := a.there c ob q hx
  exact b.there c o' e1 hx
 tups := fun c xs q => b.tups c xs (a.tups c xs q)
 frzs := fun c ob xs q => b.frzs c ob xs (a.frzs c ob xs q)
 tbls := fun c ps q => by
  obtain ⟨m1, e1⟩ := a.tbls c ps q
  obtain ⟨m2, e2⟩ := b.tbls c _ e1
  exact ⟨m1 ++ m2, by rw [e2, Array.append_assoc]⟩
theorem Un.kept (k : ∀ b u, h.get? b = some u -> h'.get? b = some u) : Un fs ex H H h h' :=
 ⟨fun b ob q _ _ _ => k b ob q, fun b ob q _ _ _ => ⟨ob.slots, k b ob q⟩, fun _ _ _ n _ => n, fun b ob q _ => ⟨ob, k b ob q⟩, fun _ _ q => q, fun _ _ _ q => q, fun _ ps q => ⟨#[], by rw [q]; simp⟩⟩
theorem Un.refl : Un fs ex H H h h := Un.kept fun _ _ q => q
theorem Un.laid (k : ∀ b u, h.get? b = some u -> h'.get? b = some u) (hp : h.objs.size <= a) (hn : H a = none) : Un fs ex H (upd H a o) h h' where
 keep := fun b u q _ _ _ => k b u q
 slot := fun b u q _ _ _ => ⟨u.slots, k b u q⟩
 free := fun b u q n _ => by rw [upd_ne (Nat.ne_of_lt (Nat.lt_of_lt_of_le (Heap.lt_size q) hp))]; exact n
 there := fun b u q _ => ⟨u, k b u q⟩
 tups := fun b xs q => by rw [upd_ne (ne_of_none q hn)]; exact q
 frzs := fun b u xs q => by rw [upd_ne (ne_of_none q hn)]; exact q
 tbls := fun b ps q => ⟨#[], by rw [upd_ne (ne_of_none q hn), q]; simp⟩
theorem Un.write (mu : Mut (H x)) (he : e = x \/ H e = some (.own x)) (k : ∀ b u, b ≠ e -> h.get? b = some u -> h'.get? b = some u) (heo : ∃ u, h'.get? e = some u) : Un fs ex H (upd H x o) h h' := by
 have hx : ∀ b, H b = none -> b ≠ x := fun b n z => by subst z; rw [n] at mu; exact mu
 have hb : ∀ b, H b = none -> b ≠ e := fun b n z => by
  subst z
  rcases he with r | r
  ·exact hx b n r
  ·rw [n] at r; cases r
 have hm : ∀ b u, H b = some u -> ¬ Mut (some u) -> b ≠ x := fun b u q nm z => by subst z; rw [q] at mu; exact nm mu
 refine ⟨fun b u q n _ _ => k b u (hb b n) q, fun b u q n _ _ => ⟨u.slots, k b u (hb b n) q⟩, fun b u q n _ => by rw [upd_ne (hx b n)]; exact n, fun b u q _ => ?_,
  fun b xs q => by rw [upd_ne (hm b _ q fun z => z)]; exact q, fun b u xs q => by rw [upd_ne (hm b _ q fun z => z)]; exact q, fun b ps q => ⟨#[], by rw [upd_ne (hm b _ q fun z => z), q]; simp⟩⟩
 by_cases hbe : b = e
 ·subst hbe; exact heo
 ·exact ⟨u, k b u hbe q⟩
theorem Un.mono (u : Un fs ex H H1 h h1) (hs : ∀ b ∈ fs, b ∈ fs') (hx : ∀ b ∈ ex, b ∈ ex') : Un fs' ex' H H1 h h1 :=
 ⟨fun b ob q n hb he => u.keep b ob q n (fun z => hb (hs b z)) fun z => he (hx b z), fun _ _ q n _ he => u.any q n fun z => he (hx _ z), fun b ob q n he => u.free b ob q n fun z => he (hx b z), fun b ob q he => u.there b ob q fun z => he (hx b z), u.tups, u.frzs, u.tbls⟩
end
def trk (h : Heap) (H : Hp) : List Addr := (List.range h.objs.size).filter fun a => (H a).isSome
def gD (h : Heap) (H : Hp) : Heap := hideAll h (trk h H)
theorem qR (h : Heap) (H : Hp) : (gD h H).objs.size = h.objs.size := PySem.W.hideAll_size _ _
theorem sJ {h : Heap} {H : Hp} {b : Addr} {o : Obj} (e : h.get? b = some o) (n : H b = none) : (gD h H).get? b = some o :=
 hideAll_get _ e fun hm => by
  have q : (H b).isSome = true := (List.mem_filter.mp hm).2
  rw [n] at q; simp at q
theorem uR {h : Heap} {H : Hp} {b : Addr} {o : Obj} (e : (gD h H).get? b = some o) : h.get? b = some o /\ H b = none := by
 have e' : h.get? b = some o := of_hideAll (trk h H) e
 refine ⟨e', ?_⟩
 cases q : H b with
 | none => rfl
 | some x =>
  have hm : b ∈ trk h H := List.mem_filter.mpr ⟨List.mem_range.mpr (Heap.lt_size e'), by simp [q]⟩
  have z : (gD h H).get? b = none := hideAll_none (trk h H) hm
  rw [z] at e; cases e
structure Mod (K : Frag) (mg : Str -> Option Value) (base : Heap) : Prop where
 kin : K.In base
 glob : base.Ns mainGlobals mg
 blt : ∃ mb, base.Ns builtinsNs mb /\ ∀ x : Str, x ≠ "__name__" -> mb x = bootBuiltins x
 nolimit : base.NoLimit
structure Cx where
 prog : Program
 w : World
 K : Frag
 mg : Str -> Option Value
 base : Heap
 A : Around
 N : List Str
 s₀ : Shared
 H₀ : Hp
 env : Env
 outer : List Env
 stack : List Env
 ex : List Addr
 fn : Str -> Bool
 calm : Bool
 pn : List (Addr × Obj)
 xe : Value -> Shared -> Prop
def frs (l : List Env) : List Addr := l.filterMap (·.frame)
abbrev Cx.fs (X : Cx) : List Addr := frs X.outer
def Vis (sc : Scope) (x : Str) : Prop := sc.names.lookup x = some .local \/ sc.names.lookup x = some .cell \/ sc.names.lookup x = some .free
def Loc (sc : Scope) (x : Str) : Prop := sc.names.lookup x = some .local \/ sc.names.lookup x = some .cell
def Look (env : Env) (h : Heap) (m : Str -> Option Value) (x : Str) (u : Value) : Prop :=
 (env.kindOf x = some .local /\ m x = some u) \/ ((env.kindOf x = some .cell \/ env.kindOf x = some .free) /\ ∃ c, env.cells.lookup x = some c /\ h.IsCell c (some u))
structure Cx.Ok (X : Cx) : Prop where
 mod : Mod X.K X.mg X.base
 kind : X.env.scope.kind = .function
 glob : X.env.globals = mainGlobals
 blt : X.env.builtins = builtinsNs
 above : X.s₀.heap.objs.size <= X.env.locals
 inj : ∀ x y c, X.env.cells.lookup x = some c -> X.env.cells.lookup y = some c -> x = y
 has : ∀ x, (X.env.kindOf x = some .cell \/ X.env.kindOf x = some .free) -> ∃ c, X.env.cells.lookup x = some c
 cab : ∀ x c, X.fn x = true -> X.env.cells.lookup x = some c -> X.s₀.heap.objs.size <= c
 hd : X.calm = true -> X.A.handled = none
 frames : X.A.frames = some X.stack
 stk : X.stack = X.outer \/ (X.stack = X.env :: X.outer /\ X.env.frame = some X.env.locals)
 exf : ∀ b ∈ X.ex, b ≠ X.env.locals /\ ∀ x c, X.env.cells.lookup x = some c -> c ≠ b
 bs : ∀ b o, X.base.get? b = some o -> X.s₀.heap.get? b = some o /\ X.H₀ b = none
 bsz : X.base.objs.size <= X.s₀.heap.objs.size
 noex : ∀ b o, X.base.get? b = some o -> b ∉ X.ex
 exfs : ∀ b ∈ X.ex, b ∉ X.fs
 funs : X.s₀.heap.FunFrames X.base X.outer
 frf : ∀ b ∈ X.fs, X.H₀ b = none
structure Inv (X : Cx) (pins : List (Addr × Obj)) (σ : List (Option V)) (H : Hp) (s : Shared) : Prop where
 ok : X.Ok
 os : s.os = X.s₀.os
 bare : AllBare s.gens
 base : Un X.fs X.ex X.H₀ H X.s₀.heap s.heap
 loc : ∃ m, s.heap.Ns X.env.locals m /\ ∀ (i : Nat) (x : Str) (v : V), X.N[i]? = some x -> σ[i]? = some (some v) -> Vis X.env.scope x -> ∃ u, aD v u /\ Look X.env s.heap m x u
 cell : ∀ x c, X.env.cells.lookup x = some c -> ∃ v, s.heap.IsCell c v
 free : H X.env.locals = none
 freeC : ∀ x c, X.env.cells.lookup x = some c -> H c = none
 pin : ∀ p ∈ X.pn ++ pins, s.heap.get? p.1 = some p.2 /\ H p.1 = none /\ p.1 ≠ X.env.locals /\ p.1 ∉ X.fs /\ ∀ v, p.2.data ≠ .cell v
 hok : HOk X.prog X.w H s.heap
 len : σ.length = X.N.length
section
variable {X : Cx} {pins : List (Addr × Obj)} {σ : List (Option V)} {H H' : Hp} {s : Shared} {h' : Heap}
theorem Cx.Ok.nofr (ok : X.Ok) {b : Addr} {o : Obj} (e : X.base.get? b = some o) : b ∉ X.fs := fun hb => by
 have := (ok.funs.mem hb).1
 rw [e] at this; cases this
theorem Inv.bs (I : Inv X pins σ H s) : ∀ b o, X.base.get? b = some o -> s.heap.get? b = some o /\ H b = none := fun b o e =>
 ⟨I.base.keep b o (I.ok.bs b o e).1 (I.ok.bs b o e).2 (I.ok.nofr e) (I.ok.noex b o e), I.base.free b o (I.ok.bs b o e).1 (I.ok.bs b o e).2 (I.ok.noex b o e)⟩
theorem Inv.bk (I : Inv X pins σ H s) : ∀ b o, X.base.get? b = some o -> s.heap.get? b = some o := fun b o e => (I.bs b o e).1
theorem Inv.mod (I : Inv X pins σ H s) : Mod X.K X.mg X.base := I.ok.mod
theorem Inv.kIn (I : Inv X pins σ H s) : X.K.In s.heap := I.ok.mod.kin.keeps I.bk
theorem Inv.fr (I : Inv X pins σ H s) : ∃ m, Fr X.base X.env.locals s.heap m :=
 let ⟨m, hn, _⟩ := I.loc
 ⟨m, hn, I.bk, Nat.le_trans I.ok.bsz I.ok.above⟩
theorem Inv.lt (I : Inv X pins σ H s) : X.env.locals < s.heap.objs.size := let ⟨_, hn, _⟩ := I.loc; hn.lt
theorem Inv.sz (I : Inv X pins σ H s) : X.s₀.heap.objs.size <= s.heap.objs.size := Nat.le_trans I.ok.above (Nat.le_of_lt I.lt)
theorem Inv.nofs (I : Inv X pins σ H s) {a : Addr} (h : s.heap.objs.size <= a) : a ∉ X.fs := fun hb => by
 obtain ⟨_, o, ho, _⟩ := I.ok.funs.mem hb
 exact absurd (Nat.lt_of_lt_of_le (Heap.lt_size ho) (Nat.le_trans I.sz h)) (Nat.lt_irrefl _)
theorem Inv.cne (I : Inv X pins σ H s) : ∀ x c, X.env.cells.lookup x = some c -> c ≠ X.env.locals := fun x c e z => by
 obtain ⟨v, o, ho, hd⟩ := I.cell x c e
 obtain ⟨m, ⟨o', es, ep, ho', hd', _⟩, _⟩ := I.loc
 rw [z, ho'] at ho; cases ho; rw [hd'] at hd; cases hd
theorem Inv.funs (I : Inv X pins σ H s) : s.heap.FunFrames X.base X.outer := by
 have all : ∀ (l : List Env), (∀ b ∈ frs l, b ∈ X.fs) -> X.s₀.heap.FunFrames X.base l -> s.heap.FunFrames X.base l := by
  intro l
  induction l with
  | nil => intro _ _; trivial
  | cons env r ih =>
   intro hs hl
   obtain ⟨hk, ⟨L, o, hf, hn, ho, hd⟩, hr⟩ := hl
   have hL : L ∈ X.fs := hs L (by unfold frs; rw [List.filterMap_cons, hf]; exact List.mem_cons_self)
   obtain ⟨sl, e⟩ := I.base.slot L o ho (I.ok.frf L hL) hL fun z => I.ok.exfs L z hL
   exact ⟨hk, ⟨L, _, hf, hn, e, hd⟩, ih (fun b hb => hs b (by unfold frs; rw [List.filterMap_cons, hf]; exact List.mem_cons_of_mem _ hb)) hr⟩
 exact all X.outer (fun _ hb => hb) I.ok.funs
theorem Inv.stack (I : Inv X pins σ H s) : s.heap.FunFrames X.base X.stack := by
 rcases I.ok.stk with e | ⟨e, hf⟩
 ·rw [e]; exact I.funs
 ·rw [e]
  obtain ⟨m, hn, _⟩ := I.loc
  refine .cons (by rw [I.ok.kind]; decide) hf hn ?_ I.funs
  exact Heap.get?_none_of_le (Nat.le_trans I.ok.bsz I.ok.above)
theorem Inv.stkSub (I : Inv X pins σ H s) : ∀ b ∈ frs X.stack, b ∈ X.env.locals :: X.fs := fun b hb => by
 rcases I.ok.stk with e | ⟨e, hf⟩
 ·rw [e] at hb; exact List.mem_cons_of_mem _ hb
 ·rw [e] at hb
  unfold frs at hb
  rw [List.filterMap_cons, hf] at hb
  exact hb
theorem Inv.stkFree (I : Inv X pins σ H s) : ∀ b ∈ frs X.stack, H b = none := fun b hb => by
 rcases List.mem_cons.mp (I.stkSub b hb) with e | hb
 ·rw [e]; exact I.free
 ·obtain ⟨_, o, ho, _⟩ := I.ok.funs.mem hb
  exact I.base.free b o ho (I.ok.frf b hb) fun z => I.ok.exfs b z hb
theorem Inv.step {g' : Array GenState} {t' : Nat} {d' : Drawn} {ch : List Addr} (I : Inv X pins σ H s)
  (hch : ∀ b ∈ ch, (b ∈ X.ex \/ X.s₀.heap.objs.size <= b) /\ b ≠ X.env.locals /\ (∀ x c, X.env.cells.lookup x = some c -> c ≠ b) /\ ∀ p ∈ X.pn ++ pins, p.1 ≠ b)
  (keep : ∀ b o, b ≠ X.env.locals -> b ∉ X.fs -> b ∉ ch -> s.heap.get? b = some o -> H b = none -> h'.get? b = some o)
  (slot : ∀ b o, b ≠ X.env.locals -> b ∈ X.fs -> b ∉ ch -> s.heap.get? b = some o -> H b = none -> ∃ sl, h'.get? b = some { o with slots := sl }) (free : ∀ b o, b ∉ ch -> s.heap.get? b = some o -> H b = none -> H' b = none)
  (there : ∀ b o, b ∉ ch -> s.heap.get? b = some o -> ∃ o', h'.get? b = some o')
  (tups : ∀ b xs, H b = some (.tup xs) -> H' b = some (.tup xs)) (frzs : ∀ b o u, H b = some (.frz o u) -> H' b = some (.frz o u)) (tbls : ∀ b ps, H b = some (.tbl ps) -> ∃ more, H' b = some (.tbl (ps ++ more)))
  (ns : ∀ m, s.heap.Ns X.env.locals m -> h'.Ns X.env.locals m) (hok : HOk X.prog X.w H' h') (hg : AllBare g') :
  Inv X pins σ H' { s with heap := h', gens := g', drawn := d', toks := t' } := by
 have neL : ∀ b o, X.s₀.heap.get? b = some o -> b ≠ X.env.locals := fun b o e => Nat.ne_of_lt (Nat.lt_of_lt_of_le (Heap.lt_size e) I.ok.above)
 have neC : ∀ b o, X.s₀.heap.get? b = some o -> b ∉ X.ex -> b ∉ ch := fun b o e hx hb => by
  rcases (hch b hb).1 with z | z
  ·exact hx z
  ·exact absurd (Nat.lt_of_lt_of_le (Heap.lt_size e) z) (Nat.lt_irrefl _)
 have cellK : ∀ x c, X.env.cells.lookup x = some c -> ∀ v, s.heap.IsCell c v -> h'.IsCell c v := fun x c e v ⟨o, ho, hd⟩ => by
  have nch : c ∉ ch := fun z => (hch c z).2.2.1 x c e rfl
  by_cases hc : c ∈ X.fs
  ·obtain ⟨sl, q⟩ := slot c o (I.cne x c e) hc nch ho (I.freeC x c e)
   exact ⟨_, q, hd⟩
  ·exact ⟨o, keep c o (I.cne x c e) hc nch ho (I.freeC x c e), hd⟩
 refine ⟨I.ok, I.os, hg, ⟨fun b o e n hb hx => ?_, fun b o e n hb hx => ?_, fun b o e n hx => ?_, fun b o e hx => ?_, fun b xs e => tups b xs (I.base.tups b xs e), fun b o xs e => frzs b o xs (I.base.frzs b o xs e), fun b ps e => ?_⟩, ?_, fun x c e => ?_, ?_, fun x c e => ?_, fun p hp => ?_, hok, I.len⟩
 ·exact keep b o (neL b o e) hb (neC b o e hx) (I.base.keep b o e n hb hx) (I.base.free b o e n hx)
 ·obtain ⟨sl, e1⟩ := I.base.slot b o e n hb hx
  obtain ⟨sl', e2⟩ := slot b _ (neL b o e) hb (neC b o e hx) e1 (I.base.free b o e n hx)
  exact ⟨sl', e2⟩
 ·obtain ⟨o', e1⟩ := I.base.there b o e hx
  exact free b o' (neC b o e hx) e1 (I.base.free b o e n hx)
 ·obtain ⟨o', e1⟩ := I.base.there b o e hx
  exact there b o' (neC b o e hx) e1
 ·obtain ⟨m1, e1⟩ := I.base.tbls b ps e
  obtain ⟨m2, e2⟩ := tbls b _ e1
  exact ⟨m1 ++ m2, by rw [e2, Array.append_assoc]⟩
 ·obtain ⟨m, hn, hl⟩ := I.loc
  refine ⟨m, ns m hn, fun i x v e1 e2 e3 => ?_⟩
  obtain ⟨u, r, l⟩ := hl i x v e1 e2 e3
  refine ⟨u, r, ?_⟩
  rcases l with l | ⟨k, c, e, z⟩
  ·exact .inl l
  ·exact .inr ⟨k, c, e, cellK x c e _ z⟩
 ·obtain ⟨v, z⟩ := I.cell x c e
  exact ⟨v, cellK x c e v z⟩
 ·obtain ⟨m, ⟨o, _, _, ho, _⟩, _⟩ := I.loc
  exact free _ o (fun z => (hch _ z).2.1 rfl) ho I.free
 ·obtain ⟨v, o, ho, hd⟩ := I.cell x c e
  exact free c o (fun z => (hch c z).2.2.1 x c e rfl) ho (I.freeC x c e)
 ·obtain ⟨e, n, ne, nf, d⟩ := I.pin p hp
  have nch : p.1 ∉ ch := fun z => (hch p.1 z).2.2.2 p hp rfl
  exact ⟨keep p.1 p.2 ne nf nch e n, free p.1 p.2 nch e n, ne, nf, d⟩
theorem Inv.un {t' : Nat} (I : Inv X pins σ H s) (u : Un X.fs [] H H' s.heap h') (hok : HOk X.prog X.w H' h') : Inv X pins σ H' { s with heap := h', toks := t' } := by
 obtain ⟨m, ⟨o, es, ep, ho, r⟩, _⟩ := id I.loc
 obtain ⟨sl, hL⟩ := u.any ho I.free (by simp)
 exact I.step (g' := s.gens) (d' := s.drawn) (ch := []) (fun _ z => nomatch z) (fun b o _ hb _ e n => u.keep b o e n hb (by simp)) (fun b o _ hb _ e n => u.slot b o e n hb (by simp)) (fun b o _ e n => u.free b o e n (by simp)) (fun b o _ e => u.there b o e (by simp)) u.tups u.frzs u.tbls (fun m' hm => by
  obtain ⟨o', es', ep', ho', r'⟩ := hm
  rw [ho] at ho'; cases ho'
  exact ⟨_, es', ep', hL, r'⟩) hok I.bare
theorem Inv.call {g' : Array GenState} {t' : Nat} {d' : Drawn} {ch : List Addr} (I : Inv X pins σ H s) (u : Un (frs X.stack) ch H H' s.heap h') (hok : HOk X.prog X.w H' h') (hg : AllBare g')
  (hch : ∀ b ∈ ch, (b ∈ X.ex \/ X.s₀.heap.objs.size <= b) /\ b ≠ X.env.locals /\ (∀ x c, X.env.cells.lookup x = some c -> c ≠ b) /\ ∀ p ∈ X.pn ++ pins, p.1 ≠ b) :
  Inv X pins σ H' { s with heap := h', gens := g', drawn := d', toks := t' } := by
 obtain ⟨m, ⟨o, es, ep, ho, r⟩, _⟩ := id I.loc
 obtain ⟨sl, hL⟩ := u.any ho I.free fun z => (hch _ z).2.1 rfl
 exact I.step (ch := ch) hch (fun b o hL hb hc e n => u.keep b o e n (fun z => (List.mem_cons.mp (I.stkSub b z)).elim hL hb) hc) (fun b o _ _ hc e n => u.any e n hc) (fun b o hc e n => u.free b o e n hc) (fun b o hc e => u.there b o e hc) u.tups u.frzs u.tbls (fun m' hm => by
  obtain ⟨o', es', ep', ho', r'⟩ := hm
  rw [ho] at ho'; cases ho'
  exact ⟨_, es', ep', hL, r'⟩) hok hg
theorem Inv.turned {t' : Nat} {it : Addr} (I : Inv X pins σ H s) (k : ∀ b o, b ≠ it -> s.heap.get? b = some o -> h'.get? b = some o) (hn : H it = none) (hL : it ≠ X.env.locals)
  (h1 : it ∈ X.ex \/ X.s₀.heap.objs.size <= it) (h2 : ∀ x c, X.env.cells.lookup x = some c -> c ≠ it) (h3 : ∀ p ∈ X.pn ++ pins, p.1 ≠ it) : Inv X pins σ H { s with heap := h', toks := t' } := by
 have nit : ∀ b u, H b = some u -> b ≠ it := fun b u e z => by rw [z, hn] at e; cases e
 refine I.step (g' := s.gens) (d' := s.drawn) (ch := [it]) (fun b hb => ?_) (fun b o _ _ hc e _ => k b o (fun z => hc (by simp [z])) e) (fun b o _ _ hc e _ => ⟨o.slots, k b o (fun z => hc (by simp [z])) e⟩) (fun _ _ _ _ n => n)
  (fun b o hc e => ⟨o, k b o (fun z => hc (by simp [z])) e⟩) (fun _ _ e => e) (fun _ _ _ e => e) (fun b ps e => ⟨#[], by rw [e]; simp⟩) (fun m hm => ?_) (fun b u e => ?_) I.bare
 ·have e : b = it := by simpa using hb
  subst e
  exact ⟨h1, hL, h2, h3⟩
 ·obtain ⟨o, es, ep, ho, r⟩ := hm
  exact ⟨o, es, ep, k _ o (Ne.symm hL) ho, r⟩
 ·refine (I.hok b u e).stay (fun c v hc q => k c v ?_ q) (fun _ q => q) fun _ _ q => q
  rcases hc with z | z
  ·rw [z]; exact nit b u e
  ·exact nit c _ z
theorem Inv.tok (I : Inv X pins σ H s) (t : Nat) : Inv X pins σ H { s with toks := t } := I.un (h' := s.heap) (t' := t) Un.refl I.hok
theorem Inv.kept {t' : Nat} (I : Inv X pins σ H s) (k : ∀ b u, s.heap.get? b = some u -> h'.get? b = some u) : Inv X pins σ H { s with heap := h', toks := t' } := I.un (Un.kept k) (I.hok.kept k)
theorem Inv.laid {a : Addr} {o : HO} {t' : Nat} (I : Inv X pins σ H s) (k : ∀ b u, s.heap.get? b = some u -> h'.get? b = some u) (hp : s.heap.objs.size <= a) (new : aX X.prog X.w (upd H a o) h' a o) :
  Inv X pins σ (upd H a o) { s with heap := h', toks := t' } := I.un (Un.laid k hp (I.hok.fresh hp)) (I.hok.laid k hp new)
theorem Inv.write {x e : Addr} {o : HO} {t' : Nat} (I : Inv X pins σ H s) (mu : Mut (H x)) (he : e = x \/ H e = some (.own x)) (k : ∀ b u, b ≠ e -> s.heap.get? b = some u -> h'.get? b = some u) (heo : ∃ u, h'.get? e = some u)
  (new : aX X.prog X.w (upd H x o) h' x o) : Inv X pins σ (upd H x o) { s with heap := h', toks := t' } := I.un (Un.write mu he k heo) (I.hok.write mu he k heo new)
theorem Inv.pins_of {pins' : List (Addr × Obj)} (I : Inv X pins σ H s) (h : ∀ p ∈ pins', s.heap.get? p.1 = some p.2 /\ H p.1 = none /\ p.1 ≠ X.env.locals /\ p.1 ∉ X.fs /\ ∀ v, p.2.data ≠ .cell v) : Inv X pins' σ H s :=
 ⟨I.ok, I.os, I.bare, I.base, I.loc, I.cell, I.free, I.freeC, fun p hp => (List.mem_append.mp hp).elim (fun z => I.pin p (List.mem_append_left _ z)) (h p), I.hok, I.len⟩
theorem nc {N : List Str} (hN : N.Nodup) {i j : Nat} {x : Str} (a : N[i]? = some x) (b : N[j]? = some x) : i = j := by
 obtain ⟨h1, e1⟩ := List.getElem?_eq_some_iff.mp a
 obtain ⟨h2, e2⟩ := List.getElem?_eq_some_iff.mp b
 exact (List.getElem_inj hN).mp (e1.trans e2.symm)
theorem lB {M : Model} {A : Around} {E : Value -> Shared -> Prop} {i : Nat} {x : Str} {v : V} {u : Value} {Q : Unit -> Shared -> Prop} (I : Inv X pins σ H s) (hN : X.N.Nodup) (hi : X.N[i]? = some x) (hx : Loc X.env.scope x) (r : aD v u)
  (h : ∀ s', Inv X pins (σ.set i (some v)) H s' -> (∃ a, Heap.SameBut a s.heap s'.heap /\ (a = X.env.locals \/ X.env.cells.lookup x = some a)) -> Q () s') (hf : X.fn x = true \/ X.env.scope.names.lookup x = some .local := by first | exact .inl rfl | exact .inr rfl | assumption) : wpAny M A (storeName X.env x u) Q E s := by
 obtain ⟨m, hn, hl⟩ := id I.loc
 have hcls : (X.env.scope.kind == .class || (X.env.scope.kind == .module && X.env.locals != X.env.globals)) = false := by rw [I.ok.kind]; rfl
 have hiσ : i < σ.length := by rw [I.len]; exact (List.getElem?_eq_some_iff.mp hi).1
 have cne := I.cne
 have tracked : ∀ {a : Addr} {h' : Heap}, (∃ o, s.heap.get? a = some o /\ H a = none) -> Heap.SameBut a s.heap h' -> HOk X.prog X.w H h' := fun {a h'} ha hs b ob e => by
  obtain ⟨_, _, hfree⟩ := ha
  refine (I.hok b ob e).stay (fun c w' hc q => (hs.2 c ?_).trans q) (fun _ q => q) fun _ _ q => q
  rintro rfl
  rcases hc with rfl | hc
  ·rw [hfree] at e; cases e
  ·rw [hfree] at hc; cases hc
 rcases hx with hk | hk
 ·refine wpAny_storeName_local hk hn (fun h' hn' hs => ?_) hcls
  obtain ⟨oL, _, _, hoL, _⟩ := id hn
  refine h _ ⟨I.ok, I.os, I.bare, ⟨fun b o e n hb hx => ?_, fun b o e n hb hx => ?_, I.base.free, fun b o e hx => ?_, I.base.tups, I.base.frzs, I.base.tbls⟩, ⟨_, hn', fun j y v' e1 e2 e3 => ?_⟩, fun y c e => ?_, I.free, I.freeC, fun p hp => ?_, tracked ⟨oL, hoL, I.free⟩ hs, by simpa using I.len⟩ ⟨_, hs, .inl rfl⟩
  ·exact (hs.2 b (Nat.ne_of_lt (Nat.lt_of_lt_of_le (Heap.lt_size e) I.ok.above))).trans (I.base.keep b o e n hb hx)
  ·obtain ⟨sl, e1⟩ := I.base.slot b o e n hb hx
   exact ⟨sl, (hs.2 b (Nat.ne_of_lt (Nat.lt_of_lt_of_le (Heap.lt_size e) I.ok.above))).trans e1⟩
  ·obtain ⟨o', e1⟩ := I.base.there b o e hx
   exact ⟨o', (hs.2 b (Nat.ne_of_lt (Nat.lt_of_lt_of_le (Heap.lt_size e) I.ok.above))).trans e1⟩
  ·by_cases hj : j = i
   ·subst hj
    rw [hi] at e1; cases e1
    rw [List.getElem?_set_self hiσ] at e2
    cases e2
    exact ⟨u, r, .inl ⟨hk, by simp⟩⟩
   ·rw [List.getElem?_set_ne (Ne.symm hj)] at e2
    obtain ⟨u', r', q⟩ := hl j y v' e1 e2 e3
    refine ⟨u', r', ?_⟩
    rcases q with ⟨k, e⟩ | ⟨k, c, e, z⟩
    ·refine .inl ⟨k, ?_⟩
     have : y ≠ x := fun e => hj (nc hN e1 (e ▸ hi))
     simp [this, e]
    ·exact .inr ⟨k, c, e, z.sameBut hs (cne y c e)⟩
  ·obtain ⟨w', z⟩ := I.cell y c e
   exact ⟨w', z.sameBut hs (cne y c e)⟩
  ·obtain ⟨e, n, ne, nf, d⟩ := I.pin p hp
   exact ⟨(hs.2 p.1 ne).trans e, n, ne, nf, d⟩
 ·have hfn : X.fn x = true := by
   rcases hf with z | z
   ·exact z
   ·rw [z] at hk; cases hk
  obtain ⟨c, hc⟩ := I.ok.has x (.inl hk)
  obtain ⟨w', z⟩ := I.cell x c hc
  refine wpAny_storeName_cell I.ok.kind hk hc z (fun h' hc' hs => ?_)
  obtain ⟨oc, hoc, hocd⟩ := id z
  refine h { s with heap := h' } ⟨I.ok, I.os, I.bare, ⟨fun b o e n hb hx => ?_, fun b o e n hb hx => ?_, I.base.free, fun b o e hx => ?_, I.base.tups, I.base.frzs, I.base.tbls⟩, ⟨m, hn.sameBut hs (Ne.symm (cne x c hc)), fun j y v' e1 e2 e3 => ?_⟩, fun y c' e => ?_, I.free, I.freeC, fun p hp => ?_, tracked ⟨oc, hoc, I.freeC x c hc⟩ hs, by simpa using I.len⟩ ⟨c, hs, .inr hc⟩
  ·exact (hs.2 b (Nat.ne_of_lt (Nat.lt_of_lt_of_le (Heap.lt_size e) (I.ok.cab x c hfn hc)))).trans (I.base.keep b o e n hb hx)
  ·obtain ⟨sl, e1⟩ := I.base.slot b o e n hb hx
   exact ⟨sl, (hs.2 b (Nat.ne_of_lt (Nat.lt_of_lt_of_le (Heap.lt_size e) (I.ok.cab x c hfn hc)))).trans e1⟩
  ·obtain ⟨o', e1⟩ := I.base.there b o e hx
   exact ⟨o', (hs.2 b (Nat.ne_of_lt (Nat.lt_of_lt_of_le (Heap.lt_size e) (I.ok.cab x c hfn hc)))).trans e1⟩
  ·by_cases hj : j = i
   ·subst hj
    rw [hi] at e1; cases e1
    rw [List.getElem?_set_self hiσ] at e2
    cases e2
    exact ⟨u, r, .inr ⟨.inl hk, c, hc, hc'⟩⟩
   ·rw [List.getElem?_set_ne (Ne.symm hj)] at e2
    obtain ⟨u', r', q⟩ := hl j y v' e1 e2 e3
    refine ⟨u', r', ?_⟩
    rcases q with q | ⟨k, c', e, z'⟩
    ·exact .inl q
    ·refine .inr ⟨k, c', e, z'.sameBut hs ?_⟩
     rintro rfl
     exact hj (nc hN e1 (I.ok.inj _ _ _ e hc ▸ hi))
  ·by_cases hcc : c' = c
   ·subst hcc; exact ⟨_, hc'⟩
   ·obtain ⟨w2, z2⟩ := I.cell y c' e
    exact ⟨w2, z2.sameBut hs hcc⟩
  ·obtain ⟨e, n, ne, nf, d⟩ := I.pin p hp
   refine ⟨(hs.2 p.1 ?_).trans e, n, ne, nf, d⟩
   intro q
   rw [q, hoc] at e
   have q' : oc = p.2 := Option.some.inj e
   exact d w' (by rw [← q']; exact hocd)
theorem mM {M : Model} {A : Around} {E : Value -> Shared -> Prop} {i : Nat} {x : Str} {v : V} {u : Value} {Q : Unit -> Shared -> Prop} (I : Inv X pins σ H s) (hN : X.N.Nodup) (hi : X.N[i]? = some x) (hx : Loc X.env.scope x) (r : aD v u)
  (h : ∀ s', Inv X pins (σ.set i (some v)) H s' -> Q () s') (hf : X.fn x = true \/ X.env.scope.names.lookup x = some .local := by first | exact .inl rfl | exact .inr rfl | assumption) : wpAny M A (storeName X.env x u) Q E s :=
 lB I hN hi hx r (fun s' I' _ => h s' I') hf
theorem Inv.call' {s' : Shared} {ch : List Addr} (I : Inv X pins σ H s) (ho : s'.os = s.os) (u : Un (frs X.stack) ch H H' s.heap s'.heap) (hok : HOk X.prog X.w H' s'.heap) (hg : AllBare s'.gens)
  (hch : ∀ b ∈ ch, (b ∈ X.ex \/ X.s₀.heap.objs.size <= b) /\ b ≠ X.env.locals /\ (∀ x c, X.env.cells.lookup x = some c -> c ≠ b) /\ ∀ p ∈ X.pn ++ pins, p.1 ≠ b) : Inv X pins σ H' s' := by
 obtain ⟨h', g', d', t', o'⟩ := s'
 have e : o' = s.os := ho
 subst e
 exact I.call (g' := g') (t' := t') (d' := d') u hok hg hch
end
abbrev XK := Value -> Option Addr -> Hp -> Prop
abbrev St := List (Option V)
abbrev VK := V -> Hp -> Prop
abbrev TE := St -> Hp -> VK -> Prop
abbrev TT := St -> Hp -> (Bool -> Hp -> Prop) -> Prop
abbrev TA := St -> Hp -> (List V -> Hp -> Prop) -> Prop
structure Ends where
 nx : St -> Hp -> Prop
 rt : VK
 bk : St -> Hp -> Prop := fun _ _ => False
 ct : St -> Hp -> Prop := fun _ _ => False
abbrev TS := Ends -> St -> Hp -> Prop
def EP (X : Cx) (pins : List (Addr × Obj)) (σ : St) (Q : VK) (u : Value) (s' : Shared) : Prop := ∃ v H', Inv X pins σ H' s' /\ aD v u /\ Q v H'
def TP (X : Cx) (pins : List (Addr × Obj)) (σ : St) (Q : Bool -> Hp -> Prop) (b : Bool) (s' : Shared) : Prop := ∃ H', Inv X pins σ H' s' /\ Q b H'
def AP (X : Cx) (pins : List (Addr × Obj)) (σ : St) (Q : List V -> Hp -> Prop) (us : List Value) (s' : Shared) : Prop := ∃ vs H', Inv X pins σ H' s' /\ am vs us /\ Q vs H'
def SP (X : Cx) (pins : List (Addr × Obj)) (D : Ends) (f : Flow) (s' : Shared) : Prop :=
 match f with
 | .next => ∃ σ' H', Inv X pins σ' H' s' /\ D.nx σ' H'
 | .brk => ∃ σ' H', Inv X pins σ' H' s' /\ D.bk σ' H'
 | .cont => ∃ σ' H', Inv X pins σ' H' s' /\ D.ct σ' H'
 | .ret u => ∃ v σ' H', Inv X pins σ' H' s' /\ aD v u /\ D.rt v H'
def PE (X : Cx) (e : Expr) (t : TE) : Prop :=
 ∀ (pins : List (Addr × Obj)) (s : Shared) (σ : St) (H : Hp) (Q : VK), Inv X pins σ H s -> t σ H Q -> wpAny (model X.prog X.w) X.A (eval e X.env) (EP X pins σ Q) X.xe s
def PT (X : Cx) (e : Expr) (t : TT) : Prop :=
 ∀ (pins : List (Addr × Obj)) (s : Shared) (σ : St) (H : Hp) (Q : Bool -> Hp -> Prop), Inv X pins σ H s -> t σ H Q -> wpAny (model X.prog X.w) X.A (isTrue e X.env (eval e X.env)) (TP X pins σ Q) X.xe s
def PW (X : Cx) (e : Expr) (t : TT) : Prop :=
 ∀ (whole : Sem Value) (pins : List (Addr × Obj)) (s : Shared) (σ : St) (H : Hp) (Q : Bool -> Hp -> Prop), Inv X pins σ H s -> t σ H Q -> wpAny (model X.prog X.w) X.A (isTrue e X.env whole) (TP X pins σ Q) X.xe s
theorem PW.pt {X : Cx} {e : Expr} {t : TT} (h : PW X e t) : PT X e t := h _
def PA (X : Cx) (es : List Expr) (t : TA) : Prop :=
 ∀ (pos : Pos) (pins : List (Addr × Obj)) (s : Shared) (σ : St) (H : Hp) (Q : List V -> Hp -> Prop), Inv X pins σ H s -> t σ H Q -> wpAny (model X.prog X.w) X.A (spliced (backTo pos (starEach es X.env))) (AP X pins σ Q) X.xe s
def PS (X : Cx) (st : Stmt) (t : TS) : Prop :=
 ∀ (pins : List (Addr × Obj)) (s : Shared) (σ : St) (H : Hp) (D : Ends), Inv X pins σ H s -> t D σ H -> wpAny (model X.prog X.w) X.A (exec st X.env) (SP X pins D) X.xe s
def PSs (X : Cx) (st : List Stmt) (t : TS) : Prop :=
 ∀ (pins : List (Addr × Obj)) (s : Shared) (σ : St) (H : Hp) (D : Ends), Inv X pins σ H s -> t D σ H -> wpAny (model X.prog X.w) X.A (execs st X.env) (SP X pins D) X.xe s
theorem thn {α : Type} {t : Sem α} {Q Q' : α -> Shared -> Prop} {M : Model} {A : Around} {E : Value -> Shared -> Prop} {s : Shared} (h : wpAny M A t Q E s) (hQ : ∀ a s, Q a s -> Q' a s) : wpAny M A t Q' E s := wpAny_mono h hQ fun _ _ x => x
section
variable {X : Cx}
def jf (i : Nat) : TE := fun σ H Q => ∃ v, σ[i]? = some (some v) /\ Q v H
def tC (v : V) : TE := fun _ H Q => Q v H
theorem v8 {i : Nat} {x : Str} {pos : Pos} (hN : X.N[i]? = some x) (hv : Vis X.env.scope x) (hd : (x == ("__debug__" : Str)) = false := by decide) (hcd : (x == ("__classdict__" : Str)) = false := by decide) : PE X (.Name x pos) (jf i) := by
 intro pins s σ H Q I h
 obtain ⟨v, e, h⟩ := h
 obtain ⟨m, hn, hl⟩ := I.loc
 obtain ⟨u, r, l⟩ := hl i x v hN e hv
 have fin : EP X pins σ Q u s := ⟨v, H, I, r, h⟩
 rcases l with ⟨hk, hm⟩ | ⟨hk, c, hc, hcell⟩
 ·exact wpAny_Name (wpAny_loadName_local I.ok.kind hk hn hm fin) hd
 ·rcases hk with hk | hk
  ·exact wpAny_Name (wpAny_loadName_cell I.ok.kind hk hc hcell fin) hd
  ·exact wpAny_Name (wpAny_loadName_free I.ok.kind hk hc hcell fin hcd) hd
theorem aZ {i j pos} : PE X (.Constant (.int i) j pos) (tC (.int i)) := fun _ _ _ H _ I h => wpAny_Constant_int ⟨.int i, H, I.tok _, ⟨_, rfl⟩, h⟩
theorem ya {b j pos} : PE X (.Constant (.bool b) j pos) (tC (.bl b)) := fun _ _ _ H _ I h => Constant_bool ⟨.bl b, H, I, rfl, h⟩
theorem wb {j pos} : PE X (.Constant .none j pos) (tC .non) := fun _ _ _ H _ I h => Constant_none ⟨.non, H, I, rfl, h⟩
theorem qv {x j pos} : PE X (.Constant (.str x) j pos) (tC (.str x)) := fun _ _ _ H _ I h => Calls.Constant_str ⟨.str x, H, I.tok _, ⟨_, rfl⟩, h⟩
def Gl (X : Cx) (x : Str) : Prop := X.env.kindOf x = some .globalImplicit
theorem gf {E : Value -> Shared -> Prop} {pins : List (Addr × Obj)} {s : Shared} {σ : St} {H : Hp} {x : Str} {u : Value} {pos : Pos} {Q : Value -> Shared -> Prop} (I : Inv X pins σ H s) (hg : Gl X x) (hm : X.mg x = some u) (h : Q u s)
  (hd : (x == ("__debug__" : Str)) = false := by decide) : wpAny (model X.prog X.w) X.A (eval (.Name x pos) X.env) Q E s :=
 Calls.Name_function_global I.ok.kind hg (Calls.loadGlobal_global (by rw [I.ok.glob]; exact I.mod.glob.keeps I.bk) hm h) hd
theorem gh {E : Value -> Shared -> Prop} {pins : List (Addr × Obj)} {s : Shared} {σ : St} {H : Hp} {x : Str} {u : Value} {pos : Pos} {Q : Value -> Shared -> Prop} (I : Inv X pins σ H s) (hg : Gl X x) (hm : X.mg x = none) (hv : bootBuiltins x = some u) (h : Q u s)
  (hn : x ≠ "__name__" := by decide) (hd : (x == ("__debug__" : Str)) = false := by decide) : wpAny (model X.prog X.w) X.A (eval (.Name x pos) X.env) Q E s := by
 obtain ⟨mb, h1, h2⟩ := I.mod.blt
 exact Calls.Name_function_global I.ok.kind hg (Calls.loadGlobal_builtin (by rw [I.ok.glob]; exact I.mod.glob.keeps I.bk) hm (by rw [I.ok.blt]; exact h1.keeps I.bk) ((h2 x hn).trans hv) h) hd
theorem oy {x : Str} {v : V} {u : Value} {pos : Pos} (hg : Gl X x) (hm : X.mg x = some u) (r : aD v u) (hd : (x == ("__debug__" : Str)) = false := by decide) : PE X (.Name x pos) (tC v) :=
 fun _ _ _ H _ I h => gf I hg hm ⟨v, H, I, r, h⟩ hd
theorem bI {x : Str} {v : V} {u : Value} {pos : Pos} (hg : Gl X x) (hm : X.mg x = none) (hv : bootBuiltins x = some u) (r : aD v u) (hn : x ≠ "__name__" := by decide) (hd : (x == ("__debug__" : Str)) = false := by decide) : PE X (.Name x pos) (tC v) :=
 fun _ _ _ H _ I h => gh I hg hm hv ⟨v, H, I, r, h⟩ hn hd
variable {a b : Expr} {ta tb : TE} {pos : Pos}
variable {tA tB' : TT} {rest : List Expr}
def tOr (t u : TT) : TT := fun σ H Q => t σ H fun c H1 => if c = true then Q true H1 else u σ H1 Q
def tNot (t : TT) : TT := fun σ H Q => t σ H fun c H1 => Q (!c) H1
theorem vW (ha : PT X a tA) : PW X (.BoolOp .Or [a] pos) tA := by
 intro wh pins s σ H Q I h
 refine isTrue_or (thn (ha pins s σ H Q I h) fun c s1 e => ?_)
 cases c with
 | false => exact isTrue_or_nil e
 | true => exact e
theorem x8 (ha : PT X a tA) (hb : PW X (.BoolOp .Or (b :: rest) pos) tB') : PW X (.BoolOp .Or (a :: b :: rest) pos) (tOr tA tB') := by
 intro wh pins s σ H Q I h
 refine isTrue_or (thn (ha pins s σ H _ I h) fun c s1 ⟨H1, I1, q1⟩ => ?_)
 cases c with
 | true => exact ⟨H1, I1, q1⟩
 | false => exact hb wh pins s1 σ H1 Q I1 q1
theorem vX (ha : PT X a tA) : PT X (.UnaryOp .Not a pos) (tNot tA) := by
 intro pins s σ H Q I h
 exact isTrue_not (ha pins s σ H (fun c H1 => Q (!c) H1) I h)
def xZ (ta tb : TE) : TE := fun σ H Q => ta σ H fun x H1 => ∃ c, x = .bl c /\ if c = true then tb σ H1 Q else Q (.bl false) H1
theorem wa {op} {t : TE} (h : PE X a t) : PE X (.BoolOp op [a] pos) t := fun pins s σ H Q I hw => BoolOp_one (h pins s σ H Q I hw)
theorem wj (ha : PE X a ta) (hb : PE X (.BoolOp .And (b :: rest) pos) tb) : PE X (.BoolOp .And (a :: b :: rest) pos) (xZ ta tb) := by
 intro pins s σ H Q I h
 refine BoolOp_and (thn (ha pins s σ H _ I h) fun v s1 ⟨x, H1, I1, r1, q1⟩ => ?_)
 obtain ⟨c, rfl, q1⟩ := q1
 cases r1
 refine wpAny_truthy_bool ?_
 cases c with
 | true => exact hb pins s1 σ H1 Q I1 q1
 | false => exact ⟨.bl false, H1, I1, rfl, q1⟩
end
def SqL (K : Frag) (H : Hp) (a : Addr) (xs : List V) : Prop :=
 Rd H a (.lst xs) \/
  ∃ (o : Obj) (its : Array Value) (n : Nat), K.lookup a = some o /\ o.cls = .type "list" /\ o.dict = none /\ o.data = .seq its n /\ its.size <= sizeLine /\ am xs its.toList
def SqT (K : Frag) (H : Hp) (a : Addr) (xs : List V) : Prop :=
 Rd H a (.tup xs) \/
  ∃ (o : Obj) (its : Array Value) (n : Nat), K.lookup a = some o /\ o.cls = .type "tuple" /\ o.data = .seq its n /\ its.size <= sizeLine /\ am xs its.toList
def absV : Value -> Option V
 | .none => some .non
 | .bool b => some (.bl b)
 | .int i _ => some (.int i)
 | .str x _ => some (.str x)
 | .bytes b _ => some (.byt b)
 | .float b _ => some (.flt b)
 | .ref a => some (.ref a)
 | .type n => some (.ty n)
 | _ => none
theorem aD.abs {x : V} {u : Value} (r : aD x u) : absV u = some x := by
 cases x with
 | non => cases r; rfl
 | bl _ => cases r; rfl
 | int _ => obtain ⟨t, rfl⟩ := r; rfl
 | str _ => obtain ⟨t, rfl⟩ := r; rfl
 | byt _ => obtain ⟨t, rfl⟩ := r; rfl
 | flt _ => obtain ⟨t, rfl⟩ := r; rfl
 | ref _ => cases r; rfl
 | ty _ => cases r; rfl
theorem aD.inj {x y : V} {u : Value} (r : aD x u) (q : aD y u) : x = y := Option.some.inj (r.abs.symm.trans q.abs)
theorem am.inj : ∀ {xs ys : List V} {us : List Value}, am xs us -> am ys us -> xs = ys
 | _, _, _, .nil, .nil => rfl
 | _, _, _, .cons r t, .cons r' t' => by rw [r.inj r', am.inj t t']
section
variable {X : Cx} {pins : List (Addr × Obj)} {σ : St} {H : Hp} {s : Shared} {a : Addr} {xs ys : List V}
theorem SqL.of {K : Frag} (h : H a = some (.lst xs)) : SqL K H a xs := .inl (.inl h)
theorem Inv.list (I : Inv X pins σ H s) (h : SqL X.K H a xs) : ∃ its : List Value, am xs its /\ PlainL s.heap a its.toArray /\ xs.length <= sizeLine := by
 rcases h with h | ⟨o, its, n, hk, hc, hd, hs, hz, r⟩
 ·obtain ⟨z, its, n, r, e⟩ := h.ok I.hok
  exact ⟨its, r, ⟨_, n, e, rfl, rfl, rfl⟩, z⟩
 ·refine ⟨its.toList, r, ⟨o, n, I.kIn a o hk, hc, hd, by simpa using hs⟩, ?_⟩
  have e := r.length
  simp only [Array.length_toList] at e
  omega
theorem Inv.tuple (I : Inv X pins σ H s) (h : SqT X.K H a xs) : ∃ its : List Value, am xs its /\ IsTup s.heap a its.toArray /\ xs.length <= sizeLine := by
 rcases h with h | ⟨o, its, n, hk, hc, hs, hz, r⟩
 ·obtain ⟨z, its, r, p⟩ := h.ok I.hok
  exact ⟨its, r, p, z⟩
 ·refine ⟨its.toList, r, ⟨o, I.kIn a o hk, hc, n, by simpa using hs⟩, ?_⟩
  have e := r.length
  simp only [Array.length_toList] at e
  omega
theorem Inv.list_inj (I : Inv X pins σ H s) (h : SqL X.K H a xs) (h' : SqL X.K H a ys) : xs = ys := by
 obtain ⟨its, r, ⟨o, n, e, _, _, d⟩, _⟩ := I.list h
 obtain ⟨its', r', ⟨o', n', e', _, _, d'⟩, _⟩ := I.list h'
 rw [e] at e'; cases e'
 rw [d] at d'
 injection d' with d1 _
 have : its = its' := by simpa using congrArg Array.toList d1
 subst this
 exact r.inj r'
theorem Inv.tuple_inj (I : Inv X pins σ H s) (h : SqT X.K H a xs) (h' : SqT X.K H a ys) : xs = ys := by
 obtain ⟨its, r, ⟨o, e, _, n, d⟩, _⟩ := I.tuple h
 obtain ⟨its', r', ⟨o', e', _, n', d'⟩, _⟩ := I.tuple h'
 rw [e] at e'; cases e'
 rw [d] at d'
 injection d' with d1 _
 have : its = its' := by simpa using congrArg Array.toList d1
 subst this
 exact r.inj r'
end
abbrev Cx.wish (X : Cx) (E : Value -> Shared -> Prop) : Cx := { X with xe := E }
abbrev Cx.nox (X : Cx) : Cx := X.wish fun _ _ => False
theorem Cx.Ok.wish {X : Cx} (ok : X.Ok) (E : Value -> Shared -> Prop) : (X.wish E).Ok :=
 ⟨ok.mod, ok.kind, ok.glob, ok.blt, ok.above, ok.inj, ok.has, ok.cab, ok.hd, ok.frames, ok.stk, ok.exf, ok.bs, ok.bsz, ok.noex, ok.exfs, ok.funs, ok.frf⟩
theorem Cx.Ok.unwish {X : Cx} {E : Value -> Shared -> Prop} (ok : (X.wish E).Ok) : X.Ok :=
 ⟨ok.mod, ok.kind, ok.glob, ok.blt, ok.above, ok.inj, ok.has, ok.cab, ok.hd, ok.frames, ok.stk, ok.exf, ok.bs, ok.bsz, ok.noex, ok.exfs, ok.funs, ok.frf⟩
section
variable {X : Cx} {pins : List (Addr × Obj)} {σ : St} {H : Hp} {s : Shared} {E : Value -> Shared -> Prop}
theorem Inv.wish (I : Inv X pins σ H s) (E : Value -> Shared -> Prop) : Inv (X.wish E) pins σ H s := ⟨I.ok.wish E, I.os, I.bare, I.base, I.loc, I.cell, I.free, I.freeC, I.pin, I.hok, I.len⟩
theorem Inv.unwish (I : Inv (X.wish E) pins σ H s) : Inv X pins σ H s := ⟨I.ok.unwish, I.os, I.bare, I.base, I.loc, I.cell, I.free, I.freeC, I.pin, I.hok, I.len⟩
theorem SP.unwish {D : Ends} {f : Flow} {s' : Shared} (h : SP (X.wish E) pins D f s') : SP X pins D f s' := by
 cases f with
 | next => obtain ⟨σ', H', I, q⟩ := h; exact ⟨σ', H', I.unwish, q⟩
 | brk => obtain ⟨σ', H', I, q⟩ := h; exact ⟨σ', H', I.unwish, q⟩
 | cont => obtain ⟨σ', H', I, q⟩ := h; exact ⟨σ', H', I.unwish, q⟩
 | ret u => obtain ⟨v, σ', H', I, r, q⟩ := h; exact ⟨v, σ', H', I.unwish, r, q⟩
theorem PSs.nox {st : List Stmt} {t : TS} (h : PSs X.nox st t) : PSs X st t := fun pins s σ H D I hw =>
 wpAny_mono (h pins s σ H D (I.wish _) hw) (fun _ _ q => q.unwish) fun _ _ z => False.elim z
end
section
variable {X : Cx} {st : Stmt} {rest : List Stmt} {t u : TS} {e : Expr} {te : TE} {pos : Pos}
def xW : TS := fun D σ H => D.nx σ H
def tSeq (t u : TS) : TS := fun D σ H => t { D with nx := u D } σ H
theorem kO : PSs X [] xW := fun _ _ σ H _ I h => wpAny_execs_nil ⟨σ, H, I, h⟩
theorem bu (h1 : PS X st t) (h2 : PSs X rest u) : PSs X (st :: rest) (tSeq t u) := by
 intro pins s σ H D I h
 refine wpAny_execs_cons (thn (h1 pins s σ H { D with nx := u D } I h) fun f s1 q => ?_)
 cases f with
 | next =>
  obtain ⟨σ', H', I', q⟩ := q
  exact h2 pins s1 σ' H' D I' q
 | ret v => exact q
 | brk => exact q
 | cont => exact q
theorem dn (h1 : PS X st t) : PSs X [st] t := by
 intro pins s σ H D I h
 refine wpAny_execs_cons (thn (h1 pins s σ H D I h) fun f s1 q => ?_)
 cases f with
 | next => exact wpAny_execs_nil q
 | ret v => exact q
 | brk => exact q
 | cont => exact q
theorem Inv.quiet {pins : List (Addr × Obj)} {σ : St} {H : Hp} {s : Shared} (I : Inv X pins σ H s) : interactive X.env = false := by simp [interactive, I.ok.kind]
def iz (te : TE) : TS := fun D σ H => te σ H fun _ H1 => D.nx σ H1
theorem dN (he : PE X e te) (hs : swapsWith e none pos.line X.env = pure false := by rfl) : PS X (.Expr e pos) (iz te) := by
 intro pins s σ H D I h
 exact wpAny_Expr_any (thn (he pins s σ H _ I h) fun v s1 ⟨x, H1, I1, r1, q1⟩ => ⟨σ, H1, I1, q1⟩) I.quiet hs
def o8 (te : TE) : TS := fun D σ H => te σ H D.rt
theorem aB (he : PE X e te) : PS X (.Return (some e) pos) (o8 te) := by
 intro pins s σ H D I h
 exact wpAny_Return_some (thn (he pins s σ H _ I h) fun v s1 ⟨x, H1, I1, r1, q1⟩ => ⟨x, σ, H1, I1, r1, q1⟩)
def tIfS (c : TT) (t u : TS) : TS := fun D σ H => c σ H fun b H1 => if b = true then t D σ H1 else u D σ H1
theorem tP {c : Expr} {a b : List Stmt} {tc : TT} (hc : PT X c tc) (ha : PSs X a t) (hb : PSs X b u) : PS X (.If c a b pos) (tIfS tc t u) := by
 intro pins s σ H D I h
 refine wpAny_If (thn (hc pins s σ H _ I h) fun d s1 ⟨H1, I1, q1⟩ => ?_)
 cases d with
 | true => exact ha pins s1 σ H1 D I1 q1
 | false => exact hb pins s1 σ H1 D I1 q1
end
abbrev TG := V -> St -> Hp -> (St -> Hp -> Prop) -> Prop
abbrev TGs := List V -> St -> Hp -> (St -> Hp -> Prop) -> Prop
def PG (X : Cx) (target : Expr) (t : TG) : Prop :=
 ∀ (pins : List (Addr × Obj)) (s : Shared) (σ : St) (H : Hp) (v : V) (u : Value) (Q : St -> Hp -> Prop), Inv X pins σ H s -> aD v u -> t v σ H Q ->
  wpAny (model X.prog X.w) X.A (assign target X.env u) (fun _ s' => ∃ σ' H', Inv X pins σ' H' s' /\ Q σ' H') X.xe s
def PGs (X : Cx) (ts : List Expr) (t : TGs) : Prop :=
 ∀ (pins : List (Addr × Obj)) (s : Shared) (σ : St) (H : Hp) (vs : List V) (us : List Value) (Q : St -> Hp -> Prop), Inv X pins σ H s -> am vs us -> t vs σ H Q ->
  wpAny (model X.prog X.w) X.A (assignInOrder ((assignEach ts X.env).map (·.2)) us) (fun _ s' => ∃ σ' H', Inv X pins σ' H' s' /\ Q σ' H') X.xe s
abbrev s0 := V -> V -> V -> Hp -> (Hp -> Prop) -> Prop
def xH (X : Cx) (t : s0) : Prop :=
 ∀ (pins : List (Addr × Obj)) (s : Shared) (σ : St) (H : Hp) (o i v : V) (ov iv u : Value) (Q : Hp -> Prop), Inv X pins σ H s -> aD o ov -> aD i iv -> aD v u -> t o i v H Q ->
  wpAny (model X.prog X.w) X.A (setItem ov iv u) (fun _ s' => ∃ H', Inv X pins σ H' s' /\ Q H') X.xe s
section
variable {X : Cx} {pos : Pos}
def cN (i : Nat) : TG := fun v σ H Q => Q (σ.set i (some v)) H
theorem ox {i : Nat} {x : Str} (hN : X.N.Nodup) (hi : X.N[i]? = some x) (hx : Loc X.env.scope x) (hf : X.fn x = true \/ X.env.scope.names.lookup x = some .local := by first | exact .inl rfl | exact .inr rfl | assumption) : PG X (.Name x pos) (cN i) := by
 intro pins s σ H v u Q I r h
 exact wpAny_assign_Name (mM I hN hi hx r (fun s' I' => ⟨_, H, I', h⟩) hf)
def gNil : TGs := fun vs σ H Q => vs = [] /\ Q σ H
def t6 (t : TG) (u : TGs) : TGs := fun vs σ H Q => ∃ v r, vs = v :: r /\ t v σ H fun σ' H' => u r σ' H' Q
theorem uH : PGs X [] gNil := by
 intro pins s σ H vs us Q I r h
 obtain ⟨e, h⟩ := h
 subst e
 cases r
 exact assignInOrder_nil ⟨σ, H, I, h⟩
theorem m3 {e : Expr} {es : List Expr} {t : TG} {u : TGs} (h1 : PG X e t) (h2 : PGs X es u)
  (hs : (assignEach (e :: es) X.env).map (·.2) = assign e X.env :: (assignEach es X.env).map (·.2) := by rfl) : PGs X (e :: es) (t6 t u) := by
 intro pins s σ H vs us Q I r h
 obtain ⟨v, vr, e1, h⟩ := h
 subst e1
 cases r with
 | cons r rr =>
  rw [hs]
  refine assignInOrder_cons (thn (h1 pins s σ H _ _ _ I r h) fun _ s1 ⟨σ1, H1, I1, q1⟩ => ?_)
  exact h2 pins s1 σ1 H1 _ _ Q I1 rr q1
def wT (K : Frag) (n : Nat) (t : TGs) : TG := fun v σ H Q => ∃ a xs, v = .ref a /\ SqT K H a xs /\ xs.length = n /\ t xs σ H Q
theorem v7 {es : List Expr} {k : Nat} {t : TGs} {n : Nat} (hc : X.calm = true) (h : PGs X es t)
  (hn : (assignEach es X.env).length = n := by rfl) (hst : (assignEach es X.env).findIdx? (·.1) = none := by rfl) : PG X (.Tuple es k pos) (wT X.K n t) := by
 intro pins s σ H v u Q I r hw
 obtain ⟨a, xs, e1, hq, hl, hw⟩ := hw
 subst e1
 cases r
 obtain ⟨its, rv, ht, hz⟩ := I.tuple hq
 refine assign_Tuple_tuple (I.ok.hd hc) ht (by simp [hn, ← hl, rv.length]) hst fun h' hx => ?_
 have I1 : Inv X pins σ H { s with heap := h' } := I.kept (t' := s.toks) fun b o e => hx b o (Nat.ne_of_lt (Heap.lt_size e)) e
 exact h pins _ σ H xs _ Q I1 (by simpa using rv) hw
def wU (to ti : TE) (t : s0) : TG := fun v σ H Q => to σ H fun o H1 => ti σ H1 fun i H2 => t o i v H2 fun H3 => Q σ H3
theorem dZ {o i : Expr} {to ti : TE} {t : s0} (ho : PE X o to) (hi : PE X i ti) (hs : xH X t)
  (ha : ∀ v, assign (.Subscript o i pos) X.env v = (do
   let ov ← holding [v] (eval o X.env)
   let iv ← holding [v, ov] (eval i X.env)
   standAt pos
   holding [v, ov, iv] (setItem ov iv v)
   release [v, ov, iv] []) := by intro _; rfl) : PG X (.Subscript o i pos) (wU to ti t) := by
 intro pins s σ H v u Q I r h
 rw [ha]
 refine wpAny_bind (wpAny_holding (thn (ho pins s σ H _ I h) fun ov s1 ⟨x, H1, I1, r1, q1⟩ => ?_))
 refine wpAny_bind (wpAny_holding (thn (hi pins s1 σ H1 _ I1 q1) fun iv s2 ⟨y, H2, I2, r2, q2⟩ => ?_))
 refine wpAny_bind (wpAny_standAt (wpAny_bind (wpAny_holding (thn (hs pins s2 σ H2 x y v ov iv u _ I2 r1 r2 r q2) fun _ s3 ⟨H3, I3, q3⟩ => ?_))))
 exact wpAny_release ⟨σ, H3, I3, q3⟩
def fG (te : TE) (g : TG) : TS := fun D σ H => te σ H fun x H1 => g x σ H1 D.nx
theorem dY {tg e : Expr} {te : TE} {g : TG} (he : PE X e te) (hg : PG X tg g) (hs : swapsWithSole [tg] e pos.line X.env = pure false := by rfl) (hw : swappedStores [tg] e X.env = pure none := by rfl)
  (h1 : (assignEach [tg] X.env).map (·.2) = [assign tg X.env] := by rfl) : PS X (.Assign [tg] e pos) (fG te g) := by
 intro pins s σ H D I h
 refine wpAny_Assign_stores (thn (he pins s σ H _ I h) fun v s1 ⟨x, H1, I1, r1, q1⟩ => ?_) hs hw
 rw [h1]
 exact thn (hg pins s1 σ H1 x v _ I1 r1 q1) fun _ s2 q => q
theorem jU {i : Nat} {x : Str} {e : Expr} {te : TE} {pos' : Pos} (hN : X.N.Nodup) (hi : X.N[i]? = some x) (hx : Loc X.env.scope x) (he : PE X e te) (hs : swapsWith e (some (.Name x pos')) pos.line X.env = pure false := by rfl) (hf : X.fn x = true \/ X.env.scope.names.lookup x = some .local := by first | exact .inl rfl | exact .inr rfl | assumption) :
  PS X (.Assign [.Name x pos'] e pos) (fG te (cN i)) := by
 intro pins s σ H D I h
 refine wpAny_Assign_Name (thn (he pins s σ H _ I h) fun v s1 ⟨y, H1, I1, r1, q1⟩ => ?_) hs
 exact mM I1 hN hi hx r1 (fun s2 I2 => ⟨_, H1, I2, q1⟩) hf
end
section
variable {X : Cx} {pos : Pos}
end
structure It where
 go : Nat -> Hp -> Prop
 yld : Nat -> Hp -> V -> Hp -> Prop
 stop : Nat -> Hp -> Prop
def cU (X : Cx) (pins : List (Addr × Obj)) (H : Hp) (b : Addr) : Prop :=
 H b = none /\ b ≠ X.env.locals /\ b ∉ X.fs /\ (b ∈ X.ex \/ X.s₀.heap.objs.size <= b) /\ (∀ x c, X.env.cells.lookup x = some c -> c ≠ b) /\ ∀ p ∈ X.pn ++ pins, p.1 ≠ b
theorem Inv.fpOk {X : Cx} {pins : List (Addr × Obj)} {σ : St} {H H' : Hp} {s : Shared} {b : Addr} (I : Inv X pins σ H s) (hb : s.heap.objs.size <= b) (hn : H' b = none) : cU X pins H' b := by
 refine ⟨hn, Nat.ne_of_gt (Nat.lt_of_lt_of_le I.lt hb), I.nofs hb, .inr (Nat.le_trans I.sz hb), fun x c e z => ?_, fun p hp z => ?_⟩
 ·obtain ⟨v, q⟩ := I.cell x c e
  exact absurd (Nat.lt_of_lt_of_le q.lt (by rw [z]; exact hb)) (Nat.lt_irrefl _)
 ·exact absurd (Nat.lt_of_lt_of_le (Heap.lt_size (I.pin p hp).1) (by rw [z]; exact hb)) (Nat.lt_irrefl _)
structure Turn (P : Program) (w : World) (K : Frag) (tg : Expr) (J : It) (fp : List Addr) (it : Addr) (tn : Nat -> Heap -> Prop) : Prop where
 mem : it ∈ fp
 obj : ∀ i h, tn i h -> ∀ b ∈ fp, ∃ o, h.get? b = some o /\ ∀ v, o.data ≠ .cell v
 keep : ∀ i h h', tn i h -> (∀ b ∈ fp, ∀ o, h.get? b = some o -> h'.get? b = some o) -> tn i h'
 item : ∀ (X : Cx), X.prog = P -> X.w = w -> X.K = K -> X.calm = true -> ∀ (i : Nat) (pins : List (Addr × Obj)) (s : Shared) (σ : St) (H : Hp) (E : Value -> Shared -> Prop), Inv X pins σ H s -> (∀ b ∈ fp, cU X pins H b) -> tn i s.heap -> J.go i H ->
  wpAny (model P w) X.A (pyNext (.ref it)) (fun r s1 => ∃ u, r = some u /\
   wpAny (model P w) X.A (letOwnedTupleGo tg (.ref it) u) (fun _ s2 => ∃ x H', Inv X pins σ H' s2 /\ aD x u /\ J.yld i H x H' /\ tn (i + 1) s2.heap /\ ∀ b ∈ fp, H' b = none) E s1) E s
 done : ∀ (X : Cx), X.prog = P -> X.w = w -> X.K = K -> X.calm = true -> ∀ (i : Nat) (pins : List (Addr × Obj)) (s : Shared) (σ : St) (H : Hp) (E : Value -> Shared -> Prop), Inv X pins σ H s -> (∀ b ∈ fp, cU X pins H b) -> tn i s.heap -> J.stop i H ->
  wpAny (model P w) X.A (pyNext (.ref it)) (fun r s1 => r = none /\ Inv X pins σ H s1) E s
 self : ∀ (A : Around) (i : Nat) (s : Shared) (Q : Value -> Shared -> Prop) (E : Value -> Shared -> Prop), tn i s.heap -> Q (.ref it) s -> wpAny (model P w) A (pyIter (.ref it)) Q E s
abbrev TI := St -> Hp -> (It -> Hp -> Prop) -> Prop
def PIE (X : Cx) (pins : List (Addr × Obj)) (σ : St) (tg : Expr) (R : It -> Hp -> Prop) (itv : Value) (s2 : Shared) : Prop :=
 ∃ (it : Addr) (fp : List Addr) (tn : Nat -> Heap -> Prop) (J : It) (H' : Hp), itv = .ref it /\ Inv X pins σ H' s2 /\ Turn X.prog X.w X.K tg J fp it tn /\ tn 0 s2.heap /\ (∀ b ∈ fp, cU X pins H' b) /\ R J H'
def PI (X : Cx) (tg iter : Expr) (wi : TI) : Prop :=
 ∀ (pins : List (Addr × Obj)) (s : Shared) (σ : St) (H : Hp) (R : It -> Hp -> Prop), Inv X pins σ H s -> wi σ H R ->
  wpAny (model X.prog X.w) X.A (eval iter X.env) (fun v s1 => wpAny (model X.prog X.w) X.A (pyIter v) (PIE X pins σ tg R) X.xe s1) X.xe s
theorem pN {M : Model} {A : Around} {E : Value -> Shared -> Prop} {s : Shared} {tg : Expr} {it : Addr} {u : Value} {o : Obj} {n : String} {vs : Array Value} {Q : Unit -> Shared -> Prop} (ho : s.heap.get? it = some o) (hc : o.cls = .type n) (hd : o.data = .fields vs)
  (hn : ["enumerate", "zip", "dict_itemiterator", "dict_reverseitemiterator", "odict_iterator", "itertools.zip_longest", "itertools.pairwise"].contains n = false) (hQ : Q () s) : wpAny M A (letOwnedTupleGo tg (.ref it) u) Q E s := by
 unfold letOwnedTupleGo
 cases tg <;> first
  | exact wpAny_pure hQ
  | (cases u <;> first
    | exact wpAny_pure hQ
    | (refine wpAny_bind (wpAny_load ho ?_)
       rw [hc, hd]
       show wpAny M A (if (["enumerate", "zip", "dict_itemiterator", "dict_reverseitemiterator", "odict_iterator", "itertools.zip_longest", "itertools.pairwise"].contains n && vs[0]? == some (rawInt _)) = true then _ else _) Q E s
       rw [if_neg (by intro h; rw [hn, Bool.false_and] at h; cases h)]
       exact wpAny_pure hQ))
def Itl (K : Frag) (a : Addr) : It :=
 ⟨fun i H => ∃ xs x, SqL K H a xs /\ xs[i]? = some x, fun i H x H' => H' = H /\ ∀ xs, SqL K H a xs -> xs[i]? = some x, fun i H => ∃ xs, SqL K H a xs /\ xs.length <= i⟩
def Itt (K : Frag) (a : Addr) : It :=
 ⟨fun i H => ∃ xs x, SqT K H a xs /\ xs[i]? = some x, fun i H x H' => H' = H /\ ∀ xs, SqT K H a xs -> xs[i]? = some x, fun i H => ∃ xs, SqT K H a xs /\ xs.length <= i⟩
def Itr (lo : Int) (n : Nat) : It := ⟨fun i _ => i < n, fun i H x H' => H' = H /\ x = .int (lo + i), fun i _ => n <= i⟩
theorem lw {P : Program} {w : World} {K : Frag} {tg : Expr} (a it : Addr) : Turn P w K tg (Itl K a) [it] it (fun i h => h.IsListIter it a i) where
 mem := by simp
 obj := fun i h st b hb => by
  have e : b = it := by simpa using hb
  subst e
  obtain ⟨o, e, c, d⟩ := st
  exact ⟨o, e, fun v z => by rw [d] at z; cases z⟩
 keep := fun i h h' st k => st.at fun o e => k it (by simp) o e
 item := by
  intro X hP hw hK hc i pins s σ H E I hf st hg
  subst hP hw hK
  obtain ⟨xs, x, hq, hx⟩ := hg
  obtain ⟨its, rv, p, hz⟩ := I.list hq
  obtain ⟨u, hu, ru⟩ := rv.get hx
  obtain ⟨f0, f1, f2, f3, f4, f5⟩ := hf it (by simp)
  refine wpAny_pyNext_list_item st p.isList (x := u) (by simpa using hu) fun h' st' sb => ?_
  have I1 : Inv X pins σ H { s with heap := h' } := I.turned (t' := s.toks) (fun b o hb e => (sb.2 b hb).trans e) f0 f1 f3 f4 f5
  obtain ⟨o, e, c, d⟩ := id st'
  exact ⟨u, rfl, pN (s := { s with heap := h' }) e c d (by decide) ⟨x, H, I1, ru, ⟨rfl, fun ys hy => by rw [I.list_inj hy hq]; exact hx⟩, st', fun b hb => (hf b hb).1⟩⟩
 done := by
  intro X hP hw hK hc i pins s σ H E I hf st hg
  subst hP hw hK
  obtain ⟨xs, hq, hx⟩ := hg
  obtain ⟨its, rv, p, hz⟩ := I.list hq
  obtain ⟨f0, f1, f2, f3, f4, f5⟩ := hf it (by simp)
  have hl := rv.length
  exact wpAny_pyNext_list_end (I.ok.hd hc) st p.isList (by simp; omega) fun h' eb => ⟨rfl, I.turned (t' := s.toks) (fun b o hb e => eb b o hb e) f0 f1 f3 f4 f5⟩
 self := fun _ _ _ _ _ st h => wpAny_pyIter_listiter st h
theorem o6 {P : Program} {w : World} {K : Frag} {tg : Expr} (a it : Addr) : Turn P w K tg (Itt K a) [it] it (fun i h => h.IsTupleIter it a i) where
 mem := by simp
 obj := fun i h st b hb => by
  have e : b = it := by simpa using hb
  subst e
  obtain ⟨o, e, c, d⟩ := st
  exact ⟨o, e, fun v z => by rw [d] at z; cases z⟩
 keep := fun i h h' st k => st.at fun o e => k it (by simp) o e
 item := by
  intro X hP hw hK hc i pins s σ H E I hf st hg
  subst hP hw hK
  obtain ⟨xs, x, hq, hx⟩ := hg
  obtain ⟨its, rv, p, hz⟩ := I.tuple hq
  obtain ⟨u, hu, ru⟩ := rv.get hx
  obtain ⟨f0, f1, f2, f3, f4, f5⟩ := hf it (by simp)
  refine wpAny_pyNext_tuple_item st (show s.heap.IsTuple a its.toArray from p) (x := u) (by simpa using hu) fun h' st' sb => ?_
  have I1 : Inv X pins σ H { s with heap := h' } := I.turned (t' := s.toks) (fun b o hb e => (sb.2 b hb).trans e) f0 f1 f3 f4 f5
  obtain ⟨o, e, c, d⟩ := id st'
  exact ⟨u, rfl, pN (s := { s with heap := h' }) e c d (by decide) ⟨x, H, I1, ru, ⟨rfl, fun ys hy => by rw [I.tuple_inj hy hq]; exact hx⟩, st', fun b hb => (hf b hb).1⟩⟩
 done := by
  intro X hP hw hK hc i pins s σ H E I hf st hg
  subst hP hw hK
  obtain ⟨xs, hq, hx⟩ := hg
  obtain ⟨its, rv, p, hz⟩ := I.tuple hq
  obtain ⟨f0, f1, f2, f3, f4, f5⟩ := hf it (by simp)
  have hl := rv.length
  exact wpAny_pyNext_tuple_end (I.ok.hd hc) st (show s.heap.IsTuple a its.toArray from p) (by simp; omega) fun h' eb => ⟨rfl, I.turned (t' := s.toks) (fun b o hb e => eb b o hb e) f0 f1 f3 f4 f5⟩
 self := fun _ _ _ _ _ st h => wpAny_pyIter_tupleiter st h
theorem o7 {P : Program} {w : World} {K : Frag} {tg : Expr} (it : Addr) (lo : Int) (n : Nat) : Turn P w K tg (Itr lo n) [it] it (fun i h => IsRangeIter h it (lo + (i : Nat) * 1) ((n : Int) - (i : Nat)) 1) where
 mem := by simp
 obj := fun i h st b hb => by
  have e : b = it := by simpa using hb
  subst e
  exact ⟨_, st, fun v z => by
   have z' : Data.fields _ = Data.cell v := z
   cases z'⟩
 keep := fun i h h' st k => k it (by simp) _ st
 item := by
  intro X hP hw hK hc i pins s σ H E I hf st hg
  subst hP hw hK
  obtain ⟨f0, f1, f2, f3, f4, f5⟩ := hf it (by simp)
  have W := Walks.range (prog := X.prog) (w := X.w) (I.ok.hd hc) it lo 1 n
  refine W.item i s _ _ hg st fun v h' tk hv st' kk => ?_
  obtain ⟨t, rfl⟩ := hv
  have I1 : Inv X pins σ H { s with heap := h', toks := tk } := I.turned (fun b o hb e => kk b o (by simpa using hb) e) f0 f1 f3 f4 f5
  refine ⟨_, rfl, pN (s := { s with heap := h', toks := tk }) (n := "range_iterator") st' rfl rfl (by decide) ⟨.int (lo + i), H, I1, ⟨t, ?_⟩, ⟨rfl, rfl⟩, st', fun b hb => (hf b hb).1⟩⟩
  rw [Int.mul_one]
 done := by
  intro X hP hw hK hc i pins s σ H E I hf st hg
  subst hP hw hK
  obtain ⟨f0, f1, f2, f3, f4, f5⟩ := hf it (by simp)
  exact wpAny_pyNext_range_end (I.ok.hd hc) st (by have : n <= i := hg; omega) fun h' eb => ⟨rfl, I.turned (t' := s.toks) (fun b o hb e => eb b o hb e) f0 f1 f3 f4 f5⟩
 self := fun _ _ _ _ _ st h => wpAny_pyIter_rangeiter st h
section
variable {X : Cx} {tg : Expr}
def yn (K : Frag) (tl : TE) : TI := fun σ H R => tl σ H fun x H1 => ∃ a, x = .ref a /\ (∃ xs, SqL K H1 a xs) /\ R (Itl K a) H1
theorem uG {l : Expr} {tl : TE} (hl : PE X l tl) : PI X tg l (yn X.K tl) := by
 intro pins s σ H R I h
 refine thn (hl pins s σ H _ I h) fun v s1 ⟨x, H1, I1, r1, q1⟩ => ?_
 obtain ⟨a, e, ⟨xs, hq⟩, q⟩ := q1
 subst e
 cases r1
 obtain ⟨its, rv, p, hz⟩ := I1.list hq
 refine wpAny_pyIter_list p.isList ?_
 refine ⟨s1.heap.objs.size, [s1.heap.objs.size], _, _, H1, rfl, I1.kept (t' := s1.toks) fun b o e => Heap.get?_push_of_some _ e, lw a _, ⟨_, Heap.get?_push_size _ rfl, rfl, rfl⟩, fun b hb => ?_, q⟩
 have e : b = s1.heap.objs.size := by simpa using hb
 subst e
 exact I1.fpOk (Nat.le_refl _) (I1.hok.fresh (Nat.le_refl _))
theorem rS {pins : List (Addr × Obj)} {σ : St} {H : Hp} {s : Shared} {R : It -> Hp -> Prop} {E : Value -> Shared -> Prop} {lo hi : Int} {t u v : Tok} {tk : Nat} (I : Inv X pins σ H s) (h1 : -(2 ^ 62) <= lo) (h2 : lo < 2 ^ 62) (h3 : -(2 ^ 62) <= hi) (h4 : hi < 2 ^ 62)
  (q : R (Itr lo (hi - lo).toNat) H) : wpAny (model X.prog X.w) X.A (pyIter (.ref s.heap.objs.size)) (PIE X pins σ tg R) E { s with heap := s.heap.push { cls := .type "range", data := .fields #[.int lo t, .int hi u, .int 1 v] }, toks := tk } := by
 refine wpAny_pyIter_range (IsRange.new ..) (small_one h1 h2 h3 h4) ?_
 have I1 : Inv X pins σ H { s with heap := s.heap.push { cls := .type "range", data := .fields #[.int lo t, .int hi u, .int 1 v] }, toks := tk } := I.kept fun b o e => Heap.get?_push_of_some _ e
 refine ⟨(s.heap.push { cls := .type "range", data := .fields #[.int lo t, .int hi u, .int 1 v] }).objs.size, [(s.heap.push { cls := .type "range", data := .fields #[.int lo t, .int hi u, .int 1 v] }).objs.size], _, _, H, rfl,
  I1.kept (t' := tk) fun b o e => Heap.get?_push_of_some _ e, o7 _ lo (hi - lo).toNat, ?_, fun b hb => ?_, q⟩
 ·have e1 : lo + ((0 : Nat) : Int) * 1 = lo := by simp
  have e2 : (((hi - lo).toNat : Nat) : Int) - ((0 : Nat) : Int) = Builtin.Range.rangeSize lo hi 1 := by rw [rangeSize_one]; split <;> omega
  show IsRangeIter _ _ (lo + ((0 : Nat) : Int) * 1) ((((hi - lo).toNat : Nat) : Int) - ((0 : Nat) : Int)) 1
  rw [e1, e2]
  exact Heap.get?_push_size _ rfl
 ·have e : b = (s.heap.push { cls := .type "range", data := .fields #[.int lo t, .int hi u, .int 1 v] }).objs.size := by simpa using hb
  subst e
  exact I1.fpOk (Nat.le_refl _) (I1.hok.fresh (Nat.le_refl _))
def ym (ta : TA) : TI := fun σ H R => ta σ H fun vs H1 => ∃ j : Int, vs = [.int j] /\ -(2 ^ 62) <= j /\ j < 2 ^ 62 /\ R (Itr 0 j.toNat) H1
theorem qu {a : Expr} {ta : TA} {p pos : Pos} (hg : Gl X "range") (hm : X.mg "range" = none) (ha : PA X [a] ta) (hs : starEach [a] X.env = [(false, eval a X.env)] := by rfl) : PI X tg (.Call (.Name "range" p) [a] [] pos) (ym ta) := by
 intro pins s σ H R I h
 refine Call_ (gh I hg hm boot_range (PyProof.Rows.callWith_type1 (thn (ha pos pins s σ H _ I h) fun us s1 ⟨vs, H1, I1, r1, q1⟩ => ?_) hs rfl))
 obtain ⟨j, e, q1, q2, q⟩ := q1
 subst e
 cases r1 with
 | cons r rr =>
  cases rr
  obtain ⟨t, rfl⟩ := r
  exact call_range_1 (rS I1 (by omega) (by omega) q1 q2 (by simpa using q))
def vE (wi : TI) (g : TG) (tb : TS) : TS := fun D σ H => wi σ H fun J H1 => ∃ W : Nat -> Nat -> St -> Hp -> Prop, (∃ m, W 0 m σ H1) /\ ∀ i m σ H, W i m σ H ->
 (J.stop i H /\ D.nx σ H) \/ (J.go i H /\ ∃ N : St -> Hp -> Prop, (∀ σ' H', N σ' H' -> ∃ m', m' < m /\ W (i + 1) m' σ' H') /\ ∀ x H', J.yld i H x H' -> g x σ H' fun σ2 H2 => tb { D with nx := N, ct := N, bk := D.nx } σ2 H2)
def hX (fp : List Addr) (h : Heap) : List (Addr × Obj) := fp.filterMap fun b => (h.get? b).map fun o => (b, o)
theorem eh {fp : List Addr} {h : Heap} {b : Addr} {o : Obj} (hb : b ∈ fp) (e : h.get? b = some o) : (b, o) ∈ hX fp h := List.mem_filterMap.mpr ⟨b, hb, by rw [e]; rfl⟩
theorem qB {fp : List Addr} {h : Heap} {p : Addr × Obj} (hp : p ∈ hX fp h) : p.1 ∈ fp /\ h.get? p.1 = some p.2 := by
 obtain ⟨b, hb, e⟩ := List.mem_filterMap.mp hp
 cases q : h.get? b with
 | none => rw [q] at e; cases e
 | some o =>
  rw [q] at e
  have e' : (b, o) = p := Option.some.inj e
  subst e'
  exact ⟨hb, q⟩
theorem Inv.pinned {pins : List (Addr × Obj)} {σ : St} {H : Hp} {s : Shared} {fp : List Addr} (I : Inv X pins σ H s) (hf : ∀ b ∈ fp, cU X pins H b) (ho : ∀ b ∈ fp, ∃ o, s.heap.get? b = some o /\ ∀ v, o.data ≠ .cell v) : Inv X (pins ++ hX fp s.heap) σ H s :=
 I.pins_of fun p hp => (List.mem_append.mp hp).elim (fun z => I.pin p (List.mem_append_right _ z)) fun z => by
  obtain ⟨hb, e⟩ := qB z
  obtain ⟨f0, f1, f2, _⟩ := hf p.1 hb
  obtain ⟨o, e', d⟩ := ho p.1 hb
  rw [e] at e'; cases e'
  exact ⟨e, f0, f1, f2, d⟩
theorem Inv.unpinned {pins pl : List (Addr × Obj)} {σ : St} {H : Hp} {s : Shared} (I : Inv X (pins ++ pl) σ H s) : Inv X pins σ H s := I.pins_of fun p hp => I.pin p (List.mem_append_right _ (List.mem_append_left _ hp))
theorem mY {iter : Expr} {body : List Stmt} {wi : TI} {g : TG} {tb : TS} {pos : Pos} (hp : PassesOwn (model X.prog X.w) X.A X.env X.xe) (hc : X.calm = true) (hi : PI X tg iter wi) (hg : PG X tg g) (hb : PSs X body tb)
  (hs : ∀ x, foldedSetIterable iter X.env x = pure x := by intro _; rfl) : PS X (.For tg iter body [] pos) (vE wi g tb) := by
 intro pins s σ H D I h
 refine wpAny_For (thn (hi pins s σ H _ I h) fun v s1 h1 => thn h1 fun itv s2 h2 => ?_) hs
 obtain ⟨it, fp, tn, J, H2, e, I2, T, st2, f2, W, ⟨m0, w0⟩, turn⟩ := h2
 subst e
 -- what stays true of the iterator's objects through the loop
 have stat : ∀ {H' : Hp}, (∀ b ∈ fp, H' b = none) -> ∀ b ∈ fp, cU X pins H' b := fun hn b hb => ⟨hn b hb, (f2 b hb).2⟩
 refine codeAny_forLoop_any (fun n s' => ∃ i σ' H', Inv X pins σ' H' s' /\ tn i s'.heap /\ (∀ b ∈ fp, H' b = none) /\ W i n σ' H') ?_ m0 ⟨0, σ, H2, I2, st2, fun b hb => (f2 b hb).1, w0⟩
 rintro n s3 ⟨i, σ3, H3, I3, st3, fr3, w3⟩
 rcases turn i n σ3 H3 w3 with ⟨stop, qn⟩ | ⟨go, N, hN, step⟩
 ·refine wpAny_passesOwn hp (thn (T.done X rfl rfl rfl hc i pins s3 σ3 H3 X.xe I3 (stat fr3) st3 stop) fun r s4 ⟨hr, I4⟩ => ?_)
  subst hr
  exact wpAny_execs_nil ⟨σ3, H3, I4, qn⟩
 ·refine wpAny_passesOwn hp (thn (T.item X rfl rfl rfl hc i pins s3 σ3 H3 X.xe I3 (stat fr3) st3 go) fun r s4 ⟨u, hr, h4⟩ => ?_)
  subst hr
  refine wpAny_passesOwn hp (thn h4 fun _ s5 ⟨x, H5, I5, r5, y5, st5, fr5⟩ => ?_)
  have I5' := I5.pinned (stat fr5) (T.obj _ _ st5)
  refine wpAny_passesOwn hp (thn (hg _ s5 σ3 H5 x u _ I5' r5 (step x H5 y5)) fun _ s6 ⟨σ6, H6, I6, q6⟩ => ?_)
  refine wpAny_passesOwn hp (thn (hb _ s6 σ6 H6 _ I6 q6) fun f s7 q7 => ?_)
  have again : ∀ {σ7 : St} {H7 : Hp}, Inv X (pins ++ hX fp s5.heap) σ7 H7 s7 -> N σ7 H7 -> ∃ m, m < n /\ ∃ i σ' H', Inv X pins σ' H' s7 /\ tn i s7.heap /\ (∀ b ∈ fp, H' b = none) /\ W i m σ' H' := fun {σ7 H7} I7 n7 => by
   obtain ⟨m', hm, w7⟩ := hN σ7 H7 n7
   refine ⟨m', hm, i + 1, σ7, H7, I7.unpinned, T.keep _ _ _ st5 fun b hb o e => (I7.pin (b, o) (List.mem_append_right _ (List.mem_append_right _ (eh hb e)))).1, fun b hb => ?_, w7⟩
   obtain ⟨o, e, d⟩ := T.obj _ _ st5 b hb
   exact (I7.pin (b, o) (List.mem_append_right _ (List.mem_append_right _ (eh hb e)))).2.1
  cases f with
  | next => obtain ⟨σ7, H7, I7, n7⟩ := q7; exact again I7 n7
  | cont => obtain ⟨σ7, H7, I7, n7⟩ := q7; exact again I7 n7
  | brk => obtain ⟨σ7, H7, I7, q7⟩ := q7; exact ⟨σ7, H7, I7.unpinned, q7⟩
  | ret v => obtain ⟨x7, σ7, H7, I7, r7, q7⟩ := q7; exact ⟨x7, σ7, H7, I7.unpinned, r7, q7⟩
end
abbrev R2 := V -> V -> Hp -> VK -> Prop
def OpR (X : Cx) (f : Value -> Value -> Sem Value) (r : R2) : Prop :=
 ∀ (pins : List (Addr × Obj)) (s : Shared) (σ : St) (H : Hp) (x y : V) (v u : Value) (Q : VK), Inv X pins σ H s -> aD x v -> aD y u -> r x y H Q ->
  wpAny (model X.prog X.w) X.A (f v u) (EP X pins σ Q) X.xe s
def UnR (X : Cx) (f : Value -> Sem Value) (r : V -> Hp -> VK -> Prop) : Prop :=
 ∀ (pins : List (Addr × Obj)) (s : Shared) (σ : St) (H : Hp) (x : V) (v : Value) (Q : VK), Inv X pins σ H s -> aD x v -> r x H Q ->
  wpAny (model X.prog X.w) X.A (f v) (EP X pins σ Q) X.xe s
def bt (X : Cx) (f : Value) (r : List V -> Hp -> VK -> Prop) : Prop :=
 ∀ (pins : List (Addr × Obj)) (s : Shared) (σ : St) (H : Hp) (xs : List V) (us : List Value) (Q : VK), Inv X pins σ H s -> am xs us -> r xs H Q ->
  wpAny (model X.prog X.w) X.A (call f us) (EP X pins σ Q) X.xe s
def TruR (X : Cx) (r : V -> Hp -> (Bool -> Hp -> Prop) -> Prop) : Prop :=
 ∀ (pins : List (Addr × Obj)) (s : Shared) (σ : St) (H : Hp) (x : V) (v : Value) (Q : Bool -> Hp -> Prop), Inv X pins σ H s -> aD x v -> r x H Q ->
  wpAny (model X.prog X.w) X.A (truthy v) (TP X pins σ Q) X.xe s
def tOp (r : R2) (ta tb : TE) : TE := fun σ H Q => ta σ H fun x H1 => tb σ H1 fun y H2 => r x y H2 Q
def tUn (r : V -> Hp -> VK -> Prop) (ta : TE) : TE := fun σ H Q => ta σ H fun x H1 => r x H1 Q
def rI (C : Int -> Int -> Prop) (g : Int -> Int -> V) : R2 := fun x y H Q => ∃ i j, x = .int i /\ y = .int j /\ C i j /\ Q (g i j) H
def rI0 (g : Int -> Int -> V) : R2 := fun x y H Q => ∃ i j, x = .int i /\ y = .int j /\ Q (g i j) H
def rU (g : Int -> V) : V -> Hp -> VK -> Prop := fun x H Q => ∃ i, x = .int i /\ Q (g i) H
section
variable {X : Cx} {a b c : Expr} {ta tb tc : TE} {pos : Pos}
theorem pZ (ha : PE X a ta) (hb : PE X b tb) {pins : List (Addr × Obj)} {s : Shared} {σ : St} {H : Hp} {R : V -> V -> Hp -> Prop} (I : Inv X pins σ H s)
  (h : ta σ H fun x H1 => tb σ H1 fun y H2 => R x y H2) {Q : Value -> Shared -> Prop} {f : Value -> Value -> Sem Value}
  (hf : ∀ v u s2 x y H2, Inv X pins σ H2 s2 -> aD x v -> aD y u -> R x y H2 -> wpAny (model X.prog X.w) X.A (f v u) Q X.xe s2) :
  wpAny (model X.prog X.w) X.A (eval a X.env) (fun v s₁ => wpAny (model X.prog X.w) X.A (eval b X.env) (fun u s₂ => wpAny (model X.prog X.w) X.A (f v u) Q X.xe s₂) X.xe s₁) X.xe s := by
 refine thn (ha pins s σ H _ I h) fun v s1 ⟨x, H1, I1, r1, q1⟩ => ?_
 refine thn (hb pins s1 σ H1 _ I1 q1) fun u s2 ⟨y, H2, I2, r2, q2⟩ => ?_
 exact hf v u s2 x y H2 I2 r1 r2 q2
theorem bZ {op : Operator} {r : R2} (ho : OpR X (binaryOp op) r) (ha : PE X a ta) (hb : PE X b tb) : PE X (.BinOp a op b pos) (tOp r ta tb) := by
 intro pins s σ H Q I h
 exact wpAny_BinOp (pZ ha hb I h fun v u s2 x y H2 I2 rx ry q => ho pins s2 σ H2 x y v u Q I2 rx ry q)
theorem x9 {op : UnaryOp} {r : V -> Hp -> VK -> Prop} (ho : UnR X (unaryOp op) r) (ha : PE X a ta) : PE X (.UnaryOp op a pos) (tUn r ta) := by
 intro pins s σ H Q I h
 exact UnaryOp_ (thn (ha pins s σ H _ I h) fun v s1 ⟨x, H1, I1, r1, q1⟩ => ho pins s1 σ H1 x v Q I1 r1 q1)
theorem opI {f : Value -> Value -> Sem Value} {C : Int -> Int -> Prop} {g : Int -> Int -> Int}
  (rule : ∀ (i j : Int) (t u : Tok) (s : Shared) (Q : Value -> Shared -> Prop) (E : Value -> Shared -> Prop), C i j -> Q (.int (g i j) s.toks) { s with toks := s.toks + 1 } -> wpAny (model X.prog X.w) X.A (f (.int i t) (.int j u)) Q E s) :
  OpR X f (rI C fun i j => .int (g i j)) := by
 intro pins s σ H x y v u Q I rx ry h
 obtain ⟨i, j, rfl, rfl, hc, q⟩ := h
 obtain ⟨t, rfl⟩ := rx
 obtain ⟨t', rfl⟩ := ry
 exact rule i j t t' s _ _ hc ⟨.int (g i j), H, I.tok _, ⟨_, rfl⟩, q⟩
theorem wr {f : Value -> Value -> Sem Value} {g : Int -> Int -> Int}
  (rule : ∀ (i j : Int) (t u : Tok) (s : Shared) (Q : Value -> Shared -> Prop) (E : Value -> Shared -> Prop), Q (.int (g i j) s.toks) { s with toks := s.toks + 1 } -> wpAny (model X.prog X.w) X.A (f (.int i t) (.int j u)) Q E s) :
  OpR X f (rI0 fun i j => .int (g i j)) := by
 intro pins s σ H x y v u Q I rx ry h
 obtain ⟨i, j, rfl, rfl, q⟩ := h
 obtain ⟨t, rfl⟩ := rx
 obtain ⟨t', rfl⟩ := ry
 exact rule i j t t' s _ _ ⟨.int (g i j), H, I.tok _, ⟨_, rfl⟩, q⟩
theorem pw {f : Value -> Value -> Sem Value} {g : Int -> Int -> Bool}
  (rule : ∀ (i j : Int) (t u : Tok) (s : Shared) (Q : Value -> Shared -> Prop) (E : Value -> Shared -> Prop), Q (.bool (g i j)) s -> wpAny (model X.prog X.w) X.A (f (.int i t) (.int j u)) Q E s) :
  OpR X f (rI0 fun i j => .bl (g i j)) := by
 intro pins s σ H x y v u Q I rx ry h
 obtain ⟨i, j, rfl, rfl, q⟩ := h
 obtain ⟨t, rfl⟩ := rx
 obtain ⟨t', rfl⟩ := ry
 exact rule i j t t' s _ _ ⟨.bl (g i j), H, I, rfl, q⟩
def CDiv (i j : Int) : Prop := 0 < j /\ j < 1073741824
def CPow (i j : Int) : Prop := 0 <= j /\ j <= 1000000 /\ i.natAbs < 2 ^ 64
def tm (i j : Int) : Prop := (-(2 ^ 64) < i /\ i < 2 ^ 64) \/ (-(2 ^ 64) < j /\ j < 2 ^ 64)
theorem tm.ok {i j : Int} (h : tm i j) : IntMulOk i j := by
 rcases h with ⟨h1, h2⟩ | ⟨h1, h2⟩
 ·exact .of_left (intBits_le_64 h1 h2)
 ·exact .of_right (intBits_le_64 h1 h2)
theorem jX : OpR X (binaryOp .Add) (rI0 fun i j => .int (i + j)) := wr fun _ _ _ _ _ _ _ q => add_int q
theorem qw : OpR X (binaryOp .Sub) (rI0 fun i j => .int (i - j)) := wr fun _ _ _ _ _ _ _ q => sub_int q
theorem wn : OpR X (binaryOp .Mult) (rI tm fun i j => .int (i * j)) := opI fun _ _ _ _ _ _ _ hc q => mul_int q hc.ok
theorem oA : OpR X (binaryOp .FloorDiv) (rI CDiv fun i j => .int (i / j)) := opI fun i j _ _ _ _ _ hc q => by
 have h1 : (0 : Int) < j := hc.1
 have h2 : j < 1073741824 := hc.2
 exact floordiv_int (by omega) (by rw [Int.fdiv_eq_ediv_of_nonneg i (by omega)]; exact q) (.inl (PyProof.noPylong_small (by omega)))
theorem h9 : OpR X (binaryOp .Mod) (rI (fun _ j => 0 < j) fun i j => .int (i % j)) := opI fun i j _ _ _ _ _ hc q => by
 have h1 : (0 : Int) < j := hc
 exact mod_int' (by omega) (by rw [Int.fmod_eq_emod_of_nonneg i (by omega)]; exact q)
theorem wl : OpR X (binaryOp .Pow) (rI CPow fun i j => .int (i ^ j.toNat)) := opI fun _ _ _ _ _ _ _ hc q => pow_int_small hc.1 hc.2.1 hc.2.2 q
theorem unI {f : Value -> Sem Value} {g : Int -> Int}
  (rule : ∀ (i : Int) (t : Tok) (s : Shared) (Q : Value -> Shared -> Prop) (E : Value -> Shared -> Prop), Q (.int (g i) s.toks) { s with toks := s.toks + 1 } -> wpAny (model X.prog X.w) X.A (f (.int i t)) Q E s) :
  UnR X f (rU fun i => .int (g i)) := by
 intro pins s σ H x v Q I rx h
 obtain ⟨i, rfl, q⟩ := h
 obtain ⟨t, rfl⟩ := rx
 exact rule i t s _ _ ⟨.int (g i), H, I.tok _, ⟨_, rfl⟩, q⟩
theorem jC : UnR X (unaryOp .USub) (rU fun i => .int (-i)) := unI fun _ _ _ _ _ q => neg_int q
end
def rO : V -> V -> Bool
 | .non, .non => true | .non, .int _ => true | .int _, .non => true | .non, .bl _ => true | .bl _, .non => true | .non, .str _ => true | .str _, .non => true
 | .int _, .int _ => true | .bl _, .bl _ => true | .str _, .str _ => true | .byt _, .byt _ => true
 | .int _, .str _ => true | .str _, .int _ => true | .bl _, .str _ => true | .str _, .bl _ => true
 | _, _ => false
def rEq : R2 := fun x y H Q => rO x y = true /\ Q (.bl (decide (x = y))) H
def rNe : R2 := fun x y H Q => rO x y = true /\ Q (.bl (!decide (x = y))) H
theorem oN {i j : Int} : decide (V.int i = V.int j) = (i == j) := by
 rw [Bool.eq_iff_iff]
 simp
theorem dec_bl {i j : Bool} : decide (V.bl i = V.bl j) = (i == j) := by
 rw [Bool.eq_iff_iff]
 simp
theorem oM {i j : Str} : decide (V.str i = V.str j) = (i == j) := by
 rw [Bool.eq_iff_iff]
 simp
theorem oO {i j : Array UInt8} : decide (V.byt i = V.byt j) = (i.toList == j.toList) := by
 rw [Bool.eq_iff_iff]
 cases i
 cases j
 simp
section
variable {X : Cx} {a b c : Expr} {ta tb tc : TE} {pos : Pos}
theorem fin_bl {pins : List (Addr × Obj)} {σ : St} {H : Hp} {s : Shared} {Q : VK} {k k' : Bool} (I : Inv X pins σ H s) (q : Q (.bl k) H) (e : k = k') : EP X pins σ Q (.bool k') s := by
 subst e
 exact ⟨.bl k, H, I, rfl, q⟩
theorem yd : OpR X (compareOp .Eq) rEq := by
 intro pins s σ H x y v u Q I rx ry h
 obtain ⟨hs, q⟩ := h
 cases x with
 | non =>
  cases rx
  cases y with
  | non => cases ry; exact PySem.EqNone.eq_none_none (fin_bl I q (by simp))
  | bl j => cases ry; exact PySem.EqNone.eq_none_bool (fin_bl I q (by simp))
  | int j => obtain ⟨t', rfl⟩ := ry; exact PySem.EqNone.eq_none_int (fin_bl I q (by simp))
  | str j => obtain ⟨t', rfl⟩ := ry; exact PySem.EqNone.eq_none_str (fin_bl I q (by simp))
  | _ => exact absurd (show false = true from hs) Bool.false_ne_true
 | bl i =>
  cases rx
  cases y with
  | non => cases ry; exact PySem.EqNone.eq_bool_none (fin_bl I q (by simp))
  | bl j => cases ry; exact eq_bool (fin_bl I q dec_bl)
  | str j => obtain ⟨t', rfl⟩ := ry; exact PySem.EqMixed.eq_bool_str (fin_bl I q (by simp))
  | _ => exact absurd (show false = true from hs) Bool.false_ne_true
 | int i =>
  obtain ⟨t, rfl⟩ := rx
  cases y with
  | non => cases ry; exact PySem.EqNone.eq_int_none (fin_bl I q (by simp))
  | int j => obtain ⟨t', rfl⟩ := ry; exact eq_int (fin_bl I q oN)
  | str j => obtain ⟨t', rfl⟩ := ry; exact PySem.EqMixed.eq_int_str (fin_bl I q (by simp))
  | _ => exact absurd (show false = true from hs) Bool.false_ne_true
 | str i =>
  obtain ⟨t, rfl⟩ := rx
  cases y with
  | non => cases ry; exact PySem.EqNone.eq_str_none (fin_bl I q (by simp))
  | bl j => cases ry; exact PySem.EqMixed.eq_str_bool (fin_bl I q (by simp))
  | int j => obtain ⟨t', rfl⟩ := ry; exact PySem.EqMixed.eq_str_int (fin_bl I q (by simp))
  | str j => obtain ⟨t', rfl⟩ := ry; exact eq_str (fin_bl I q oM)
  | _ => exact absurd (show false = true from hs) Bool.false_ne_true
 | byt i =>
  obtain ⟨t, rfl⟩ := rx
  cases y with
  | byt j => obtain ⟨t', rfl⟩ := ry; exact PySem.W.eq_bytes (fin_bl I q oO)
  | _ => exact absurd (show false = true from hs) Bool.false_ne_true
 | _ => cases y <;> exact absurd (show false = true from hs) Bool.false_ne_true
theorem yb : OpR X (compareOp .NotEq) rNe := by
 intro pins s σ H x y v u Q I rx ry h
 obtain ⟨hs, q⟩ := h
 cases x with
 | non =>
  cases rx
  cases y with
  | non => cases ry; exact PySem.EqNone.ne_none_none (fin_bl I q (by simp))
  | bl j => cases ry; exact PySem.EqNone.ne_none_bool (fin_bl I q (by simp))
  | int j => obtain ⟨t', rfl⟩ := ry; exact PySem.EqNone.ne_none_int (fin_bl I q (by simp))
  | str j => obtain ⟨t', rfl⟩ := ry; exact PySem.EqNone.ne_none_str (fin_bl I q (by simp))
  | _ => exact absurd (show false = true from hs) Bool.false_ne_true
 | bl i =>
  cases rx
  cases y with
  | non => cases ry; exact PySem.EqNone.ne_bool_none (fin_bl I q (by simp))
  | bl j => cases ry; exact ne_bool (fin_bl I q (congrArg not dec_bl))
  | str j => obtain ⟨t', rfl⟩ := ry; exact PySem.EqMixed.ne_bool_str (fin_bl I q (by simp))
  | _ => exact absurd (show false = true from hs) Bool.false_ne_true
 | int i =>
  obtain ⟨t, rfl⟩ := rx
  cases y with
  | non => cases ry; exact PySem.EqNone.ne_int_none (fin_bl I q (by simp))
  | int j => obtain ⟨t', rfl⟩ := ry; exact ne_int (fin_bl I q (congrArg not oN))
  | str j => obtain ⟨t', rfl⟩ := ry; exact PySem.EqMixed.ne_int_str (fin_bl I q (by simp))
  | _ => exact absurd (show false = true from hs) Bool.false_ne_true
 | str i =>
  obtain ⟨t, rfl⟩ := rx
  cases y with
  | non => cases ry; exact PySem.EqNone.ne_str_none (fin_bl I q (by simp))
  | bl j => cases ry; exact PySem.EqMixed.ne_str_bool (fin_bl I q (by simp))
  | int j => obtain ⟨t', rfl⟩ := ry; exact PySem.EqMixed.ne_str_int (fin_bl I q (by simp))
  | str j => obtain ⟨t', rfl⟩ := ry; exact ne_str (fin_bl I q (congrArg not oM))
  | _ => exact absurd (show false = true from hs) Bool.false_ne_true
 | byt i =>
  obtain ⟨t, rfl⟩ := rx
  cases y with
  | byt j => obtain ⟨t', rfl⟩ := ry; exact PySem.W.ne_bytes (fin_bl I q (congrArg not oO))
  | _ => exact absurd (show false = true from hs) Bool.false_ne_true
 | _ => cases y <;> exact absurd (show false = true from hs) Bool.false_ne_true
theorem tQ : OpR X (compareOp .Lt) (rI0 fun i j => .bl (decide (i < j))) := pw fun _ _ _ _ _ _ _ q => lt_int q
theorem mh : OpR X (compareOp .LtE) (rI0 fun i j => .bl (decide (i <= j))) := pw fun _ _ _ _ _ _ _ q => le_int q
theorem tR : OpR X (compareOp .Gt) (rI0 fun i j => .bl (decide (j < i))) := pw fun _ _ _ _ _ _ _ q => gt_int q
theorem yc : OpR X (compareOp .GtE) (rI0 fun i j => .bl (decide (j <= i))) := pw fun _ _ _ _ _ _ _ q => ge_int q
theorem qx : OpR X (compareOp .Is) (fun x y H Q => y = .non /\ Q (.bl (decide (x = .non))) H) := by
 intro pins s σ H x y v u Q I rx ry h
 obtain ⟨rfl, q⟩ := h
 cases ry
 refine is_none_gen (fin_bl I q ?_)
 cases x <;> first
  | (cases rx; rfl)
  | (obtain ⟨t, rfl⟩ := rx; rfl)
theorem OpR.or {f : Value -> Value -> Sem Value} {r r' : R2} (h : OpR X f r) (h' : OpR X f r') : OpR X f (fun x y H Q => r x y H Q \/ r' x y H Q) := by
 intro pins s σ H x y v u Q I rx ry q
 rcases q with q | q
 ·exact h pins s σ H x y v u Q I rx ry q
 ·exact h' pins s σ H x y v u Q I rx ry q
theorem j4 (b : Expr) {op : CmpOp} (h : op ≠ .In := by decide) (h2 : op ≠ .NotIn := by decide) : behindInMarks op b = false := by
 have e1 : (op == CmpOp.In) = false := by cases op <;> first | rfl | exact absurd rfl h
 have e2 : (op == CmpOp.NotIn) = false := by cases op <;> first | rfl | exact absurd rfl h2
 cases b <;> simp [behindInMarks, e1, e2]
theorem uK {op : CmpOp} {r : R2} (ho : OpR X (compareOp op) r) (ha : PE X a ta) (hb : PE X b tb) (hm : behindInMarks op b = false) : PE X (.Compare a [op] [b] pos) (tOp r ta tb) := by
 intro pins s σ H Q I h
 exact wpAny_Compare1 (pZ ha hb I h fun v u s2 x y H2 I2 rx ry q => ho pins s2 σ H2 x y v u Q I2 rx ry q) hm
def tw (t : TE) : TT := fun σ H Q => t σ H fun x H' => ∃ k, x = .bl k /\ Q k H'
theorem ou {op : CmpOp} {r : R2} (ho : OpR X (compareOp op) r) (ha : PE X a ta) (hb : PE X b tb) (hm : behindInMarks op b = false) : PT X (.Compare a [op] [b] pos) (tw (tOp r ta tb)) := by
 intro pins s σ H Q I h
 refine wpAny_isTrue_Compare1 (thn (ha pins s σ H _ I h) fun v s1 ⟨x, H1, I1, r1, q1⟩ => thn (hb pins s1 σ H1 _ I1 q1) fun u s2 ⟨y, H2, I2, r2, q2⟩ =>
  thn (ho pins s2 σ H2 x y v u _ I2 r1 r2 q2) fun c s3 ⟨z, H3, I3, r3, k, e, q3⟩ => ?_) hm
 subst e
 cases r3
 exact wpAny_truthy_bool ⟨H3, I3, q3⟩
def qf (r r' : R2) (ta tb tc : TE) : TE := fun σ H Q => ta σ H fun x H1 => tb σ H1 fun y H2 => r x y H2 fun z H3 => ∃ k, z = .bl k /\
 (if k = true then tc σ H3 fun w' H4 => r' y w' H4 Q else Q (.bl false) H3)
theorem rX {op op' : CmpOp} {r r' : R2} (ho : OpR X (compareOp op) r) (ho' : OpR X (compareOp op') r') (ha : PE X a ta) (hb : PE X b tb) (hc : PE X c tc)
  (hm : lastMarks [op, op'] [b, c] = false := by with_unfolding_all rfl) : PT X (.Compare a [op, op'] [b, c] pos) (tw (qf r r' ta tb tc)) := by
 intro pins s σ H Q I h
 refine isTrue_chain (thn (ha pins s σ H _ I h) fun v s1 ⟨x, H1, I1, r1, q1⟩ => test_link (thn (hb pins s1 σ H1 _ I1 q1) fun u s2 ⟨y, H2, I2, r2, q2⟩ =>
  thn (ho pins s2 σ H2 x y v u _ I2 r1 r2 q2) fun d s3 ⟨z, H3, I3, r3, k, e, q3⟩ => ?_)) hm
 subst e
 cases r3
 refine wpAny_truthy_bool ?_
 cases k with
 | false =>
  obtain ⟨k', e', q'⟩ := q3
  cases e'
  exact ite_ff ⟨H3, I3, q'⟩
 | true =>
  refine ite_tt (test_last (thn (hc pins s3 σ H3 _ I3 q3) fun w' s4 ⟨z', H4, I4, r4, q4⟩ => thn (ho' pins s4 σ H4 y z' u w' _ I4 r2 r4 q4) fun d' s5 ⟨z2, H5, I5, r5, k2, e2, q5⟩ => ?_))
  subst e2
  cases r5
  exact wpAny_truthy_bool ⟨H5, I5, q5⟩
def sZ (K : Frag) (x : V) (H : Hp) (k : Bool) : Prop :=
 match x with
 | .non => k = false
 | .bl b => k = b
 | .int i => k = (i != 0)
 | .str y => y.length <= sizeLine /\ k = ((y.length : Int) != 0)
 | .byt y => y.size <= sizeLine /\ k = ((y.size : Int) != 0)
 | .ref p => (∃ xs, SqL K H p xs /\ k = !xs.isEmpty) \/ (∃ xs, SqT K H p xs /\ k = !xs.isEmpty) \/ ∃ kvs, H p = some (.dK kvs) /\ k = !kvs.isEmpty
 | _ => False
theorem pK {κ : Type} {kvs : List (κ × V)} {vs : List (κ × Value)} (r : KV kvs vs) : (!vs.isEmpty) = !kvs.isEmpty := by
 cases r <;> rfl
theorem kg {xs : List V} {its : List Value} (r : am xs its) : (!its.toArray.isEmpty) = !xs.isEmpty := by
 cases r <;> simp
theorem ii : (sizeLine : Nat) < 2 ^ 63 := by rw [sizeLine_eq]; decide
theorem vy : TruR X (fun x H Q => ∃ k, sZ X.K x H k /\ Q k H) := by
 intro pins s σ H x v Q I rx h
 obtain ⟨k, e, q⟩ := h
 have hl := ii
 have hs : sizeLine = 16777216 := sizeLine_eq
 cases x with
 | non =>
  cases rx
  have e' : k = false := e
  subst e'
  exact truthy_none ⟨H, I, q⟩
 | bl b =>
  cases rx
  have e' : k = b := e
  subst e'
  exact wpAny_truthy_bool ⟨H, I, q⟩
 | int i =>
  obtain ⟨t, rfl⟩ := rx
  have e' : k = (i != 0) := e
  subst e'
  exact PySem.P.truthy_int ⟨H, I, q⟩
 | str y =>
  obtain ⟨t, rfl⟩ := rx
  obtain ⟨hy, e'⟩ : y.length <= sizeLine /\ k = ((y.length : Int) != 0) := e
  subst e'
  exact PySem.P.truthy_str (by omega) ⟨H, I.tok _, q⟩
 | byt y =>
  obtain ⟨t, rfl⟩ := rx
  obtain ⟨hy, e'⟩ : y.size <= sizeLine /\ k = ((y.size : Int) != 0) := e
  subst e'
  exact PySem.W.truthy_bytes (by omega) ⟨H, I.tok _, q⟩
 | ref p =>
  cases rx
  have e' : (∃ xs, SqL X.K H p xs /\ k = !xs.isEmpty) \/ (∃ xs, SqT X.K H p xs /\ k = !xs.isEmpty) \/ ∃ kvs, H p = some (.dK kvs) /\ k = !kvs.isEmpty := e
  rcases e' with ⟨xs, hx, e'⟩ | ⟨xs, hx, e'⟩ | ⟨kvs, hx, e'⟩
  ·subst e'
   obtain ⟨its, r, pl, hz⟩ := I.list hx
   have hlen := r.length
   exact wpAny_truthy_list pl.isList (by simp only [List.size_toArray]; omega) ⟨H, I.tok _, by rw [kg r]; exact q⟩
  ·subst e'
   obtain ⟨its, r, pl, hz⟩ := I.tuple hx
   have hlen := r.length
   exact truthy_tuple pl (by simp only [List.size_toArray]; omega) ⟨H, I.tok _, by rw [kg r]; exact q⟩
  ·subst e'
   obtain ⟨hz, hS, vs, r, m⟩ : kvs.length <= sizeLine /\ (p == sysModules) = false /\ ∃ vs, KV kvs vs /\ s.heap.DictOf (kS X.prog X.w) p vs := I.hok p _ hx
   have hlen : kvs.length = vs.length := Paired.length r
   exact wpAny_truthy_dict hS m (by omega) ⟨H, I.tok _, by rw [pK r]; exact q⟩
 | _ => exact (show False from e).elim
theorem rW (ha : PE X a ta) (he : ∀ whole, isTrue a X.env whole = (do let v ← whole; standAt a.pos; holding [v] (truthy v))) :
  PT X a (fun σ H Q => ta σ H fun x H' => ∃ k, sZ X.K x H' k /\ Q k H') := by
 intro pins s σ H Q I h
 exact isTrue_plain (thn (ha pins s σ H _ I h) fun v s1 ⟨x, H1, I1, r1, q1⟩ => vy pins s1 σ H1 x v Q I1 r1 q1) (he _)
theorem jW : OpR X (binaryOp .Add) (fun x y H Q => ∃ i j, x = .str i /\ y = .str j /\ i.length + j.length <= sizeLine /\ Q (.str (i ++ j)) H) := by
 intro pins s σ H x y v u Q I rx ry h
 obtain ⟨i, j, rfl, rfl, hz, q⟩ := h
 obtain ⟨t, rfl⟩ := rx
 obtain ⟨t', rfl⟩ := ry
 exact add_str (fun t' tk => ⟨.str (i ++ j), H, I.tok _, ⟨_, rfl⟩, q⟩) hz
theorem eW {x : V} {us : List Value} (r : am [x] us) : ∃ u, us = [u] /\ aD x u := by
 cases r with
 | cons r1 r2 => cases r2; exact ⟨_, rfl, r1⟩
theorem xR {x y : V} {us : List Value} (r : am [x, y] us) : ∃ u w', us = [u, w'] /\ aD x u /\ aD y w' := by
 cases r with
 | cons r1 r2 =>
  cases r2 with
  | cons r3 r4 => cases r4; exact ⟨_, _, rfl, r1, r3⟩
theorem sU : bt X (.builtin "abs") (fun xs H Q => ∃ i, xs = [.int i] /\ Q (.int (if i < 0 then -i else i)) H) := by
 intro pins s σ H xs us Q I r h
 obtain ⟨i, rfl, q⟩ := h
 obtain ⟨u, rfl, t, rfl⟩ := eW r
 exact call_abs_int fun u tk => ⟨.int (if i < 0 then -i else i), H, I.tok _, ⟨_, rfl⟩, q⟩
theorem rp (hc : X.calm = true) : bt X (.builtin "min") (fun xs H Q => ∃ i j, xs = [.int i, .int j] /\ Q (.int (if j < i then j else i)) H) := by
 intro pins s σ H xs us Q I r h
 obtain ⟨i, j, rfl, q⟩ := h
 obtain ⟨u, w', rfl, ⟨t, rfl⟩, ⟨t', rfl⟩⟩ := xR r
 refine min_two_ints (I.ok.hd hc) fun h' tk k => ⟨_, H, I.kept k, ?_, q⟩
 by_cases hj : j < i
 ·rw [if_pos hj, if_pos hj]; exact ⟨_, rfl⟩
 ·rw [if_neg hj, if_neg hj]; exact ⟨_, rfl⟩
theorem iq : bt X (.type "str") (fun xs H Q => ∃ i, xs = [.int i] /\ i.natAbs.log2 < 1920 /\ Q (.str (toString i)) H) := by
 intro pins s σ H xs us Q I r h
 obtain ⟨i, rfl, hz, q⟩ := h
 obtain ⟨u, rfl, t, rfl⟩ := eW r
 exact PySem.P.str_of_int hz ⟨.str _, H, I.tok _, ⟨_, rfl⟩, q⟩
end
structure ObjM (h : Heap) (x dx C : Addr) (mA : Str -> Option Value) : Prop where
 obj : h.get? x = some (instObj C dx)
 ns : h.Ns1 dx mA
 ne : dx ≠ x
theorem qG {h : Heap} {dx : Addr} {mA : Str -> Option Value} (n : h.Ns1 dx mA) : ∃ od, h.get? dx = some od /\ ∀ name, lookIn name od = some (mA name) := by
 obtain ⟨o, es, ep, ho, hd, hk, _, hm⟩ := n
 refine ⟨o, ho, fun name => ?_⟩
 have e := hm name
 unfold nsFind findBy at e
 rw [← Array.find?_toList] at e
 unfold lookIn
 rw [hd]
 dsimp only
 split
 ·rename_i y q
  rw [q] at e
  exact congrArg some e
 ·rename_i q
  rw [q] at e
  have a : es.toList.any (·.refKey) = false := by
   rw [List.any_eq_false]
   intro y hy
   obtain ⟨z, t, hkey⟩ := hk y (Array.mem_toList_iff.mp hy)
   simp [DictEntry.refKey, hkey]
  have a' : ¬ es.toList.any (·.refKey) = true := by rw [a]; exact Bool.false_ne_true
  rw [if_neg a']
  exact congrArg some e
theorem ObjM.look {h : Heap} {x dx C : Addr} {mA : Str -> Option Value} (I : ObjM h x dx C mA) : ∃ od, PySem.W.InstAt h x (instObj C dx) C (some od) /\ ∀ name, lookIn name od = some (mA name) :=
 let ⟨od, ho, hl⟩ := qG I.ns
 ⟨od, ⟨I.obj, rfl, rfl, ho⟩, hl⟩
section
variable {prog : Program} {w : World} {A : Around} {E : Value -> Shared -> Prop} {s : Shared} {K : Frag} {x dx C f : Addr} {mA : Str -> Option Value} {name : Str} {v : Value}
theorem u7 {expr : Bool} {Q : Value -> Shared -> Prop} (X : K.In s.heap) (I : ObjM s.heap x dx C mA) (hg : plainGet K C name = true) (hh : hasDictIn K C = true)
  (ha : findIn K (.ref C) name = some none) (hv : mA name = some v) (hv' : PySem.W.handedIn v = true) (h : Q v { s with toks := s.toks + 1 }) :
  wpAny (model prog w) A (getAttr (.ref x) name expr) Q E s := by
 obtain ⟨od, J, hl⟩ := I.look
 exact PySem.W.get_value X J (plainGet_of hg).1 (PySem.W.findObj_own hh ha rfl (by rw [hl, hv])) hv' h
theorem sL {pl : Sem Bool} {Q : Value × List Value -> Shared -> Prop} (X : K.In s.heap) (I : ObjM s.heap x dx C mA) (hg : plainGet K C name = true)
  (hf : findIn K (.ref C) name = some (some (.ref f))) (ht : isFn K (.ref f) = true) (hv : mA name = none) (h : Q (.ref f, [.ref x]) s) :
  wpAny (model prog w) A (getMethod (.ref x) name pl) Q E s := by
 obtain ⟨od, J, hl⟩ := I.look
 exact PySem.W.method_fn X J (plainGet_of hg).1 (plainGet_of hg).2 hf (beq_iff_eq.mp ht) (by show (lookIn name od).map (·.isSome) = some false; rw [hl, hv]; rfl) h
theorem uv {ns : List Str} {Q : Unit -> Shared -> Prop} (X : K.In s.heap) (I : ObjM s.heap x dx C mA)
  (hs : findIn K (.ref C) "__setattr__" = some (some (.builtin "object.__setattr__"))) (hp : PySem.W.plainOver K C = true) (ht : takerIn K C name = some none) (hh : hasDictIn K C = true)
  (hw : PySem.Within mA ns) (hsz : ns.length <= sizeLine)
  (h : ∀ h', ObjM h' x dx C (fun y => if y = name then some v else mA y) -> Heap.SameBut dx s.heap h' -> Q () { s with heap := h', toks := s.toks + 2 }) :
  wpAny (model prog w) A (setAttr (.ref x) name v) Q E s := by
 obtain ⟨od, J, hl⟩ := I.look
 refine PySem.W.set_plain X J hs (PySem.W.osa_open (s := { s with toks := s.toks + 1 }) (r := none) X J hp ht fun b => ?_)
 obtain ⟨cd, hc, hd'⟩ := PySem.W.any_some hh
 have hx : s.heap.get? x = some ⟨.ref C, some dx, .plain, #[]⟩ := I.obj
 refine wpAny_bind (wpAny_pure (wpAny_bind (wpAny_bind (wpAny_loadPart hx (wpAny_bind (PySem.W.Looks.here (s := { s with toks := s.toks + 1 }) (looks_clsIn X hc) ?_))))))
 rw [hd']
 refine wpAny_pure (a := some dx) (wpAny_bind (wpAny_pure (wpAny_bind ?_)))
 refine wpAny_nsSet1 (s := { s with toks := s.toks + 1 }) I.ns fun h' hn2 hs2 => ?_
 obtain ⟨oD, esD, epD, hoD, hdD, hcD⟩ := hn2.count (PySem.Within.cons name v hw)
 refine wpAny_bind (wpAny_lookBehind hoD (by rw [hdD]; exact pastItsLine_dict (Nat.le_trans hcD (by rw [List.length_cons]; omega))) ?_)
 exact wpAny_pure (h _ ⟨(hs2.2 _ (Ne.symm I.ne)).trans I.obj, hn2, I.ne⟩ hs2)
theorem ss {R : Result -> Shared -> Prop} {vs : List Value} {kw : List (Str × Value)} (X : K.In s.heap) (hm : PySem.W.makesIn K C = true)
  (hi : findIn K (.ref C) "__init__" = some (some (.ref f))) (hf : PySem.W.typeIn K (.ref f) = some (.type "function"))
  (h : codeAny (model prog w) (A.under (.builtin "type.__call__" ⟨.ref C :: vs, kw⟩)) (.call (.ref f) ⟨.ref (s.heap.objs.size + 1) :: vs, kw⟩) (PySem.W.InitBack (s.heap.objs.size + 1) R)
   { s with heap := (s.heap.push emptyDict).push (instObj C s.heap.objs.size) }) :
  codeAny (model prog w) A (.call (.ref C) ⟨vs, kw⟩) R s := by
 obtain ⟨hh, g, d, t, os⟩ := s
 exact PySem.W.make_core (PySem.W.makes_of X hm) (looks_findIn X hi) (fun self => PySem.W.bind_fn X self hf) (.inl rfl) h
end
def bS (f : Str) (v : V) : List (Str × V) -> List (Str × V)
 | [] => [(f, v)]
 | (g, x) :: r => if g = f then (g, v) :: r else (g, x) :: bS f v r
theorem i7 (f g : Str) (v : V) : ∀ fs : List (Str × V), (bS f v fs).lookup g = if g = f then some v else fs.lookup g
 | [] => by
  show List.lookup g [(f, v)] = _
  by_cases h : g = f
  ·have hb : (g == f) = true := beq_iff_eq.mpr h
   simp only [List.lookup, hb, if_pos h]
  ·have hb : (g == f) = false := beq_eq_false_iff_ne.mpr h
   simp only [List.lookup, hb, if_neg h]
 | (k, x) :: r => by
  have ih := i7 f g v r
  rw [show bS f v ((k, x) :: r) = (if k = f then (k, v) :: r else (k, x) :: bS f v r) from rfl]
  by_cases hk : k = f
  ·rw [if_pos hk]
   by_cases h : g = k
   ·have hb : (g == k) = true := beq_iff_eq.mpr h
    simp only [List.lookup, hb, if_pos (h.trans hk)]
   ·have hb : (g == k) = false := beq_eq_false_iff_ne.mpr h
    simp only [List.lookup, hb, if_neg (fun e : g = f => h (e.trans hk.symm))]
  ·rw [if_neg hk]
   by_cases h : g = k
   ·have hb : (g == k) = true := beq_iff_eq.mpr h
    simp only [List.lookup, hb, if_neg (fun e : g = f => hk (h.symm.trans e))]
   ·have hb : (g == k) = false := beq_eq_false_iff_ne.mpr h
    simp only [List.lookup, hb]
    exact ih
theorem ik (f : Str) (v : V) : ∀ fs : List (Str × V), f ∈ (bS f v fs).map (·.1) /\ ∀ g, g ∈ fs.map (·.1) -> g ∈ (bS f v fs).map (·.1)
 | [] => ⟨by simp [bS], fun g h => by simp at h⟩
 | (k, x) :: r => by
  obtain ⟨i1, i2⟩ := ik f v r
  rw [show bS f v ((k, x) :: r) = (if k = f then (k, v) :: r else (k, x) :: bS f v r) from rfl]
  by_cases hk : k = f
  ·rw [if_pos hk]
   subst hk
   exact ⟨by simp, fun g h => by simpa using h⟩
  ·rw [if_neg hk]
   refine ⟨?_, fun g h => ?_⟩
   ·rw [List.map_cons]
    exact List.mem_cons_of_mem _ i1
   ·rw [List.map_cons] at h ⊢
    rcases List.mem_cons.mp h with e | e
    ·exact List.mem_cons.mpr (.inl e)
    ·exact List.mem_cons_of_mem _ (i2 g e)
theorem i8 (f : Str) (v : V) : ∀ fs : List (Str × V), (bS f v fs).length <= fs.length + 1
 | [] => by simp [bS]
 | (k, x) :: r => by
  have ih := i8 f v r
  rw [show bS f v ((k, x) :: r) = (if k = f then (k, v) :: r else (k, x) :: bS f v r) from rfl]
  by_cases hk : k = f
  ·rw [if_pos hk, List.length_cons, List.length_cons]; omega
  ·rw [if_neg hk, List.length_cons, List.length_cons]; omega
theorem fR.some_of {v : V} {o : Option Value} (r : fR (some v) o) : ∃ u, o = some u /\ aD v u := by
 cases o with
 | none => exact (show False from r).elim
 | some u => exact ⟨u, rfl, r⟩
theorem fR.none_of {o : Option Value} (r : fR none o) : o = none := by
 cases o with
 | none => rfl
 | some u => exact (show False from r).elim
theorem qS {v : V} {u : Value} (r : aD v u) : PySem.W.handedIn u = true := by
 cases v with
 | non => cases (show u = Value.none from r); rfl
 | bl b => cases (show u = Value.bool b from r); rfl
 | int i => obtain ⟨t, e⟩ := (show ∃ t, u = Value.int i t from r); cases e; rfl
 | str x => obtain ⟨t, e⟩ := (show ∃ t, u = Value.str x t from r); cases e; rfl
 | byt b => obtain ⟨t, e⟩ := (show ∃ t, u = Value.bytes b t from r); cases e; rfl
 | flt b => obtain ⟨t, e⟩ := (show ∃ t, u = Value.float b t from r); cases e; rfl
 | ref a => cases (show u = Value.ref a from r); rfl
 | ty n => cases (show u = Value.type n from r); rfl
section
variable {P : Program} {w : World} {H H' : Hp} {h h' : Heap} {a C dx : Addr} {fs fs' : List (Str × V)}
theorem cm (hok : HOk P w H h) (e : H a = some (.ins C dx fs)) : ∃ mA, ObjM h a dx C mA /\ (∀ f, fR (fs.lookup f) (mA f)) /\ PySem.Within mA (fs.map (·.1)) /\ fs.length <= 1000 /\ H dx = some (.own a) := by
 obtain ⟨d, z, ne, ob, mA, n, r, q⟩ := (show aX P w H h a (.ins C dx fs) from hok a _ e)
 exact ⟨mA, ⟨ob, n, ne⟩, r, q, z, d⟩
end
structure Cls (K : Frag) (C : Addr) : Prop where
 pg : plainGet K C Str.empty = true
 hd : hasDictIn K C = true
 po : PySem.W.plainOver K C = true
 sa : findIn K (.ref C) "__setattr__" = some (some (.builtin "object.__setattr__"))
theorem Cls.get {K : Frag} {C : Addr} (c : Cls K C) (f : Str) : plainGet K C f = true := c.pg
def dG (K : Frag) (C : Addr) (f : Str) : Prop := findIn K (.ref C) f = some none
theorem dG.taker {K : Frag} {C : Addr} {f : Str} (n : dG K C f) : takerIn K C f = some none := by
 unfold takerIn
 rw [show findIn K (.ref C) f = some none from n]
 rfl
structure Meth (K : Frag) (C : Addr) (m : Str) (f : Addr) : Prop where
 at_ : findIn K (.ref C) m = some (some (.ref f))
 fn : isFn K (.ref f) = true
 kp : keepIn K (.ref f) = true
section
variable {X : Cx} {pins : List (Addr × Obj)} {σ : St} {H : Hp} {s : Shared} {a C dx : Addr} {fs : List (Str × V)} {f : Str} {v : V} {A : Around} {E : Value -> Shared -> Prop}
theorem pP {b : Bool} {Q : Value -> Shared -> Prop} (I : Inv X pins σ H s) (e : H a = some (.ins C dx fs)) (c : Cls X.K C) (n : dG X.K C f) (l : fs.lookup f = some v)
  (h : ∀ u s', Inv X pins σ H s' -> aD v u -> Q u s') : wpAny (model X.prog X.w) A (getAttr (.ref a) f b) Q E s := by
 obtain ⟨mA, O, r, _, _, _⟩ := cm I.hok e
 obtain ⟨u, hu, ru⟩ := fR.some_of (v := v) (o := mA f) (by rw [← l]; exact r f)
 exact u7 I.kIn O (c.get f) c.hd n hu (qS ru) (h u _ (I.tok _) ru)
theorem pO {m : Str} {g : Addr} {pl : Sem Bool} {Q : Value × List Value -> Shared -> Prop} (I : Inv X pins σ H s) (e : H a = some (.ins C dx fs)) (c : Cls X.K C) (k : Meth X.K C m g) (l : fs.lookup m = none)
  (h : Q (.ref g, [.ref a]) s) : wpAny (model X.prog X.w) A (getMethod (.ref a) m pl) Q E s := by
 obtain ⟨mA, O, r, _, _, _⟩ := cm I.hok e
 have hn : mA m = none := fR.none_of (by rw [← l]; exact r m)
 exact sL I.kIn O (c.get m) k.at_ k.fn hn h
theorem pd {y : V} {u : Value} {Q : Unit -> Shared -> Prop} (I : Inv X pins σ H s) (e : H a = some (.ins C dx fs)) (c : Cls X.K C) (n : dG X.K C f) (hl : fs.length < 1000) (ry : aD y u)
  (h : ∀ s', Inv X pins σ (upd H a (.ins C dx (bS f y fs))) s' -> Q () s') : wpAny (model X.prog X.w) A (setAttr (.ref a) f u) Q E s := by
 obtain ⟨mA, O, r, wi, _, ho⟩ := cm I.hok e
 have hz : (fs.map (·.1)).length <= sizeLine := by rw [List.length_map, sizeLine_eq]; omega
 refine uv I.kIn O c.sa c.po n.taker c.hd wi hz fun h' O' sb => h _ ?_
 have hd : ∃ o, h'.get? dx = some o := let ⟨o, _, _, e', _⟩ := O'.ns; ⟨o, e'⟩
 refine I.write (x := a) (e := dx) (by rw [e]; exact True.intro) (.inr ho) (fun b q hb z => (sb.2 b hb).trans z) hd ?_
 refine ⟨by rw [upd_ne O.ne]; exact ho, ?_, O.ne, O'.obj, _, O'.ns, fun g => ?_, fun g hg => ?_⟩
 ·have := i8 f y fs; omega
 ·show fR ((bS f y fs).lookup g) (if g = f then some u else mA g)
  rw [i7]
  by_cases q : g = f
  ·rw [if_pos q, if_pos q]; exact ry
  ·rw [if_neg q, if_neg q]; exact r g
 ·by_cases q : g = f
  ·rw [q]; exact (ik f y fs).1
  ·refine (ik f y fs).2 g (wi g fun z => hg ?_)
   show (if g = f then some u else mA g) = none
   rw [if_neg q]; exact z
theorem Inv.made (I : Inv X pins σ H s) : Inv X pins σ (upd (upd H s.heap.objs.size (.own (s.heap.objs.size + 1))) (s.heap.objs.size + 1) (.ins C s.heap.objs.size []))
  { s with heap := (s.heap.push emptyDict).push (instObj C s.heap.objs.size) } := by
 have e1 : (s.heap.push emptyDict).get? s.heap.objs.size = some emptyDict := Heap.get?_push_size s.heap rfl
 have e2 : ((s.heap.push emptyDict).push (instObj C s.heap.objs.size)).get? (s.heap.objs.size + 1) = some (instObj C s.heap.objs.size) := by
  have := Heap.get?_push_size (s.heap.push emptyDict) (o := instObj C s.heap.objs.size) rfl
  rwa [Heap.size_push] at this
 have e3 : (s.heap.push emptyDict).Ns s.heap.objs.size (fun _ => none) := ⟨emptyDict, #[], _, e1, rfl, (fun e he => absurd he (by simp)), fun _ => rfl⟩
 have I1 := I.laid (a := s.heap.objs.size) (o := .own (s.heap.objs.size + 1)) (h' := s.heap.push emptyDict) (t' := s.toks) (fun b u q => Heap.get?_push_of_some _ q) (Nat.le_refl _) ⟨_, e1⟩
 refine I1.laid (a := s.heap.objs.size + 1) (o := .ins C s.heap.objs.size []) (t' := s.toks) (fun b u q => Heap.get?_push_of_some _ q) (Nat.le_of_eq (Heap.size_push _ _)) ?_
 have ne : s.heap.objs.size ≠ s.heap.objs.size + 1 := Nat.ne_of_lt (Nat.lt_succ_self _)
 refine ⟨by rw [upd_ne ne, ai], Nat.zero_le _, ne, e2, fun _ => none, (Heap.Ns1.of_empty e3).at fun o q => Heap.get?_push_of_some _ q, fun _ => True.intro, fun y hy => absurd rfl hy⟩
theorem vf {prog : Program} {w : World} {env : Env} {e : Expr} {f : Str} {pos : Pos} {s : Shared} {Q : Value -> Shared -> Prop} (hb : attributeBase e f env (eval e env) = eval e env)
  (h : wpAny (model prog w) A (eval e env) (fun o s₁ => wpAny (model prog w) A (getAttr o f true) Q E s₁) E s) : wpAny (model prog w) A (eval (.Attribute e f pos) env) Q E s :=
 Attribute_any_ h (by rw [arm_eval_Attribute, hb])
end
def tFld (K : Frag) (ta : TE) (f : Str) : TE := fun σ H Q => ta σ H fun x H1 => ∃ a C dx fs v, x = .ref a /\ H1 a = some (.ins C dx fs) /\ Cls K C /\ dG K C f /\ fs.lookup f = some v /\ Q v H1
def vR (K : Frag) (ta tv : TE) (f : Str) : TS := fun D σ H => tv σ H fun y H1 => ta σ H1 fun x H2 => ∃ a C dx fs, x = .ref a /\ H2 a = some (.ins C dx fs) /\ Cls K C /\ dG K C f /\ fs.length < 1000 /\
 D.nx σ (upd H2 a (.ins C dx (bS f y fs)))
section
variable {X : Cx} {o e value : Expr} {f : Str} {pos pos' tpos : Pos} {ta tv : TE}
theorem we (he : PE X e ta) (hb : attributeBase e f X.env (eval e X.env) = eval e X.env) : PE X (.Attribute e f pos) (tFld X.K ta f) := by
 intro pins s σ H Q I h
 refine vf hb (thn (he pins s σ H _ I h) fun u s1 ⟨x, H1, I1, rx, a, C, dx, fs, v, ex, ea, c, n, l, q⟩ => ?_)
 subst ex
 obtain rfl : u = Value.ref a := rx
 exact pP I1 ea c n l fun u' s2 I2 ru => ⟨v, H1, I2, ru, q⟩
theorem vY (ha : PE X o ta) (hv : PE X value tv) (hs : swapsWith value (some (.Attribute o f pos')) pos.line X.env = pure false) : PS X (.Assign [.Attribute o f pos'] value pos) (vR X.K ta tv f) := by
 intro pins s σ H D I h
 refine plainObj_wpAny_Assign_Attribute (thn (hv pins s σ H _ I h) fun u s1 ⟨y, H1, I1, ry, q⟩ => thn (ha pins s1 σ H1 _ I1 q) fun ov s2 ⟨x, H2, I2, rx, a, C, dx, fs, ex, ea, c, n, l, q2⟩ => ?_) hs
 subst ex
 obtain rfl : ov = Value.ref a := rx
 exact pd I2 ea c n l ry fun s3 I3 => ⟨σ, _, I3, q2⟩
end
section
variable {X : Cx} {pins : List (Addr × Obj)} {σ : St} {H : Hp} {s : Shared} {A : Around} {E : Value -> Shared -> Prop} {Q : Value -> Shared -> Prop} {c : Value} {b : Bool}
inductive TyOf (K : Frag) (H : Hp) : V -> Value -> Prop where
 | non : TyOf K H .non (.type "NoneType")
 | bl (x : Bool) : TyOf K H (.bl x) (.type "bool")
 | int (i : Int) : TyOf K H (.int i) (.type "int")
 | str (x : Str) : TyOf K H (.str x) (.type "str")
 | flt (x : UInt64) : TyOf K H (.flt x) (.type "float")
 | lst {a : Addr} {xs : List V} (e : H a = some (.lst xs)) : TyOf K H (.ref a) (.type "list")
 | frz {a : Addr} {o : Obj} {xs : List V} (e : H a = some (.frz o (.lst xs))) : TyOf K H (.ref a) (.type "list")
 | tup {a : Addr} {xs : List V} (e : H a = some (.tup xs)) : TyOf K H (.ref a) (.type "tuple")
 | dK {a : Addr} {kvs : List (Key × V)} (e : H a = some (.dK kvs)) : TyOf K H (.ref a) (.type "dict")
 | dT {a : Addr} {kvs : List (List Key × V)} (e : H a = some (.dT kvs)) : TyOf K H (.ref a) (.type "dict")
 | ins {a C dx : Addr} {fs : List (Str × V)} (e : H a = some (.ins C dx fs)) (cl : Cls K C) (ha : findIn K (.ref C) "__class__" = some (some (.builtin "object.__class__")))
   (hn : specialIn K (.builtin "object.__class__") "__get__" = some (some (.builtin "getset_descriptor.__get__"))) (htk : PySem.W.takesIn K (.builtin "object.__class__") = some true)
   (hm : mroIn K C (.type "object") = some true) : TyOf K H (.ref a) (.ref C)
theorem lK {x : V} {u t : Value} (I : Inv X pins σ H s) (rx : aD x u) (ty : TyOf X.K H x t) (e : kitOne X.K t c = some b) (h : ∀ tk, Q (.bool b) { s with toks := tk }) :
  wpAny (model X.prog X.w) A (call (.builtin "isinstance") [u, c]) Q E s := by
 cases ty with
 | non => cases (show u = Value.none from rx); exact kia_one PySem.W.kitx_none I.kIn True.intro e (fun z => nomatch z) h
 | bl y => cases (show u = Value.bool y from rx); exact kia_one PySem.W.kitx_bool I.kIn True.intro e (fun z => nomatch z) h
 | int i => obtain ⟨t, q⟩ := (show ∃ t, u = Value.int i t from rx); cases q; exact kia_one PySem.W.kitx_int I.kIn True.intro e (fun z => nomatch z) h
 | str y => obtain ⟨t, q⟩ := (show ∃ t, u = Value.str y t from rx); cases q; exact kia_one PySem.W.kitx_str I.kIn True.intro e (fun z => nomatch z) h
 | flt y => obtain ⟨t, q⟩ := (show ∃ t, u = Value.float y t from rx); cases q; exact kia_one PySem.W.kitx_float I.kIn True.intro e (fun z => nomatch z) h
 | @lst a xs ea =>
  cases (show u = Value.ref a from rx)
  obtain ⟨_, _, n, _, h1⟩ := (show aX X.prog X.w H s.heap a (.lst xs) from I.hok a _ ea)
  exact kia_one kitx_list I.kIn ⟨_, h1, rfl⟩ e (fun z => nomatch z) h
 | @frz a ob xs ea =>
  cases (show u = Value.ref a from rx)
  obtain ⟨_, _, _, n, _, h1⟩ := (show aX X.prog X.w H s.heap a (.frz ob (.lst xs)) from I.hok a _ ea)
  exact kia_one kitx_list I.kIn ⟨_, h1, rfl⟩ e (fun z => nomatch z) h
 | @tup a xs ea =>
  cases (show u = Value.ref a from rx)
  obtain ⟨_, _, _, p⟩ := (show aX X.prog X.w H s.heap a (.tup xs) from I.hok a _ ea)
  obtain ⟨o, h1, h2, _⟩ := p
  exact kia_one kitx_tuple I.kIn ⟨o, h1, h2⟩ e (fun z => nomatch z) h
 | @dK a kvs ea =>
  cases (show u = Value.ref a from rx)
  obtain ⟨_, _, vs, _, p⟩ := (show aX X.prog X.w H s.heap a (.dK kvs) from I.hok a _ ea)
  obtain ⟨o, es, ep, h1, h2, _⟩ := p
  exact kia_one kitx_dict I.kIn ⟨o, h1, h2.1⟩ e (fun z => nomatch z) h
 | @dT a kvs ea =>
  cases (show u = Value.ref a from rx)
  obtain ⟨_, _, xs, _, o, es, ep, h1, h2, _⟩ := (show aX X.prog X.w H s.heap a (.dT kvs) from I.hok a _ ea)
  exact kia_one kitx_dict I.kIn ⟨o, h1, h2.1⟩ e (fun z => nomatch z) h
 | @ins a C dx fs ea cl ha hn htk hm =>
  cases (show u = Value.ref a from rx)
  obtain ⟨mA, O, _⟩ := cm I.hok ea
  obtain ⟨od, J, _⟩ := O.look
  exact kia_one (PySem.W.kitx_own (cl.get _) cl.hd ha hn htk hm) I.kIn J e (fun z => nomatch z) h
end
structure Room (k : Nat) (A : Around) : Prop where
 hd : A.handled = none
 dp : A.depth + 3 * k + 5 < recursionLimit
 un : A.units + 16 * k + 200 < cLine
 gd : A.guards = some []
theorem Room.mono {j k : Nat} {A : Around} (r : Room k A) (h : j <= k) : Room j A := ⟨r.hd, by have := r.dp; omega, by have := r.un; omega, r.gd⟩
theorem Room.deeper {k : Nat} {A : Around} (r : Room (k + 1) A) (env : Env) : Room k (A.deeper env) :=
 ⟨r.hd, by have := r.dp; show A.depth + 1 + 3 * k + 5 < _; omega, by have := r.un; show A.units + 3 + 16 * k + 200 < _; omega, r.gd⟩
theorem Room.in1 {k : Nat} {A : Around} (r : Room (k + 1) A) : Room k A.in1 :=
 ⟨r.hd, by have := r.dp; show A.depth + 3 * k + 5 < _; omega, by have := r.un; show A.units + 1 + 16 * k + 200 < _; omega, r.gd⟩
theorem pD {A : Around} {C : Addr} {us : List Value} {kw : List (Str × Value)} : (A.under (.builtin "type.__call__" ⟨.ref C :: us, kw⟩)).depth = A.depth + 1 := by
 first | rfl | simp [Around.under, Code.weight, Code.isCreation, Code.isGuard, Code.isCaller, Code.frames, Code.isFrame, guardIds]
theorem pC {A : Around} {C : Addr} {us : List Value} {kw : List (Str × Value)} : (A.under (.builtin "type.__call__" ⟨.ref C :: us, kw⟩)).units = A.units + 1 := by
 first | rfl | simp [Around.under, Code.cUnits, Code.frames, Code.isFrame]
theorem Room.make {k : Nat} {A : Around} (r : Room (k + 1) A) (C : Addr) (us : List Value) (kw : List (Str × Value)) : Room k (A.under (.builtin "type.__call__" ⟨.ref C :: us, kw⟩)) :=
 ⟨r.hd, by have := r.dp; rw [pD]; omega, by have := r.un; rw [pC]; omega, by first | exact r.gd | simp [Around.under, Code.guards, Code.isGuard, guardIds, pushGuards, r.gd]⟩
theorem Room.depth {k : Nat} {A : Around} (r : Room k A) : A.depth < recursionLimit := by have := r.dp; omega
theorem Room.units {k : Nat} {A : Around} (r : Room k A) : A.units + 64 < cLine := by have := r.un; omega
def o9 : TA := fun _ H Q => Q [] H
def tB (ta : TE) (tr : TA) : TA := fun σ H Q => ta σ H fun x H1 => tr σ H1 fun xs H2 => Q (x :: xs) H2
section
variable {X : Cx} {e : Expr} {es : List Expr} {te : TE} {t : TA} {pos : Pos}
theorem bT : PA X [] o9 := fun _ _ _ _ H Q I h => Calls.spliced_nil ⟨[], H, I, .nil, h⟩
theorem ba (ha : PE X e te) (hr : PA X es t) (hs : starEach (e :: es) X.env = (false, eval e X.env) :: starEach es X.env := by rfl) : PA X (e :: es) (tB te t) := by
 intro pos pins s σ H Q I h
 rw [hs]
 show wpAny _ _ (spliced ((false, eval e X.env) :: backTo pos (starEach es X.env))) _ _ s
 refine Calls.spliced_cons (thn (ha pins s σ H _ I h) fun u s1 ⟨x, H1, I1, r1, q1⟩ => ?_)
 exact thn (hr pos pins s1 σ H1 _ I1 q1) fun us s2 ⟨xs, H2, I2, r2, q2⟩ => ⟨x :: xs, H2, I2, .cons r1 r2, q2⟩
def tTup (t : TA) : TE := fun σ H Q => t σ H fun xs H1 => xs.length <= sizeLine /\ ∀ p, H1 p = none -> Q (.ref p) (upd H1 p (.tup xs))
def rL (t : TA) : TE := fun σ H Q => t σ H fun xs H1 => xs.length <= sizeLine /\ ∀ p, H1 p = none -> Q (.ref p) (upd H1 p (.lst xs))
theorem v9 {x1} (h : PA X es t) : PE X (.Tuple es x1 pos) (tTup t) := by
 intro pins s σ H Q I hq
 refine wpAny_Tuple_spliced (thn (h pos pins s σ H _ I hq) fun us s1 ⟨xs, H1, I1, r, z, q⟩ => ⟨by rw [← r.length]; exact z, ?_⟩)
 have hf : H1 s1.heap.objs.size = none := I1.hok.fresh (Nat.le_refl _)
 refine ⟨.ref s1.heap.objs.size, upd H1 s1.heap.objs.size (.tup xs), I1.laid (t' := s1.toks) (fun b u e => Heap.get?_push_of_some _ e) (Nat.le_refl _) ?_, rfl, q _ hf⟩
 exact ⟨z, us, r, ⟨_, Heap.get?_push_size _ rfl, rfl, _, rfl⟩⟩
theorem f9 (h : PA X es t) : PE X (.List es pos) (rL t) := by
 intro pins s σ H Q I hq
 refine wpAny_List_spliced (thn (h pos pins s σ H _ I hq) fun us s1 ⟨xs, H1, I1, r, z, q⟩ => ⟨by rw [← r.length]; exact z, ?_⟩)
 have hf : H1 s1.heap.objs.size = none := I1.hok.fresh (Nat.le_refl _)
 refine ⟨.ref s1.heap.objs.size, upd H1 s1.heap.objs.size (.lst xs), I1.laid (t' := s1.toks) (fun b u e => Heap.get?_push_of_some _ e) (Nat.le_refl _) ?_, rfl, q _ hf⟩
 exact ⟨z, us, 0, r, Heap.get?_push_size _ rfl⟩
end
abbrev Sp := List V -> Hp -> VK -> XK -> Prop
abbrev CXT := List Env -> Hp -> Shared -> XK -> Value -> Shared -> Prop
structure Env0 (P : Program) (w : World) (K : Frag) (mg : Str -> Option Value) (base : Heap) (A : Around) (outer : List Env) (s : Shared) (H : Hp) : Prop where
 frames : A.frames = some outer
 mod : Mod K mg base
 bs : ∀ b o, base.get? b = some o -> s.heap.get? b = some o /\ H b = none
 bsz : base.objs.size <= s.heap.objs.size
 funs : s.heap.FunFrames base outer
 frf : ∀ b ∈ frs outer, H b = none
 hok : HOk P w H s.heap
 bare : AllBare s.gens
def CE (outer : List Env) (P : Program) (w : World) (H : Hp) (s : Shared) (Q : VK) (u : Value) (s' : Shared) : Prop :=
 ∃ v H', s'.os = s.os /\ AllBare s'.gens /\ Un (frs outer) [] H H' s.heap s'.heap /\ HOk P w H' s'.heap /\ aD v u /\ Q v H'
def CR (CX : CXT) (outer : List Env) (P : Program) (w : World) (H : Hp) (s : Shared) (Q : VK) (E : XK) (r : Result) (s' : Shared) : Prop :=
 match r with
 | .ok (.ret u) => CE outer P w H s Q u s'
 | .ok _ => False
 | .error e => CX outer H s E e s'
structure FnOk (P : Program) (w : World) (K : Frag) (mg : Str -> Option Value) (base : Heap) (CX : CXT) (k : Nat) (f : Addr) (fd : FuncData) (ps : List Str) (sp : Sp) : Prop where
 len : ∀ vs H Q E, sp vs H Q E -> vs.length = ps.length
 run : ∀ (A : Around) (outer : List Env) (s : Shared) (H : Hp) (args : Args) (us : List Value) (vs : List V) (Q : VK) (E : XK), Room k A -> Env0 P w K mg base A outer s H -> BindsTo s fd args (ps.zip us) -> am vs us -> sp vs H Q E ->
  codeAny (model P w) A (.call (.ref f) args) (CR CX outer P w H s Q E) s
theorem FnOk.mono {P : Program} {w : World} {K : Frag} {mg : Str -> Option Value} {base : Heap} {CX : CXT} {j k : Nat} {f : Addr} {fd : FuncData} {ps : List Str} {sp : Sp} (F : FnOk P w K mg base CX j f fd ps sp) (h : j <= k) :
  FnOk P w K mg base CX k f fd ps sp := ⟨F.len, fun A outer s H args us vs Q E hr => F.run A outer s H args us vs Q E (hr.mono h)⟩
theorem Env0.make {P : Program} {w : World} {K : Frag} {mg : Str -> Option Value} {base : Heap} {A : Around} {outer : List Env} {s : Shared} {H : Hp} (e : Env0 P w K mg base A outer s H) (C : Addr) (us : List Value) (kw : List (Str × Value)) :
  Env0 P w K mg base (A.under (.builtin "type.__call__" ⟨.ref C :: us, kw⟩)) outer s H := ⟨by first | exact e.frames | (simpa [Around.under, Code.envs, Code.isFrame, pushEnvs] using e.frames), e.mod, e.bs, e.bsz, e.funs, e.frf, e.hok, e.bare⟩
theorem Env0.in1 {P : Program} {w : World} {K : Frag} {mg : Str -> Option Value} {base : Heap} {A : Around} {outer : List Env} {s : Shared} {H : Hp} (e : Env0 P w K mg base A outer s H) :
  Env0 P w K mg base A.in1 outer s H := ⟨e.frames, e.mod, e.bs, e.bsz, e.funs, e.frf, e.hok, e.bare⟩
section
variable {X : Cx} {pins : List (Addr × Obj)} {σ : St} {H : Hp} {s s' : Shared}
theorem Inv.env0 (I : Inv X pins σ H s) : Env0 X.prog X.w X.K X.mg X.base X.A X.stack s H :=
 ⟨I.ok.frames, I.ok.mod, I.bs, Nat.le_trans I.ok.bsz I.sz, I.stack, I.stkFree, I.hok, I.bare⟩
theorem Inv.after {Q : VK} {u : Value} (I : Inv X pins σ H s) (h : CE X.stack X.prog X.w H s Q u s') : EP X pins σ Q u s' := by
 obtain ⟨v, H', os, bare, un, hok, r, q⟩ := h
 obtain ⟨hh, g, d, t, os'⟩ := s'
 obtain rfl : os' = s.os := os
 exact ⟨v, H', I.call (h' := hh) (g' := g) (d' := d) (t' := t) (ch := []) un hok bare (fun b z => absurd z (by simp)), r, q⟩
end
def tE (sp : Sp) (dvs : List V) (E : St -> XK) (t : TA) : TE := fun σ H Q => t σ H fun vs H1 => sp (vs ++ dvs) H1 Q (E σ)
def tz (C : Addr) (m : Str) (sp : Sp) (dvs : List V) (E : St -> XK) (ta : TE) (t : TA) : TE := fun σ H Q => ta σ H fun x H1 => ∃ a dx fs, x = .ref a /\ H1 a = some (.ins C dx fs) /\ fs.lookup m = none /\
 t σ H1 fun vs H2 => sp (x :: (vs ++ dvs)) H2 Q (E σ)
def xX (C : Addr) (sp : Sp) (dvs : List V) (E : St -> XK) (t : TA) : TE := fun σ H Q => t σ H fun vs H1 => ∀ x dx, H1 x = none -> H1 dx = none -> dx ≠ x ->
 sp (.ref x :: (vs ++ dvs)) (upd (upd H1 dx (.own x)) x (.ins C dx [])) (fun v H2 => v = .non /\ Q (.ref x) H2) (E σ)
def ay (K : Frag) (fd : FuncData) (ps : List Str) (ds : List Value) : Prop :=
 ∀ (s : Shared) (us : List Value), K.In s.heap -> (us ++ ds).length = ps.length -> BindsTo s fd ⟨us, []⟩ (ps.zip (us ++ ds))
theorem ay.all {K : Frag} {fd : FuncData} {ps : List Str} (h : ∀ us : List Value, us.length = ps.length -> bindArgs fd ⟨us, []⟩ = pure (ps.zip us)) : ay K fd ps [] := fun s us _ hl => by
 rw [List.append_nil] at hl ⊢
 exact .of_eq (h us hl)
def aP (CX : CXT) (X : Cx) (E : St -> XK) : Prop := ∀ (pins : List (Addr × Obj)) (σ : St) (H : Hp) (s : Shared) (e : Value) (s' : Shared), Inv X pins σ H s -> CX X.stack H s (E σ) e s' -> X.xe e s'
section
variable {X : Cx} {CX : CXT} {k : Nat} {f C : Addr} {fd : FuncData} {ps : List Str} {sp : Sp} {dvs : List V} {ds : List Value} {E : St -> XK} {x m : Str} {p pos apos : Pos} {e o : Expr} {es : List Expr} {ta : TE} {t : TA}
theorem jO {pins : List (Addr × Obj)} {σ : St} {H : Hp} {s : Shared} {Q : VK} {us : List Value} {vs : List V} (F : FnOk X.prog X.w X.K X.mg X.base CX k f fd ps sp) (hr : Room k X.A) (hb : ay X.K fd ps ds) (hd : am dvs ds) (hx : aP CX X E)
  (I : Inv X pins σ H s) (r : am vs us) (h : sp (vs ++ dvs) H Q (E σ)) : wpAny (model X.prog X.w) X.A (call (.ref f) us) (EP X pins σ Q) X.xe s := by
 have r2 : am (vs ++ dvs) (us ++ ds) := r.append hd
 have hl : (us ++ ds).length = ps.length := by rw [← r2.length]; exact F.len _ _ _ _ h
 refine wpAny_call (codeAny_mono (F.run X.A X.stack s H ⟨us, []⟩ (us ++ ds) (vs ++ dvs) Q (E σ) hr I.env0 (hb s us I.kIn hl) r2 h) fun r s' hq => ?_)
 cases r with
 | error e => exact hx pins σ H s e s' I hq
 | ok fl =>
  cases fl with
  | ret u => exact I.after hq
  | next => exact False.elim hq
  | brk => exact False.elim hq
  | cont => exact False.elim hq
theorem kP (F : FnOk X.prog X.w X.K X.mg X.base CX k f fd ps sp) (hr : Room k X.A) (hg : Gl X x) (hm : X.mg x = some (.ref f)) (hk : keepIn X.K (.ref f) = true) (hb : ay X.K fd ps ds) (hd : am dvs ds) (hx : aP CX X E)
  (ha : PA X (e :: es) t) (hdb : (x == ("__debug__" : Str)) = false := by decide) (he : starEach (e :: es) X.env = (false, eval e X.env) :: starEach es X.env := by rfl) (hpl : (backTo pos (starEach es X.env)).any (·.1) = false := by rfl) :
  PE X (.Call (.Name x p) (e :: es) [] pos) (tE sp dvs E t) := by
 intro pins s σ H Q I h
 refine wpAny_Call_Name_kw (gf I hg hm ?_ hdb)
 refine callWith_K (h₀ := X.base) I.ok.mod.kin hk (thn (ha pos pins s σ H _ I h) fun us s1 ⟨vs, H1, I1, r, q⟩ => ⟨I1.kIn, ?_⟩) he hpl
 exact jO F hr hb hd hx I1 r q
theorem jj {pl : Sem Bool} (he : PE X o ta) (c : Cls X.K C) (hm : Meth X.K C m f) (F : FnOk X.prog X.w X.K X.mg X.base CX k f fd ps sp) (hr : Room k X.A) (hb : ay X.K fd ps ds) (hd : am dvs ds) (hx : aP CX X E)
  (ht : eval (.Call (.Attribute o m apos) [] [] pos) X.env = (do
   let ov ← eval o X.env
   standAt apos.atName
   let (f, first) ← holding [ov] (getMethod ov m pl)
   callWith pos f first (backTo pos (starEach [] X.env)) (backToKw pos (keywordEach [] X.env))) := by rfl) :
  PE X (.Call (.Attribute o m apos) [] [] pos) (tz C m sp dvs E ta o9) := by
 intro pins s σ H Q I h
 refine methodCall_KW (pl := pl) (thn (he pins s σ H _ I h) fun u s1 ⟨x, H1, I1, rx, a, dx, fs, ex, ea, l, q⟩ => ?_) ht
 subst ex
 obtain rfl : u = Value.ref a := rx
 refine pO I1 ea c hm l ?_
 exact PySem.W.callWith_K0 (first := [.ref a]) I1.kIn hm.kp (jO (us := [.ref a]) (vs := [.ref a]) F hr hb hd hx I1 (.cons rfl .nil) q)
structure Mk (K : Frag) (C f : Addr) : Prop where
 makes : PySem.W.makesIn K C = true
 init : findIn K (.ref C) "__init__" = some (some (.ref f))
 fn : isFn K (.ref f) = true
 kp : keepIn K (.ref C) = true
theorem rQ {pins : List (Addr × Obj)} {σ : St} {H : Hp} {s : Shared} {Q : VK} {us : List Value} {vs : List V} (M : Mk X.K C f) (F : FnOk X.prog X.w X.K X.mg X.base CX k f fd ps sp) (hr : Room (k + 1) X.A) (hb : ay X.K fd ps ds) (hd : am dvs ds)
  (hx : aP CX X E) (I : Inv X pins σ H s) (r : am vs us)
  (h : ∀ x dx, H x = none -> H dx = none -> dx ≠ x -> sp (.ref x :: (vs ++ dvs)) (upd (upd H dx (.own x)) x (.ins C dx [])) (fun v H2 => v = .non /\ Q (.ref x) H2) (E σ)) :
  wpAny (model X.prog X.w) X.A (call (.ref C) us) (EP X pins σ Q) X.xe s := by
 have hq := h (s.heap.objs.size + 1) s.heap.objs.size (I.hok.fresh (Nat.le_succ _)) (I.hok.fresh (Nat.le_refl _)) (Nat.ne_of_lt (Nat.lt_succ_self _))
 have I2 := Inv.made (C := C) I
 have r2 : am (V.ref (s.heap.objs.size + 1) :: (vs ++ dvs)) (Value.ref (s.heap.objs.size + 1) :: (us ++ ds)) := .cons rfl (r.append hd)
 have hl : (Value.ref (s.heap.objs.size + 1) :: us ++ ds).length = ps.length := by
  have e := r2.length
  rw [F.len _ _ _ _ hq] at e
  exact e.symm
 refine wpAny_call (ss (f := f) I.kIn M.makes M.init (beq_iff_eq.mp M.fn) (codeAny_mono (F.run _ X.stack _ _ ⟨Value.ref (s.heap.objs.size + 1) :: us, []⟩ (Value.ref (s.heap.objs.size + 1) :: (us ++ ds)) _ _ (E σ) (hr.make C us [])
  (I2.env0.make C us []) (hb _ (Value.ref (s.heap.objs.size + 1) :: us) I2.kIn hl) r2 hq) fun r s' hq' => ?_))
 cases r with
 | error e => exact hx pins σ _ _ e s' I2 hq'
 | ok fl =>
  cases fl with
  | ret u =>
   obtain ⟨v, H', I3, rv, ev, q3⟩ := I2.after hq'
   subst ev
   exact ⟨rv, ⟨V.ref (s.heap.objs.size + 1), H', I3, rfl, q3⟩⟩
  | next => exact False.elim hq'
  | brk => exact False.elim hq'
  | cont => exact False.elim hq'
theorem uI (M : Mk X.K C f) (F : FnOk X.prog X.w X.K X.mg X.base CX k f fd ps sp) (hr : Room (k + 1) X.A) (hg : Gl X x) (hm : X.mg x = some (.ref C)) (hb : ay X.K fd ps ds) (hd : am dvs ds) (hx : aP CX X E)
  (ha : PA X (e :: es) t) (hdb : (x == ("__debug__" : Str)) = false := by decide) (he : starEach (e :: es) X.env = (false, eval e X.env) :: starEach es X.env := by rfl) (hpl : (backTo pos (starEach es X.env)).any (·.1) = false := by rfl) :
  PE X (.Call (.Name x p) (e :: es) [] pos) (xX C sp dvs E t) := by
 intro pins s σ H Q I h
 refine wpAny_Call_Name_kw (gf I hg hm ?_ hdb)
 refine callWith_K (h₀ := X.base) I.ok.mod.kin M.kp (thn (ha pos pins s σ H _ I h) fun us s1 ⟨vs, H1, I1, r, q⟩ => ⟨I1.kIn, ?_⟩) he hpl
 exact rQ M F hr hb hd hx I1 r q
end
section
variable {X : Cx} {CX : CXT} {k : Nat} {f C : Addr} {fd : FuncData} {ps ks : List Str} {sp : Sp} {E : St -> XK} {x m : Str} {p pos apos kpos : Pos} {e o : Expr} {es : List Expr} {kws : List Keyword} {te ta : TE} {t tk : TA} {nm : Option Str}
variable {g : List Value -> List Value -> List Value} {gV : List V -> List V -> List V}
end
structure FnScope (N P : List Str) (sc : Scope) : Prop where
 kind : sc.kind = .function
 co : sc.isCoroutine = false
 gen : sc.isGenerator = false
 nd : N.Nodup
 pre : N.take P.length = P
 par : ∀ x ∈ P, sc.names.lookup x = some .local \/ sc.names.lookup x = some .cell
 nofree : ∀ y ∈ sc.names, y.2 ≠ .free
theorem lV {kindOf : Str -> Option NameKind} {x : Str} : ∀ {binds : List (Str × Value)} {m : Str -> Option Value}, (∀ v, (x, v) ∉ binds) -> bindL kindOf binds m x = m x
 | [], _, _ => rfl
 | (n, v) :: r, m, h => by
  unfold bindL
  rw [lV fun w hw => h w (List.mem_cons_of_mem _ hw)]
  split
  ·have : x ≠ n := by rintro rfl; exact h v List.mem_cons_self
   simp [this]
  ·rfl
theorem lX {kindOf : Str -> Option NameKind} {x : Str} : ∀ {binds : List (Str × Value)} {m : Str -> Option Value}, (∀ v, (x, v) ∉ binds) -> bindC kindOf binds m x = m x
 | [], _, _ => rfl
 | (n, v) :: r, m, h => by
  unfold bindC
  rw [lX fun w hw => h w (List.mem_cons_of_mem _ hw)]
  split
  ·rfl
  ·have : x ≠ n := by rintro rfl; exact h v List.mem_cons_self
   simp [this]
theorem lW {kindOf : Str -> Option NameKind} {x : Str} {v : Value} : ∀ {P : List Str} {vs : List Value} {i : Nat} {m : Str -> Option Value}, P.Nodup -> P[i]? = some x -> vs[i]? = some v -> kindOf x = some .local ->
  bindL kindOf (P.zip vs) m x = some v
 | [], _, _, _, _, h, _, _ => by simp at h
 | _ :: _, [], _, _, _, _, h, _ => by simp at h
 | p :: P, w :: vs, 0, m, nd, h1, h2, hk => by
  simp at h1 h2; subst h1; subst h2
  show bindL kindOf ((p, w) :: P.zip vs) m p = _
  unfold bindL
  rw [lV fun v hv => (List.nodup_cons.mp nd).1 (List.of_mem_zip hv).1, if_pos hk]
  simp
 | p :: P, w :: vs, i + 1, m, nd, h1, h2, hk => by
  show bindL kindOf ((p, w) :: P.zip vs) m x = _
  unfold bindL
  exact lW (i := i) (List.nodup_cons.mp nd).2 (by simpa using h1) (by simpa using h2) hk
theorem lY {kindOf : Str -> Option NameKind} {x : Str} {v : Value} : ∀ {P : List Str} {vs : List Value} {i : Nat} {m : Str -> Option Value}, P.Nodup -> P[i]? = some x -> vs[i]? = some v -> kindOf x ≠ some .local ->
  bindC kindOf (P.zip vs) m x = some v
 | [], _, _, _, _, h, _, _ => by simp at h
 | _ :: _, [], _, _, _, _, h, _ => by simp at h
 | p :: P, w :: vs, 0, m, nd, h1, h2, hk => by
  simp at h1 h2; subst h1; subst h2
  show bindC kindOf ((p, w) :: P.zip vs) m p = _
  unfold bindC
  rw [lX fun v hv => (List.nodup_cons.mp nd).1 (List.of_mem_zip hv).1, if_neg hk]
  simp
 | p :: P, w :: vs, i + 1, m, nd, h1, h2, hk => by
  show bindC kindOf ((p, w) :: P.zip vs) m x = _
  unfold bindC
  exact lY (i := i) (List.nodup_cons.mp nd).2 (by simpa using h1) (by simpa using h2) hk
def cY (N : List Str) (vs : List V) : St := vs.map some ++ List.replicate (N.length - vs.length) none
def bG (CX : CXT) (P : Program) (w : World) (K : Frag) (mg : Str -> Option Value) (base : Heap) (N : List Str) (qual : Str) (scope : Scope) (f : Addr) (cd : Value) (A : Around) (outer : List Env) (s : Shared) (H : Hp) (E : XK) : Cx where
 prog := P
 w := w
 K := K
 mg := mg
 base := base
 A := A.deeper (envOfC qual scope s.heap.objs.size f cd)
 N := N
 s₀ := s
 H₀ := H
 env := envOfC qual scope s.heap.objs.size f cd
 outer := outer
 stack := envOfC qual scope s.heap.objs.size f cd :: outer
 ex := []
 calm := true
 fn := fun _ => true
 pn := []
 xe := fun e s' => wpAny (model P w) (A.deeper (envOfC qual scope s.heap.objs.size f cd)) (leaving (envOfC qual scope s.heap.objs.size f cd) e) (fun _ s'' => CX outer H s E e s'') (fun e' s'' => CX outer H s E e' s'') s'
theorem nM {sc : Scope} {n : Nat} {x : Str} (h : sc.names.lookup x = some .cell) : ∃ c, (cellsFrom n sc.names []).lookup x = some c := by
 have q := cellsFrom_some sc.names n [] (.inl h)
 exact Option.isSome_iff_exists.mp q
theorem qP {CX : CXT} {P : Program} {w : World} {K : Frag} {mg : Str -> Option Value} {base : Heap} {N ps : List Str} {qual : Str} {scope : Scope} {f : Addr} {cd : Value} {A : Around} {outer : List Env} {s s1 : Shared} {H : Hp} {E : XK} {us : List Value} {vs : List V}
  (S : FnScope N ps scope) (hd : A.handled = none) (e0 : Env0 P w K mg base A outer s H) (hl : vs.length = ps.length) (r : am vs us)
  (x : InCallC s s.heap.objs.size (bindL (envOfC qual scope s.heap.objs.size f cd).kindOf (ps.zip us) fun _ => none) (cellsFrom (s.heap.objs.size + 1) scope.names []) (bindC (envOfC qual scope s.heap.objs.size f cd).kindOf (ps.zip us) fun _ => none) s1) :
  Inv (bG CX P w K mg base N qual scope f cd A outer s H E) [] (cY N vs) H s1 := by
 have hpl : ps.length <= N.length := by have := congrArg List.length S.pre; rw [List.length_take] at this; omega
 obtain ⟨h1, tk, rfl, hk⟩ := x.done
 have noA : ∀ b : Addr, b ∉ (bG CX P w K mg base N qual scope f cd A outer s H E).ex := fun b z => absurd (show b ∈ ([] : List Addr) from z) (by simp)
 refine ⟨⟨e0.mod, S.kind, rfl, rfl, Nat.le_refl _, fun y z c h1 h2 => ?_, fun y hy => ?_, fun y c _ h => ?_, fun _ => hd, Around.frames_deeper e0.frames, .inr ⟨rfl, rfl⟩, fun b z => absurd z (noA b), e0.bs, e0.bsz, fun b _ _ => noA b, fun b z => absurd z (noA b), e0.funs, e0.frf⟩,
  rfl, e0.bare, Un.kept hk, ⟨_, x.toInCall.ns, fun i y v h1 h2 h3 => ?_⟩, fun y c h => ⟨_, x.cell y c h⟩, e0.hok.fresh (Nat.le_refl _), fun y c h => ?_, fun p hp => absurd (show p ∈ ([] : List (Addr × Obj)) from hp) (by simp), e0.hok.kept hk, ?_⟩
 ·exact name_of_addr x.apart (PySem.mem_of_lookup h1) (PySem.mem_of_lookup h2)
 ·have hy : scope.names.lookup y = some .cell \/ scope.names.lookup y = some .free := hy
  rcases hy with hy | hy
  ·exact nM hy
  ·exact absurd rfl (S.nofree _ (PySem.mem_of_lookup hy))
 ·exact Nat.le_of_lt (x.above y c (PySem.mem_of_lookup h))
 ·have hi : i < vs.length := by
   unfold cY at h2
   by_cases hi : i < vs.length
   ·exact hi
   ·rw [List.getElem?_append_right (by simpa using hi)] at h2
    rw [List.getElem?_replicate] at h2
    split at h2 <;> cases h2
  have ha : vs[i]? = some v := by
   unfold cY at h2
   rw [List.getElem?_append_left (by simpa using hi), List.getElem?_map] at h2
   cases e : vs[i]? with
   | none => rw [e] at h2; cases h2
   | some a => rw [e] at h2; cases h2; rfl
  obtain ⟨u, hu, rv⟩ := r.get ha
  have hp : ps[i]? = some y := by
   rw [← S.pre, List.getElem?_take_of_lt (by omega)]; exact h1
  have ndP : ps.Nodup := by rw [← S.pre]; exact S.nd.sublist (List.take_sublist _ _)
  refine ⟨u, rv, ?_⟩
  rcases S.par y (List.mem_of_getElem? hp) with k | k
  ·exact .inl ⟨k, lW ndP hp hu k⟩
  ·obtain ⟨c, e⟩ := nM (n := s.heap.objs.size + 1) k
   refine .inr ⟨.inl k, c, e, ?_⟩
   have q := x.cell y c e
   rw [lY ndP hp hu (by show scope.names.lookup y ≠ _; rw [k]; decide)] at q
   exact q
 ·exact e0.hok.fresh (Nat.le_of_lt (x.above y c (PySem.mem_of_lookup h)))
 ·unfold cY
  show _ = N.length
  rw [List.length_append, List.length_map, List.length_replicate]
  omega
theorem t7 {CX : CXT} {P : Program} {w : World} {K : Frag} {mg : Str -> Option Value} {base : Heap} {k : Nat} {f : Addr} {name qual : Str} {params : Arguments} {body : List Stmt} {scope : Scope} {dV kV doc pm cdv ct oc : Value} {an od : Option Addr}
  {osl : Array (Option Value)} {N ps : List Str} {sp : Sp} (lk : K.lookup f = some ⟨oc, od, .func (PySem.W.fnOf name qual params body scope dV kV doc pm an cdv ct), osl⟩) (hcd : PySem.W.codeIn K cdv qual = true) (S : FnScope N ps scope)
  (len : ∀ vs H Q E, sp vs H Q E -> vs.length = ps.length)
  (hbody : ∀ (A : Around) (outer : List Env) (s : Shared) (H : Hp) (vs : List V) (Q : VK) (E : XK), Room k (A.deeper (envOfC qual scope s.heap.objs.size f cdv)) -> sp vs H Q E ->
   ∃ t, PSs (bG CX P w K mg base N qual scope f cdv A outer s H E) body t /\ t { nx := fun _ H' => Q .non H', rt := Q } (cY N vs) H) :
  FnOk P w K mg base CX (k + 1) f (PySem.W.fnOf name qual params body scope dV kV doc pm an cdv ct) ps sp := by
 refine ⟨len, fun A outer s H args us vs Q E hr e0 hb r hsp => ?_⟩
 have hl := len _ _ _ _ hsp
 have KX : K.In s.heap := e0.mod.kin.keeps fun b o e => (e0.bs b o e).1
 have lim : s.heap.NoLimit := e0.mod.nolimit.keeps fun b o e => (e0.bs b o e).1
 have hkind : ∀ y ∈ ps.zip us, scope.names.lookup y.1 = some .local \/ (scope.names.lookup y.1 = some .cell /\ ((cellsFrom (s.heap.objs.size + 1) scope.names []).lookup y.1).isSome = true) := fun ⟨n, v⟩ hy => by
  rcases S.par n (List.of_mem_zip hy).1 with q | q
  ·exact .inl q
  ·exact .inr ⟨q, cellsFrom_some _ _ _ (.inl q)⟩
 refine codeAny_call_function hr.depth (KX _ _ lk) rfl S.co S.gen rfl (PySem.W.codeRec_of KX hcd) (hb _ _ _ _ ?_)
 refine wpAny_newFunctionEnv_cells S.kind hkind fun env he s1 x => ?_
 subst he
 refine ⟨lim.keeps x.toInCall.keep, codeAny_func ?_⟩
 obtain ⟨t, ht, hq⟩ := hbody A outer s H vs Q E (hr.deeper _) hsp
 have I : Inv (bG CX P w K mg base N qual scope f cdv A outer s H E) [] (cY N vs) H s1 := qP S hr.hd e0 hl r x
 refine wpAny_mono (ht [] s1 (cY N vs) H _ I hq) (fun fl s' hs => ?_) fun e s' hs => hs
 have fin : ∀ {σ' : St} {H' : Hp} {v : V} {u : Value}, Inv (bG CX P w K mg base N qual scope f cdv A outer s H E) [] σ' H' s' -> aD v u -> Q v H' -> CE outer P w H s Q u s' :=
  fun {σ' H' v u} J rv q => ⟨v, H', J.os, J.bare, J.base, J.hok, rv, q⟩
 cases fl with
 | ret u =>
  obtain ⟨v, σ', H', J, rv, q⟩ := hs
  exact fin J rv q
 | next =>
  obtain ⟨σ', H', J, q⟩ := hs
  exact fin (v := V.non) (u := Value.none) J rfl q
 | brk =>
  obtain ⟨_, _, _, q⟩ := hs
  exact False.elim q
 | cont =>
  obtain ⟨_, _, _, q⟩ := hs
  exact False.elim q
section
variable {X : Cx} {x : Str} {p pos : Pos} {e : Expr} {es : List Expr} {t : TA} {id T : String} {r : List V -> Hp -> VK -> Prop}
def tCB (r : List V -> Hp -> VK -> Prop) (t : TA) : TE := fun σ H Q => t σ H fun vs H1 => r vs H1 Q
theorem eK (hc : bt X (.builtin id) r) (hg : Gl X x) (hm : X.mg x = none) (hv : bootBuiltins x = some (.builtin id)) (ha : PA X (e :: es) t) (hn : x ≠ "__name__" := by decide) (hdb : (x == ("__debug__" : Str)) = false := by decide)
  (he : starEach (e :: es) X.env = (false, eval e X.env) :: starEach es X.env := by rfl) (hpl : (backTo pos (starEach es X.env)).any (·.1) = false := by rfl) : PE X (.Call (.Name x p) (e :: es) [] pos) (tCB r t) := by
 intro pins s σ H Q I h
 refine wpAny_Call_Name_kw (gh I hg hm hv ?_ hn hdb)
 exact PyProof.Rows.callWith_builtin1 (thn (ha pos pins s σ H _ I h) fun us s1 ⟨vs, H1, I1, r1, q1⟩ => hc pins s1 σ H1 vs us Q I1 r1 q1) he hpl
theorem h8 (hc : bt X (.type T) r) (hg : Gl X x) (hm : X.mg x = none) (hv : bootBuiltins x = some (.type T)) (ha : PA X (e :: es) t) (hn : x ≠ "__name__" := by decide) (hdb : (x == ("__debug__" : Str)) = false := by decide)
  (he : starEach (e :: es) X.env = (false, eval e X.env) :: starEach es X.env := by rfl) (hpl : (backTo pos (starEach es X.env)).any (·.1) = false := by rfl) : PE X (.Call (.Name x p) (e :: es) [] pos) (tCB r t) := by
 intro pins s σ H Q I h
 refine wpAny_Call_Name_kw (gh I hg hm hv ?_ hn hdb)
 exact PyProof.Rows.callWith_type1 (thn (ha pos pins s σ H _ I h) fun us s1 ⟨vs, H1, I1, r1, q1⟩ => hc pins s1 σ H1 vs us Q I1 r1 q1) he hpl
end
end L2
namespace HT
open PySem PyProof.Rows
section
open PySem.SeqAt
open PySem.AutoSeq1 (wpAny_loadPart')
open PySem.MeetsSeq PySem.MeetsSeq2 PySem.MeetsSeq3
end
section
variable {prog : Program} {w : World} {A : Around} {E : Value -> Shared -> Prop} {s : Shared}
theorem cat_tup {t b : Addr} {vs ws : List Value} {Q : Value -> Shared -> Prop} (ht : IsTup s.heap t vs.toArray) (hb : IsTup s.heap b ws.toArray) (hv : vs ≠ [])
  (h1 : ws = [] -> Q (.ref t) s) (h2 : ws ≠ [] -> Q (.ref s.heap.objs.size) { s with heap := s.heap.push { cls := .type "tuple", data := .seq (vs ++ ws).toArray } })
  (hsz : vs.length + ws.length <= sizeLine) : wpAny (model prog w) A (binaryOp .Add (.ref t) (.ref b)) Q E s := by
 obtain ⟨⟨cls, dd, data, sl⟩, ho, hc, n, hd⟩ := id ht
 obtain ⟨⟨cls2, dd2, data2, sl2⟩, ho2, hc2, n2, hd2⟩ := id hb
 simp only at hc hd hc2 hd2
 subst hc hd hc2 hd2
 have e : vs.toArray ++ ws.toArray = (vs ++ ws).toArray := by simp
 by_cases hw : ws = []
 ·exact concat_meets ⟨_, ho, rfl⟩ ⟨_, ho2, rfl⟩ noFill_tuple_add seq_tuple_add PySem.F.slot_tuple_add PySem.F.entry_tuple_add (PySem.F.args_tuple_add_2 _ _)
   (tuple_addW1 t b vs.toArray ws.toArray n n2 dd dd2 sl sl2 (by simpa using hv) (by simp [hw])) ⟨ho, ho2, h1 hw⟩
 ·refine concat_meets ⟨_, ho, rfl⟩ ⟨_, ho2, rfl⟩ noFill_tuple_add seq_tuple_add PySem.F.slot_tuple_add PySem.F.entry_tuple_add (PySem.F.args_tuple_add_2 _ _)
   (tuple_addW2 t b vs.toArray ws.toArray n n2 dd dd2 sl sl2 (by simpa using hv) (by simpa using hw) (by rw [List.size_toArray, List.size_toArray]; exact hsz)) ⟨ho, ho2, ?_⟩
  rw [e]
  exact h2 hw
def sIx (n d : Nat) : Option Int -> Nat
 | none => d
 | some v => if v < 0 then (v + (n : Int)).toNat else min v.toNat n
end
end HT
namespace L2
open PySem PySem.Spec PyProof.Rows
abbrev TO := St -> Hp -> (Option Int -> Hp -> Prop) -> Prop
def PO (X : Cx) (e : Option Expr) (t : TO) : Prop :=
 ∀ (pins : List (Addr × Obj)) (s : Shared) (σ : St) (H : Hp) (Q : Option Int -> Hp -> Prop), Inv X pins σ H s -> t σ H Q ->
  wpAny (model X.prog X.w) X.A (evalPart e X.env) (fun u s' => ∃ o H', Inv X pins σ H' s' /\ IsPart u o /\ Q o H') X.xe s
def ur : TO := fun _ H Q => Q none H
def xV (t : TE) : TO := fun σ H Q => t σ H fun x H1 => ∃ i, x = .int i /\ Q (some i) H1
theorem pL {ns : List Int} : ∀ {us : List Value}, am (ns.map V.int) us -> IntsAre us ns := by
 induction ns with
 | nil => intro us r; rw [List.map_nil] at r; cases r; exact .nil
 | cons n ns ih =>
  intro us r
  rw [List.map_cons] at r
  cases r with
  | cons r1 r2 =>
   obtain ⟨t, e⟩ := r1
   subst e
   exact .cons n t (ih r2)
section
variable {X : Cx} {e : Expr} {te : TE} {lo hi : Option Expr} {tl th : TO} {pos p2 : Pos}
theorem uE : PO X none ur := by
 intro pins s σ H Q I h
 rw [evalPart_none]
 exact wpAny_pure ⟨none, H, I, .none, h⟩
theorem uD (h : PE X e te) : PO X (some e) (xV te) := by
 intro pins s σ H Q I hw
 rw [evalPart_some]
 refine thn (h pins s σ H _ I hw) fun u s1 ⟨x, H1, I1, r1, q1⟩ => ?_
 obtain ⟨i, rfl, q⟩ := q1
 obtain ⟨t, rfl⟩ := r1
 exact ⟨some i, H1, I1, .int i t, q⟩
def SlR (X : Cx) (r : V -> Option Int -> Option Int -> Hp -> VK -> Prop) : Prop :=
 ∀ (pins : List (Addr × Obj)) (s : Shared) (σ : St) (H : Hp) (x : V) (v vl vu : Value) (lo hi : Option Int) (sl : Addr) (Q : VK), Inv X pins σ H s -> aD x v -> s.heap.IsSliceOf sl vl vu .none -> IsPart vl lo -> IsPart vu hi -> r x lo hi H Q ->
  ∃ T id, typeLookup (.type T) "__getitem__" = pure (some (.builtin id)) /\ s.TypeIs v T /\ wpAny (model X.prog X.w) X.A (getItem v (.ref sl)) (EP X pins σ Q) X.xe s
def tSl (r : V -> Option Int -> Option Int -> Hp -> VK -> Prop) (te : TE) (tl th : TO) : TE := fun σ H Q => te σ H fun x H1 => tl σ H1 fun l H2 => th σ H2 fun u H3 => r x l u H3 Q
theorem r8 {r : V -> Option Int -> Option Int -> Hp -> VK -> Prop} (hr : SlR X r) (he : PE X e te) (hl : PO X lo tl) (hu : PO X hi th) : PE X (.Subscript e (.Slice lo hi none p2) pos) (tSl r te tl th) := by
 intro pins s σ H Q I h
 refine Subscript_ (thn (he pins s σ H _ I h) fun v s1 ⟨x, H1, I1, r1, q1⟩ => ?_)
 refine wpAny_Slice (thn (hl pins s1 σ H1 _ I1 q1) fun vl s2 ⟨l, H2, I2, pl, q2⟩ => thn (hu pins s2 σ H2 _ I2 q2) fun vu s3 ⟨u, H3, I3, pu, q3⟩ => ?_)
 rw [evalPart_none]
 refine wpAny_pure ?_
 have I4 : Inv X pins σ H3 { s3 with heap := s3.heap.push { cls := .type "slice", data := .fields #[vl, vu, .none] } } := I3.kept (t' := s3.toks) fun b ob q => Heap.get?_push_of_some _ q
 obtain ⟨T, id, hT, ht, hg⟩ := hr pins { s3 with heap := s3.heap.push { cls := .type "slice", data := .fields #[vl, vu, .none] } } σ H3 x v vl vu l u s3.heap.objs.size Q I4 r1 (Heap.IsSliceOf.new ..) pl pu q3
 show wpAny (model X.prog X.w) X.A (subscriptTail e (.Slice lo hi none p2) v (.ref s3.heap.objs.size)) (EP X pins σ Q) X.xe { s3 with heap := s3.heap.push { cls := .type "slice", data := .fields #[vl, vu, .none] } }
 exact tail_any (ops := [.ref s3.heap.objs.size, v]) ht hT hg (by with_unfolding_all rfl)
def lm (xs : List V) (lo hi : Option Int) : List V := (xs.drop (HT.sIx xs.length 0 lo)).take (HT.sIx xs.length xs.length hi - HT.sIx xs.length 0 lo)
theorem nV (xs : List V) (lo hi : Option Int) : (lm xs lo hi).length <= xs.length := by
 unfold lm
 rw [List.length_take, List.length_drop]
 omega
def pi (K : Frag) : R2 := fun x y H Q => ∃ a b xs ys, x = .ref a /\ y = .ref b /\ SqT K H a xs /\ SqT K H b ys /\ xs ≠ [] /\ xs.length + ys.length <= sizeLine /\
 (ys = [] -> Q (.ref a) H) /\ (ys ≠ [] -> ∀ p, H p = none -> Q (.ref p) (upd H p (.tup (xs ++ ys))))
theorem am.nil_iff {xs : List V} {us : List Value} (r : am xs us) : us = [] ↔ xs = [] := by
 cases r with
 | nil => simp
 | cons _ _ => simp
theorem uN : OpR X (binaryOp .Add) (pi X.K) := by
 intro pins s σ H x y v u Q I rx ry h
 obtain ⟨a, b, xs, ys, rfl, rfl, ha, hb, hx, hz, q1, q2⟩ := h
 cases rx
 cases ry
 obtain ⟨its, r1, p1, _⟩ := I.tuple ha
 obtain ⟨its2, r2, p2, _⟩ := I.tuple hb
 refine HT.cat_tup p1 p2 (fun z => hx (r1.nil_iff.mp z)) (fun z => ⟨.ref a, H, I, rfl, q1 (r2.nil_iff.mp z)⟩) (fun z => ?_) (by rw [← r1.length, ← r2.length]; exact hz)
 refine ⟨.ref s.heap.objs.size, _, I.laid (t' := s.toks) (o := .tup (xs ++ ys)) (fun b ob q => Heap.get?_push_of_some _ q) (Nat.le_refl _) ?_, rfl, q2 (fun w => z (r2.nil_iff.mpr w)) _ (I.hok.fresh (Nat.le_refl _))⟩
 exact ⟨by rw [List.length_append]; exact hz, _, r1.append r2, IsTup.new _ _⟩
end
def ixN (n : Nat) (i : Int) : Option Nat := if 0 <= i then (if i < n then some i.toNat else none) else if -(n : Int) <= i then some (i + n).toNat else none
def atI {α : Type} (xs : List α) (i : Int) : Option α := (ixN xs.length i).bind fun j => xs[j]?
theorem oH {n : Nat} {i : Int} {j : Nat} (h : ixN n i = some j) : seqIndex? i n = some j /\ j < n /\ -(n : Int) <= i /\ i < n := by
 unfold ixN at h
 by_cases h0 : 0 <= i
 ·rw [if_pos h0] at h
  by_cases h1 : i < n
  ·rw [if_pos h1] at h
   have e : i.toNat = j := Option.some.inj h
   exact ⟨by rw [seqIndex_of h0 h1, e], by omega, by omega, h1⟩
  ·rw [if_neg h1] at h; cases h
 ·rw [if_neg h0] at h
  by_cases h1 : -(n : Int) <= i
  ·rw [if_pos h1] at h
   have e : (i + n).toNat = j := Option.some.inj h
   exact ⟨by rw [seqIndex_neg (by omega) h1, e], by omega, h1, by omega⟩
  ·rw [if_neg h1] at h; cases h
theorem oR {α : Type} {xs : List α} {i : Int} {v : α} (h : atI xs i = some v) : ∃ j, seqIndex? i xs.length = some j /\ xs[j]? = some v /\ j < xs.length /\ -(xs.length : Int) <= i /\ i < xs.length := by
 unfold atI at h
 cases e : ixN xs.length i with
 | none => rw [e] at h; cases h
 | some j =>
  rw [e] at h
  obtain ⟨h1, h2, h3, h4⟩ := oH e
  exact ⟨j, h1, h, h2, h3, h4⟩
theorem vg {α : Type} {xs : List α} {j : Nat} {v : α} (h : xs[j]? = some v) : atI xs (j : Int) = some v := by
 have hj : j < xs.length := (List.getElem?_eq_some_iff.mp h).1
 have e : ixN xs.length (j : Int) = some j := by
  unfold ixN
  rw [if_pos (by omega), if_pos (by omega)]; simp
 unfold atI; rw [e]; exact h
def oS (b : Expr) : Prop := ∀ o i, subscripted b false o i = operate [o, i] (getItem o i)
def IxR (X : Cx) (r : R2) : Prop :=
 ∀ (value slice : Expr) (pins : List (Addr × Obj)) (s : Shared) (σ : St) (H : Hp) (x y : V) (v u : Value) (Q : VK), Inv X pins σ H s -> aD x v -> aD y u -> r x y H Q ->
  subscripted slice false v u = operate [v, u] (getItem v u) -> wpAny (model X.prog X.w) X.A (subscriptTail value slice v u) (EP X pins σ Q) X.xe s
def MtR (X : Cx) (id : String) (r : V -> List V -> Hp -> VK -> Prop) : Prop :=
 ∀ (pins : List (Addr × Obj)) (s : Shared) (σ : St) (H : Hp) (x : V) (xs : List V) (v : Value) (us : List Value) (Q : VK), Inv X pins σ H s -> aD x v -> am xs us -> r x xs H Q ->
  wpAny (model X.prog X.w) X.A (call (.builtin id) (v :: us)) (EP X pins σ Q) X.xe s
section
variable {X : Cx} {a b : Expr} {ta tb : TE} {pos : Pos}
theorem IxR.or {r r' : R2} (h : IxR X r) (h' : IxR X r') : IxR X (fun x y H Q => r x y H Q \/ r' x y H Q) := by
 intro value slice pins s σ H x y v u Q I rx ry q hs
 rcases q with q | q
 ·exact h value slice pins s σ H x y v u Q I rx ry q hs
 ·exact h' value slice pins s σ H x y v u Q I rx ry q hs
theorem cZ {r : R2} (hr : IxR X r) (ha : PE X a ta) (hb : PE X b tb) (hs : oS b) : PE X (.Subscript a b pos) (tOp r ta tb) := by
 intro pins s σ H Q I h
 exact Subscript_ (pZ ha hb I h fun v u s2 x y H2 I2 rx ry q => hr a b pins s2 σ H2 x y v u Q I2 rx ry q (hs _ _))
def ph (K : Frag) : R2 := fun x y H Q => ∃ p xs i v, x = .ref p /\ y = .int i /\ SqL K H p xs /\ atI xs i = some v /\ Q v H
def rV (K : Frag) : R2 := fun x y H Q => ∃ p xs i v, x = .ref p /\ y = .int i /\ SqT K H p xs /\ atI xs i = some v /\ Q v H
theorem bJ : IxR X (ph X.K) := by
 intro value slice pins s σ H x y v u Q I rx ry h hs
 obtain ⟨p, xs, i, z, rfl, rfl, hq, he, q⟩ := h
 cases rx
 obtain ⟨t, rfl⟩ := ry
 obtain ⟨its, r, pl, hz⟩ := I.list hq
 obtain ⟨j, h1, h2, h3, h4, h5⟩ := oR he
 obtain ⟨w, ew, rw'⟩ := r.get h2
 have hl := r.length
 have hn := ii
 have fin : EP X pins σ Q w s := ⟨z, H, I, rw', q⟩
 by_cases h0 : 0 <= i
 ·have hj : i.toNat = j := by
   rw [seqIndex_of h0 h5] at h1
   exact Option.some.inj h1
  exact item_listR pl.isList h0 (by omega) (by rw [hj]; simpa using ew) fin hs
 ·have hj : (i + (its.toArray.size : Int)).toNat = j := by
   rw [seqIndex_neg (by omega) h4] at h1
   rw [List.size_toArray, ← hl]
   exact Option.some.inj h1
  exact subscriptTail_builtinR (x := w) pl.isList.typeIs slot_list_getitem.lookup
   (wpAny_getItem_list_neg (Q := fun r s' => r = w /\ EP X pins σ Q r s') pl.isList (by omega) (by rw [List.size_toArray] <;> omega) (by omega) (by rw [hj]; simpa using ew) ⟨rfl, fin⟩) hs
theorem wM : IxR X (rV X.K) := by
 intro value slice pins s σ H x y v u Q I rx ry h hs
 obtain ⟨p, xs, i, z, rfl, rfl, hq, he, q⟩ := h
 cases rx
 obtain ⟨t, rfl⟩ := ry
 obtain ⟨its, r, pl, hz⟩ := I.tuple hq
 obtain ⟨j, h1, h2, h3, h4, h5⟩ := oR he
 obtain ⟨w, ew, rw'⟩ := r.get h2
 have hl := r.length
 have hn := ii
 have fin : EP X pins σ Q w s := ⟨z, H, I, rw', q⟩
 exact subscriptTail_builtinR (x := w) pl.typeIs slot_tuple_getitem.lookup
  (getItem_tuple (j := j) (Q := fun r s' => r = w /\ EP X pins σ Q r s') pl (by omega) (by omega) (by rw [List.size_toArray, ← hl]; exact h1) (by simpa using ew) ⟨rfl, fin⟩) hs
theorem pB (its : List Value) (n j : Nat) (u : Value) : Obj.mapSeq (·.setIfInBounds j u) { cls := .type "list", data := .seq its.toArray n } = { cls := .type "list", data := .seq (its.set j u).toArray n } := by
 simp [Obj.mapSeq]
theorem Inv.lst {pins : List (Addr × Obj)} {σ : St} {H : Hp} {s : Shared} {p : Addr} {xs : List V} (I : Inv X pins σ H s) (h : H p = some (.lst xs)) :
  ∃ (its : List Value) (n : Nat), am xs its /\ s.heap.get? p = some { cls := .type "list", data := .seq its.toArray n } /\ xs.length <= sizeLine := by
 obtain ⟨z, its, n, r, e⟩ := I.hok p _ h
 exact ⟨its, n, r, e, z⟩
theorem Inv.lstUpd {pins : List (Addr × Obj)} {σ : St} {H : Hp} {s : Shared} {p : Addr} {xs ys : List V} {its its' : List Value} {n n' : Nat} {f : Obj -> Obj} (I : Inv X pins σ H s) (h : H p = some (.lst xs))
  (ho : s.heap.get? p = some { cls := .type "list", data := .seq its.toArray n }) (hf : f { cls := .type "list", data := .seq its.toArray n } = { cls := .type "list", data := .seq its'.toArray n' }) (r : am ys its') (hz : ys.length <= sizeLine) (t : Nat) :
  Inv X pins σ (upd H p (.lst ys)) { s with heap := s.heap.update p f, toks := t } := by
 have e : (s.heap.update p f).get? p = some { cls := .type "list", data := .seq its'.toArray n' } := by
  rw [Heap.get?_update_self f ho (by rw [hf] <;> rfl), hf]
 refine I.write (x := p) (e := p) (by rw [h]; trivial) (.inl rfl) (fun b u hb q => (Heap.get?_update_other _ _ (Ne.symm hb)).trans q) ⟨_, e⟩ ?_
 exact ⟨hz, its', n', r, e⟩
def tJ : V -> V -> V -> Hp -> (Hp -> Prop) -> Prop := fun o i v H Q => ∃ p xs k j, o = .ref p /\ i = .int k /\ H p = some (.lst xs) /\ ixN xs.length k = some j /\ Q (upd H p (.lst (xs.set j v)))
theorem cA : xH X tJ := by
 intro pins s σ H o i v ov iv u Q I ro ri rv h
 obtain ⟨p, xs, k, j, rfl, rfl, hp, hj, q⟩ := h
 cases ro
 obtain ⟨t, rfl⟩ := ri
 obtain ⟨its, n, r, ho, hz⟩ := I.lst hp
 obtain ⟨h1, h2, h3, h4⟩ := oH hj
 have hl := r.length
 have hn := ii
 have I' : Inv X pins σ (upd H p (.lst (xs.set j v))) { s with heap := s.heap.update p (Obj.mapSeq (·.setIfInBounds j u)) } :=
  I.lstUpd hp ho (pB its n j u) (r.set rv j) (by rw [List.length_set]; exact hz) s.toks
 by_cases h0 : 0 <= k
 ·have hk : k.toNat = j := by
   rw [seqIndex_of h0 h4] at h1
   exact Option.some.inj h1
  exact PySem.W.ki_setAt ho h0 (by omega) (by rw [List.size_toArray, ← hl]; exact h4) (by rw [hk]; exact ⟨_, I', q⟩)
 ·have hk : (k + (its.toArray.size : Int)).toNat = j := by
   rw [seqIndex_neg (by omega) h3] at h1
   rw [List.size_toArray, ← hl]
   exact Option.some.inj h1
  exact PySem.W.ki_setBack ho (by omega) (by rw [List.size_toArray, ← hl]; exact h3) (by omega) (by rw [hk]; exact ⟨_, I', q⟩)
theorem mP (lo hi : Option Int) (n : Nat) : (sliceBounds lo hi none n).1 = ((HT.sIx n 0 lo : Nat) : Int) /\ (sliceBounds lo hi none n).2.1 = ((HT.sIx n n hi : Nat) : Int) /\ (sliceBounds lo hi none n).2.2 = 1 := by
 refine ⟨?_, ?_, rfl⟩
 ·cases lo with
  | none => simp [sliceBounds, HT.sIx]
  | some i =>
   simp only [sliceBounds, HT.sIx, Option.getD_none, show (1 : Int) > 0 by decide, if_true]
   by_cases h : i < 0
   ·simp only [h, if_true] <;> omega
   ·simp only [h, if_false] <;> omega
 ·cases hi with
  | none => simp [sliceBounds, HT.sIx]
  | some i =>
   simp only [sliceBounds, HT.sIx, Option.getD_none, show (1 : Int) > 0 by decide, if_true]
   by_cases h : i < 0
   ·simp only [h, if_true] <;> omega
   ·simp only [h, if_false] <;> omega
theorem lZ (its : List Value) (lo hi : Option Int) : slicePick its.toArray lo hi none = ((its.drop (HT.sIx its.length 0 lo)).take (HT.sIx its.length its.length hi - HT.sIx its.length 0 lo)).toArray := by
 obtain ⟨h1, h2, h3⟩ := mP lo hi its.toArray.size
 unfold slicePick
 rw [h1, h2, h3]
 simp only [sliceRange_one, pick_run, List.size_toArray] <;> rfl
def rSlL (K : Frag) : V -> Option Int -> Option Int -> Hp -> VK -> Prop := fun x lo hi H Q => ∃ a xs, x = .ref a /\ SqL K H a xs /\ ∀ p, H p = none -> Q (.ref p) (upd H p (.lst (lm xs lo hi)))
theorem ut : SlR X (rSlL X.K) := by
 intro pins s σ H x v vl vu lo hi sl Q I rx hs pl pu h
 obtain ⟨a, xs, rfl, hx, q⟩ := h
 cases rx
 obtain ⟨its, r, ht, hz⟩ := I.list hx
 have hlen := r.length
 refine ⟨"list", _, slot_list_getitem.lookup, ht.isList.typeIs, ?_⟩
 refine wpAny_getItem_list_slice ht.isList hs pl pu .none (by simp) ?_ (by rw [List.size_toArray] <;> omega)
 rw [lZ, ← hlen]
 refine ⟨.ref s.heap.objs.size, _, I.laid (t' := s.toks) (o := .lst (lm xs lo hi)) (fun b ob q => Heap.get?_push_of_some _ q) (Nat.le_refl _) ?_, rfl, q _ (I.hok.fresh (Nat.le_refl _))⟩
 exact ⟨Nat.le_trans (nV xs lo hi) hz, _, 0, (r.drop (HT.sIx xs.length 0 lo)).take (HT.sIx xs.length xs.length hi - HT.sIx xs.length 0 lo), Heap.get?_push_size _ rfl⟩
def dU : V -> Bool
 | .non => true
 | .bl _ => true
 | .int _ => true
 | .str _ => true
 | _ => false
def eqV : V -> V -> Bool
 | .non, .non => true
 | .bl a, .bl b => a == b
 | .bl a, .int b => (if a then 1 else 0) == b
 | .int a, .bl b => a == (if b then 1 else 0)
 | .int a, .int b => a == b
 | .str a, .str b => a == b
 | _, _ => false
theorem wW {A : Around} {s : Shared} {y x : V} {u v : Value} (ry : aD y u) (rx : aD x v) (fy : dU y = true) (fx : dU x = true) : SeqAt.EqAt A s u v (eqV y x) := by
 cases y with
 | non =>
  cases ry
  cases x with
  | non => cases rx; exact SeqAt.EqAt.same _
  | bl b => cases rx; exact SeqAt.EqAt.none_bool b
  | int b => obtain ⟨t, rfl⟩ := rx; exact SeqAt.EqAt.none_int b t
  | str b => obtain ⟨t, rfl⟩ := rx; exact SeqAt.EqAt.none_str b t
  | _ => exact absurd (show false = true from fx) Bool.false_ne_true
 | bl a =>
  cases ry
  cases x with
  | non => cases rx; exact SeqAt.EqAt.bool_none a
  | bl b => cases rx; exact SeqAt.EqAt.bool_bool a b
  | int b => obtain ⟨t, rfl⟩ := rx; exact SeqAt.EqAt.bool_int a b t
  | str b => obtain ⟨t, rfl⟩ := rx; exact SeqAt.EqAt.bool_str a b t
  | _ => exact absurd (show false = true from fx) Bool.false_ne_true
 | int a =>
  obtain ⟨t', rfl⟩ := ry
  cases x with
  | non => cases rx; exact SeqAt.EqAt.int_none a t'
  | bl b => cases rx; exact SeqAt.EqAt.int_bool a t' b
  | int b => obtain ⟨t, rfl⟩ := rx; exact SeqAt.EqAt.int_int a t' b t
  | str b => obtain ⟨t, rfl⟩ := rx; exact SeqAt.EqAt.int_str a t' b t
  | _ => exact absurd (show false = true from fx) Bool.false_ne_true
 | str a =>
  obtain ⟨t', rfl⟩ := ry
  cases x with
  | non => cases rx; exact SeqAt.EqAt.str_none a t'
  | bl b => cases rx; exact SeqAt.EqAt.str_bool a t' b
  | int b => obtain ⟨t, rfl⟩ := rx; exact SeqAt.EqAt.str_int a t' b t
  | str b => obtain ⟨t, rfl⟩ := rx; exact SeqAt.EqAt.str_str a t' b t
  | _ => exact absurd (show false = true from fx) Bool.false_ne_true
 | _ => exact absurd (show false = true from fy) Bool.false_ne_true
def eqU (x : V) (u : Value) : Bool := match u with
 | .none => eqV .non x
 | .bool b => eqV (.bl b) x
 | .int i _ => eqV (.int i) x
 | .str z _ => eqV (.str z) x
 | _ => false
theorem q8 {x y : V} {u : Value} (r : aD y u) (f : dU y = true) : eqU x u = eqV y x := by
 cases y with
 | non => cases r; rfl
 | bl b => cases r; rfl
 | int i => obtain ⟨t, rfl⟩ := r; rfl
 | str z => obtain ⟨t, rfl⟩ := r; rfl
 | _ => exact absurd (show false = true from f) Bool.false_ne_true
theorem lq {x : V} : ∀ {xs : List V} {us : List Value}, am xs us -> xs.all dU = true -> us.any (eqU x) = xs.any fun y => eqV y x
 | _, _, .nil, _ => rfl
 | y :: xs, u :: us, .cons r t, f => by
  rw [List.all_cons, Bool.and_eq_true] at f
  rw [List.any_cons, List.any_cons, q8 r f.1, lq t f.2]
theorem jn {A : Around} {s : Shared} {x : V} {v : Value} (rx : aD x v) (fx : dU x = true) : ∀ {xs : List V} {us : List Value}, am xs us -> xs.all dU = true -> ∀ u ∈ us, SeqAt.EqAt A s u v (eqU x u)
 | _, _, .nil, _ => fun u hu => by cases hu
 | y :: xs, u :: us, .cons r t, f => fun u' hu => by
  rw [List.all_cons, Bool.and_eq_true] at f
  rcases List.mem_cons.mp hu with rfl | hu
  ·rw [q8 r f.1]; exact wW r rx f.1 fx
  ·exact jn rx fx t f.2 u' hu
def inV (x : V) (xs : List V) : Bool := xs.any fun y => eqV y x
def rIn (K : Frag) (neg : Bool) : R2 := fun x y H Q => ∃ p xs, y = .ref p /\ (SqL K H p xs \/ SqT K H p xs) /\ dU x = true /\ xs.all dU = true /\ Q (.bl (if neg then !inV x xs else inV x xs)) H
theorem m4 : OpR X (compareOp .NotIn) (rIn X.K true) := by
 intro pins s σ H x y v u Q I rx ry h
 obtain ⟨p, xs, rfl, hq, fx, fs, q⟩ := h
 cases ry
 rcases hq with hq | hq
 ·obtain ⟨its, r, pl, hz⟩ := I.list hq
  refine SeqAt.notIn_listAt (eqU x) pl.isList (fun w hw => jn rx fx r fs w (by simpa using hw)) ⟨.bl _, H, I, rfl, ?_⟩
  rw [show its.toArray.any (eqU x) = its.any (eqU x) by simp, lq r fs]
  exact q
 ·obtain ⟨its, r, pl, hz⟩ := I.tuple hq
  refine SeqAt.notIn_tupleAt (eqU x) pl (fun w hw => jn rx fx r fs w (by simpa using hw)) ⟨.bl _, H, I, rfl, ?_⟩
  rw [show its.toArray.any (eqU x) = its.any (eqU x) by simp, lq r fs]
  exact q
theorem aO : bt X (.builtin "len") (fun xs H Q => ∃ p ys, xs = [.ref p] /\ (SqL X.K H p ys \/ SqT X.K H p ys) /\ Q (.int ys.length) H) := by
 intro pins s σ H xs us Q I r h
 obtain ⟨p, ys, rfl, hq, q⟩ := h
 obtain ⟨u, rfl, rx⟩ := eW r
 cases rx
 have hn := ii
 rcases hq with hq | hq
 ·obtain ⟨its, r', pl, hz⟩ := I.list hq
  have hlen := r'.length
  exact Calls.call_len_list pl.isList (by simp only [List.size_toArray] <;> omega) ⟨.int ys.length, H, I.tok _, ⟨s.toks + 1, by rw [List.size_toArray, hlen]⟩, q⟩
 ·obtain ⟨its, r', pl, hz⟩ := I.tuple hq
  have hlen := r'.length
  exact len_tuple pl (by simp only [List.size_toArray] <;> omega) ⟨.int ys.length, H, I.tok _, ⟨s.toks + 1, by rw [List.size_toArray, hlen]⟩, q⟩
theorem cI : bt X (.type "list") (fun xs H Q => ∃ p ys, xs = [.ref p] /\ (SqL X.K H p ys \/ SqT X.K H p ys) /\ ∀ l, H l = none -> Q (.ref l) (upd H l (.lst ys))) := by
 intro pins s σ H xs us Q I r h
 obtain ⟨p, ys, rfl, hq, q⟩ := h
 obtain ⟨u, rfl, rx⟩ := eW r
 cases rx
 have fin : ∀ (its : List Value), am ys its -> ys.length <= sizeLine -> ∀ (h' : Heap) (c' : Nat), (∀ b o', s.heap.get? b = some o' -> h'.get? b = some o') ->
   h'.get? s.heap.objs.size = some { cls := .type "list", dict := none, data := .seq its.toArray c', slots := #[] } -> EP X pins σ Q (.ref s.heap.objs.size) { s with heap := h' } := fun its r' hz h' c' kp e =>
  ⟨.ref s.heap.objs.size, _, I.laid (t' := s.toks) kp (Nat.le_refl _) (show aX X.prog X.w _ h' _ (.lst ys) from ⟨hz, its, c', r', e⟩), rfl, q _ (I.hok.fresh (Nat.le_refl _))⟩
 rcases hq with hq | hq
 ·obtain ⟨its, r', pl, hz⟩ := I.list hq
  have hlen := r'.length
  obtain ⟨o, ho, hc, n, hd⟩ := pl.isList
  exact call_list_seq p (.inl rfl) ho hc hd (fun h' c' kp e => fin its r' hz h' c' kp e) (by simp only [List.size_toArray] <;> omega)
 ·obtain ⟨its, r', pl, hz⟩ := I.tuple hq
  have hlen := r'.length
  obtain ⟨o, ho, hc, n, hd⟩ := pl
  exact call_list_seq p (.inr rfl) ho hc hd (fun h' c' kp e => fin its r' hz h' c' kp e) (by simp only [List.size_toArray] <;> omega)
def tyV (K : Frag) (T : String) (x : V) (H : Hp) : Prop := match x with
 | .str _ => T = "str"
 | .int _ => T = "int"
 | .ref p => (T = "list" /\ ∃ xs, SqL K H p xs) \/ (T = "tuple" /\ ∃ o, K.lookup p = some o /\ o.cls = .type "tuple" /\ o.dict = none) \/
   (T = "dict" /\ ((∃ kvs, H p = some (.dK kvs)) \/ ∃ kvs, H p = some (.dT kvs))) \/ (T = "set" /\ ∃ S n, H p = some (.set S n))
 | _ => False
theorem qb {pins : List (Addr × Obj)} {σ : St} {H : Hp} {s : Shared} {T : String} {x : V} {v : Value} (I : Inv X pins σ H s) (r : aD x v) (ty : tyV X.K T x H) :
  s.TypeIs v T /\ ∀ a, v = .ref a -> ∃ ob, s.heap.get? a = some ob /\ ob.dict = none := by
 cases x with
 | str z =>
  obtain ⟨t, rfl⟩ := r
  cases (show T = "str" from ty)
  exact ⟨typeIs_str s z t, fun _ e => nomatch e⟩
 | int i =>
  obtain ⟨t, rfl⟩ := r
  cases (show T = "int" from ty)
  exact ⟨typeIs_int s i t, fun _ e => nomatch e⟩
 | ref p =>
  cases r
  rcases ty with ⟨rfl, xs, hq⟩ | ⟨rfl, o, hk, hc, hd⟩ | ⟨rfl, hk⟩ | ⟨rfl, S, n, hk⟩
  ·obtain ⟨its, _, pl, _⟩ := I.list hq
   refine ⟨pl.isList.typeIs, fun a e => ?_⟩
   cases e
   obtain ⟨o, n, e, c, hd, _⟩ := pl
   exact ⟨o, e, hd⟩
  ·refine ⟨⟨o, I.kIn p o hk, hc⟩, fun a e => ?_⟩
   cases e
   exact ⟨o, I.kIn _ o hk, hd⟩
  ·have z : ∃ o, s.heap.get? p = some o /\ o.ExactDict := by
    rcases hk with ⟨kvs, hk⟩ | ⟨kvs, hk⟩
    ·obtain ⟨_, _, _, _, o, _, _, e, ex, _⟩ := I.hok p _ hk
     exact ⟨o, e, ex⟩
    ·obtain ⟨_, _, _, _, o, _, _, e, ex, _⟩ := I.hok p _ hk
     exact ⟨o, e, ex⟩
   obtain ⟨o, e, ex⟩ := z
   refine ⟨⟨o, e, ex.1⟩, fun a e2 => ?_⟩
   cases e2
   exact ⟨o, e, ex.2.1⟩
  ·obtain ⟨o, _, _, _, e, ex, _⟩ := I.hok p _ hk
   refine ⟨⟨o, e, ex.1⟩, fun a e2 => ?_⟩
   cases e2
   exact ⟨o, e, ex.2.1⟩
 | _ => exact False.elim ty
def vG (K : Frag) (T : String) (r : V -> List V -> Hp -> VK -> Prop) (to : TE) : TE := fun σ H Q => to σ H fun x H1 => tyV K T x H1 /\ r x [] H1 Q
def tBM (K : Frag) (T : String) (r : V -> List V -> Hp -> VK -> Prop) (to : TE) (t : TA) : TE := fun σ H Q => to σ H fun x H1 => tyV K T x H1 /\ t σ H1 fun xs H2 => r x xs H2 Q
variable {o e : Expr} {es : List Expr} {to : TE} {t : TA} {name : Str} {apos cpos : Pos} {T id : String} {r : V -> List V -> Hp -> VK -> Prop}
theorem wg (pa : PlainAttrs T) (slot : Slot T name id) (hty : typeOf (.builtin id) = pure (.type "method_descriptor")) (hm : MtR X id r) (ho : PE X o to)
  (hbase : attributeBase o name X.env (eval o X.env) = eval o X.env := by rfl) (hline : (apos.endLine == cpos.line) = true := by rfl) : PE X (.Call (.Attribute o name apos) [] [] cpos) (vG X.K T r to) := by
 intro pins s σ H Q I h
 refine wpAny_Call_method0_late hbase hline (thn (ho pins s σ H _ I h) fun v s1 ⟨x, H1, I1, r1, ty, q1⟩ => ?_)
 obtain ⟨h1, h2⟩ := qb I1 r1 ty
 exact ⟨T, id, pa, slot, hty, h1, h2, Calls.callWith_builtin rfl (PySem.evalArgs_none (hm pins s1 σ H1 x [] v [] Q I1 r1 .nil q1))⟩
theorem me (pa : PlainAttrs T) (slot : Slot T name id) (hty : typeOf (.builtin id) = pure (.type "method_descriptor")) (hm : MtR X id r) (ho : PE X o to) (ha : PA X (e :: es) t)
  (hbase : attributeBase o name X.env (eval o X.env) = eval o X.env := by rfl)
  (hfew : ((backTo cpos (starEach (e :: es) X.env)).all (fun x => !x.1) && (backToKw cpos (keywordEach [] X.env)).all (fun x => x.1.isSome)
   && decide ((e :: es).length + ([] : List Keyword).length + (if ([] : List Keyword).isEmpty then 0 else 1) < 30)) = true := by rfl)
  (hline : (apos.endLine == cpos.line) = true := by rfl) (hs : starEach (e :: es) X.env = (false, eval e X.env) :: starEach es X.env := by rfl) (hplain : (backTo cpos (starEach es X.env)).any (·.1) = false := by rfl) :
  PE X (.Call (.Attribute o name apos) (e :: es) [] cpos) (tBM X.K T r to t) := by
 intro pins s σ H Q I h
 refine wpAny_Call_method_late hbase hfew hline rfl (thn (ho pins s σ H _ I h) fun v s1 ⟨x, H1, I1, r1, ty, q1⟩ => ?_)
 obtain ⟨h1, h2⟩ := qb I1 r1 ty
 refine ⟨T, id, pa, slot, hty, h1, h2, ?_⟩
 have hA := ha cpos pins s1 σ H1 _ I1 q1
 rw [hs] at hA ⊢
 refine Calls.callWith_builtin (by show (false || (backTo cpos (starEach es X.env)).any (·.1)) = false; rw [hplain] <;> rfl) (Calls.evalArgs_plain ?_)
 exact thn hA fun us s2 ⟨vs, H2, I2, r2, q2⟩ => hm pins s2 σ H2 x vs v us Q I2 r1 r2 q2
/- xs.append(e), list.index on a module's tuple .. are MtR facts of 06m -/
end
def MtM (X : Cx) (id : String) (r : V -> List V -> Hp -> VK -> Prop) : Prop :=
 ∀ (pins : List (Addr × Obj)) (s : Shared) (σ : St) (H : Hp) (x : V) (xs : List V) (v : Value) (us : List Value) (Q : VK), Inv X pins σ H s -> aD x v -> am xs us -> r x xs H Q ->
  wpAny (model X.prog X.w) X.A (call (.builtin id) (v :: us)) (EP X pins σ Q) X.xe s
theorem am.one : ∀ {x : V} {us : List Value}, am [x] us -> ∃ u, us = [u] /\ aD x u
 | _, _, .cons r .nil => ⟨_, rfl, r⟩
theorem am.zero : ∀ {us : List Value}, am [] us -> us = []
 | _, .nil => rfl
theorem am.rep {xs : List V} {us : List Value} (h : am xs us) : ∀ k : Nat, am (List.replicate k xs).flatten (List.replicate k us).flatten
 | 0 => .nil
 | k + 1 => by
  rw [List.replicate_succ, List.replicate_succ, List.flatten_cons, List.flatten_cons]
  exact am.append h (am.rep h k)
theorem lM (its : List Value) : ∀ (k : Nat) (acc : List Value),
  List.foldl (fun x1 x2 => x1 ++ x2) acc.toArray (List.replicate k its.toArray) = (acc ++ (List.replicate k its).flatten).toArray
 | 0, acc => by simp
 | k + 1, acc => by
  have e : acc.toArray ++ its.toArray = (acc ++ its).toArray := by simp
  have e2 : (acc ++ its) ++ (List.replicate k its).flatten = acc ++ (List.replicate (k + 1) its).flatten := by
   rw [List.replicate_succ, List.flatten_cons, List.append_assoc]
  rw [← e2, ← lM its k (acc ++ its), ← e, List.replicate_succ, List.foldl_cons]
section
variable {X : Cx} {pins : List (Addr × Obj)} {σ : St} {H : Hp} {s : Shared} {l b : Addr} {xs ys zs : List V}
theorem Inv.lset {its its' : List Value} {n : Nat} {f : Array Value -> Array Value} {t' : Nat} (I : Inv X pins σ H s) (hH : H l = some (.lst xs))
  (e : s.heap.get? l = some { cls := .type "list", data := .seq its.toArray n }) (hf : f its.toArray = its'.toArray) (hv : am ys its') (hz : ys.length <= sizeLine) :
  Inv X pins σ (upd H l (.lst ys)) { s with heap := s.heap.update l (Obj.mapSeq f), toks := t' } := by
 have q := PySem.IsL.update e f
 rw [hf] at q
 refine I.write (x := l) (e := l) (by rw [hH]; exact trivial) (.inl rfl) (fun b' u hb hu => (Heap.get?_update_other s.heap (Obj.mapSeq f) (Ne.symm hb)).trans hu) ⟨_, q⟩ ?_
 exact ⟨hz, its', _, hv, q⟩
theorem Inv.lnew {its : List Value} {t' : Nat} (I : Inv X pins σ H s) (hv : am ys its) (hz : ys.length <= sizeLine) :
  Inv X pins σ (upd H s.heap.objs.size (.lst ys)) { s with heap := s.heap.push { cls := .type "list", data := .seq its.toArray }, toks := t' } :=
 I.laid (fun _ _ q => Heap.get?_push_of_some _ q) (Nat.le_refl _) ⟨hz, its, 0, hv, Heap.get?_push_size _ rfl⟩
theorem Inv.fresh (I : Inv X pins σ H s) : H s.heap.objs.size = none := I.hok.fresh (Nat.le_refl _)
theorem Inv.lstM (I : Inv X pins σ H s) (hH : H l = some (.lst xs)) : xs.length <= sizeLine /\ ∃ (its : List Value) (n : Nat), am xs its /\ xs.length = its.length /\ s.heap.get? l = some { cls := .type "list", data := .seq its.toArray n } := by
 obtain ⟨z, its, n, r, e⟩ := I.hok l _ hH
 exact ⟨z, its, n, r, r.length, e⟩
theorem sk {n : Nat} (h : n <= sizeLine) : Builtin.List.listTooLong n = false := by
 unfold Builtin.List.listTooLong
 exact decide_eq_false (by omega)
end
section
variable {X : Cx}
def iB : V -> List V -> Hp -> VK -> Prop := fun x vs H Q => ∃ l xs y, x = .ref l /\ vs = [y] /\ H l = some (.lst xs) /\ xs.length < sizeLine /\ Q .non (upd H l (.lst (xs ++ [y])))
theorem ig : MtM X "list.append" iB := by
 intro pins s σ H x vs v us Q I rx rv h
 obtain ⟨l, xs, y, rfl, rfl, hH, hz, q⟩ := h
 cases rx
 obtain ⟨u, rfl, ru⟩ := rv.one
 obtain ⟨z, its, n, r, hl, e⟩ := I.lstM hH
 refine call_meets F.slot_list_append ⟨_, e, rfl⟩ F.entry_list_append (F.args_list_append_2 _ _) (PySem.list_append l its.toArray n u (by rw [List.size_toArray]; omega)) ⟨e, ?_⟩
 refine ⟨.non, _, I.lset (its' := its ++ [u]) hH e (by simp) (r.append (.cons ru .nil)) ?_, rfl, q⟩
 rw [List.length_append, List.length_singleton]
 omega
def qr : V -> List V -> Hp -> VK -> Prop := fun x vs H Q => ∃ l xs, x = .ref l /\ vs = [] /\ H l = some (.lst xs) /\ Q .non (upd H l (.lst []))
theorem so : MtM X "list.clear" qr := by
 intro pins s σ H x vs v us Q I rx rv h
 obtain ⟨l, xs, rfl, rfl, hH, q⟩ := h
 cases rx
 have hus := rv.zero
 subst hus
 obtain ⟨z, its, n, r, hl, e⟩ := I.lstM hH
 refine call_meets F.slot_list_clear ⟨_, e, rfl⟩ F.entry_list_clear (F.args_list_clear_1 _) (AutoSeq1.list_clear_list_0 l its.toArray n (by rw [List.size_toArray]; omega)) ⟨e, ?_⟩
 exact ⟨.non, _, I.lset (its' := []) (ys := []) hH e rfl .nil (Nat.zero_le _), rfl, q⟩
def rCat : R2 := fun x y H Q => ∃ l b xs zs, x = .ref l /\ y = .ref b /\ H l = some (.lst xs) /\ H b = some (.lst zs) /\ xs.length + zs.length <= sizeLine /\ ∀ p, H p = none -> Q (.ref p) (upd H p (.lst (xs ++ zs)))
theorem wq : OpR X (binaryOp .Add) rCat := by
 intro pins s σ H x y v u Q I rx ry h
 obtain ⟨l, b, xs, zs, rfl, rfl, hH, hB, hz, q⟩ := h
 cases rx
 cases ry
 obtain ⟨z, its, n, r, hl, e⟩ := I.lstM hH
 obtain ⟨z2, its2, n2, r2, hl2, e2⟩ := I.lstM hB
 refine PySem.P.add_list e e2 ?_ (by rw [List.size_toArray, List.size_toArray]; omega)
 have ea : its.toArray ++ its2.toArray = (its ++ its2).toArray := by simp
 rw [ea]
 exact ⟨.ref _, _, I.lnew (t' := s.toks) (r.append r2) (by rw [List.length_append]; omega), rfl, q _ I.fresh⟩
def rRep : R2 := fun x y H Q => ∃ l k xs, x = .ref l /\ y = .int k /\ H l = some (.lst xs) /\ -(2 ^ 63) <= k /\ k < 2 ^ 63 /\ xs.length * k.toNat <= sizeLine /\
 ∀ p, H p = none -> Q (.ref p) (upd H p (.lst (List.replicate k.toNat xs).flatten))
theorem uY {α : Type} (xs : List α) (k : Nat) : (List.replicate k xs).flatten.length = k * xs.length := by
 induction k with
 | zero => simp
 | succ k ih => rw [List.replicate_succ, List.flatten_cons, List.length_append, ih, Nat.succ_mul, Nat.add_comm]
theorem wk : OpR X (binaryOp .Mult) rRep := by
 intro pins s σ H x y v u Q I rx ry h
 obtain ⟨l, k, xs, rfl, rfl, hH, h1, h2, hz, q⟩ := h
 cases rx
 obtain ⟨t, rfl⟩ := ry
 obtain ⟨z, its, n, r, hl, e⟩ := I.lstM hH
 have hlen : its.toArray.size * k.toNat <= sizeLine := by rw [List.size_toArray, ← hl]; exact hz
 have hcap : ¬ its.toArray.size * k.toNat > (2 ^ 63 - 1) / 8 := by
  have : (sizeLine : Nat) <= (2 ^ 63 - 1) / 8 := by decide
  omega
 have hfit : ¬ (!Builtin.List.listFitsIndex k) = true := by
  rw [fitsIndex_both h1 h2]
  exact Bool.false_ne_true
 have hlong : ¬ Builtin.List.listTooLong (its.toArray.size * k.toNat) = true := by
  rw [sk hlen]
  exact Bool.false_ne_true
 have hnew : List.foldl (fun x1 x2 => x1 ++ x2) #[] (List.replicate (if its.toArray.isEmpty = true then 0 else k.toNat) its.toArray) = (List.replicate k.toNat its).flatten.toArray := by
  have f0 : ∀ m : Nat, List.foldl (fun x1 x2 => x1 ++ x2) #[] (List.replicate m its.toArray) = (List.replicate m its).flatten.toArray := fun m => by
   have := lM its m []
   rw [List.nil_append] at this
   exact this
  rw [f0]
  cases its with
  | nil => simp
  | cons a r' => rw [if_neg (by simp)]
 refine wpAny_binaryOp_repeat_ref (T := "list") (U := "int") (by decide) ⟨_, e, rfl⟩ (fun s' => typeIs_int s' k t) noFill_list_mul F.fills_int_mul F.slot_int_rmul repeat_list F.slot_int_index.lookup
  (call_meets F.slot_int_rmul (typeIs_int s k t) F.entry_int_rmul (F.args_int_rmul_2 _ _) (int___rmul___int_list k t l its.toArray n)
   ⟨e, rfl, ⟨_, e, rfl⟩, call_meets F.slot_list_mul ⟨_, e, rfl⟩ F.entry_list_mul (F.args_list_mul_2 _ _) (AutoListH.list___mul___list_int_3 l its.toArray n k t hfit hcap hlong) ⟨e, ?_⟩⟩)
 rw [hnew]
 exact ⟨.ref _, _, I.lnew (t' := s.toks) (r.rep k.toNat) (by rw [uY, Nat.mul_comm]; exact hz), rfl, q _ I.fresh⟩
end
section
variable {prog : Program} {w : World} {A : Around} {E : Value -> Shared -> Prop} {s : Shared}
end
section
variable {X : Cx}
end
end L2
namespace Att
open PySem PySem.W PySem.Calls PyProof.Rows
theorem ki {P : Params} {h : Heap} : ∀ (ns : List Int) (vs : List Value), WellAll P h vs (ns.map WData.int) -> IntsAre vs ns := by
 intro ns
 induction ns with
 | nil =>
  intro vs w
  rw [List.map_nil] at w
  cases w
  exact .nil
 | cons n ns ih =>
  intro vs w
  rw [List.map_cons] at w
  cases w with
  | cons a b =>
   cases a
   exact .cons _ _ (ih _ b)
theorem qi {l : OpenLaw} {n : Nat} (hn : l.most = some n) {P : Params} {h : Heap} {args : List WData} {vals : List Value}
  (hpre : l.row.toRowW.claim.pre args = true) (hwl : WellAll P h vals args) :
  ∃ a vs ns, vals = [Value.ref a] /\ args = [WData.list (ns.map WData.int)] /\ h.get? a = some { cls := .type "list", data := .seq vs.toArray } /\ IntsAre vs ns /\ ns.length <= n := by
 have hsh : WShape.hasAll [] args [.list .int] = true := (pre_splitW hpre).1
 have hc : l.pre.holds [] { args := args } = true := (pre_splitW hpre).2
 obtain ⟨d, r, rfl, h1, h2⟩ := hasAllW_cons hsh
 obtain rfl := hasAllW_nil h2
 obtain ⟨xs, rfl, h3⟩ := hasW_list h1
 obtain ⟨ns, rfl⟩ := items_int h3
 have hlen : ns.length <= n := by
  unfold OpenLaw.pre at hc
  have h4 : (WTm.not (.lt (.lit (.int (n : Int))) (.len (.arg 0)))).holds [] { args := [.list (ns.map .int)] } = true := by
   have h4 := (holds_andW hc).1
   rw [hn] at h4
   exact h4
  have h5 := condW_of h4 (w_not (w_lt w_lit (w_len_list (w_arg rfl))))
  rw [List.length_map] at h5
  refine Nat.le_of_not_lt fun q => ?_
  have q' : (n : Int) < ((ns.length : Nat) : Int) := by omega
  first
   | (rw [decide_eq_true q'] at h5; exact absurd h5 (by decide))
   | (simp at h5; omega)
 cases hwl with
 | cons w1 w2 =>
  cases w2
  cases w1 with
  | list ho hall => exact ⟨_, _, ns, rfl, rfl, ho, ki ns _ hall, hlen⟩
theorem qt (l : OpenLaw) (args : List WData) : l.row.toRowW.claim.post args (.bool true) args = true :=
 postW_of (r := l.row.toRowW) (X := (true == true))
  (show WShape.has [] (.bool true) .bool = true by first | rfl | decide | simp [WShape.has, WShape.arms, WShape.armsAll])
  (show (WTm.eq .res (.lit (.bool true))).value [] { args := args, res := some (.bool true), after := args } = some (.bool (true == true)) from w_eq_bool (w_res rfl) w_lit) rfl
theorem attach_call {l : OpenLaw} {n : Nat} {q : Program} {loose : List Str} {XP : (Str -> Option Value) -> Heap -> Prop} {YP : World -> Heap -> Prop} {d : DefRec}
  (hn : l.most = some n) (hdf : d.params.defaults = [])
  (call : ∀ (w : World) (s₀ s₁ : Shared) (mg mb : Str -> Option Value) (fa : Addr) (o : Obj) (pm cd doc : Value) (a : Addr) (vs : List Value) (ns : List Int),
   Ground q loose [] XP w s₀ mg mb s₁.heap -> YP w s₁.heap ->
   s₁.heap.get? fa = some o -> o.data = .func (docDef d.name d.params d.body d.scope pm cd doc) -> s₁.heap.CodeRec cd d.name -> mg d.name = some (.ref fa) ->
   s₁.heap.get? a = some { cls := .type "list", data := .seq vs.toArray } -> IntsAre vs ns -> ns.length <= n -> s₁.gens = #[] ->
   codeAny (model l.prog w) callerA (.call (.ref fa) ⟨[.ref a], []⟩) (fun r s' => r = .ok (.ret (.bool true)) /\ OldK s₁.heap s'.heap /\ s'.os = s₁.os /\ AllBare s'.gens) s₁) :
  WalkO q loose XP YP l.row.toRowW d [] (fun f vs => PySem.call f vs) := by
 intro w s₀ s₁ mg mb G Y fa o pm cd doc dV kV ho hd hcd hD hmg hg args vals as hpre hlay hrd hwl hlo
 obtain rfl : dV = .none := Dflts.none hD hdf
 obtain rfl : kV = .none := Dflts.noKw hD
 obtain ⟨a, vs, ns, rfl, rfl, hobj, hints, hlen⟩ := qi hn hpre hwl
 refine enter_call (codeAny_mono (call w s₀ s₁ mg mb fa o pm cd doc a vs ns G Y ho (fd_plain hd) hcd hmg hobj hints hlen hg) fun r s' hq => ?_)
 obtain ⟨rfl, h2, h3, h4⟩ := hq
 exact ⟨.inl ⟨.bool true, .bool true, [], rfl, fun _ => rfl, .bool true, qt l _, fun _ => ⟨List.Pairwise.nil, fun _ hm => (nomatch hm)⟩⟩, h2, h3, h4⟩
section
variable {prog : Program} {w : World} {A : Around} {E : Value -> Shared -> Prop} {s : Shared} {K : Frag}
end
end Att
namespace L2
open PySem PySem.Spec PyProof.Rows
theorem lu : ∀ {vs : List Value} {ns : List Int}, IntsAre vs ns -> am (ns.map V.int) vs
 | _, _, .nil => .nil
 | _, _, .cons n t h => .cons ⟨t, rfl⟩ (lu h)
def tj (H : Hp) : Prop := ∀ b, H b = none \/ ∃ o xs, H b = some (.frz o (.lst xs))
theorem sC {P : Program} {w : World} {K : Frag} {mg mb : Str -> Option Value} {CX : CXT} {k : Nat} {fa a : Addr} {fd : FuncData} {x : Str} {sp : Sp} {s₁ : Shared} {vs : List Value} {ns : List Int}
  (KX : K.In s₁.heap) (hns : s₁.heap.Ns mainGlobals mg) (hb : s₁.heap.Ns builtinsNs mb) (hbb : ∀ x : Str, x ≠ "__name__" -> mb x = bootBuiltins x) (hlim : s₁.heap.NoLimit) (hg : s₁.gens = #[])
  (ha : s₁.heap.get? a = some { cls := .type "list", data := .seq vs.toArray }) (hi : IntsAre vs ns) (hl : ns.length <= sizeLine) (hr : Room k callerA)
  (F : ∀ base : Heap, K.In base -> base.Ns mainGlobals mg -> FnOk P w K mg base CX k fa fd [x] sp) (hbind : ∀ (s : Shared) (u : Value), BindsTo s fd ⟨[u], []⟩ [(x, u)])
  (hsp : ∀ H : Hp, tj H -> SqL K H a (ns.map V.int) -> sp [.ref a] H (fun v _ => v = .bl true) fun _ _ _ => False)
  (hCX : ∀ H e s', CX [] H s₁ (fun _ _ _ => False) e s' -> False) :
  codeAny (model P w) callerA (.call (.ref fa) ⟨[.ref a], []⟩) (fun r s' => r = .ok (.ret (.bool true)) /\ OldK s₁.heap s'.heap /\ s'.os = s₁.os /\ AllBare s'.gens) s₁ := by
 have rv := lu hi
 have lenV := hi.length
 -- from an abstract heap in which nothing but the script may be tracked
 have core : ∀ H : Hp, tj H -> SqL K H a (ns.map V.int) -> HOk P w H s₁.heap -> (∀ b, H b ≠ none -> b = a) -> (H a ≠ none -> K.lookup a = none) ->
   codeAny (model P w) callerA (.call (.ref fa) ⟨[.ref a], []⟩) (fun r s' => r = .ok (.ret (.bool true)) /\ OldK s₁.heap s'.heap /\ s'.os = s₁.os /\ AllBare s'.gens) s₁ := by
  intro H hO hS hok hA hK
  have base_of : ∀ {b : Addr} {o : Obj}, s₁.heap.get? b = some o -> H b = none -> (gD s₁.heap H).get? b = some o := fun e n => sJ e n
  have noA : ∀ {b : Addr} {o : Obj} {es : Array DictEntry} {ep : Nat}, s₁.heap.get? b = some o -> o.data = .dict es ep -> H b = none := fun {b o es ep} e d => by
   cases q : H b with
   | none => rfl
   | some u =>
    have e' : b = a := hA b (by rw [q]; simp)
    subst e'
    rw [ha] at e; cases e
    have d' : Data.seq vs.toArray _ = Data.dict es ep := d
    cases d'
  have nsK : ∀ {b : Addr} {m : Str -> Option Value}, s₁.heap.Ns b m -> (gD s₁.heap H).Ns b m := fun {b m} ⟨o, es, ep, e, d, r⟩ => ⟨o, es, ep, base_of e (noA e d), d, r⟩
  have hKb : K.In (gD s₁.heap H) := fun b o e => base_of (KX b o e) (by
   cases q : H b with
   | none => rfl
   | some u =>
    have e' : b = a := hA b (by rw [q]; simp)
    subst e'
    rw [hK (by rw [q]; simp)] at e; cases e)
  have hM : Mod K mg (gD s₁.heap H) := ⟨hKb, nsK hns, ⟨mb, nsK hb, hbb⟩, let ⟨mc, h1, h2⟩ := hlim; ⟨mc, nsK h1, h2⟩⟩
  have e0 : Env0 P w K mg (gD s₁.heap H) callerA [] s₁ H := ⟨rfl, hM, fun b o e => uR e, Nat.le_of_eq (qR _ _), trivial, fun b hb => absurd (show b ∈ ([] : List Addr) from hb) (by simp), hok, .of_eq hg⟩
  refine codeAny_mono ((F _ hKb (nsK hns)).run callerA [] s₁ H ⟨[.ref a], []⟩ [.ref a] [.ref a] _ _ hr e0 (hbind s₁ (.ref a)) (.cons rfl .nil) (hsp H hO hS)) fun r s' h => ?_
  cases r with
  | error e => exact (hCX H e s' h).elim
  | ok fl =>
   cases fl with
   | next => exact False.elim h
   | brk => exact False.elim h
   | cont => exact False.elim h
   | ret u =>
    obtain ⟨v, H', os, bare, un, hok', r', q⟩ := h
    have q' : v = .bl true := q
    subst q'
    obtain rfl : u = Value.bool true := r'
    refine ⟨rfl, OldK.of_keep fun b o e => ?_, os, bare⟩
    cases q : H b with
    | none => exact un.keep b o e q (by intro z; exact absurd (show b ∈ ([] : List Addr) from z) (by simp)) (by simp)
    | some u =>
     rcases hO b with z | ⟨ob, xs, z⟩
     ·rw [q] at z; cases z
     ·have z2 := un.frzs b ob _ z
      obtain ⟨e1, _⟩ := hok b _ z
      obtain ⟨e2, _⟩ := hok' b _ z2
      rw [e] at e1; cases e1
      exact e2
 cases hk : K.lookup a with
 | some o =>
  -- the script is one of the module's own objects
  have e := KX a o hk
  rw [ha] at e
  cases e
  refine core (fun _ => none) (fun _ => .inl rfl) (.inr ⟨_, vs.toArray, _, hk, rfl, rfl, rfl, by rw [List.size_toArray, lenV]; exact hl, by simpa using rv⟩) (fun b u z => by have z' : (none : Option HO) = some u := z; cases z') (fun b z => absurd rfl z) fun z => absurd rfl z
 | none =>
  refine core (fun b => if b = a then some (.frz { cls := .type "list", data := .seq vs.toArray } (.lst (ns.map V.int))) else none) (fun b => ?_) (.inl (.inr ⟨{ cls := .type "list", data := .seq vs.toArray }, if_pos rfl⟩)) (fun b u z => ?_) (fun b z => ?_) fun _ => hk
  ·by_cases hb : b = a
   ·exact .inr ⟨_, _, if_pos hb⟩
   ·exact .inl (if_neg hb)
  ·by_cases hb : b = a
   ·have z' := (if_pos hb).symm.trans z
    cases z'
    subst hb
    exact ⟨ha, by rw [List.length_map]; exact hl, vs, _, rv, ha⟩
   ·have z' := (if_neg hb).symm.trans z
    cases z'
  ·by_cases hb : b = a
   ·exact hb
   ·exact absurd (if_neg hb) z
theorem walk_of {l : PySem.W.OpenLaw} {n k : Nat} {q : Program} {loose : List Str} {XP : (Str -> Option Value) -> Heap -> Prop} {YP : World -> Heap -> Prop} {d : DefRec} {K : Params -> Frag} {CX : World -> CXT} {sp : World -> Sp} {x : Str}
  (hn : l.most = some n) (hn2 : n <= sizeLine) (hdf : d.params.defaults = []) (hr : Room k callerA)
  (hY : ∀ (w : World) (h : Heap), YP w h -> (K w.params).In h)
  (F : ∀ (w : World) (mg : Str -> Option Value) (fa : Addr) (h : Heap), (K w.params).In h -> h.Ns mainGlobals mg -> mg d.name = some (.ref fa) ->
   ∃ fd : FuncData, (∀ (s : Shared) (u : Value), BindsTo s fd ⟨[u], []⟩ [(x, u)]) /\
    ∀ base : Heap, (K w.params).In base -> base.Ns mainGlobals mg -> FnOk l.prog w (K w.params) mg base (CX w) k fa fd [x] (sp w))
  (hsp : ∀ (w : World) (H : Hp) (a : Addr) (ns : List Int), ns.length <= n -> tj H -> SqL (K w.params) H a (ns.map V.int) -> sp w [.ref a] H (fun v _ => v = .bl true) fun _ _ _ => False)
  (hCX : ∀ (w : World) (H : Hp) (s : Shared) (e : Value) (s' : Shared), CX w [] H s (fun _ _ _ => False) e s' -> False) :
  PySem.W.WalkO q loose XP YP l.row.toRowW d [] (fun f vs => PySem.call f vs) := by
 refine Att.attach_call hn hdf fun w s₀ s₁ mg mb fa o pm cd doc a vs ns G Y ho hd hcd hmg hobj hints hlen hg => ?_
 have KX := hY w _ Y
 obtain ⟨fd, hb, hF⟩ := F w mg fa _ KX G.T.g hmg
 exact sC KX G.T.g G.T.b G.T.builtins G.T.nolimit hg hobj hints (Nat.le_trans hlen hn2) hr hF hb (fun H hO hS => hsp w H a ns hlen hO hS) fun H e s' => hCX w H s₁ e s'
end L2
/- THE LAST THEOREM (shape; LID, My.* are yours):
  My.Adr: a structure of the addresses that your layer names (classes, functions); My.Txt K t: a structure (Prop) of the equations over K;
  My.txt_mk : {K} {implicit addresses ..} (e1 : nsIn K mainGlobals "law" = some (some (.ref f))) (e2 : K.lookup f = some ⟨oc, od, .func (fnOf "law" "law" params body scope dV kV doc pm an cdv ct), sl⟩) (e3 : codeIn K cdv "law" = true) .. : ∃ t, My.Txt K t
set_option maxRecDepth 100000 in
set_option maxHeartbeats 0 in
theorem PySem.Challenge.cw_LID_holds : PySem.Challenge.rw_LID.Holds := by
 w_on; o_law; k_head; (case hw => w_witness2)
 k_fill
 refine L2.walk_of (l := PySem.Challenge.rw_LID) (n := 63) (k := 40) (x := "script") (CX := fun w => ..) (sp := fun _ => My.sp_law) rfl (by decide) rfl ⟨rfl, by decide, by decide⟩ (fun w h Y => PySem.W.kIn_of Y) ?F ?S ?C
 case F =>
  intro w mg fa h KX G hmg
  have T : ∃ t, My.Txt (L2.KOf KX) t := by
   dsimp only [L2.KOf]                          -- K must stand as «<heap const> w.params» for k_is
   refine' My.txt_mk ?e1 ?e2 ?e3 ..
   (case e1 => PySem.W.k_is)                    -- in the order: a name -> its address -> its object -> its parts
   (case e2 => PySem.W.k_is)
   ..
  obtain ⟨t, T⟩ := T
  have e0 := hmg.symm.trans (mg_of KX G T.law)
  cases e0                                       -- fa is the law's own address
  exact ⟨_, fun s u => .of_eq rfl, fun base kb nb => My.law_fn T kb nb⟩     -- if «.of_eq rfl» comes too early: refine' ⟨_, ?b, fun base kb nb => My.law_fn T kb nb⟩; exact fun s u => .of_eq rfl
 case S => exact fun w H a ns hl hO hS => ..
 case C => exact ..
(the tactic k_is has no namespace: write k_is) -/
namespace L2
open PySem PySem.Spec PyProof.Rows
def aq (s : Stmt) (j : Nat) : Stmt := match s with
 | .ClassDef _ _ _ body _ _ _ _ _ _ _ => body.getD j (.Pass ⟨0, 0, 0, 0⟩)
 | _ => .Pass ⟨0, 0, 0, 0⟩
def gq (s : Stmt) : Arguments := match s with
 | .FunctionDef _ a _ _ _ _ _ _ _ _ => a
 | _ => { posonlyargs := [], args := [], vararg := none, kwonlyargs := [], kw_defaults := [], kwarg := none, defaults := [] }
def br (s : Stmt) : List Stmt := match s with
 | .FunctionDef _ _ b _ _ _ _ _ _ _ => b
 | _ => []
def ak (s : Stmt) : Scope := match s with
 | .FunctionDef _ _ _ _ _ _ sc _ _ _ => sc
 | _ => { kind := .function, names := [], isGenerator := false, isCoroutine := false }
abbrev E0 : St -> XK := fun _ _ _ _ => False
section
variable {P : Program} {w : World} {K : Frag} {mg : Str -> Option Value} {base : Heap}
end
theorem lC {n : Nat} (h : n <= 1000) : n < sizeLine := Nat.lt_of_le_of_lt h (by decide)
section
variable {X : Cx}
theorem pv (i : Nat) {x : Str} {pos : Pos} (hN : X.N[i]? = some x := by rfl) (hv : Vis X.env.scope x := by first | exact Or.inl rfl | exact Or.inr (Or.inl rfl) | exact Or.inr (Or.inr rfl)) (hd : (x == ("__debug__" : Str)) = false := by decide)
  (hcd : (x == ("__classdict__" : Str)) = false := by decide) : PE X (.Name x pos) (jf i) := v8 hN hv hd hcd
end
theorem iteT {A B : Prop} (h : A) : if true = true then A else B := by
 rw [if_pos rfl]
 exact h
theorem ite2 {c A B : Prop} [Decidable c] (h1 : c -> A) (h2 : ¬ c -> B) : if c then A else B := by
 by_cases h : c
 ·rw [if_pos h]
  exact h1 h
 ·rw [if_neg h]
  exact h2 h
def bh (H H' : Hp) : Prop := ∀ b o, H b = some o -> H' b = some o
theorem bh.refl (H : Hp) : bh H H := fun _ _ h => h
theorem bh.trans {H H1 H2 : Hp} (a : bh H H1) (b : bh H1 H2) : bh H H2 := fun c o h => b c o (a c o h)
theorem bh.free {H H' : Hp} (e : bh H H') {l : Addr} (h : H' l = Option.none) : H l = Option.none := by
 cases q : H l with
 | none => rfl
 | some o =>
  rw [e l o q] at h
  cases h
theorem bK : ∀ (names : List (Str × NameKind)) (n : Nat) (acc : List (Str × Addr)), cellsFrom n names acc = cellsFrom n names [] ++ acc
 | [], _, _ => rfl
 | (x, k) :: r, n, acc => by
  unfold cellsFrom
  split
  ·rw [bK r (n + 1) ((x, n) :: acc), bK r (n + 1) [(x, n)], List.append_assoc]
   rfl
  ·exact bK r n acc
theorem d7 : ∀ {names : List (Str × NameKind)} {n : Nat} {x : Str} {c : Addr}, (x, c) ∈ cellsFrom n names [] -> (x, NameKind.cell) ∈ names
 | [], _, _, _, h => by cases h
 | (y, k) :: r, n, x, c, h => by
  unfold cellsFrom at h
  split at h
  ·rename_i hk
   rw [bK] at h
   rcases List.mem_append.mp h with h | h
   ·exact List.mem_cons_of_mem _ (d7 h)
   ·obtain ⟨rfl, _⟩ : x = y /\ c = n := by simpa using h
    obtain rfl : k = .cell := by simpa using hk
    exact List.mem_cons_self
  ·exact List.mem_cons_of_mem _ (d7 h)
def bH (cells : List (Str × Addr)) : List (Str × NameKind) -> List (Str × Addr) -> List (Str × Addr)
 | [], acc => acc
 | (x, k) :: r, acc => if k == .free then bH cells r ((x, (cells.lookup x).getD 0) :: acc) else bH cells r acc
theorem mem_cloF {cells : List (Str × Addr)} : ∀ {names : List (Str × NameKind)} {acc : List (Str × Addr)} {x : Str} {c : Addr}, (x, c) ∈ bH cells names acc -> (x, c) ∈ acc \/ ((x, NameKind.free) ∈ names /\ c = (cells.lookup x).getD 0)
 | [], _, _, _, h => .inl h
 | (y, k) :: r, acc, x, c, h => by
  unfold bH at h
  split at h
  ·rename_i hk
   obtain rfl : k = .free := by simpa using hk
   rcases mem_cloF h with h | ⟨h, e⟩
   ·rcases List.mem_cons.mp h with h | h
    ·cases h
     exact .inr ⟨List.mem_cons_self, rfl⟩
    ·exact .inl h
   ·exact .inr ⟨List.mem_cons_of_mem _ h, e⟩
  ·rcases mem_cloF h with h | ⟨h, e⟩
   ·exact .inl h
   ·exact .inr ⟨List.mem_cons_of_mem _ h, e⟩
theorem js {cells : List (Str × Addr)} : ∀ {names : List (Str × NameKind)} {acc : List (Str × Addr)} {p : Str × Addr}, p ∈ acc -> p ∈ bH cells names acc
 | [], _, _, h => h
 | (y, k) :: r, acc, p, h => by
  unfold bH
  split
  ·exact js (List.mem_cons_of_mem _ h)
  ·exact js h
theorem jr {cells : List (Str × Addr)} : ∀ {names : List (Str × NameKind)} {acc : List (Str × Addr)} {x : Str}, (x, NameKind.free) ∈ names -> (x, (cells.lookup x).getD 0) ∈ bH cells names acc
 | [], _, _, h => by cases h
 | (y, k) :: r, acc, x, h => by
  unfold bH
  rcases List.mem_cons.mp h with h | h
  ·cases h
   rw [if_pos (by decide)]
   exact js List.mem_cons_self
  ·split
   ·exact jr h
   ·exact jr h
theorem gS {α : Type} : ∀ {l : List (Str × α)} {x : Str} {c : α}, (x, c) ∈ l -> ∃ d, l.lookup x = some d
 | [], _, _, h => by cases h
 | (y, d) :: r, x, c, h => by
  rw [List.lookup_cons]
  cases hb : x == y with
  | true => exact ⟨d, rfl⟩
  | false =>
   rcases List.mem_cons.mp h with h | h
   ·cases h
    simp at hb
   ·exact gS h
theorem bA {α : Type} : ∀ {l : List (Str × α)} {x : Str} {c : α}, (l.map (·.1)).Nodup -> (x, c) ∈ l -> l.lookup x = some c
 | [], _, _, _, h => by cases h
 | (y, d) :: r, x, c, nd, h => by
  rw [List.map_cons] at nd
  obtain ⟨n1, n2⟩ := List.nodup_cons.mp nd
  rw [List.lookup_cons]
  rcases List.mem_cons.mp h with h | h
  ·cases h
   simp
  ·have : x ≠ y := fun e => n1 (e ▸ List.mem_map_of_mem (f := (·.1)) h)
   rw [beq_eq_false_iff_ne.mpr this]
   exact bA n2 h
theorem ln {env : Env} (f : Str × NameKind -> List (Str × Addr) -> Sem (ForInStep (List (Str × Addr))))
  (hf : ∀ name kind cs, f (name, kind) cs = if kind == .free then (do let a ← cellOf env name; pure (.yield ((name, a) :: cs))) else pure (.yield cs)) :
  ∀ (names : List (Str × NameKind)) (acc : List (Str × Addr)), (∀ y ∈ names, y.2 = .free -> ∃ c, env.cells.lookup y.1 = some c) -> forIn names acc f = pure (bH env.cells names acc)
 | [], _, _ => by rw [List.forIn_nil]; rfl
 | (x, k) :: r, acc, h => by
  rw [List.forIn_cons, hf]
  unfold bH
  have hr : ∀ y ∈ r, y.2 = .free -> ∃ c, env.cells.lookup y.1 = some c := fun y hy => h y (List.mem_cons_of_mem _ hy)
  by_cases hk : (k == NameKind.free) = true
  ·rw [if_pos hk, if_pos hk]
   obtain ⟨c, hc⟩ := h (x, k) List.mem_cons_self (by simpa using hk)
   have hc' : env.cells.lookup x = some c := hc
   have e : cellOf env x = pure c := by unfold cellOf; rw [hc']
   rw [e, hc']
   simp only [pure_bind]
   exact ln f hf r _ hr
  ·rw [if_neg hk, if_neg hk]
   simp only [pure_bind]
   exact ln f hf r _ hr
theorem pS {scope : Scope} {env : Env} (h : ∀ y ∈ scope.names, y.2 = .free -> ∃ c, env.cells.lookup y.1 = some c) : closureFor scope env = pure (bH env.cells scope.names []) := by
 simp only [closureFor]
 rw [ln (env := env) _ (fun name kind cs => by cases hk : kind == NameKind.free <;> simp [hk]) scope.names [] h]
 rfl
theorem sS {M : Model} {A : Around} {E : Value -> Shared -> Prop} {s : Shared} {scope : Scope} {globals : Addr} {cl : List (Str × Addr)} {qual : Str} {env : Env} {Q : Env -> Shared -> Prop}
  (hQ : ∀ h' : Heap, h'.Ns s.heap.objs.size (fun _ => none) -> (∀ b o, s.heap.get? b = some o -> h'.get? b = some o) ->
   (∀ n c, (n, c) ∈ cellsFrom (s.heap.objs.size + 1) scope.names [] -> h'.IsCell c none /\ s.heap.objs.size + 1 <= c) ->
   ((cellsFrom (s.heap.objs.size + 1) scope.names []).Pairwise fun x y => x.2 ≠ y.2) ->
   Q (newEnv scope s.heap.objs.size globals (cellsFrom (s.heap.objs.size + 1) scope.names cl) qual none .none (some env) builtinsNs) { s with heap := h' }) :
  wpAny M A (newFunctionEnv scope globals cl [] qual none .none (some env)) Q E s := by
 simp only [newFunctionEnv, Option.isSome_some, if_true]
 refine wpAny_bind (wpAny_alloc ?_)
 refine wpAny_bind (wpAny_layCells _ (fun name kind cells => by cases hkc : kind == NameKind.cell <;> simp [hkc]) _ _ _ _ ?_)
 have ok := cellsFrom_ok scope.names (s.heap.push { cls := .type "dict", data := .dict #[] }) (s.heap.objs.size + 1) [] ⟨fun _ _ hm => (nomatch hm), List.Pairwise.nil⟩ (by rw [Heap.size_push]; exact Nat.le_refl _)
 rw [Heap.size_push] at ok
 rw [show ({ s with heap := s.heap.push { cls := .type "dict", data := .dict #[] } } : Shared).heap.objs.size = s.heap.objs.size + 1 from Heap.size_push ..]
 have fin := hQ (pushCells (s.heap.push { cls := .type "dict", data := .dict #[] }) scope.names) ((Heap.Ns.new s.heap (.type "dict")).keeps (pushCells_keeps _ _)) (fun b o e => pushCells_keeps _ _ b o (Heap.get?_push_of_some _ e)) ok.empty ok.apart
 exact wpAny_bind (wpAny_pure (wpAny_pure fin))
abbrev aW (X : Cx) (Nc : List Str) (scope : Scope) (cl : List (Str × Addr)) (C : Addr) (fp : List Addr) (s : Shared) (H : Hp) : Cx :=
 { X with N := Nc, s₀ := s, H₀ := H, env := compEnvC scope cl C X.env, outer := X.stack, stack := X.stack, ex := fp, fn := fun x => scope.names.lookup x != some .free, pn := [], xe := fun _ _ => False }
theorem mem_relabel {scope : Scope} {env : Env} {y : Str × NameKind} (h : y ∈ (relabel scope env).names) : y ∈ scope.names \/ (y.2 = .cell /\ (y.1, NameKind.free) ∈ scope.names) := by
 obtain ⟨⟨n, k⟩, hm, e⟩ := List.mem_map.mp h
 dsimp only at e
 split at e
 ·rename_i hk
  cases e
  simp only [Bool.and_eq_true, beq_iff_eq] at hk
  obtain ⟨⟨hk, _⟩, _⟩ := hk
  subst hk
  exact .inr ⟨rfl, hm⟩
 ·cases e
  exact .inl hm
theorem sH {X : Cx} {pins : List (Addr × Obj)} {σ : St} {H : Hp} {s : Shared} {Nc vars : List Str} {caps : List Nat} {scope : Scope} {fp : List Addr} {h' : Heap} (I : Inv X pins σ H s)
  (hk : scope.kind = .function) (hnd : (scope.names.map (·.1)).Nodup) (hfree : ∀ y ∈ scope.names, y.2 = .free -> X.env.kindOf y.1 = some .cell \/ X.env.kindOf y.1 = some .free)
  (hNc : Nc = vars ++ caps.map (fun j => X.N.getD j Str.empty)) (hcap : ∀ j ∈ caps, j < X.N.length /\ scope.names.lookup (X.N.getD j Str.empty) = some .free)
  (hfp : ∀ b ∈ fp, cU X pins H b) (hfo : ∀ b ∈ fp, ∃ o, s.heap.get? b = some o) (ns : h'.Ns s.heap.objs.size fun _ => none) (keep : ∀ b o, s.heap.get? b = some o -> h'.get? b = some o)
  (ce : ∀ n c, (n, c) ∈ cellsFrom (s.heap.objs.size + 1) scope.names [] -> h'.IsCell c none /\ s.heap.objs.size + 1 <= c) (ca : (cellsFrom (s.heap.objs.size + 1) scope.names []).Pairwise fun x y => x.2 ≠ y.2) :
  Inv (aW X Nc scope (cellsFrom (s.heap.objs.size + 1) scope.names (bH X.env.cells scope.names [])) s.heap.objs.size fp s H) [] (List.replicate vars.length none ++ caps.map (fun j => σ.getD j none)) H { s with heap := h' } := by
 -- the cells
 have old : ∀ {x : Str} {c : Addr}, (x, c) ∈ bH X.env.cells scope.names [] -> X.env.cells.lookup x = some c /\ (x, NameKind.free) ∈ scope.names := fun {x c} h => by
  rcases mem_cloF h with h | ⟨hm, e⟩
  ·cases h
  ·obtain ⟨d, hd⟩ := I.ok.has x (hfree _ hm rfl)
   rw [hd] at e
   exact ⟨by rw [hd, e]; rfl, hm⟩
 have cases2 : ∀ {x : Str} {c : Addr}, (cellsFrom (s.heap.objs.size + 1) scope.names (bH X.env.cells scope.names [])).lookup x = some c ->
   (x, c) ∈ cellsFrom (s.heap.objs.size + 1) scope.names [] \/ (X.env.cells.lookup x = some c /\ (x, NameKind.free) ∈ scope.names) := fun {x c} h => by
  have h := PySem.mem_of_lookup h
  rw [bK] at h
  rcases List.mem_append.mp h with h | h
  ·exact .inl h
  ·exact .inr (old h)
 have freeC : ∀ {x : Str}, (x, NameKind.free) ∈ scope.names -> ∃ c, X.env.cells.lookup x = some c /\ (cellsFrom (s.heap.objs.size + 1) scope.names (bH X.env.cells scope.names [])).lookup x = some c := fun {x} hm => by
  obtain ⟨d, hd⟩ := I.ok.has x (hfree _ hm rfl)
  have e := jr (cells := X.env.cells) (acc := []) hm
  obtain ⟨c, hc⟩ := gS (l := cellsFrom (s.heap.objs.size + 1) scope.names (bH X.env.cells scope.names [])) (x := x) (c := (X.env.cells.lookup x).getD 0) (by rw [bK]; exact List.mem_append_right _ e)
  rcases cases2 hc with z | ⟨z, _⟩
  ·have z1 := bA hnd (d7 z)
   rw [bA hnd hm] at z1
   cases z1
  ·exact ⟨c, z, hc⟩
 have oldlt : ∀ {x : Str} {c : Addr}, X.env.cells.lookup x = some c -> c < s.heap.objs.size := fun {x c} h => let ⟨v, q⟩ := I.cell x c h; q.lt
 have nofr : H s.heap.objs.size = none := I.hok.fresh (Nat.le_refl _)
 have fsub : ∀ b ∈ frs X.stack, b ∈ X.env.locals :: X.fs := I.stkSub
 refine ⟨⟨I.ok.mod, hk, I.ok.glob, I.ok.blt, Nat.le_refl _, fun x y c h1 h2 => ?_, fun x hx => ?_, fun x c hf h => ?_, I.ok.hd, I.ok.frames, .inl rfl, fun b hb => ⟨?_, fun x c h e => ?_⟩, I.bs, Nat.le_trans I.ok.bsz I.sz, fun b o e hb => ?_, fun b hb hf => ?_, I.stack, I.stkFree⟩,
  rfl, I.bare, Un.kept keep, ⟨_, ns, fun i x v e1 e2 e3 => ?_⟩, fun x c h => ?_, nofr, fun x c h => ?_, fun p hp => absurd hp (by simp), I.hok.kept keep, ?_⟩
 ·rcases cases2 h1 with z1 | ⟨z1, _⟩ <;> rcases cases2 h2 with z2 | ⟨z2, _⟩
  ·exact name_of_addr ca z1 z2
  ·exact absurd (Nat.lt_of_lt_of_le (oldlt z2) (Nat.le_trans (Nat.le_succ _) (ce _ _ z1).2)) (Nat.lt_irrefl _)
  ·exact absurd (Nat.lt_of_lt_of_le (oldlt z1) (Nat.le_trans (Nat.le_succ _) (ce _ _ z2).2)) (Nat.lt_irrefl _)
  ·exact I.ok.inj _ _ _ z1 z2
 ·-- has
  have hx : (relabel scope X.env).names.lookup x = some .cell \/ (relabel scope X.env).names.lookup x = some .free := hx
  have hm : (x, NameKind.cell) ∈ scope.names \/ (x, NameKind.free) ∈ scope.names := by
   rcases hx with hx | hx
   ·rcases mem_relabel (PySem.mem_of_lookup hx) with z | ⟨_, z⟩
    ·exact .inl z
    ·exact .inr z
   ·rcases mem_relabel (PySem.mem_of_lookup hx) with z | ⟨_, z⟩
    ·exact .inr z
    ·exact .inr z
  rcases hm with hm | hm
  ·have q := cellsFrom_some scope.names (s.heap.objs.size + 1) (bH X.env.cells scope.names []) (x := x) (.inl (bA hnd hm))
   exact Option.isSome_iff_exists.mp q
  ·obtain ⟨c, _, hc⟩ := freeC hm
   exact ⟨c, hc⟩
 ·-- cab
  rcases cases2 h with z | ⟨_, z⟩
  ·exact Nat.le_trans (Nat.le_succ _) (ce _ _ z).2
  ·have z' : (scope.names.lookup x != some .free) = true := hf
   rw [bA hnd z] at z'
   exact absurd z' (by decide)
 ·obtain ⟨o, e⟩ := hfo b hb
  exact Nat.ne_of_lt (Heap.lt_size e)
 ·rcases cases2 h with z | ⟨z, _⟩
  ·obtain ⟨o, e'⟩ := hfo b hb
   subst e
   exact absurd (Nat.lt_of_lt_of_le (Heap.lt_size e') (Nat.le_trans (Nat.le_succ _) (ce _ _ z).2)) (Nat.lt_irrefl _)
  ·exact (hfp b hb).2.2.2.2.1 x c z e
 ·obtain ⟨_, _, _, h4, _⟩ := hfp b hb
  rcases h4 with z | z
  ·exact I.ok.noex b o e z
  ·exact absurd (Nat.lt_of_lt_of_le (Heap.lt_size (I.ok.bs b o e).1) z) (Nat.lt_irrefl _)
 ·obtain ⟨_, h2, h3, _⟩ := hfp b hb
  rcases List.mem_cons.mp (fsub b hf) with z | z
  ·exact h2 z
  ·exact h3 z
 ·-- the names' values
  have hi : ¬ i < vars.length := fun hi => by
   rw [List.getElem?_append_left (by simpa using hi), List.getElem?_replicate] at e2
   split at e2 <;> cases e2
  have e1' : (vars ++ caps.map (fun j => X.N.getD j Str.empty))[i]? = some x := by rw [← hNc]; exact e1
  rw [List.getElem?_append_right (by omega)] at e1'
  rw [List.getElem?_append_right (by simpa using hi)] at e2
  rw [List.length_replicate] at e2
  cases q : caps[i - vars.length]? with
  | none => rw [List.getElem?_map, q] at e2; cases e2
  | some j =>
   rw [List.getElem?_map, q] at e1' e2
   have e1'' : X.N.getD j Str.empty = x := Option.some.inj e1'
   have e2' : σ.getD j none = some v := Option.some.inj e2
   obtain ⟨hj, hfr⟩ := hcap j (List.mem_of_getElem? q)
   rw [e1''] at hfr
   obtain ⟨c, hc, hc'⟩ := freeC (PySem.mem_of_lookup hfr)
   have hNj : X.N[j]? = some x := by
    rw [← e1'', List.getD_eq_getElem?_getD, List.getElem?_eq_getElem hj]; rfl
   have hσj : σ[j]? = some (some v) := by
    have hl : j < σ.length := by rw [I.len]; exact hj
    rw [List.getD_eq_getElem?_getD, List.getElem?_eq_getElem hl] at e2'
    rw [List.getElem?_eq_getElem hl]
    exact congrArg some e2'
   have hkx := hfree _ (PySem.mem_of_lookup hfr) rfl
   obtain ⟨m, hn, hl⟩ := I.loc
   obtain ⟨u, r, l⟩ := hl j x v hNj hσj (hkx.elim (fun z => .inr (.inl z)) fun z => .inr (.inr z))
   refine ⟨u, r, .inr ⟨?_, c, hc', ?_⟩⟩
   ·rcases e3 with z | z | z
    ·exfalso
     rcases mem_relabel (PySem.mem_of_lookup z) with y | ⟨y, _⟩
     ·rw [bA hnd y] at hfr; cases hfr
     ·cases y
    ·exact .inl z
    ·exact .inr z
   ·rcases l with ⟨l, _⟩ | ⟨_, c', e, z⟩
    ·exfalso
     rcases hkx with y | y
     ·have y' : X.env.kindOf x = some .cell := y
      rw [l] at y'; cases y'
     ·have y' : X.env.kindOf x = some .free := y
      rw [l] at y'; cases y'
    ·rw [hc] at e
     cases e
     exact z.keeps keep
 ·rcases cases2 h with z | ⟨z, _⟩
  ·exact ⟨none, (ce _ _ z).1⟩
  ·obtain ⟨v, q⟩ := I.cell x c z
   exact ⟨v, q.keeps keep⟩
 ·rcases cases2 h with z | ⟨z, _⟩
  ·exact I.hok.fresh (Nat.le_trans (Nat.le_succ _) (ce _ _ z).2)
  ·exact I.freeC x c z
 ·show _ = Nc.length
  rw [hNc, List.length_append, List.length_append, List.length_replicate, List.length_map, List.length_map]
abbrev TB := St -> Hp -> (St -> Hp -> Prop) -> Prop
def gr (elt : Expr) (gens : List Comprehension) (scope : Scope) (pos : Pos) (d : Nat) (acc : Value) (env : Env) (k : Sem PySem.Fin) : Sem PySem.Fin :=
 match gens[d + 1]? with
 | some g' => do
  let x ← eval g'.iter env
  standAt g'.iter.pos
  let x ← if g'.is_async != 0 then foldedIterable g'.iter x else foldedSetIterable g'.iter env x
  let _ ← runOwn (.compStart (.ListComp elt gens scope pos) (d + 1) (← holding [x] (if g'.is_async != 0 then asyncIter x else pyIter x)) acc env) env
  k
 | none => do
  (do let _ ← call (.builtin "list.append") [acc, ← eval elt env])
  k
theorem nK {elt target iter : Expr} {ifs : List Expr} {gens : List Comprehension} {scope : Scope} {pos : Pos} {d : Nat} {it acc : Value} {env : Env} (hg : gens[d]? = some ⟨target, iter, ifs, 0⟩) :
  compTurn (.ListComp elt gens scope pos) d it acc env = (do
   standAt iter.pos
   match ← pyNext it with
   | none => pure (.done .next)
   | some v =>
    letOwnedTupleGo target it v
    assign target env v
    let mut ok := true
    for c in ifs do
     if ok then ok ← isTrue c env (eval c env)
    if ok then gr elt gens scope pos d acc env (again (.compLoop (.ListComp elt gens scope pos) d it acc env))
    else again (.compLoop (.ListComp elt gens scope pos) d it acc env)) := by
 unfold compTurn gr
 dsimp only
 rw [hg]
 dsimp only
 cases gens[d + 1]? <;> rfl
section
variable {prog : Program} {w : World} {A : Around} {R : Result -> Shared -> Prop} {s : Shared}
theorem sv {elt target iter : Expr} {ifs : List Expr} {gens : List Comprehension} {scope : Scope} {pos : Pos} {d : Nat} {it acc : Value} {env : Env} (hg : gens[d]? = some ⟨target, iter, ifs, 0⟩) (I : Nat -> Shared -> Prop)
  (turn : ∀ n s, I n s -> wpAny (model prog w) A (pyNext it) (fun r s₁ => match r with
   | none => R (.ok .next) s₁
   | some v => wpAny (model prog w) A (letOwnedTupleGo target it v) (fun _ s₁' => wpAny (model prog w) A (assign target env v) (fun _ s₂ =>
     wpAny (model prog w) A (forIn ifs true fun c r => if r = true then do let ok ← isTrue c env (eval c env); pure (ForInStep.yield ok) else pure (ForInStep.yield r)) (fun ok s₃ =>
      if ok = true then ∀ (k : Sem PySem.Fin) (Q' : PySem.Fin -> Shared -> Prop) (E' : Value -> Shared -> Prop), (∀ s₄ m, m < n -> I m s₄ -> wpAny (model prog w) A k Q' E' s₄) -> wpAny (model prog w) A (gr elt gens scope pos d acc env k) Q' E' s₃
      else ∃ m, m < n /\ I m s₃) (fun _ _ => False) s₂) (fun _ _ => False) s₁') (fun _ _ => False) s₁) (fun _ _ => False) s)
  (n : Nat) (h : I n s) :
  codeAny (model prog w) A (.compLoop (.ListComp elt gens scope pos) d it acc env) R s := by
 refine codeAny_loop rfl I (fun n s hI => ?_) n h
 show wpAny _ A ((compTurn (.ListComp elt gens scope pos) d it acc env).onRaise (fun x => do noteFrame x env; theTreesLotGoes x)) _ _ s
 refine wpAny_noted ?_
 rw [nK hg]
 refine wpAny_bind (wpAny_standAt (wpAny_bind (wpAny_mono (turn n s hI) (fun r s₁ h₁ => ?_) fun _ _ h' => h'.elim)))
 cases r with
 | none => exact wpAny_pure h₁
 | some v =>
  refine wpAny_bind (wpAny_mono h₁ (fun _ s₁' h₁' => ?_) fun _ _ h' => h'.elim)
  refine wpAny_bind (wpAny_mono h₁' (fun _ s₂ h₂ => wpAny_bind (wpAny_mono h₂ (fun ok s₃ h₃ => ?_) fun _ _ h' => h'.elim)) fun _ _ h' => h'.elim)
  cases ok with
  | false => exact wpAny_pure ⟨rfl, h₃⟩
  | true => exact h₃ _ _ _ fun s₄ m hm hI => wpAny_pure ⟨rfl, m, hm, hI⟩
theorem qh {elt target iter : Expr} {ifs : List Expr} {gens : List Comprehension} {scope : Scope} {pos : Pos} {d : Nat} {it acc : Value} {env : Env} (hg : gens[d]? = some ⟨target, iter, ifs, 0⟩)
  (h0 : codeAny (model prog w) A (.compLoop (.ListComp elt gens scope pos) d it acc env) R s)
  (h : wpAny (model prog w) A (pyIter it) (fun it' s' => codeAny (model prog w) A (.compLoop (.ListComp elt gens scope pos) d it' acc env) R s') (fun _ _ => False) s) :
  codeAny (model prog w) A (.compStart (.ListComp elt gens scope pos) d it acc env) R s := by
 refine codeAny_of_tree ?_
 show wpAny _ _ ((compStart (.ListComp elt gens scope pos) d it acc env).onRaise (fun x => do noteFrame x env; standAt theWindowsPlace)) _ _ s
 refine wpAny_notedAt ?_
 unfold compStart
 have hg' : (clausesOf (.ListComp elt gens scope pos))[d]? = some ⟨target, iter, ifs, 0⟩ := hg
 generalize (clausesOf (.ListComp elt gens scope pos))[d]? = og at hg' ⊢
 subst hg'
 show wpAny _ _ (ask >>= _) _ _ s
 refine wpAny_bind (wpAny_askSetting (wpAny_ite ?_))
 split
 ·first
   | exact wpAny_bind (wpAny_pure (wpAny_pure (And.intro rfl h0)))
   | exact wpAny_pure (And.intro rfl h0)
 ·first
   | exact wpAny_bind (wpAny_rule (wpAny_bind (wpAny_standAt (wpAny_bind (wpAny_mono h (fun it' s' h' => wpAny_pure (And.intro rfl h')) fun _ _ x => x.elim)))))
   | (refine wpAny_bind (wpAny_rule ?_); show wpAny _ _ (standAt iter.pos >>= _) _ _ s; exact wpAny_bind (wpAny_standAt (wpAny_bind (wpAny_mono h (fun it' s' h' => wpAny_pure (And.intro rfl h')) fun _ _ x => x.elim))))
end
def eU (X : Cx) (ifs : List Expr) (t : TT) : Prop :=
 ∀ (pins : List (Addr × Obj)) (s : Shared) (σ : St) (H : Hp) (Q : Bool -> Hp -> Prop), Inv X pins σ H s -> t σ H Q ->
  wpAny (model X.prog X.w) X.A (forIn ifs true fun c r => if r = true then do let ok ← isTrue c X.env (eval c X.env); pure (ForInStep.yield ok) else pure (ForInStep.yield r)) (TP X pins σ Q) X.xe s
def vD : TT := fun _ H Q => Q true H
theorem mZ {X : Cx} : eU X [] vD := fun _ _ _ H _ I h => wpAny_pure ⟨H, I, h⟩
def PB (X : Cx) (elt : Expr) (gens : List Comprehension) (scope : Scope) (pos : Pos) (d : Nat) (D : Addr) (t : TB) : Prop :=
 ∀ (pins : List (Addr × Obj)) (s : Shared) (σ : St) (H : Hp) (Q : St -> Hp -> Prop), Inv X pins σ H s -> t σ H Q ->
  ∀ (k : Sem PySem.Fin) (Q' : PySem.Fin -> Shared -> Prop) (E' : Value -> Shared -> Prop), (∀ s' σ' H', Inv X pins σ' H' s' -> Q σ' H' -> wpAny (model X.prog X.w) X.A k Q' E' s') -> wpAny (model X.prog X.w) X.A (gr elt gens scope pos d (.ref D) X.env k) Q' E' s
def dg (J : It) (g : TG) (tt : TT) (tb : TB) : TB := fun σ H Q => ∃ W : Nat -> Nat -> St -> Hp -> Prop, (∃ m, W 0 m σ H) /\ ∀ i m σ H, W i m σ H ->
 (J.stop i H /\ Q σ H) \/ (J.go i H /\ ∃ N : St -> Hp -> Prop, (∀ σ' H', N σ' H' -> ∃ m', m' < m /\ W (i + 1) m' σ' H') /\ ∀ x H', J.yld i H x H' -> g x σ H' fun σ2 H2 => tt σ2 H2 fun b H3 => if b = true then tb σ2 H3 N else N σ2 H3)
def pY (D : Addr) (te : TE) : TB := fun σ H Q => te σ H fun v H1 => ∃ xs, H1 D = some (.lst xs) /\ xs.length < sizeLine /\ Q σ (upd H1 D (.lst (xs ++ [v])))
def t8 (wi : TI) (lp : It -> TB) : TB := fun σ H Q => wi σ H fun J H1 => lp J σ H1 Q
section
variable {X : Cx} {elt target iter : Expr} {ifs : List Expr} {gens : List Comprehension} {scope : Scope} {pos : Pos} {d : Nat} {D : Addr}
theorem lP {g : TG} {tt : TT} {tb : TB} (hg : gens[d]? = some ⟨target, iter, ifs, 0⟩) (hc : X.calm = true) (hxe : X.xe = fun _ _ => False) (hgt : PG X target g) (hts : eU X ifs tt) (hb : PB X elt gens scope pos d D tb)
  {it : Addr} {fp : List Addr} {tn : Nat -> Heap -> Prop} {J : It} {pins : List (Addr × Obj)} {s : Shared} {σ : St} {H : Hp} {Q : St -> Hp -> Prop}
  (I : Inv X pins σ H s) (T : Turn X.prog X.w X.K target J fp it tn) (st : tn 0 s.heap) (hf : ∀ b ∈ fp, cU X pins H b) (h : dg J g tt tb σ H Q) :
  codeAny (model X.prog X.w) X.A (.compStart (.ListComp elt gens scope pos) d (.ref it) (.ref D) X.env) (fun r s' => r = .ok .next /\ ∃ σ' H', Inv X pins σ' H' s' /\ Q σ' H') s := by
 obtain ⟨W, ⟨m0, w0⟩, turn⟩ := h
 have stat : ∀ {H' : Hp}, (∀ b ∈ fp, H' b = none) -> ∀ b ∈ fp, cU X pins H' b := fun hn b hb => ⟨hn b hb, (hf b hb).2⟩
 have loop : codeAny (model X.prog X.w) X.A (.compLoop (.ListComp elt gens scope pos) d (.ref it) (.ref D) X.env) (fun r s' => r = .ok .next /\ ∃ σ' H', Inv X pins σ' H' s' /\ Q σ' H') s := by
  refine sv hg (fun n s' => ∃ i σ' H', Inv X pins σ' H' s' /\ tn i s'.heap /\ (∀ b ∈ fp, H' b = none) /\ W i n σ' H') ?_ m0 ⟨0, σ, H, I, st, fun b hb => (hf b hb).1, w0⟩
  rintro n s3 ⟨i, σ3, H3, I3, st3, fr3, w3⟩
  rcases turn i n σ3 H3 w3 with ⟨stop, qn⟩ | ⟨go, N, hN, step⟩
  ·refine thn (T.done X rfl rfl rfl hc i pins s3 σ3 H3 _ I3 (stat fr3) st3 stop) fun r s4 ⟨hr, I4⟩ => ?_
   subst hr
   exact ⟨rfl, σ3, H3, I4, qn⟩
  ·refine thn (T.item X rfl rfl rfl hc i pins s3 σ3 H3 _ I3 (stat fr3) st3 go) fun r s4 ⟨u, hr, h4⟩ => ?_
   subst hr
   refine thn h4 fun _ s5 ⟨x, H5, I5, r5, y5, st5, fr5⟩ => ?_
   have I5' := I5.pinned (stat fr5) (T.obj _ _ st5)
   have again : ∀ {σ7 : St} {H7 : Hp} {s7 : Shared}, Inv X (pins ++ hX fp s5.heap) σ7 H7 s7 -> N σ7 H7 -> ∃ m, m < n /\ ∃ i σ' H', Inv X pins σ' H' s7 /\ tn i s7.heap /\ (∀ b ∈ fp, H' b = none) /\ W i m σ' H' := fun {σ7 H7 s7} I7 n7 => by
    obtain ⟨m', hm, w7⟩ := hN σ7 H7 n7
    refine ⟨m', hm, i + 1, σ7, H7, I7.unpinned, T.keep _ _ _ st5 fun b hb o e => (I7.pin (b, o) (List.mem_append_right _ (List.mem_append_right _ (eh hb e)))).1, fun b hb => ?_, w7⟩
    obtain ⟨o, e, d⟩ := T.obj _ _ st5 b hb
    exact (I7.pin (b, o) (List.mem_append_right _ (List.mem_append_right _ (eh hb e)))).2.1
   have h6 := hgt _ s5 σ3 H5 x u _ I5' r5 (step x H5 y5)
   rw [hxe] at h6
   refine thn h6 fun _ s6 ⟨σ6, H6, I6, q6⟩ => ?_
   have h7 := hts _ s6 σ6 H6 _ I6 q6
   rw [hxe] at h7
   refine thn h7 fun b s7 ⟨H7, I7, q7⟩ => ?_
   cases b with
   | true =>
    rw [if_pos rfl] at q7 ⊢
    intro k Q' E' hk
    refine hb _ s7 σ6 H7 N I7 q7 k Q' E' fun s8 σ8 H8 I8 n8 => ?_
    obtain ⟨m, hm, z⟩ := again I8 n8
    exact hk s8 m hm z
   | false =>
    rw [if_neg Bool.false_ne_true] at q7 ⊢
    exact again I7 q7
 exact qh hg loop (T.self X.A 0 s _ _ st loop)
theorem aM {te : TE} (hg : gens[d + 1]? = none) (he : PE X elt te) (hxe : X.xe = fun _ _ => False) : PB X elt gens scope pos d D (pY D te) := by
 intro pins s σ H Q I h k Q' E' hk
 unfold gr
 rw [hg]
 have h1 := he pins s σ H _ I h
 rw [hxe] at h1
 refine wpAny_bind (wpAny_bind (wpAny_mono h1 (fun u s1 ⟨v, H1, I1, r, xs, hD, hz, q⟩ => ?_) fun _ _ f => f.elim))
 obtain ⟨z, its, n, rv, hl, e⟩ := I1.lstM hD
 refine wpAny_bind (call_meets F.slot_list_append ⟨_, e, rfl⟩ F.entry_list_append (F.args_list_append_2 _ _) (PySem.list_append D its.toArray n u (by rw [List.size_toArray]; omega)) ⟨e, ?_⟩)
 refine wpAny_pure (hk _ σ _ (I1.lset (its' := its ++ [u]) hD e (by simp) (rv.append (.cons r .nil)) ?_) q)
 rw [List.length_append, List.length_singleton]
 omega
theorem uL {target' iter' : Expr} {ifs' : List Expr} {g : TG} {tt : TT} {tb : TB} {wi : TI} (hg : gens[d + 1]? = some ⟨target', iter', ifs', 0⟩) (hc : X.calm = true) (hxe : X.xe = fun _ _ => False) (hi : PI X target' iter' wi)
  (hgt : PG X target' g) (hts : eU X ifs' tt) (hb : PB X elt gens scope pos (d + 1) D tb) (hs : ∀ x, foldedSetIterable iter' X.env x = pure x := by intro _; rfl) : PB X elt gens scope pos d D (t8 wi fun J => dg J g tt tb) := by
 intro pins s σ H Q I h k Q' E' hk
 unfold gr
 rw [hg]
 have h1 := hi pins s σ H _ I h
 rw [hxe] at h1
 refine wpAny_bind (wpAny_mono h1 (fun v s1 h1 => wpAny_bind (wpAny_standAt ?_)) fun _ _ f => f.elim)
 show wpAny _ _ (foldedSetIterable iter' X.env v >>= _) _ _ _
 refine wpAny_bind (wpAny_of_eq (hs v) ?_)
 show wpAny _ _ (holding [v] (pyIter v) >>= _) _ _ _
 refine wpAny_bind (wpAny_holding (wpAny_mono h1 (fun itv s2 h2 => ?_) fun _ _ f => f.elim))
 obtain ⟨it, fp, tn, J, H2, e, I2, T, st2, f2, q⟩ := h2
 subst e
 refine wpAny_bind (wpAny_runOwn (codeAny_mono (lP hg hc hxe hgt hts hb I2 T st2 f2 q) fun r s' ⟨hr, z⟩ => ?_))
 subst hr
 obtain ⟨σ', H', I', q'⟩ := z
 exact hk s' σ' H' I' q'
end
def ir (vars : List Str) (caps : List Nat) (σ : St) : St := List.replicate vars.length none ++ caps.map (fun j => σ.getD j none)
def jE (vars : List Str) (caps : List Nat) (wi : TI) (lp : Addr -> It -> TB) : TE := fun σ H Q => wi σ H fun J H1 => ∀ D, H1 D = none -> lp D J (ir vars caps σ) (upd H1 D (.lst [])) fun _ H' => Q (.ref D) H'
structure CmpScope (X : Cx) (scope : Scope) (Nc vars : List Str) (caps : List Nat) : Prop where
 kind : scope.kind = .function
 nd : (scope.names.map (·.1)).Nodup
 free : ∀ y ∈ scope.names, y.2 = .free -> X.env.kindOf y.1 = some .cell \/ X.env.kindOf y.1 = some .free
 names : Nc = vars ++ caps.map (fun j => X.N.getD j Str.empty)
 cap : ∀ j ∈ caps, j < X.N.length /\ scope.names.lookup (X.N.getD j Str.empty) = some .free
section
variable {X : Cx} {elt target iter : Expr} {ifs : List Expr} {rest : List Comprehension} {scope : Scope} {pos : Pos} {Nc vars : List Str} {caps : List Nat} {g : TG} {tt : TT} {tb : Addr -> TB} {wi : TI}
def xI (X : Cx) (pins : List (Addr × Obj)) (H : Hp) (C : Addr) : Prop := H C = none /\ C ≠ X.env.locals /\ X.s₀.heap.objs.size <= C /\ (∀ x c, X.env.cells.lookup x = some c -> c ≠ C) /\ ∀ p ∈ X.pn ++ pins, p.1 ≠ C
theorem lQ {pins : List (Addr × Obj)} {σ : St} {H : Hp} {s : Shared} {it : Addr} {fp : List Addr} {tn : Nat -> Heap -> Prop} {J : It} {E : Value -> Shared -> Prop} {QQ : Addr -> Hp -> Prop} {RR : Value -> Addr -> Result -> Shared -> Prop}
  (hc : X.calm = true) (S : CmpScope X scope Nc vars caps)
  (hb : ∀ (cl : List (Str × Addr)) (C : Addr) (fp : List Addr) (s : Shared) (H : Hp), PG (aW X Nc scope cl C fp s H) target g /\ eU (aW X Nc scope cl C fp s H) ifs tt /\ ∀ D, PB (aW X Nc scope cl C fp s H) elt (⟨target, iter, ifs, 0⟩ :: rest) scope pos 0 D (tb D))
  (I : Inv X pins σ H s) (T : Turn X.prog X.w X.K target J fp it tn) (st : tn 0 s.heap) (hf : ∀ b ∈ fp, cU X pins H b)
  (q : ∀ D, H D = none -> dg J g tt (tb D) (ir vars caps σ) (upd H D (.lst [])) fun _ H' => QQ D H')
  (hRR : ∀ (D C : Addr) (s' : Shared) (H' : Hp) (m : Str -> Option Value), Inv X pins σ H' s' -> s'.heap.Ns C m -> xI X pins H' C -> QQ D H' -> RR (.ref D) C (.ok .next) s') :
  wpAny (model X.prog X.w) X.A (newList []) (fun acc s₃ => wpAny (model X.prog X.w) X.A (newFunctionEnv scope X.env.globals (bH X.env.cells scope.names []) [] X.env.qual none .none (some X.env)) (fun cenv s₄ =>
   codeAny (model X.prog X.w) X.A (.compStart (.ListComp elt (⟨target, iter, ifs, 0⟩ :: rest) scope pos) 0 (.ref it) acc { cenv with scope := relabel scope X.env }) (RR acc cenv.locals) s₄) E s₃) E s := by
 refine wpAny_newObj_type ?_
 have hD : H s.heap.objs.size = none := I.fresh
 have I3 : Inv X pins σ (upd H s.heap.objs.size (.lst [])) { s with heap := s.heap.push { cls := .type "list", data := .seq ([] : List Value).toArray } } := I.lnew (t' := s.toks) .nil (Nat.zero_le _)
 generalize hs3 : ({ s with heap := s.heap.push { cls := .type "list", data := .seq ([] : List Value).toArray } } : Shared) = s3 at I3
 have q3 := q s.heap.objs.size hD
 have kp3 : ∀ b o, s.heap.get? b = some o -> s3.heap.get? b = some o := fun b o e => by rw [← hs3]; exact Heap.get?_push_of_some _ e
 have fo3 : ∀ b ∈ fp, ∃ o, s3.heap.get? b = some o := fun b hb => let ⟨o, e, _⟩ := T.obj _ _ st b hb; ⟨o, kp3 b o e⟩
 have f3 : ∀ b ∈ fp, cU X pins (upd H s.heap.objs.size (.lst [])) b := fun b hb' => ⟨by
  rw [upd_ne]
  ·exact (hf b hb').1
  ·obtain ⟨o, e, _⟩ := T.obj _ _ st b hb'
   exact Nat.ne_of_lt (Heap.lt_size e), (hf b hb').2⟩
 generalize hH3 : upd H s.heap.objs.size (.lst []) = H3 at I3 q3 f3
 generalize s.heap.objs.size = D at hD hH3 q3 ⊢
 refine sS fun h' ns keep ce ca => ?_
 have Ic := sH I3 S.kind S.nd S.free S.names S.cap f3 fo3 ns keep ce ca
 obtain ⟨b1, b2, b3⟩ := hb (cellsFrom (s3.heap.objs.size + 1) scope.names (bH X.env.cells scope.names [])) s3.heap.objs.size fp s3 H3
 have st4 : tn 0 h' := T.keep _ _ _ st fun b hb o e => keep b o (kp3 b o e)
 have f4 : ∀ b ∈ fp, cU (aW X Nc scope (cellsFrom (s3.heap.objs.size + 1) scope.names (bH X.env.cells scope.names [])) s3.heap.objs.size fp s3 H3) [] H3 b := fun b hb' =>
  ⟨(f3 b hb').1, (Ic.ok.exf b hb').1, Ic.ok.exfs b hb', .inl hb', (Ic.ok.exf b hb').2, fun p hp => absurd hp (by simp)⟩
 refine codeAny_mono (lP (X := aW X Nc scope (cellsFrom (s3.heap.objs.size + 1) scope.names (bH X.env.cells scope.names [])) s3.heap.objs.size fp s3 H3) (gens := ⟨target, iter, ifs, 0⟩ :: rest) (d := 0) rfl hc rfl b1 b2 (b3 D) Ic T st4 f4 q3) fun r s' ⟨hr, σ', H', I', q'⟩ => ?_
 subst hr
 obtain ⟨m, hm, _⟩ := I'.loc
 have C1 : X.env.locals < s3.heap.objs.size := I3.lt
 refine hRR D _ s' H' m (I3.call' (ch := fp) I'.os I'.base I'.hok I'.bare fun b hb' => ?_) hm ⟨I'.free, Nat.ne_of_gt C1, I3.sz, fun x c e z => ?_, fun p hp z => ?_⟩ q'
 ·obtain ⟨_, h2, h3, h4, h5, h6⟩ := hf b hb'
  exact ⟨h4, h2, h5, h6⟩
 ·obtain ⟨v, e'⟩ := I3.cell x c e
  exact absurd (z ▸ e'.lt) (Nat.lt_irrefl _)
 ·have := Heap.lt_size (I3.pin p hp).1
  rw [z] at this
  exact absurd this (Nat.lt_irrefl _)
theorem Inv.letgo {pins : List (Addr × Obj)} {σ : St} {H : Hp} {s : Shared} {C : Addr} {h' : Heap} (I : Inv X pins σ H s) (o : xI X pins H C) (hs : Heap.SameBut C s.heap h') : Inv X pins σ H { s with heap := h' } :=
 I.turned (t' := s.toks) (fun b ob hb e => (hs.2 b hb).trans e) o.1 (Ne.symm (Ne.symm o.2.1)) (.inr o.2.2.1) o.2.2.2.1 o.2.2.2.2
theorem CmpScope.clo (S : CmpScope X scope Nc vars caps) (ok : X.Ok) : closureFor scope X.env = pure (bH X.env.cells scope.names []) := pS fun y hy hk => ok.has y.1 (S.free y hy hk)
theorem CmpScope.loc (S : CmpScope X scope Nc vars caps) : ∀ x ∈ scope.names, x.2 = .local -> scope.names.lookup x.1 = some .local := fun x hx hk => bA S.nd (by rw [← hk]; exact hx)
theorem iC (hc : X.calm = true) (S : CmpScope X scope Nc vars caps) (hi : PI X target iter wi)
  (hb : ∀ (cl : List (Str × Addr)) (C : Addr) (fp : List Addr) (s : Shared) (H : Hp), PG (aW X Nc scope cl C fp s H) target g /\ eU (aW X Nc scope cl C fp s H) ifs tt /\ ∀ D, PB (aW X Nc scope cl C fp s H) elt (⟨target, iter, ifs, 0⟩ :: rest) scope pos 0 D (tb D))
  (hs : ∀ x, foldedSetIterable iter X.env x = pure x := by intro _; rfl) : PE X (.ListComp elt (⟨target, iter, ifs, 0⟩ :: rest) scope pos) (jE vars caps wi fun D J => dg J g tt (tb D)) := by
 intro pins s σ H Q I h
 rw [eval_ListComp]
 refine wpAny_comprehension_free (use := none) rfl hs (S.clo I.ok) S.kind S.loc (wpAny_mono (hi pins s σ H _ I h) (fun v s1 h1 => wpAny_mono h1 (fun itv s2 h2 => ?_) fun _ _ x => x) fun _ _ x => x)
 obtain ⟨it, fp, tn, J, H2, e, I2, T, st2, f2, q⟩ := h2
 subst e
 refine lQ (RR := fun acc C => compPost (model X.prog X.w) X.A X.xe none _ acc C) hc S hb I2 T st2 f2 q fun D C s' H' m I' ns oc q' => ?_
 exact ⟨m, ns, fun h' hs' => ⟨.ref D, H', I'.letgo oc hs', rfl, q'⟩⟩
theorem uC {i : Nat} {x : Str} {pos' spos : Pos} (hN : X.N.Nodup) (hi' : X.N[i]? = some x) (hx : Loc X.env.scope x) (hc : X.calm = true) (S : CmpScope X scope Nc vars caps) (hi : PI X target iter wi)
  (hb : ∀ (cl : List (Str × Addr)) (C : Addr) (fp : List Addr) (s : Shared) (H : Hp), PG (aW X Nc scope cl C fp s H) target g /\ eU (aW X Nc scope cl C fp s H) ifs tt /\ ∀ D, PB (aW X Nc scope cl C fp s H) elt (⟨target, iter, ifs, 0⟩ :: rest) scope pos 0 D (tb D))
  (hsw : swapsWith (.ListComp elt (⟨target, iter, ifs, 0⟩ :: rest) scope pos) (some (.Name x pos')) spos.line X.env = pure true := by rfl)
  (hs : ∀ x, foldedSetIterable iter X.env x = pure x := by intro _; rfl) (hf : X.fn x = true \/ X.env.scope.names.lookup x = some .local := by first | exact .inl rfl | exact .inr rfl | assumption) :
  PS X (.Assign [.Name x pos'] (.ListComp elt (⟨target, iter, ifs, 0⟩ :: rest) scope pos) spos) (fG (jE vars caps wi fun D J => dg J g tt (tb D)) (cN i)) := by
 intro pins s σ H D I h
 rw [exec_Assign_Name_used _ _ _ _ hsw]
 refine wpAny_bind (wpAny_standAt (wpAny_bind ?_))
 show wpAny _ X.A (do let _ ← comprehension (.ListComp elt (⟨target, iter, ifs, 0⟩ :: rest) scope pos) scope X.env _ (newList []) false (eval iter X.env) (some (assign (.Name x pos') X.env))) _ _ s
 refine wpAny_bind (wpAny_mono (wpAny_comprehension_free (use := some (assign (.Name x pos') X.env)) (Q := fun _ s' => SP X pins D .next s') rfl hs (S.clo I.ok) S.kind S.loc
  (wpAny_mono (hi pins s σ H _ I h) (fun v s1 h1 => wpAny_mono h1 (fun itv s2 h2 => ?_) fun _ _ e => e) fun _ _ e => e)) (fun _ s' hq => wpAny_pure (wpAny_pure hq)) fun _ _ e => e)
 obtain ⟨it, fp, tn, J, H2, e, I2, T, st2, f2, q⟩ := h2
 subst e
 refine lQ (RR := fun acc C => compPost (model X.prog X.w) X.A X.xe (some (assign (.Name x pos') X.env)) _ acc C) hc S hb I2 T st2 f2 q fun A C s' H' m I' ns oc q' => ?_
 show wpAny _ X.A (assign (.Name x pos') X.env (.ref A)) _ _ s'
 refine wpAny_assign_Name (lB I' hN hi' hx (v := .ref A) rfl (fun s2 I2 ⟨a, sb, ha⟩ => ?_) hf)
 have hCa : C ≠ a := by
  rcases ha with rfl | ha
  ·exact oc.2.1
  ·exact fun z => oc.2.2.2.1 x a ha z.symm
 exact ⟨m, ns.sameBut sb hCa, fun h' hs' => ⟨_, H', I2.letgo oc hs', q'⟩⟩
end
end L2
namespace L2
open PySem PySem.Spec
open Sem (wp)
open Builtin Builtin.ObjectAttr
abbrev bC (C : Addr) (dx : Option Addr) (t : Addr) : Obj := { cls := .ref C, dict := dx, data := .fields #[.ref t, .none, .none, .none, .bool false, .none] }
structure XShape (h : Heap) (C : Addr) (bm : List Value) : Prop where
 at_ : ∃ (nm q : Str) (N : Addr) (bs : List Value) (hdct : Bool) (sn : List Str) (sub : List Value) (ab : Bool) (col : Option Bool) (dd : Option Addr) (k0 k1 k2 k3 k5 : Option Value),
  h.get? C = some (excClassObj nm q C N bs bm hdct sn sub ab col dd k0 k1 k2 k3 k5 "ValueError.__new__")
 val : bm.contains (.type "ValueError") = true
 bas : bm.contains (.type "BaseException") = true
 att : bm.contains (.type "AttributeError") = false
 nam : bm.contains (.type "NameError") = false
section
variable {prog : Program} {w : World} {A : Around} {E : Value -> Shared -> Prop} {h : Heap} {g : Array GenState} {d : Drawn} {t : Nat} {os : OsState} {C : Addr} {bm rest : List Value}
theorem vb {R : Result -> Shared -> Prop} (S : XShape h C bm)
  (hq : R (.ok (.ret (.ref (h.objs.size + 1)))) ⟨(h.push { cls := .type "tuple", data := .seq rest.toArray }).push (bC C none h.objs.size), g, d, t, os⟩) (hrest : rest.length <= sizeLine) :
  codeAny (model prog w) A (.builtin "ValueError.__new__" ⟨.ref C :: rest, []⟩) R ⟨h, g, d, t, os⟩ := by
 obtain ⟨⟨nm, q, N, bs, hdct, sn, sub, ab, col, dd, k0, k1, k2, k3, k5, hC⟩, hV, hB, hA, hN⟩ := S
 have Fv := PySem.F.excBase_ValueError
 have hends := Fv.ends
 have hcB : (Value.ref C :: bm).contains (.type "ValueError") = true := by rw [List.contains_cons, hV, Bool.or_true]
 have hcA : (Value.ref C :: bm).contains (.type "AttributeError") = false := by rw [List.contains_cons, hA]; rfl
 have hcN : (Value.ref C :: bm).contains (.type "NameError") = false := by rw [List.contains_cons, hN]; rfl
 refine codeAny_builtinAt Fv.entry ?_
 unfold Builtin.«BaseException.__new__»
 refine wpAt_bind ?_
 show wpAt _ _ _ (stack >>= _) _ _ _
 refine wpAt_bind (wpAt_stack fun p below => wpAt_of_wpAny ?_)
 wp_walk
 refine wpAt_of_wpAny ?_
 rw [Fv.owner]
 repeat (first | with_reducible refine wpAny_madeHere_exc Fv.canon hC ?_ | with_reducible refine wpAny_loadPart_at hC ?_ | (with_reducible refine wpAny_isSubtype_exc hC ?_; first | rw [hcB] | rw [hcA] | rw [hcN]) | wp_step)
 show R _ _
 rw [Heap.size_push]
 exact hq
theorem l5 {K : Frag} {fI : Addr} {Q : PySem.Fin -> Shared -> Prop} (X : K.In h) (S : XShape h C bm) (hi : findIn K (.ref C) "__init__" = some (some (.ref fI))) (hf : isFn K (.ref fI) = true) (hrest : rest.length <= sizeLine)
  (hq : wpAny (model prog w) A (call (.ref fI) (.ref (h.objs.size + 1) :: rest)) (fun r s' => r = .none /\ Q (.done (.ret (.ref (h.objs.size + 1)))) s') E
   ⟨(h.push { cls := .type "tuple", data := .seq rest.toArray }).push { cls := .ref C, data := .fields #[.ref h.objs.size, .none, .none, .none, .bool false, .none] }, g, d, t, os⟩) :
  wpAny (model prog w) A (Builtin.«type.__call__» ⟨.ref C :: rest, []⟩) Q E ⟨h, g, d, t, os⟩ := by
 have S' := S
 obtain ⟨⟨nm, q, N, bs, hdct, sn, sub, ab, col, dd, k0, k1, k2, k3, k5, hC⟩, hV, hB, hA, hN⟩ := S
 have Fv := PySem.F.excBase_ValueError
 repeat (first | with_reducible refine wpAny_loadPart_at hC ?_ | with_reducible refine wpAny_madeBy_exc hC ?_ | wp_step)
 refine codeAny_call_builtin_code (Code.quiet_builtin _ Fv.quiet) (wpAny_check_new_subU Fv hV (OwnTail.base (bmB := bm)) hC ?_)
 refine vb S' ?_ hrest
 show wpAny _ _ _ _ _ _
 have keep : ∀ b o, h.get? b = some o -> ((h.push { cls := .type "tuple", data := .seq rest.toArray }).push { cls := .ref C, data := .fields #[.ref h.objs.size, .none, .none, .none, .bool false, .none] }).get? b = some o := fun b o e => Heap.get?_push_of_some _ (Heap.get?_push_of_some _ e)
 have hC1 := keep _ _ hC
 have X1 := X.keeps keep
 have hget : ((h.push { cls := .type "tuple", data := .seq rest.toArray }).push { cls := .ref C, data := .fields #[.ref h.objs.size, .none, .none, .none, .bool false, .none] }).get? (h.objs.size + 1) = some { cls := .ref C, data := .fields #[.ref h.objs.size, .none, .none, .none, .bool false, .none] } := by heap_get
 have hcC : (Value.ref C :: bm).contains (.ref C) = true := by simp
 unfold isInstance
 repeat (first | with_reducible refine wpAny_loadPart_at hget ?_ | (with_reducible refine wpAny_isSubtype_exc hC1 ?_; rw [hcC]) | wp_step)
 show wpAny _ _ (typeLookup (.ref C) _) _ _ _
 refine (looks_findIn X1 hi).here ?_
 refine wpAny_holding (wpAny_bind ((PySem.W.bind_fn X1 (.ref (h.objs.size + 1)) (beq_iff_eq.mp hf)).here ?_))
 refine wpAny_bind (wpAny_mono hq (fun r s' hr => ?_) fun _ _ x => x)
 obtain ⟨rfl, hQ⟩ := hr
 wp_walk
 exact hQ
theorem sR {K : Frag} {fI : Addr} {Q : Value -> Shared -> Prop} (X : K.In h) (S : XShape h C bm) (hi : findIn K (.ref C) "__init__" = some (some (.ref fI))) (hf : isFn K (.ref fI) = true) (hrest : rest.length <= sizeLine)
  (hq : wpAny (model prog w) (A.under (.builtin "type.__call__" ⟨.ref C :: rest, []⟩)) (call (.ref fI) (.ref (h.objs.size + 1) :: rest)) (fun r s' => r = .none /\ Q (.ref (h.objs.size + 1)) s') E
   ⟨(h.push { cls := .type "tuple", data := .seq rest.toArray }).push { cls := .ref C, data := .fields #[.ref h.objs.size, .none, .none, .none, .bool false, .none] }, g, d, t, os⟩) :
  wpAny (model prog w) A (call (.ref C) rest) Q E ⟨h, g, d, t, os⟩ := by
 have S' := S
 obtain ⟨⟨nm, q, N, bs, hdct, sn, sub, ab, col, dd, k0, k1, k2, k3, k5, hC⟩, hV, hB, hA, hN⟩ := S
 have f1 := tc_lookup
 have f2 := tc_bind (.ref C)
 have hT : (⟨h, g, d, t, os⟩ : Shared).TypeIs (.ref C) "type" := ⟨_, hC, rfl⟩
 refine wpAny_call (codeAny_of_tree ?_)
 show wpAny _ _ (callAny (.ref C) _) _ _ _
 repeat (any_goals (first | assumption | with_reducible refine wpAny_loadPart_at hC ?_ | wp_step))
 refine ⟨rfl, ?_⟩
 exact codeAny_call_builtin_at (Code.quiet_builtin _ (by decide +kernel)) entry_typeCall (wpAny_check_type_call_sub hC (l5 X S' hi hf hrest hq))
theorem lc {oe : Obj} {M : Model} {e : Addr} {Q : Unit -> Shared -> Prop} (S : XShape h C bm) (he : h.get? e = some oe) (hcls : oe.cls = .ref C) (hq : Q () ⟨h, g, d, t, os⟩) :
  wpAny M A (checkBuiltinCall "ValueError.__init__" ⟨.ref e :: rest, []⟩) Q E ⟨h, g, d, t, os⟩ := by
 obtain ⟨⟨nm, q, N, bs, hdct, sn, sub, ab, col, dd, k0, k1, k2, k3, k5, hC⟩, hV, hB, hA, hN⟩ := S
 have Fv := PySem.F.excBase_ValueError
 have hcB : (Value.ref C :: bm).contains (.type "ValueError") = true := by rw [List.contains_cons, hV, Bool.or_true]
 have hshort := Fv.noStar
 simp only [checkBuiltinCall, Fv.initKind, Fv.initSplit, Fv.initRow]
 repeat (first | (with_reducible refine wpAny_loadPart_at he ?_; rw [hcls]) | with_reducible refine wpAny_loadPart_at hC ?_ | (with_reducible refine wpAny_isSubtype_exc hC ?_; rw [hcB]) | wp_step)
 refine wpAny_onRaise ?_
 have star : ∀ (a b : String) (n : Nat), Bind.check ⟨.positional, "*", "ValueError", .self, [⟨"args", .varPos, false⟩]⟩ a b n (List.map (fun x => x.fst) ({ pos := Value.ref e :: rest } : Args).kw) = pure () := fun a b n => check_star_args _ _ _ _ _ _
 rw [star]
 exact wpAny_pure hq
theorem qX {dx : Option Addr} {t0 e : Addr} {Q : Value -> Shared -> Prop} (S : XShape h C bm) (he : h.get? e = some (bC C dx t0)) (hrest : rest.length <= sizeLine)
  (hq : ∀ h' : Heap, h'.get? e = some (bC C dx h.objs.size) -> (∀ b o, b ≠ e -> h.get? b = some o -> h'.get? b = some o) -> Q .none ⟨h', g, d, t, os⟩) :
  wpAny (model prog w) A (call (.builtin "ValueError.__init__") (.ref e :: rest)) Q E ⟨h, g, d, t, os⟩ := by
 have Fv := PySem.F.excBase_ValueError
 refine wpAny_call (codeAny_call_builtin Fv.init.plain Fv.initEntry (lc S he rfl ?_))
 have he2 := Heap.get?_push_of_some { cls := .type "tuple", data := .seq rest.toArray } he
 unfold Builtin.«BaseException.__init__»
 dsimp only
 refine wpAny_bind ?_
 refine wpAny_newTuple ?_ hrest
 unfold Builtin.BaseException.bexcPut
 refine wpAny_bind (wpAny_bind (wpAny_field he2 rfl (x := .ref t0) rfl ?_))
 refine wpAny_bind (wpAny_setField he2 rfl (by simp) ?_)
 dsimp only
 refine wpAny_letGo (wpAny_pure ?_)
 refine hq _ ?_ fun b o hb e1 => ?_
 ·rw [Heap.get?_update_self _ he2 rfl]
  rfl
 ·rw [Heap.get?_update_other _ _ (Ne.symm hb)]
  exact Heap.get?_push_of_some _ e1
end
def cQ : List Value -> Bool
 | [.type a, .type b, .type c, .type d] => a == "ValueError" && b == "Exception" && c == "BaseException" && d == "object"
 | .ref _ :: r => cQ r
 | _ => false
theorem mX (self : Value) : refuseLoop self "__setattr__" [.type "ValueError", .type "Exception", .type "BaseException", .type "object"] = pure () := by kernel_rfl
theorem jP (self : Value) : ∀ {l : List Value}, cQ l = true -> refuseLoop self "__setattr__" l = pure ()
 | [.type a, .type b, .type c, .type d], e => by
  simp only [cQ, Bool.and_eq_true, beq_iff_eq] at e
  obtain ⟨⟨⟨rfl, rfl⟩, rfl⟩, rfl⟩ := e
  exact mX self
 | .ref c :: r, e => by rw [refuseLoop_ref]; exact jP self (by cases r <;> exact e)
theorem oK : ∀ {l : List Value}, cQ l = true -> l.contains (.type "object") = true
 | [.type a, .type b, .type c, .type d], e => by
  simp only [cQ, Bool.and_eq_true, beq_iff_eq] at e
  obtain ⟨⟨⟨rfl, rfl⟩, rfl⟩, rfl⟩ := e
  decide
 | .ref c :: r, e => by rw [List.contains_cons, oK (l := r) (by cases r <;> exact e), Bool.or_true]
section
variable {prog : Program} {w : World} {A : Around} {E : Value -> Shared -> Prop} {s : Shared} {C e : Addr} {K : Frag} {cd : ClassData} {name : Str} {v : Value}
theorem sQ {R : Result -> Shared -> Prop} {tk : Tok} {oe : Obj} (X : K.In s.heap) (he : s.heap.get? e = some oe) (hcls : oe.cls = .ref C) (hc : clsIn K C = some cd) (hl : cQ cd.mro = true) (ht : findIn K (.ref C) name = some none)
  (h : ∀ b, wpAny (model prog w) A.in1 (storeInOwnDict (.ref e) (.ref C) (.str name tk) name v b)
   (fun fin s' => match fin with | .done f => R (.ok f) s' | .again c' => c'.quiet = true /\ codeAny (model prog w) A c' R s') (fun x s' => R (.error x) s') s) :
  codeAny (model prog w) A (.call (.builtin "object.__setattr__") ⟨[.ref e, .str name tk, v], []⟩) R s := by
 have SF := PySem.F.store_object
 have tp : Looks (model prog w) s.heap (typeOf (.ref e)) (.ref C) := by
  have := (PySem.W.Looks.ld (M := model prog w) (part := some headPart) he)
  exact this.andThen (by rw [hcls]; exact .now)
 have ne : cd.mro.isEmpty = false := by cases q : cd.mro with | nil => rw [q] at hl; cases hl | cons _ _ => rfl
 have sub : Looks (model prog w) s.heap (isInstance (.ref e) (.type "object")) true := tp.andThen (PySem.W.looks_mroIn X (by unfold mroIn; rw [hc, Option.bind_some, if_neg (by rw [ne]; decide), oK hl]))
 refine codeAny_call_builtin SF.slot.plain SF.entry (@PySem.W.check_slot (model prog w) _ _ s "object.__setattr__" "object" "__setattr__" (.ref e) [.str name tk, v] [] _ SF.kind SF.split sub (SF.args (.ref e) (.str name tk) v) ?_)
 have hm : Looks (model prog w) s.heap (mroOf (.ref C)) cd.mro := (looks_clsIn X hc).andThen .now
 rw [PySem.W.osa_eq, refuse_eq]
 refine wpAny_bind (wpAny_bind (tp.here (wpAny_bind (hm.here ?_))))
 rw [jP _ hl]
 refine wpAny_pure (wpAny_bind (tp.here (wpAny_bind ((looks_findIn X ht).here (wpAny_bind (wpAny_pure ?_))))))
 exact h _
theorem qZ {oe : Obj} {Q : Unit -> Shared -> Prop} (X : K.In s.heap) (he : s.heap.get? e = some oe) (hcls : oe.cls = .ref C) (hs : findIn K (.ref C) "__setattr__" = some (some (.builtin "object.__setattr__")))
  (h : codeAny (model prog w) A (.call (.builtin "object.__setattr__") ⟨[.ref e, .str name s.toks, v], []⟩) (fun r s' => match r with | .ok (.ret _) => Q () s' | .ok _ => False | .error x => E x s') { s with toks := s.toks + 1 }) :
  wpAny (model prog w) A (setAttr (.ref e) name v) Q E s := by
 have tp : Looks (model prog w) s.heap (typeOf (.ref e)) (.ref C) := by
  have := (PySem.W.Looks.ld (M := model prog w) (part := some headPart) he)
  exact this.andThen (by rw [hcls]; exact .now)
 refine wpAny_bind (wpAny_mkText (wpAny_bind (wpAny_bind (wpAny_bind (tp _ _ _ _ (fun _ _ e => e) (looks_findIn X hs _ _ _ _ (fun _ _ e => e) (wpAny_holding ?_)))))))
 rw [PySem.F.store_object.slot.bind]
 refine wpAny_bind (wpAny_pure (wpAny_bind (wpAny_call (codeAny_mono h fun r s' z => ?_))))
 rcases r with x | (v | _ | _ | _) <;> first | exact z | exact wpAny_pure (wpAny_pure z)
theorem sP {t0 : Addr} {Q : Unit -> Shared -> Prop} (X : K.In s.heap) (he : s.heap.get? e = some (bC C none t0))
  (hs : findIn K (.ref C) "__setattr__" = some (some (.builtin "object.__setattr__"))) (hc : clsIn K C = some cd) (hd : cd.hasDict = true) (hl : cQ cd.mro = true) (ht : findIn K (.ref C) name = some none)
  (hq : ∀ h' : Heap, h'.get? e = some (bC C (some s.heap.objs.size) t0) -> h'.Ns1 s.heap.objs.size (fun y => if y = name then some v else none) ->
   (∀ b o, b ≠ e -> s.heap.get? b = some o -> h'.get? b = some o) -> Q () { s with heap := h', toks := s.toks + 2 }) :
  wpAny (model prog w) A (setAttr (.ref e) name v) Q E s := by
 refine qZ X he rfl hs (sQ (s := { s with toks := s.toks + 1 }) X he rfl hc hl ht fun b => ?_)
 refine wpAny_bind (wpAny_pure (wpAny_bind (wpAny_bind (wpAny_loadPart he (wpAny_bind (PySem.W.Looks.here (s := { s with toks := s.toks + 1 }) (looks_clsIn X hc) ?_))))))
 rw [hd]
 refine wpAny_bind (wpAny_alloc ?_)
 have he2 := Heap.get?_push_of_some { cls := .type "dict", data := .dict #[] } he
 refine wpAny_bind (wpAny_update he2 (wpAny_pure ?_))
 have hu : ((s.heap.push { cls := .type "dict", data := .dict #[] }).update e fun o => { o with dict := some s.heap.objs.size }).get? e = some (bC C (some s.heap.objs.size) t0) := Heap.get?_update_self _ he2 rfl
 have hne : s.heap.objs.size ≠ e := Nat.ne_of_gt (Heap.lt_size he)
 have hn : ((s.heap.push { cls := .type "dict", data := .dict #[] }).update e fun o => { o with dict := some s.heap.objs.size }).Ns1 s.heap.objs.size fun _ => none := by
  refine Heap.Ns1.of_empty ((Heap.Ns.new s.heap (.type "dict")).sameBut (Heap.SameBut.update ..) hne)
 refine wpAny_bind (wpAny_pure (wpAny_bind ?_))
 refine wpAny_nsSet1 hn fun h' hn2 hs2 => ?_
 obtain ⟨oD, esD, epD, hoD, hdD, hcD⟩ := hn2.count (PySem.Within.cons name v PySem.Within.nil)
 refine wpAny_bind (wpAny_lookBehind hoD (by rw [hdD]; exact pastItsLine_dict (Nat.le_trans hcD (by show 1 <= sizeLine + 1; decide))) ?_)
 refine wpAny_pure (hq h' ((hs2.2 _ (Ne.symm hne)).trans hu) hn2 fun b o hb e1 => ?_)
 have hbs : b ≠ s.heap.objs.size := Nat.ne_of_lt (Heap.lt_size e1)
 refine (hs2.2 _ hbs).trans ?_
 rw [Heap.get?_update_other _ _ (Ne.symm hb)]
 exact Heap.get?_push_of_some _ e1
theorem qY {bm : List Value} {dx : Option Addr} {t0 : Addr} {env : Env} {M : Model} {x : Sem Value} {Q : Flow -> Shared -> Prop} (hh : A.handled = none)
  (h : wpAny M A x (fun v s₁ => ∃ e t0 dx C bm, v = .ref e /\ XShape s₁.heap C bm /\ s₁.heap.get? e = some (bC C dx t0) /\ E (.ref e) s₁) E s) : wpAny M A (raiseStmt env (some x) none) Q E s := by
 unfold raiseStmt
 refine wpAny_bind (wpAny_mono h (fun v s₁ h₁ => ?_) fun _ _ x => x)
 obtain ⟨e, t0, dx, C, bm, rfl, S, he, hE⟩ := h₁
 obtain ⟨⟨nm, q, N, bs, hdct, sn, sub, ab, col, dd, k0, k1, k2, k3, k5, hC⟩, hV, hB, hA, hN⟩ := S
 have hcB : (Value.ref C :: bm).contains (.type "BaseException") = true := by rw [List.contains_cons, hB, Bool.or_true]
 have he' : s₁.heap.get? e = some { cls := .ref C, dict := dx, data := .fields #[.ref t0, .none, .none, .none, .bool false, .none] } := he
 obtain ⟨hp, g, d, tk, os⟩ := s₁
 repeat (first | with_reducible refine wpAny_loadPart_at he' ?_ | with_reducible refine wpAny_loadPart_at hC ?_ | (with_reducible refine wpAny_isSubtype_exc hC ?_; rw [hcB]) | wp_step)
 exact wpAny_raiseNew_none hh hE
end
end L2
namespace L2
open PySem PySem.Spec PyProof.Rows
def cf (C x : Addr) (dx : Option Addr) : HO := .ext fun h => ∃ t, h.get? x = some (bC C dx t)
theorem aX.there {P : Program} {w : World} {H : Hp} {h : Heap} {a : Addr} {o : HO} (x : aX P w H h a o) : ∃ ob, h.get? a = some ob := by
 cases o with
 | lst xs => obtain ⟨_, _, _, _, e⟩ := x; exact ⟨_, e⟩
 | tup xs => obtain ⟨_, _, _, _, e, _⟩ := x; exact ⟨_, e⟩
 | dK kvs => obtain ⟨_, _, _, _, o, _, _, e, _⟩ := x; exact ⟨_, e⟩
 | dT kvs => obtain ⟨_, _, _, _, o, _, _, e, _⟩ := x; exact ⟨_, e⟩
 | set S n => obtain ⟨o, _, _, _, e, _⟩ := x; exact ⟨_, e⟩
 | ins C dx fs => obtain ⟨_, _, _, e, _⟩ := x; exact ⟨_, e⟩
 | own y => exact x
 | xd fs => obtain ⟨_, ⟨_, _, _, e, _⟩, _⟩ := x; exact ⟨_, e⟩
 | rng lo hi => obtain ⟨_, _, _, e⟩ := x; exact ⟨_, e⟩
 | frz ob u => obtain ⟨e, _⟩ := x; exact ⟨_, e⟩
 | tbl ps => exact ⟨_, (show h.get? a = some _ from x)⟩
 | met f y => exact ⟨_, (show h.get? a = some _ from x)⟩
 | ext φ => obtain ⟨_, e, _⟩ := x; exact e
theorem lf {P : Program} {w : World} {H : Hp} {h : Heap} {C x t : Addr} {dx : Option Addr} (e : h.get? x = some (bC C dx t)) : aX P w H h x (cf C x dx) :=
 ⟨⟨t, e⟩, ⟨_, e⟩, fun _ _ ⟨t, e1⟩ k => ⟨t, k _ e1⟩⟩
theorem gK {P : Program} {w : World} {H : Hp} {h : Heap} {C x : Addr} {dx : Option Addr} (q : aX P w H h x (cf C x dx)) : ∃ t, h.get? x = some (bC C dx t) := q.1
def dk (H : Hp) (x : Addr) : Hp := fun b => if b = x then none else H b
theorem rf {H : Hp} {x : Addr} : dk H x x = none := by unfold dk; rw [if_pos rfl]
theorem eA {H : Hp} {x b : Addr} (h : b ≠ x) : dk H x b = H b := by unfold dk; rw [if_neg h]
theorem re {H : Hp} {x b : Addr} {o : HO} (h : dk H x b = some o) : b ≠ x /\ H b = some o := by
 unfold dk at h
 split at h
 ·cases h
 ·exact ⟨by assumption, h⟩
structure Flown (P : Program) (w : World) (outer : List Env) (H : Hp) (s : Shared) (E : XK) (x C : Addr) (H' : Hp) (s' : Shared) : Prop where
 os : s'.os = s.os
 bare : AllBare s'.gens
 un : Un (frs outer) [] H H' s.heap s'.heap
 hok : HOk P w H' s'.heap
 tr : ∃ (oe : Obj) (vs : Array Value) (T : Addr) (oT : Obj) (ts : Array Value) (a0 : Value), s'.heap.get? x = some oe /\ (oe.cls = .ref C /\ vs[0]? = some a0) /\ oe.data = .fields vs /\ vs[1]? = some (.ref T) /\ T ≠ x /\ s'.heap.get? T = some oT /\ oT.data = .fields ts /\ ts[3]? = some .none /\ H' T = none /\ s.heap.get? T = none
 xn : H' x = none
 xs : s.heap.get? x = none
 wish : E (.ref C) none H'
def CXE (P : Program) (w : World) : CXT := fun outer H s E e s' => ∃ x C H', e = .ref x /\ Flown P w outer H s E x C H' s'
theorem lI {X : Cx} {pins : List (Addr × Obj)} {σ : St} {H H' : Hp} {s s' : Shared} {h' : Heap} {ext : List Addr} {x C : Addr} {a0 : Value} {E : XK} (I : Inv X pins σ H s) (hst : X.stack = X.env :: X.outer) (hfr : X.env.frame = some X.env.locals) (hex : X.ex = [])
  (os : s'.os = X.s₀.os) (bare : AllBare s'.gens) (U0 : Un (frs X.stack) [] X.H₀ H' X.s₀.heap s'.heap) (hok : HOk X.prog X.w H' s'.heap) (hfn : ∀ b ∈ frs X.stack, H' b = none)
  (hext : ∀ b ∈ ext, X.s₀.heap.get? b = none /\ H' b = none) (hx : x ∈ ext) (wish : E (.ref C) none H')
  (L : Heap.LeftW (hideAll s'.heap (ext ++ frs X.stack)) (X.env :: X.outer) x (.ref C) a0 s'.heap h') : Flown X.prog X.w X.outer X.H₀ X.s₀ E x C H' { s' with heap := h' } := by
 obtain ⟨L1, L2, L3, L4⟩ := L
 have fsub : ∀ b ∈ frs X.outer, b ∈ frs X.stack := fun b hb => by
  rw [hst]; unfold frs; rw [List.filterMap_cons, hfr]; exact List.mem_cons_of_mem _ hb
 have fcase : ∀ b ∈ frs X.stack, b = X.env.locals \/ b ∈ frs X.outer := fun b hb => by
  rw [hst] at hb; unfold frs at hb; rw [List.filterMap_cons, hfr] at hb
  exact List.mem_cons.mp hb
 have nel : ∀ b o, X.s₀.heap.get? b = some o -> b ≠ X.env.locals := fun b o e => Nat.ne_of_lt (Nat.lt_of_lt_of_le (Heap.lt_size e) I.ok.above)
 have stay : ∀ b o, s'.heap.get? b = some o -> b ∉ ext -> b ∉ frs X.stack -> h'.get? b = some o := fun b o e h1 h2 =>
  L1 b o (hideAll_get _ e fun hm => (List.mem_append.mp hm).elim h1 h2)
 have nex : ∀ b o, X.s₀.heap.get? b = some o -> b ∉ ext := fun b o e hb => by rw [(hext b hb).1] at e; cases e
 have mem2 : ∀ b ∈ frs X.stack, ∃ o, h'.get? b = some o /\ ∀ vs, o.data ≠ .fields vs := fun b hb => (L2.mem (by rw [← hst]; exact hb)).2
 obtain ⟨oe, vs, T, oT, ts, he, hc, hd, h1, hnT, hTe, hT, hdT, h3⟩ := L3
 have hTT : H' T = none /\ X.s₀.heap.get? T = none := by
  by_cases hm : T ∈ ext ++ frs X.stack
  ·rcases List.mem_append.mp hm with hm | hm
   ·exact ⟨(hext T hm).2, (hext T hm).1⟩
   ·obtain ⟨o, e, nf⟩ := mem2 T hm
    rw [hT] at e; cases e
    exact absurd hdT (nf ts)
  ·have hs : s'.heap.get? T = none := by
    cases q : s'.heap.get? T with
    | none => rfl
    | some o => rw [hideAll_get _ q hm] at hnT; cases hnT
   constructor
   ·cases q : H' T with
    | none => rfl
    | some o => obtain ⟨ob, e⟩ := (hok T o q).there; rw [hs] at e; cases e
   ·cases q : X.s₀.heap.get? T with
    | none => rfl
    | some o => obtain ⟨ob, e⟩ := U0.there T o q (by simp); rw [hs] at e; cases e
 refine ⟨os, bare, ⟨fun b o e n hb _ => ?_, fun b o e n hb _ => ?_, fun b o e n hb => U0.free b o e n hb, fun b o e _ => ?_, U0.tups, U0.frzs, U0.tbls⟩, fun a o e => ?_, ⟨oe, vs, T, oT, ts, a0, he, hc, hd, h1, hTe, hT, hdT, h3, hTT.1, hTT.2⟩, (hext x hx).2, (hext x hx).1, wish⟩
 ·have nf : b ∉ frs X.stack := fun z => (fcase b z).elim (nel b o e) hb
  exact stay b o (U0.keep b o e n nf (by simp)) (nex b o e) nf
 ·obtain ⟨sl, e1⟩ := U0.slot b o e n (fsub b hb) (by simp)
  obtain ⟨_, o', e2, nf⟩ := I.ok.funs.mem hb
  rw [e] at e2; cases e2
  obtain ⟨sl', e3⟩ := L4 b _ e1 nf
  exact ⟨sl', e3⟩
 ·obtain ⟨o', e1⟩ := U0.there b o e (by simp)
  by_cases hb : b ∈ frs X.stack
  ·obtain ⟨o2, e2, _⟩ := mem2 b hb
   exact ⟨o2, e2⟩
  ·exact ⟨o', stay b o' e1 (nex b o e) hb⟩
 ·refine (hok a o e).stay (fun b u hb e1 => ?_) (fun _ q => q) fun _ _ q => q
  have hb' : H' b ≠ none := by
   rcases hb with rfl | hb
   ·rw [e]; simp
   ·rw [hb]; simp
  exact stay b u e1 (fun z => hb' (hext b z).2) fun z => hb' (hfn b z)
theorem lL {h base : Heap} {as : List Addr} {l : List Env} (hl : h.FunFrames base l) (hin : ∀ b ∈ frs l, b ∈ as) : h.FunFrames (hideAll h as) l :=
 PySem.W.funFrames_hide hl fun env he a ha => hin a (by unfold frs; exact List.mem_filterMap.mpr ⟨env, he, ha⟩)
theorem uM {X : Cx} {E E' : XK} (hst : X.stack = X.env :: X.outer) (hfr : X.env.frame = some X.env.locals) (hex : X.ex = []) (hE : ∀ cls dx H, E' cls dx H -> E cls dx H)
  {pins : List (Addr × Obj)} {σ : St} {H : Hp} {s s' : Shared} {e : Value} (I : Inv X pins σ H s) (h : CXE X.prog X.w X.stack H s E' e s') {E1 : Value -> Shared -> Prop} :
  wpAny (model X.prog X.w) X.A (leaving X.env e) (fun _ s'' => CXE X.prog X.w X.outer X.H₀ X.s₀ E e s'') E1 s' := by
 obtain ⟨x, C, H', rfl, os, bare, un, hok, ⟨oe, vs, T, oT, ts, a0, he, hc, hd, h1, hTe, hT, hdT, h3, hTn, hTs⟩, xn, xs, wish⟩ := h
 have nofs : ∀ b ∈ X.fs, b ∈ frs X.stack := fun b hb => by
  rw [hst]; unfold frs; rw [List.filterMap_cons, hfr]; exact List.mem_cons_of_mem _ hb
 have hU : Un (frs X.stack) [] X.H₀ H X.s₀.heap s.heap := by
  have b := I.base
  rw [hex] at b
  exact b.mono nofs fun _ z => z
 have U0 := hU.trans un
 have old : ∀ b, s.heap.get? b = none -> X.s₀.heap.get? b = none := fun b e => by
  cases q : X.s₀.heap.get? b with
  | none => rfl
  | some o => obtain ⟨o', e'⟩ := hU.there b o q (by simp); rw [e] at e'; cases e'
 have hstk := I.stack
 have hfun : s'.heap.FunFrames X.base X.stack := by
  have all : ∀ (l : List Env), (∀ b ∈ frs l, b ∈ frs X.stack) -> s.heap.FunFrames X.base l -> s'.heap.FunFrames X.base l := by
   intro l
   induction l with
   | nil => intro _ _; trivial
   | cons env r ih =>
    intro hs hl
    obtain ⟨hk, ⟨L, o, hf, hn, ho, hdd⟩, hr⟩ := hl
    have hL : L ∈ frs X.stack := hs L (by unfold frs; rw [List.filterMap_cons, hf]; exact List.mem_cons_self)
    obtain ⟨sl, e⟩ := un.slot L o ho (I.stkFree L hL) hL (by simp)
    exact ⟨hk, ⟨L, _, hf, hn, e, hdd⟩, ih (fun b hb => hs b (by unfold frs; rw [List.filterMap_cons, hf]; exact List.mem_cons_of_mem _ hb)) hr⟩
  exact all X.stack (fun _ hb => hb) hstk
 have hfn : ∀ b ∈ frs X.stack, H' b = none := fun b hb => by
  obtain ⟨_, o, ho, _⟩ := hstk.mem hb
  exact un.free b o ho (I.stkFree b hb) (by simp)
 have hin : ∀ b ∈ frs X.stack, b ∈ [x, T] ++ frs X.stack := fun b hb => List.mem_append_right _ hb
 have hF : s'.heap.FunFrames (hideAll s'.heap ([x, T] ++ frs X.stack)) (X.env :: X.outer) := by
  have z := lL hfun hin
  rw [hst] at z ⊢
  exact z
 refine wpAny_leaving_nextW (base := hideAll s'.heap ([x, T] ++ frs X.stack)) (by rw [← hst]; exact I.ok.frames) hF hfr ⟨oe, vs, T, oT, ts, he, hc, hd, h1, hideAll_none _ (by simp), hTe, hT, hdT, h3⟩ (fun b o q => of_hideAll _ q) (hideAll_none _ (by simp)) fun h' L => ?_
 refine ⟨x, C, H', rfl, lI I hst hfr hex (os.trans I.os) bare U0 hok hfn (fun b hb => ?_) (by simp) (hE _ _ _ wish) L⟩
 rcases List.mem_cons.mp hb with rfl | hb
 ·exact ⟨old _ xs, xn⟩
 ·obtain rfl : b = T := by simpa using hb
  exact ⟨old _ hTs, hTn⟩
theorem r9 {X : Cx} {E : XK} (hst : X.stack = X.env :: X.outer) (hfr : X.env.frame = some X.env.locals) (hex : X.ex = [])
  {pins : List (Addr × Obj)} {σ : St} {H : Hp} {s : Shared} {x C : Addr} {dx : Option Addr} (I : Inv X pins σ H s) (hH : H x = some (cf C x dx)) (h0 : X.H₀ x = none) (wish : E (.ref C) none (dk H x)) {E1 : Value -> Shared -> Prop} :
  wpAny (model X.prog X.w) X.A (leaving X.env (.ref x)) (fun _ s'' => CXE X.prog X.w X.outer X.H₀ X.s₀ E (.ref x) s'') E1 s := by
 obtain ⟨t, he⟩ := gK (I.hok x _ hH)
 have nofs : ∀ b ∈ X.fs, b ∈ frs X.stack := fun b hb => by
  rw [hst]; unfold frs; rw [List.filterMap_cons, hfr]; exact List.mem_cons_of_mem _ hb
 have hU : Un (frs X.stack) [] X.H₀ H X.s₀.heap s.heap := by
  have b := I.base
  rw [hex] at b
  exact b.mono nofs fun _ z => z
 have xs : X.s₀.heap.get? x = none := by
  cases q : X.s₀.heap.get? x with
  | none => rfl
  | some o => have := hU.free x o q h0 (by simp); rw [hH] at this; cases this
 have ne : ∀ b o, H b = some o -> (∀ φ, o ≠ .ext φ) -> b ≠ x := fun b o e hn z => by subst z; rw [hH] at e; cases e; exact hn _ rfl
 have U0 : Un (frs X.stack) [] X.H₀ (dk H x) X.s₀.heap s.heap := by
  refine ⟨hU.keep, hU.slot, fun b o e n hb => ?_, hU.there, fun b ys q => ?_, fun b o u q => ?_, fun b ps q => ?_⟩
  ·unfold dk; split
   ·rfl
   ·exact hU.free b o e n hb
  ·have := hU.tups b ys q
   rw [eA (ne b _ this fun _ z => by cases z)]; exact this
  ·have := hU.frzs b o u q
   rw [eA (ne b _ this fun _ z => by cases z)]; exact this
  ·obtain ⟨more, this⟩ := hU.tbls b ps q
   exact ⟨more, by rw [eA (ne b _ this fun _ z => by cases z)]; exact this⟩
 have hok : HOk X.prog X.w (dk H x) s.heap := fun a o e => by
  obtain ⟨na, e'⟩ := re e
  refine (I.hok a o e').stay (fun _ _ _ q => q) (fun b q => ?_) fun b ys q => ?_
  ·rw [eA (ne b _ q fun _ z => by cases z)]; exact q
  ·rw [eA (ne b _ q fun _ z => by cases z)]; exact q
 have hstk := I.stack
 have hfn : ∀ b ∈ frs X.stack, dk H x b = none := fun b hb => by
  unfold dk; split
  ·rfl
  ·exact I.stkFree b hb
 have hF : s.heap.FunFrames (hideAll s.heap ([x] ++ frs X.stack)) (X.env :: X.outer) := by
  have z := lL hstk (as := [x] ++ frs X.stack) fun b hb => List.mem_append_right _ hb
  rw [hst] at z ⊢
  exact z
 refine wpAny_leaving_firstW (base := hideAll s.heap ([x] ++ frs X.stack)) (a0 := .ref t) (by rw [← hst]; exact I.ok.frames) hF hfr he (fun b o q => of_hideAll _ q) (hideAll_none _ (by simp)) rfl rfl rfl fun h' L => ?_
 refine ⟨x, C, dk H x, rfl, lI (ext := [x]) I hst hfr hex I.os I.bare U0 hok hfn (fun b hb => ?_) (by simp) wish L⟩
 obtain rfl : b = x := by simpa using hb
 exact ⟨xs, rf⟩
section
variable {X : Cx} {pins : List (Addr × Obj)} {σ : St} {H H' : Hp} {s s' : Shared} {E : XK} {x C : Addr}
end
section
variable {X : Cx}
end
section
variable {X : Cx}
end
structure XC (K : Frag) (C : Addr) : Prop where
 sh : ∃ bm, ∀ h : Heap, K.In h -> XShape h C bm
 sa : findIn K (.ref C) "__setattr__" = some (some (.builtin "object.__setattr__"))
 cd : ∃ cd, clsIn K C = some cd /\ cd.hasDict = true /\ cQ cd.mro = true
theorem xK {K : Frag} {C N : Addr} {nm q : Str} {bs bm : List Value} {hdct : Bool} {sn : List Str} {sub : List Value} {ab : Bool} {col : Option Bool} {dd : Option Addr} {k0 k1 k2 k3 k5 : Option Value} {cd : ClassData}
  (l : K.lookup C = some (excClassObj nm q C N bs bm hdct sn sub ab col dd k0 k1 k2 k3 k5 "ValueError.__new__")) (sa : findIn K (.ref C) "__setattr__" = some (some (.builtin "object.__setattr__"))) (c : clsIn K C = some cd)
  (h1 : (bm.contains (.type "ValueError") && bm.contains (.type "BaseException") && !bm.contains (.type "AttributeError") && !bm.contains (.type "NameError") && cd.hasDict && cQ cd.mro) = true) : XC K C := by
 simp only [Bool.and_eq_true, Bool.not_eq_true'] at h1
 obtain ⟨⟨⟨⟨⟨a, b⟩, c'⟩, d⟩, e⟩, f⟩ := h1
 exact ⟨⟨bm, fun h X => ⟨⟨nm, q, N, bs, hdct, sn, sub, ab, col, dd, k0, k1, k2, k3, k5, X _ _ l⟩, a, b, c', d⟩⟩, sa, cd, c, e, f⟩
structure XMk (K : Frag) (C f : Addr) : Prop where
 xc : XC K C
 init : findIn K (.ref C) "__init__" = some (some (.ref f))
 fn : isFn K (.ref f) = true
 kp : keepIn K (.ref C) = true
section
variable {X : Cx} {CX : CXT} {k : Nat} {f C : Addr} {fd : FuncData} {ps : List Str} {sp : Sp} {dvs : List V} {ds : List Value} {E : St -> XK} {x m : Str} {p pos apos : Pos} {e o : Expr} {es : List Expr} {ta : TE} {t : TA}
def vF (C : Addr) (sp : Sp) (dvs : List V) (E : St -> XK) (t : TA) : TE := fun σ H Q => t σ H fun vs H1 => vs.length <= sizeLine /\ ∀ x, H1 x = none ->
 sp (.ref x :: (vs ++ dvs)) (upd H1 x (cf C x none)) (fun v H2 => v = .non /\ Q (.ref x) H2) (E σ)
theorem uz {pins : List (Addr × Obj)} {σ : St} {H : Hp} {s : Shared} {Q : VK} {us : List Value} {vs : List V} (M : XMk X.K C f) (F : FnOk X.prog X.w X.K X.mg X.base CX k f fd ps sp) (hr : Room (k + 1) X.A) (hb : ay X.K fd ps ds) (hd : am dvs ds)
  (hx : aP CX X E) (I : Inv X pins σ H s) (r : am vs us) (hz : vs.length <= sizeLine)
  (h : ∀ x, H x = none -> sp (.ref x :: (vs ++ dvs)) (upd H x (cf C x none)) (fun v H2 => v = .non /\ Q (.ref x) H2) (E σ)) :
  wpAny (model X.prog X.w) X.A (call (.ref C) us) (EP X pins σ Q) X.xe s := by
 have hq := h (s.heap.objs.size + 1) (I.hok.fresh (Nat.le_succ _))
 obtain ⟨bm, sh⟩ := M.xc.sh
 have I1 : Inv X pins σ H { s with heap := s.heap.push { cls := .type "tuple", data := .seq us.toArray } } := I.kept (t' := s.toks) fun b o q => Heap.get?_push_of_some _ q
 have eX : ((s.heap.push { cls := .type "tuple", data := .seq us.toArray }).push (bC C none s.heap.objs.size)).get? (s.heap.objs.size + 1) = some (bC C none s.heap.objs.size) := by
  have := Heap.get?_push_size (s.heap.push { cls := .type "tuple", data := .seq us.toArray }) (o := bC C none s.heap.objs.size) rfl
  rwa [Heap.size_push] at this
 have I2 : Inv X pins σ (upd H (s.heap.objs.size + 1) (cf C (s.heap.objs.size + 1) none)) { s with heap := (s.heap.push { cls := .type "tuple", data := .seq us.toArray }).push (bC C none s.heap.objs.size) } :=
  I1.laid (a := s.heap.objs.size + 1) (o := cf C (s.heap.objs.size + 1) none) (t' := s.toks) (fun b u q => Heap.get?_push_of_some _ q) (Nat.le_of_eq (Heap.size_push _ _)) (lf eX)
 have r2 : am (V.ref (s.heap.objs.size + 1) :: (vs ++ dvs)) (Value.ref (s.heap.objs.size + 1) :: (us ++ ds)) := .cons rfl (r.append hd)
 have hl : (Value.ref (s.heap.objs.size + 1) :: us ++ ds).length = ps.length := by
  have e := r2.length
  rw [F.len _ _ _ _ hq] at e
  exact e.symm
 have hcall : wpAny (model X.prog X.w) (X.A.under (.builtin "type.__call__" ⟨.ref C :: us, []⟩)) (call (.ref f) (.ref (s.heap.objs.size + 1) :: us)) (fun r s' => r = .none /\ EP X pins σ Q (.ref (s.heap.objs.size + 1)) s') X.xe
   { s with heap := (s.heap.push { cls := .type "tuple", data := .seq us.toArray }).push (bC C none s.heap.objs.size) } := by
  refine wpAny_call (codeAny_mono (F.run _ X.stack _ _ ⟨Value.ref (s.heap.objs.size + 1) :: us, []⟩ (Value.ref (s.heap.objs.size + 1) :: (us ++ ds)) _ _ (E σ) (hr.make C us [])
   (I2.env0.make C us []) (hb _ (Value.ref (s.heap.objs.size + 1) :: us) I2.kIn hl) r2 hq) fun r s' hq' => ?_)
  cases r with
  | error e => exact hx pins σ _ _ e s' I2 hq'
  | ok fl =>
   cases fl with
   | ret u =>
    obtain ⟨v, H', I3, rv, ev, q3⟩ := I2.after hq'
    subst ev
    exact ⟨rv, ⟨V.ref (s.heap.objs.size + 1), H', I3, rfl, q3⟩⟩
   | next => exact False.elim hq'
   | brk => exact False.elim hq'
   | cont => exact False.elim hq'
 obtain ⟨hh, g, d, tk, os⟩ := s
 exact sR I.kIn (sh _ I.kIn) M.init M.fn (by rw [← r.length]; exact hz) hcall
theorem hZ (M : XMk X.K C f) (F : FnOk X.prog X.w X.K X.mg X.base CX k f fd ps sp) (hr : Room (k + 1) X.A) (hg : Gl X x) (hm : X.mg x = some (.ref C)) (hb : ay X.K fd ps ds) (hd : am dvs ds) (hx : aP CX X E)
  (ha : PA X (e :: es) t) (hdb : (x == ("__debug__" : Str)) = false := by decide) (he : starEach (e :: es) X.env = (false, eval e X.env) :: starEach es X.env := by rfl) (hpl : (backTo pos (starEach es X.env)).any (·.1) = false := by rfl) :
  PE X (.Call (.Name x p) (e :: es) [] pos) (vF C sp dvs E t) := by
 intro pins s σ H Q I h
 refine wpAny_Call_Name_kw (gf I hg hm ?_ hdb)
 refine callWith_K (h₀ := X.base) I.ok.mod.kin M.kp (thn (ha pos pins s σ H _ I h) fun us s1 ⟨vs, H1, I1, r, hz, q⟩ => ⟨I1.kIn, ?_⟩) he hpl
 exact uz M F hr hb hd hx I1 r hz q
structure ClsFn (K : Frag) (D : Addr) (m : Str) (f : Addr) : Prop where
 ga : specialIn K (.ref D) "__getattribute__" = some (some (.builtin "type.__getattribute__"))
 rd : PySem.W.readsIn K D (.type "type") = true
 fnd : PySem.W.findCls K (.ref D) (.type "type") m = some (.val (.ref f))
 kp : keepIn K (.ref f) = true
theorem pq {D : Addr} {pl : Sem Bool} (c : ClsFn X.K D m f) (F : FnOk X.prog X.w X.K X.mg X.base CX k f fd ps sp) (hr : Room k X.A) (hg : Gl X x) (hm : X.mg x = some (.ref D)) (hb : ay X.K fd ps ds) (hd : am dvs ds) (hx : aP CX X E)
  (ha : PA X (e :: es) t) (hdb : (x == ("__debug__" : Str)) = false := by decide) (hst : starEach (e :: es) X.env = (false, eval e X.env) :: starEach es X.env := by rfl) (hpl : (backTo pos (starEach es X.env)).any (·.1) = false := by rfl)
  (ht : eval (.Call (.Attribute (.Name x p) m apos) (e :: es) [] pos) X.env = (do
   let ov ← eval (.Name x p) X.env
   standAt apos.atName
   let (f, first) ← holding [ov] (getMethod ov m pl)
   callWith pos f first (backTo pos (starEach (e :: es) X.env)) (backToKw pos (keywordEach [] X.env))) := by rfl) :
  PE X (.Call (.Attribute (.Name x p) m apos) (e :: es) [] pos) (tE sp dvs E t) := by
 intro pins s σ H Q I h
 refine methodCall_KW (pl := pl) (gf I hg hm ?_ hdb) ht
 refine PySem.W.method_cls I.kIn c.ga (PySem.W.cls_value I.kIn c.rd c.fnd rfl ?_)
 have I1 := I.tok (s.toks + 1)
 refine callWith_K (first := []) (h₀ := X.base) I.ok.mod.kin c.kp (thn (ha pos pins _ σ H _ I1 h) fun us s2 ⟨vs, H2, I2, r, q2⟩ => ⟨I2.kIn, ?_⟩) hst hpl
 exact jO F hr hb hd hx I2 r q2
def tVin (K : Frag) (t : TA) : TE := fun σ H Q => t σ H fun vs H1 => ∃ x C dx rest, vs = .ref x :: rest /\ rest.length <= sizeLine /\ H1 x = some (cf C x dx) /\ XC K C /\ Q .non (upd H1 x (cf C x dx))
theorem pV {pins : List (Addr × Obj)} {σ : St} {H : Hp} {s : Shared} {Q : VK} {us : List Value} {vs : List V} (I : Inv X pins σ H s) (r : am vs us)
  (h : ∃ x C dx rest, vs = .ref x :: rest /\ rest.length <= sizeLine /\ H x = some (cf C x dx) /\ XC X.K C /\ Q .non (upd H x (cf C x dx))) : wpAny (model X.prog X.w) X.A (call (.builtin "ValueError.__init__") us) (EP X pins σ Q) X.xe s := by
 obtain ⟨x, C, dx, rest, rfl, hz, hx, c, q⟩ := h
 cases r with
 | cons r1 r2 =>
  cases r1
  obtain ⟨t0, he⟩ := gK (I.hok x _ hx)
  obtain ⟨bm, sh⟩ := c.sh
  obtain ⟨hh, g, d, tk, os⟩ := s
  refine qX (sh _ I.kIn) he (by rw [← r2.length]; exact hz) fun h' e1 keep => ?_
  have I2 : Inv X pins σ (upd H x (cf C x dx)) ⟨h', g, d, tk, os⟩ := I.write (t' := tk) (x := x) (e := x) (by rw [hx]; exact True.intro) (.inl rfl) (fun b u hb q => keep b u hb q) ⟨_, e1⟩ (lf e1)
  exact ⟨.non, _, I2, rfl, q⟩
theorem uh : typeOf (.type "ValueError") = pure (.type "type") := by kernel_rfl
theorem ui : Manifest.isStub "ValueError" = false := by decide +kernel
theorem uj {K : Frag} : PySem.W.findCls K (.type "ValueError") (.type "type") "__init__" = some (.val (.builtin "ValueError.__init__")) := by kernel_rfl
set_option maxHeartbeats 4000000 in
theorem rZ {pl : Sem Bool} (hg : Gl X "ValueError") (hm : X.mg "ValueError" = none) (ha : PA X (e :: es) t) (hst : starEach (e :: es) X.env = (false, eval e X.env) :: starEach es X.env := by rfl) (hpl : (backTo pos (starEach es X.env)).any (·.1) = false := by rfl)
  (ht : eval (.Call (.Attribute (.Name "ValueError" p) "__init__" apos) (e :: es) [] pos) X.env = (do
   let ov ← eval (.Name "ValueError" p) X.env
   standAt apos.atName
   let (f, first) ← holding [ov] (getMethod ov "__init__" pl)
   callWith pos f first (backTo pos (starEach (e :: es) X.env)) (backToKw pos (keywordEach [] X.env))) := by rfl) :
  PE X (.Call (.Attribute (.Name "ValueError" p) "__init__" apos) (e :: es) [] pos) (tVin X.K t) := by
 intro pins s σ H Q I h
 obtain ⟨m, F⟩ := I.fr
 refine methodCall_KW (pl := pl) (gh I hg hm PyProof.Rows.Boot.«ValueError» ?_) ht
 refine PySem.W.method_type (v := .builtin "ValueError.__init__") F I.mod.kin uh ui uj rfl ?_
 have I1 := I.tok (s.toks + 1)
 exact PyProof.Rows.callWith_builtin1 (thn (ha pos pins _ σ H _ I1 h) fun us s1 ⟨vs, H1, I2, r1, q1⟩ => pV I2 r1 q1) hst hpl
def vQ (K : Frag) (ta tv : TE) (f : Str) : TS := fun D σ H => tv σ H fun y H1 => ta σ H1 fun x H2 => ∃ a C, x = .ref a /\ H2 a = some (cf C a none) /\ XC K C /\ findIn K (.ref C) f = some none /\
 ∀ d, H2 d = none -> d ≠ a -> D.nx σ (upd (upd H2 d (.xd [(f, y)])) a (cf C a (some d)))
theorem rY {o value : Expr} {f : Str} {pos' : Pos} {tv : TE} (ha : PE X o ta) (hv : PE X value tv) (hs : swapsWith value (some (.Attribute o f pos')) pos.line X.env = pure false) : PS X (.Assign [.Attribute o f pos'] value pos) (vQ X.K ta tv f) := by
 intro pins s σ H D I h
 refine plainObj_wpAny_Assign_Attribute (thn (hv pins s σ H _ I h) fun u s1 h1_ => ?_) hs
 obtain ⟨y, H1, I1, ry, q⟩ := h1_
 refine thn (ha pins s1 σ H1 _ I1 q) fun ov s2 h_ => ?_
 obtain ⟨x, H2, I2, rx, a, C, ex, ea, c, n, q2⟩ := h_
 subst ex
 obtain rfl : ov = Value.ref a := rx
 obtain ⟨t0, he⟩ := gK (I2.hok a _ ea)
 obtain ⟨cd, c1, c2, c3⟩ := c.cd
 refine sP I2.kIn he c.sa c1 c2 c3 n fun h' e1 n1 keep => ?_
 have hd : H2 s2.heap.objs.size = none := I2.fresh
 have hda : s2.heap.objs.size ≠ a := Nat.ne_of_gt (Heap.lt_size he)
 have od : ∃ o, h'.get? s2.heap.objs.size = some o := let ⟨o, _, _, e, _⟩ := n1; ⟨o, e⟩
 have ne2 : ∀ b o, H2 b = some o -> (∀ φ, o ≠ .ext φ) -> b ≠ a := fun b o e hn z => by subst z; rw [ea] at e; cases e; exact hn _ rfl
 refine ⟨σ, _, I2.un (h' := h') (t' := s2.toks + 2) ⟨fun b o e nb _ _ => keep b o (fun z => by subst z; rw [ea] at nb; cases nb) e, fun b o e nb _ _ => ⟨o.slots, keep b o (fun z => by subst z; rw [ea] at nb; cases nb) e⟩, fun b o e nb _ => ?_, fun b o e _ => ?_, fun b ys e => ?_, fun b o ys e => ?_, fun b ys e => ?_⟩ fun b o e => ?_, q2 _ hd hda⟩
 ·rw [upd_ne (fun z => by subst z; rw [ea] at nb; cases nb), upd_ne (Nat.ne_of_lt (Heap.lt_size e))]; exact nb
 ·by_cases z : b = a
  ·subst z; exact ⟨_, e1⟩
  ·exact ⟨o, keep b o z e⟩
 ·rw [upd_ne (ne2 b _ e fun _ z => by cases z), upd_ne (ne_of_none e hd)]; exact e
 ·rw [upd_ne (ne2 b _ e fun _ z => by cases z), upd_ne (ne_of_none e hd)]; exact e
 ·exact ⟨#[], by rw [upd_ne (ne2 b _ e fun _ z => by cases z), upd_ne (ne_of_none e hd), e]; simp⟩
 ·by_cases z : b = a
  ·subst z
   rw [ai] at e; cases e
   exact lf e1
  ·rw [upd_ne z] at e
   by_cases z2 : b = s2.heap.objs.size
   ·subst z2
    rw [ai] at e; cases e
    refine ⟨_, n1, fun g => ?_⟩
    by_cases q : g = f
    ·subst q
     simp only [List.lookup_cons, beq_self_eq_true, if_true]
     exact ry
    ·have hb : (g == f) = false := beq_eq_false_iff_ne.mpr q
     simp only [List.lookup_cons, hb, List.lookup_nil, if_neg q]
     trivial
   ·rw [upd_ne z2] at e
    refine (I2.hok b o e).stay (fun c v hc q => keep c v ?_ q) (fun c q => ?_) fun c ys q => ?_
    ·rcases hc with rfl | hc
     ·exact z
     ·exact ne2 c _ hc fun _ z => by cases z
    ·rw [upd_ne (ne2 c _ q fun _ z => by cases z), upd_ne (ne_of_none q hd)]; exact q
    ·rw [upd_ne (ne2 c _ q fun _ z => by cases z), upd_ne (ne_of_none q hd)]; exact q
end
def qc (H₀ : Hp) (K : Frag) (E : XK) (te : TE) : TS := fun _ σ H => te σ H fun v H1 => ∃ x C dx, v = .ref x /\ H1 x = some (cf C x dx) /\ H₀ x = none /\ XC K C /\ E (.ref C) none (dk H1 x)
section
variable {P : Program} {w : World} {K : Frag} {mg : Str -> Option Value} {base : Heap} {N : List Str} {qual : Str} {scope : Scope} {f : Addr} {cd : Value} {A : Around} {outer : List Env} {s : Shared} {H : Hp} {E : XK}
theorem aw : aP (CXE P w) (bG (CXE P w) P w K mg base N qual scope f cd A outer s H E) (fun _ => E) := fun pins σ H1 s1 e s' I h => uM (X := bG (CXE P w) P w K mg base N qual scope f cd A outer s H E) rfl rfl rfl (fun _ _ _ z => z) I h
theorem fh {X : Cx} : aP (CXE P w) X E0 := fun _ _ _ _ _ _ _ h => by
 obtain ⟨_, _, _, _, F⟩ := h
 exact F.wish.elim
theorem sd : PassesOwn (model P w) (A.deeper (envOfC qual scope s.heap.objs.size f cd)) (envOfC qual scope s.heap.objs.size f cd) (bG (CXE P w) P w K mg base N qual scope f cd A outer s H E).xe := PassesOwn.leaving
theorem eJ {e : Expr} {pos : Pos} {te : TE} (hd : A.handled = none) (he : PE (bG (CXE P w) P w K mg base N qual scope f cd A outer s H E) e te) : PS (bG (CXE P w) P w K mg base N qual scope f cd A outer s H E) (.Raise (some e) none pos) (qc H K E te) := by
 intro pins s1 σ H1 D I h
 rw [arm_exec_Raise]
 refine wpAny_bind (wpAny_standAt ?_)
 refine qY (env := (bG (CXE P w) P w K mg base N qual scope f cd A outer s H E).env) (bm := []) (dx := none) (t0 := 0) hd ?_
 refine wpAny_bind (thn (he pins s1 σ H1 _ I h) fun u s2 h_ => ?_)
 obtain ⟨v, H2, I2, r, x, C, dx, ev, ex, h0, c, q⟩ := h_
 refine wpAny_bind (wpAny_standAt (wpAny_pure ?_))
 subst ev
 obtain rfl : u = Value.ref x := r
 obtain ⟨t0, hex⟩ := gK (I2.hok x _ ex)
 obtain ⟨bm, sh⟩ := c.sh
 exact ⟨x, t0, dx, C, bm, rfl, sh _ I2.kIn, hex, r9 (X := bG (CXE P w) P w K mg base N qual scope f cd A outer s H E) rfl rfl rfl I2 ex h0 q⟩
end
structure FunD (K : Frag) (x qual : Str) (st : Stmt) (f : Addr) (fd : FuncData) : Prop where
 ex : ∃ (oc : Value) (od : Option Addr) (dV kV doc pm : Value) (an : Option Addr) (cdv ct : Value) (osl : Array (Option Value)),
  fd = PySem.W.fnOf x qual (gq st) (br st) (ak st) dV kV doc pm an cdv ct /\ K.lookup f = some ⟨oc, od, .func fd, osl⟩ /\ PySem.W.codeIn K cdv qual = true
 kp : keepIn K (.ref f) = true
theorem u9 {K : Frag} {x qual : Str} {st : Stmt} {f : Addr} {oc dV : Value} {od an : Option Addr} {osl : Array (Option Value)} {kV doc pm cdv ct : Value} (l : K.lookup f = some ⟨oc, od, .func (PySem.W.fnOf x qual (gq st) (br st) (ak st) dV kV doc pm an cdv ct), osl⟩)
  (c : PySem.W.codeIn K cdv qual = true) (k : keepIn K (.ref f) = true) : FunD K x qual st f (PySem.W.fnOf x qual (gq st) (br st) (ak st) dV kV doc pm an cdv ct) := ⟨⟨oc, od, dV, kV, doc, pm, an, cdv, ct, osl, rfl, l, c⟩, k⟩
section
variable {P : Program} {w : World} {K : Frag} {mg : Str -> Option Value} {base : Heap}
theorem FunD.okE {x qual : Str} {st : Stmt} {f : Addr} {fd : FuncData} {N ps : List Str} {k : Nat} {sp : Sp} (F : FunD K x qual st f fd) (S : FnScope N ps (ak st)) (len : ∀ vs H Q E, sp vs H Q E -> vs.length = ps.length)
  (hbody : ∀ (cdv : Value) (A : Around) (outer : List Env) (s : Shared) (H : Hp) (vs : List V) (Q : VK) (E : XK), Room k (A.deeper (envOfC qual (ak st) s.heap.objs.size f cdv)) -> sp vs H Q E ->
   ∃ t, PSs (bG (CXE P w) P w K mg base N qual (ak st) f cdv A outer s H E) (br st) t /\ t { nx := fun _ H' => Q .non H', rt := Q } (cY N vs) H) : FnOk P w K mg base (CXE P w) (k + 1) f fd ps sp := by
 obtain ⟨oc, od, dV, kV, doc, pm, an, cdv, ct, osl, rfl, lk, hcd⟩ := F.ex
 exact t7 lk hcd S len fun A outer s H vs Q E hr hsp => hbody cdv A outer s H vs Q E hr hsp
theorem FunD.ok {x qual : Str} {st : Stmt} {f : Addr} {fd : FuncData} {N ps : List Str} {k : Nat} {sp : Sp} (F : FunD K x qual st f fd) (S : FnScope N ps (ak st)) (len : ∀ vs H Q E, sp vs H Q E -> vs.length = ps.length)
  (hbody : ∀ (cdv : Value) (A : Around) (outer : List Env) (s : Shared) (H : Hp) (vs : List V) (Q : VK) (E : XK), Room k (A.deeper (envOfC qual (ak st) s.heap.objs.size f cdv)) -> sp vs H Q E ->
   ∃ t, PSs (bG (CXE P w) P w K mg base N qual (ak st) f cdv A outer s H E).nox (br st) t /\ t { nx := fun _ H' => Q .non H', rt := Q } (cY N vs) H) : FnOk P w K mg base (CXE P w) (k + 1) f fd ps sp := by
 obtain ⟨oc, od, dV, kV, doc, pm, an, cdv, ct, osl, rfl, lk, hcd⟩ := F.ex
 refine t7 lk hcd S len fun A outer s H vs Q E hr hsp => ?_
 obtain ⟨t, h, q⟩ := hbody cdv A outer s H vs Q E hr hsp
 exact ⟨t, h.nox, q⟩
end
abbrev TJ := St -> Hp -> Nat -> (Nat -> Hp -> Prop) -> Prop
def PJ (X : Cx) (es : List Expr) (t : TJ) : Prop :=
 ∀ (pins : List (Addr × Obj)) (s : Shared) (σ : St) (H : Hp) (acc : Str) (Q : VK) , Inv X pins σ H s -> acc.length <= sizeLine -> (t σ H acc.length fun n H' => n <= sizeLine /\ ∀ z : Str, z.length <= n -> Q (.str z) H') ->
  wpAny (model X.prog X.w) X.A (joinParts acc (evalEach es X.env)) (EP X pins σ Q) X.xe s
def jNil : TJ := fun _ H n Q => Q n H
def jStr (m : Nat) (t : TJ) : TJ := fun σ H n Q => n + m <= sizeLine /\ t σ H (n + m) Q
def jInt (te : TE) (t : TJ) : TJ := fun σ H n Q => te σ H fun v H1 => ∃ i, v = .int i /\ i.natAbs.log2 < 1920 /\ n + 1921 <= sizeLine /\ ∀ m, m <= n + 1921 -> t σ H1 m Q
def xY (t : TJ) : TE := fun σ H Q => t σ H 0 fun n H' => n <= sizeLine /\ ∀ z : Str, z.length <= n -> Q (.str z) H'
section
variable {X : Cx} {es : List Expr} {t : TJ} {pos : Pos}
theorem v3 : PJ X [] jNil := fun pins s σ H acc Q I hz h => joinParts_nil ⟨.str acc, H, I.tok _, ⟨_, rfl⟩, h.2 acc (Nat.le_refl _)⟩ hz
theorem vZ {x : Str} {j : Nat} {p : Pos} (h : PJ X es t) (he : evalEach (.Constant (.str x) j p :: es) X.env = eval (.Constant (.str x) j p) X.env :: evalEach es X.env := by rfl) : PJ X (.Constant (.str x) j p :: es) (jStr x.length t) := by
 intro pins s σ H acc Q I hz hq
 rw [he]
 obtain ⟨h1, h2⟩ := hq
 refine joinParts_cons (Calls.Constant_str ?_)
 have e : (acc ++ x).length = acc.length + x.length := strLen_append acc x
 exact ⟨by rw [e]; exact h1, h pins _ σ H (acc ++ x) Q (I.tok _) (by rw [e]; exact h1) (by rw [e]; exact h2)⟩
theorem v4 {v : Expr} {p : Pos} {te : TE} (hv : PE X v te) (h : PJ X es t) (he : evalEach (.FormattedValue v (-1) none p :: es) X.env = eval (.FormattedValue v (-1) none p) X.env :: evalEach es X.env := by rfl) : PJ X (.FormattedValue v (-1) none p :: es) (jInt te t) := by
 intro pins s σ H acc Q I hz hq
 rw [he]
 refine joinParts_cons (FormattedValue_plain (thn (hv pins s σ H _ I hq) fun u s1 ⟨y, H1, I1, r, i, ey, hi, hl, q⟩ => ?_))
 subst ey
 obtain ⟨tk, rfl⟩ := r
 refine wpAny_formatField_int hi ?_
 have e : (acc ++ Str.ofString (toString i)).length = acc.length + (Str.ofString (toString i)).length := strLen_append acc _
 have hb := int_text_len_1921 hi
 have hz2 : (acc ++ Str.ofString (toString i)).length <= sizeLine := by rw [e]; omega
 refine ⟨hz2, h pins _ σ H1 _ Q (I1.tok _) hz2 ?_⟩
 rw [e]
 exact q _ (by omega)
theorem uJ {v1 v2 : Expr} {rest : List Expr} (h : PJ X (v1 :: v2 :: rest) t) : PE X (.JoinedStr (v1 :: v2 :: rest) pos) (xY t) := fun pins s σ H Q I hq =>
 JoinedStr_many (h pins s σ H Str.empty Q I (by decide) hq)
end
section
variable {X : Cx}
theorem rm (hc : X.calm = true) : bt X (.builtin "sum") (fun xs H Q => ∃ (a : Addr) (ns : List Int), xs = [.ref a] /\ SqL X.K H a (ns.map V.int) /\ Q (.int ns.sum) H) := by
 intro pins s σ H xs us Q I r h
 obtain ⟨a, ns, rfl, hq, q⟩ := h
 cases r with
 | cons r1 r2 =>
  cases r1
  cases r2
  obtain ⟨its, rv, p, hz⟩ := I.list hq
  have hi := pL rv
  obtain ⟨xs, ex⟩ := hi.allInts.items
  have hl := p.isList
  rw [ex] at hl
  refine sum_intListG (I.ok.hd hc) hl fun h' tk t' hk => ?_
  have e : preSum (numAt xs) xs.size = ns.sum := by
   have e1 := hi.numsOf
   have e2 : its = (intItems xs).toList := by rw [← ex]
   rw [e2, nums_intItems] at e1
   rw [preSum_eq, List.take_of_length_le (by simp), e1]
  rw [e]
  exact ⟨.int ns.sum, H, I.kept hk, ⟨_, rfl⟩, q⟩
theorem qa : ∀ {cs : List String} {us : List Value}, am (cs.map V.ty) us -> us = cs.map Value.type
 | [], _, r => by cases r; rfl
 | c :: cs, _, r => by
  cases r with
  | cons r1 r2 =>
   cases r1
   rw [qa r2]
   rfl
end
section
variable {K : Frag}
end
theorem pU {K : Frag} {a : Addr} {xs : List V} {g : TG} {tt : TT} {tb : TB} {σ : St} {H : Hp} {Q : St -> Hp -> Prop} (Pv : Nat -> St -> Hp -> Prop) (h0 : Pv 0 σ H) (hl : ∀ i σ H, i <= xs.length -> Pv i σ H -> SqL K H a xs)
  (turn : ∀ i x σ H, xs[i]? = some x -> Pv i σ H -> g x σ H fun σ2 H2 => tt σ2 H2 fun b H3 => if b = true then tb σ2 H3 (Pv (i + 1)) else Pv (i + 1) σ2 H3) (fin : ∀ σ H, Pv xs.length σ H -> Q σ H) : dg (Itl K a) g tt tb σ H Q := by
 refine ⟨fun i m σ H => i <= xs.length /\ m + i = xs.length /\ Pv i σ H, ⟨xs.length, Nat.zero_le _, by omega, h0⟩, fun i m σ H ⟨hi, hm, hp⟩ => ?_⟩
 by_cases hlt : i < xs.length
 ·refine .inr ⟨⟨xs, xs[i], hl i σ H hi hp, List.getElem?_eq_getElem hlt⟩, Pv (i + 1), fun σ' H' q => ⟨m - 1, by omega, by omega, by omega, q⟩, fun x H' ⟨e, hx⟩ => ?_⟩
  subst e
  exact turn i x σ H' (hx xs (hl i σ H' hi hp)) hp
 ·obtain rfl : i = xs.length := by omega
  exact .inl ⟨⟨xs, hl _ σ H hi hp, Nat.le_refl _⟩, fin σ H hp⟩
theorem CmpScope.plain {X : Cx} {scope : Scope} {vars : List Str} (k : scope.kind = .function) (nd : (scope.names.map (·.1)).Nodup) (f : ∀ y ∈ scope.names, y.2 ≠ .free) : CmpScope X scope vars vars [] :=
 ⟨k, nd, fun y hy e => absurd e (f y hy), by simp, fun j hj => absurd hj (by simp)⟩
theorem bh.upd {H : Hp} {a : Addr} {o : HO} (h : H a = none) : bh H (upd H a o) := fun b u e => by rw [upd_ne (ne_of_none e h)]; exact e
end L2
namespace L2.Pu
open PySem PySem.Spec PyProof.Rows
theorem ex6 {α γ ε : Sort _} {P Q R : α -> γ -> ε -> Prop} {C : Prop} (h : ∃ a b c, P a b c /\ Q a b c /\ R a b c) (k : ∀ a b c, P a b c -> Q a b c -> R a b c -> C) : C := by
 obtain ⟨a, b, c, x, y, z⟩ := h
 exact k a b c x y z
theorem ex5 {α γ : Sort _} {P Q R : α -> γ -> Prop} {C : Prop} (h : ∃ a b, P a b /\ Q a b /\ R a b) (k : ∀ a b, P a b -> Q a b -> R a b -> C) : C := by
 obtain ⟨a, b, x, y, z⟩ := h
 exact k a b x y z
inductive D where
 | non | bl (b : Bool) | int (i : Int) | str (x : Str) | ty (n : String) | txt
 | lst (xs : List D) | tup (xs : List D) | scr (xs : List Int) | obj (C : Addr) (ns : List Str) (xs : List D) | bag | adr (a : Addr)
structure Bg where
 cells : List Int
 i : Int
 j : Int
structure Fx where
 A : Addr -> Prop
 bg : Option (Addr × Addr)
def KL (K : Frag) (a : Addr) (xs : List V) : Prop :=
 ∃ (o : Obj) (its : Array Value) (n : Nat), K.lookup a = some o /\ o.cls = .type "list" /\ o.dict = none /\ o.data = .seq its n /\ its.size <= sizeLine /\ am xs its.toList
def KT (K : Frag) (a : Addr) (xs : List V) : Prop :=
 ∃ (o : Obj) (its : Array Value) (n : Nat), K.lookup a = some o /\ o.cls = .type "tuple" /\ o.data = .seq its n /\ its.size <= sizeLine /\ am xs its.toList
mutual
def Den (K : Frag) (F : Fx) (H : Hp) : D -> V -> Prop
 | .non, v => v = .non
 | .bl b, v => v = .bl b
 | .int i, v => v = .int i
 | .str x, v => v = .str x
 | .ty n, v => v = .ty n
 | .txt, v => ∃ z, v = .str z
 | .lst ds, v => ∃ a xs, v = .ref a /\ (¬ F.A a /\ Rd H a (.lst xs)) /\ DenL K F H ds xs
 | .scr ns, v => ∃ a, v = .ref a /\ ((¬ F.A a /\ Rd H a (.lst (ns.map V.int))) \/ KL K a (ns.map V.int))
 | .tup ds, v => ∃ a xs, v = .ref a /\ ((¬ F.A a /\ Rd H a (.tup xs)) \/ KT K a xs) /\ DenL K F H ds xs
 | .obj C ns ds, v => ∃ a dx xs, v = .ref a /\ ¬ F.A a /\ H a = some (.ins C dx (ns.zip xs)) /\ ns.length = xs.length /\ DenL K F H ds xs
 | .bag, v => ∃ b l, F.bg = some (b, l) /\ v = .ref b
 | .adr a, v => v = .ref a
def DenL (K : Frag) (F : Fx) (H : Hp) : List D -> List V -> Prop
 | [], xs => xs = []
 | d :: ds, xs => ∃ x r, xs = x :: r /\ Den K F H d x /\ DenL K F H ds r
end
structure Tr (F : Fx) (H : Hp) (F2 : Fx) (H2 : Hp) : Prop where
 av : ∀ a, ¬ F.A a -> H a ≠ none -> ¬ F2.A a
 kp : ∀ a o, ¬ F.A a -> H a = some o -> H2 a = some o
 bg : F2.bg = F.bg
theorem Tr.refl (F : Fx) (H : Hp) : Tr F H F H := ⟨fun _ h _ => h, fun _ _ _ h => h, rfl⟩
theorem Tr.trans {F F1 F2 : Fx} {H H1 H2 : Hp} (a : Tr F H F1 H1) (b : Tr F1 H1 F2 H2) : Tr F H F2 H2 :=
 ⟨fun x h1 h2 => b.av x (a.av x h1 h2) (by
   cases q : H x with
   | none => exact absurd q h2
   | some o => rw [a.kp x o h1 q]; simp),
  fun x o h1 h2 => b.kp x o (a.av x h1 (by rw [h2]; simp)) (a.kp x o h1 h2), b.bg.trans a.bg⟩
theorem Rd.tr {F F2 : Fx} {H H2 : Hp} {a : Addr} {u : HO} (t : Tr F H F2 H2) (h : ¬ F.A a) (r : Rd H a u) : ¬ F2.A a /\ Rd H2 a u := by
 rcases r with r | ⟨o, r⟩
 ·exact ⟨t.av a h (by rw [r]; simp), .inl (t.kp a _ h r)⟩
 ·exact ⟨t.av a h (by rw [r]; simp), .inr ⟨o, t.kp a _ h r⟩⟩
mutual
theorem Den.tr {K : Frag} {F F2 : Fx} {H H2 : Hp} (t : Tr F H F2 H2) : ∀ (d : D) (v : V), Den K F H d v -> Den K F2 H2 d v
 | .non, v, h => h
 | .bl b, v, h => h
 | .int i, v, h => h
 | .str x, v, h => h
 | .ty n, v, h => h
 | .txt, v, h => h
 | .lst ds, v, h => by
  unfold Den at h ⊢
  obtain ⟨a, xs, e, h1, h2⟩ := h
  exact ⟨a, xs, e, Rd.tr t h1.1 h1.2, DenL.tr t ds xs h2⟩
 | .scr ns, v, h => by
  unfold Den at h ⊢
  obtain ⟨a, e, h1⟩ := h
  exact ⟨a, e, h1.imp (fun ⟨p, q⟩ => Rd.tr t p q) id⟩
 | .tup ds, v, h => by
  unfold Den at h ⊢
  obtain ⟨a, xs, e, h1, h2⟩ := h
  exact ⟨a, xs, e, h1.imp (fun ⟨p, q⟩ => Rd.tr t p q) id, DenL.tr t ds xs h2⟩
 | .obj C ns ds, v, h => by
  unfold Den at h ⊢
  obtain ⟨a, dx, xs, e, h1, h2, h3, h4⟩ := h
  exact ⟨a, dx, xs, e, t.av a h1 (by rw [h2]; simp), t.kp a _ h1 h2, h3, DenL.tr t ds xs h4⟩
 | .bag, v, h => by
  unfold Den at h ⊢
  rw [t.bg]; exact h
 | .adr a, v, h => by
  unfold Den at h ⊢
  exact h
theorem DenL.tr {K : Frag} {F F2 : Fx} {H H2 : Hp} (t : Tr F H F2 H2) : ∀ (ds : List D) (xs : List V), DenL K F H ds xs -> DenL K F2 H2 ds xs
 | [], xs, h => h
 | d :: ds, xs, h => by
  unfold DenL at h ⊢
  obtain ⟨x, r, e, h1, h2⟩ := h
  exact ⟨x, r, e, Den.tr t d x h1, DenL.tr t ds r h2⟩
end
section
variable {K : Frag} {F : Fx} {H : Hp}
theorem DenL.nil : DenL K F H [] [] := rfl
theorem DenL.cons {d : D} {ds : List D} {x : V} {xs : List V} (h : Den K F H d x) (t : DenL K F H ds xs) : DenL K F H (d :: ds) (x :: xs) := ⟨x, xs, rfl, h, t⟩
theorem DenL.length : ∀ {ds : List D} {xs : List V}, DenL K F H ds xs -> ds.length = xs.length
 | [], xs, h => by have e : xs = [] := h; subst e; rfl
 | d :: ds, xs, h => by
  obtain ⟨x, r, e, _, h2⟩ := h
  subst e
  rw [List.length_cons, List.length_cons, DenL.length h2]
theorem DenL.get : ∀ {ds : List D} {xs : List V} {i : Nat} {d : D}, DenL K F H ds xs -> ds[i]? = some d -> ∃ x, xs[i]? = some x /\ Den K F H d x
 | [], _, _, _, _, e => by simp at e
 | c :: ds, xs, 0, d, h, e => by
  obtain ⟨x, r, q, h1, h2⟩ := h
  subst q
  simp at e
  subst e
  exact ⟨x, rfl, h1⟩
 | c :: ds, xs, i + 1, d, h, e => by
  obtain ⟨x, r, q, h1, h2⟩ := h
  subst q
  obtain ⟨y, h3, h4⟩ := DenL.get (i := i) (d := d) h2 (by simpa using e)
  exact ⟨y, by simpa using h3, h4⟩
theorem DenL.getV : ∀ {ds : List D} {xs : List V} {i : Nat} {x : V}, DenL K F H ds xs -> xs[i]? = some x -> ∃ d, ds[i]? = some d /\ Den K F H d x
 | [], xs, _, _, h, e => by have q : xs = [] := h; subst q; simp at e
 | c :: ds, xs, 0, d, h, e => by
  obtain ⟨x, r, q, h1, h2⟩ := h
  subst q
  simp at e
  subst e
  exact ⟨c, rfl, h1⟩
 | c :: ds, xs, i + 1, d, h, e => by
  obtain ⟨x, r, q, h1, h2⟩ := h
  subst q
  obtain ⟨y, h3, h4⟩ := DenL.getV (i := i) (x := d) h2 (by simpa using e)
  exact ⟨y, by simpa using h3, h4⟩
theorem DenL.append : ∀ {ds es : List D} {xs ys : List V}, DenL K F H ds xs -> DenL K F H es ys -> DenL K F H (ds ++ es) (xs ++ ys)
 | [], _, xs, _, h, h' => by have q : xs = [] := h; subst q; exact h'
 | c :: ds, es, xs, ys, h, h' => by
  obtain ⟨x, r, q, h1, h2⟩ := h
  subst q
  exact ⟨x, r ++ ys, rfl, h1, DenL.append h2 h'⟩
theorem DenL.set : ∀ {ds : List D} {xs : List V} (i : Nat) {d : D} {x : V}, DenL K F H ds xs -> Den K F H d x -> DenL K F H (ds.set i d) (xs.set i x)
 | [], xs, i, _, _, h, _ => by have q : xs = [] := h; subst q; simp; rfl
 | c :: ds, xs, 0, d, x, h, hd => by
  obtain ⟨y, r, q, h1, h2⟩ := h
  subst q
  exact ⟨x, r, rfl, hd, h2⟩
 | c :: ds, xs, i + 1, d, x, h, hd => by
  obtain ⟨y, r, q, h1, h2⟩ := h
  subst q
  exact ⟨y, r.set i x, rfl, h1, DenL.set i h2 hd⟩
theorem Den.sqL {ds : List D} {v : V} (h : Den K F H (.lst ds) v) : ∃ a xs, v = .ref a /\ SqL K H a xs /\ DenL K F H ds xs := by
 unfold Den at h
 obtain ⟨a, xs, e, h1, h2⟩ := h
 exact ⟨a, xs, e, .inl h1.2, h2⟩
theorem Den.rdL {ds : List D} {v : V} (h : Den K F H (.lst ds) v) : ∃ a xs, v = .ref a /\ Rd H a (.lst xs) /\ DenL K F H ds xs := by
 unfold Den at h
 obtain ⟨a, xs, e, h1, h2⟩ := h
 exact ⟨a, xs, e, h1.2, h2⟩
theorem Den.scr {ns : List Int} {v : V} (h : Den K F H (.scr ns) v) : ∃ a, v = .ref a /\ SqL K H a (ns.map V.int) := by
 unfold Den at h
 obtain ⟨a, e, h1⟩ := h
 exact ⟨a, e, h1.imp (fun p => p.2) id⟩
theorem Den.sqT {ds : List D} {v : V} (h : Den K F H (.tup ds) v) : ∃ a xs, v = .ref a /\ SqT K H a xs /\ DenL K F H ds xs := by
 unfold Den at h
 obtain ⟨a, xs, e, h1, h2⟩ := h
 exact ⟨a, xs, e, h1.imp (fun p => p.2) id, h2⟩
theorem Den.int {i : Int} {v : V} (h : Den K F H (.int i) v) : v = .int i := h
theorem Den.bl {i : Bool} {v : V} (h : Den K F H (.bl i) v) : v = .bl i := h
theorem Den.str {i : Str} {v : V} (h : Den K F H (.str i) v) : v = .str i := h
theorem Den.non {v : V} (h : Den K F H .non v) : v = .non := h
theorem Den.ty {n : String} {v : V} (h : Den K F H (.ty n) v) : v = .ty n := h
theorem DenL.ints : ∀ (ns : List Int) {xs : List V}, DenL K F H (ns.map D.int) xs -> xs = ns.map V.int
 | [], xs, h => h
 | n :: ns, xs, h => by
  obtain ⟨x, r, e, h1, h2⟩ := h
  rw [e, DenL.ints ns h2]
  have q : x = .int n := h1
  rw [q]; rfl
end
structure Fr (F : Fx) (H : Hp) (β : Bg) : Prop where
 occ : ∀ a, F.A a -> H a ≠ none
 bgA : ∀ b l, F.bg = some (b, l) -> F.A b /\ F.A l /\ b ≠ l
 bag : ∀ b l, F.bg = some (b, l) -> H b = some (.lst [.ref l, .int β.i, .int β.j]) /\ H l = some (.lst (β.cells.map V.int))
structure To (F : Fx) (H H' : Hp) (β' : Bg) : Prop where
 kp : ∀ a o, H a = some o -> (∀ b l, F.bg = some (b, l) -> a ≠ b /\ a ≠ l) -> H' a = some o
 fr : Fr F H' β'
theorem To.refl {F : Fx} {H : Hp} {β : Bg} (fr : Fr F H β) : To F H H β := ⟨fun _ _ h _ => h, fr⟩
theorem To.trans {F : Fx} {H H1 H2 : Hp} {β1 β2 : Bg} (a : To F H H1 β1) (b : To F H1 H2 β2) : To F H H2 β2 := ⟨fun x o h n => b.kp x o (a.kp x o h n) n, b.fr⟩
theorem Fr.same {F : Fx} {H H' : Hp} {β : Bg} (fr : Fr F H β) (s : bh H H') : To F H H' β :=
 ⟨fun a o h _ => s a o h, ⟨fun a h q => (by
  cases e : H a with
  | none => exact fr.occ a h e
  | some o => exact absurd ((s a o e).symm.trans q) (by simp)), fr.bgA, fun b l e => ⟨s _ _ (fr.bag b l e).1, s _ _ (fr.bag b l e).2⟩⟩⟩
theorem Fr.upd {F : Fx} {H : Hp} {β : Bg} (fr : Fr F H β) {p : Addr} (o : HO) (h : H p = none) : To F H (upd H p o) β := fr.same (bh.upd h)
theorem Fr.fresh {F : Fx} {H : Hp} {β : Bg} (fr : Fr F H β) {p : Addr} (h : H p = none) : ¬ F.A p := fun q => fr.occ p q h
theorem To.tr {F : Fx} {H H' : Hp} {β β' : Bg} (fr : Fr F H β) (t : To F H H' β') : Tr F H F H' :=
 ⟨fun _ h _ => h, fun a o h e => t.kp a o e fun b l q => ⟨fun z => h (z ▸ (fr.bgA b l q).1), fun z => h (z ▸ (fr.bgA b l q).2.1)⟩, rfl⟩
abbrev Dn := List (Option D)
structure VOk (K : Frag) (F : Fx) (H : Hp) (δ : Dn) (σ : St) : Prop where
 len : δ.length = σ.length
 tell : ∀ (i : Nat) (d : D), δ[i]? = some (some d) -> ∃ v, σ[i]? = some (some v) /\ Den K F H d v
theorem VOk.tr {K : Frag} {F F2 : Fx} {H H2 : Hp} {δ : Dn} {σ : St} (t : Tr F H F2 H2) (h : VOk K F H δ σ) : VOk K F2 H2 δ σ := ⟨h.len, fun i d e => let ⟨v, h1, h2⟩ := h.tell i d e; ⟨v, h1, Den.tr t d v h2⟩⟩
theorem VOk.set {K : Frag} {F : Fx} {H : Hp} {δ : Dn} {σ : St} {i : Nat} {d : D} {v : V} (h : VOk K F H δ σ) (hd : Den K F H d v) : VOk K F H (δ.set i (some d)) (σ.set i (some v)) := by
 refine ⟨by rw [List.length_set, List.length_set, h.len], fun j c e => ?_⟩
 rw [List.getElem?_set] at e
 rw [List.getElem?_set]
 by_cases q : i = j
 ·subst q
  rw [if_pos rfl] at e ⊢
  split at e
  ·rename_i hl
   cases e
   rw [if_pos (by rw [← h.len]; exact hl)]
   exact ⟨v, rfl, hd⟩
  ·cases e
 ·rw [if_neg q] at e ⊢
  exact h.tell j c e
def Sub (δ δ1 : Dn) : Prop := ∀ (i : Nat) (d : D), δ[i]? = some (some d) -> δ1[i]? = some (some d)
theorem VOk.sub {K : Frag} {F : Fx} {H : Hp} {δ δ1 : Dn} {σ : St} (h : VOk K F H δ1 σ) (s : Sub δ δ1) (l : δ.length = δ1.length) : VOk K F H δ σ := ⟨l.trans h.len, fun i d e => h.tell i d (s i d e)⟩
abbrev M (α : Type) := Bg -> Option (Except Addr α × Bg)
def M.ret {α : Type} (a : α) : M α := fun β => some (.ok a, β)
def M.bind {α γ : Type} (m : M α) (k : α -> M γ) : M γ := fun β => match m β with
 | none => none
 | some (.error C, β1) => some (.error C, β1)
 | some (.ok a, β1) => k a β1
def M.ofO {α : Type} (o : Option α) : M α := fun β => match o with
 | some a => some (.ok a, β)
 | none => none
def M.fail {α : Type} : M α := fun _ => none
theorem M.bind_some {α γ : Type} (a : α) (k : α -> M γ) : M.bind (M.ofO (some a)) k = k a := rfl
theorem M.bind_ok {α γ : Type} {m : M α} {k : α -> M γ} {β β1 : Bg} {a : α} (h : m β = some (.ok a, β1)) : M.bind m k β = k a β1 := by unfold M.bind; rw [h]
theorem M.bind_err {α γ : Type} {m : M α} {k : α -> M γ} {β β1 : Bg} {C : Addr} (h : m β = some (.error C, β1)) : M.bind m k β = some (.error C, β1) := by unfold M.bind; rw [h]
def run {α γ : Type} (R : Hp -> α -> γ -> Prop) (F : Fx) (E : St -> XK) (σ : St) (m : M α) (H : Hp) (Q : γ -> Hp -> Prop) (β : Bg) : Prop :=
 ∃ r β', m β = some (r, β') /\ match r with
  | .ok d => ∀ v H', To F H H' β' -> R H' d v -> Q v H'
  | .error C => ∀ H', To F H H' β' -> E σ (.ref C) none H'
theorem run.mono {α γ : Type} {R : Hp -> α -> γ -> Prop} {F : Fx} {E : St -> XK} {σ : St} {m : M α} {H : Hp} {Q Q' : γ -> Hp -> Prop} {β : Bg} (h : run R F E σ m H Q β) (f : ∀ v H', Q v H' -> Q' v H') : run R F E σ m H Q' β := by
 obtain ⟨r, β', e, h⟩ := h
 refine ⟨r, β', e, ?_⟩
 cases r with
 | ok d => exact fun v H' t q => f v H' (h v H' t q)
 | error C => exact h
theorem run.bind {α γ ε ζ : Type} {R : Hp -> α -> γ -> Prop} {R2 : Hp -> ε -> ζ -> Prop} {F : Fx} {E : St -> XK} {σ : St} {m : M α} {k : α -> M ε} {H : Hp} {Q : ζ -> Hp -> Prop} {β : Bg} (h : run R2 F E σ (M.bind m k) H Q β) :
  run R F E σ m H (fun v H1 => ∃ d β1, To F H H1 β1 /\ R H1 d v /\ run R2 F E σ (k d) H1 Q β1) β := by
 obtain ⟨r, β', e, h⟩ := h
 cases q : m β with
 | none => unfold M.bind at e; rw [q] at e; cases e
 | some z =>
  obtain ⟨r1, β1⟩ := z
  refine ⟨r1, β1, q, ?_⟩
  cases r1 with
  | error C =>
   rw [M.bind_err q] at e
   cases e
   exact h
  | ok d =>
   rw [M.bind_ok q] at e
   intro v H1 t hd
   refine ⟨d, β1, t, hd, r, β', e, ?_⟩
   cases r with
   | ok d2 => exact fun v2 H2 t2 h2 => h v2 H2 (t.trans t2) h2
   | error C => exact fun H2 t2 => h H2 (t.trans t2)
theorem run.ret {α γ : Type} {R : Hp -> α -> γ -> Prop} {F : Fx} {E : St -> XK} {σ : St} {a : α} {v : γ} {H : Hp} {Q : γ -> Hp -> Prop} {β : Bg} (fr : Fr F H β) (h : run R F E σ (M.ret a) H Q β) (r : R H a v) : Q v H := by
 obtain ⟨_, _, e, h⟩ := h
 cases e
 exact h v H (To.refl fr) r
theorem run.ofO {α γ : Type} {R : Hp -> α -> γ -> Prop} {F : Fx} {E : St -> XK} {σ : St} {o : Option α} {H : Hp} {Q : γ -> Hp -> Prop} {β : Bg} (h : run R F E σ (M.ofO o) H Q β) : ∃ a, o = some a /\ ∀ v H', To F H H' β -> R H' a v -> Q v H' := by
 obtain ⟨_, _, e, h⟩ := h
 cases o with
 | none => cases e
 | some a => cases e; exact ⟨a, rfl, h⟩
abbrev FD := Dn -> M D
abbrev FL := Dn -> M (List D)
def tV (K : Frag) (f : FD) (E : St -> XK) : TE := fun σ H Q => ∃ F δ β, Fr F H β /\ VOk K F H δ σ /\ run (Den K F) F E σ (f δ) H Q β
def tVA (K : Frag) (f : FL) (E : St -> XK) : TA := fun σ H Q => ∃ F δ β, Fr F H β /\ VOk K F H δ σ /\ run (DenL K F) F E σ (f δ) H Q β
def tVT (K : Frag) (f : Dn -> M Bool) (E : St -> XK) : TT := fun σ H Q => ∃ F δ β, Fr F H β /\ VOk K F H δ σ /\ run (fun _ (a b : Bool) => b = a) F E σ (f δ) H Q β
theorem _root_.L2.PE.imp {X : Cx} {e : Expr} {t t' : TE} (h : PE X e t) (f : ∀ σ H Q, t' σ H Q -> t σ H Q) : PE X e t' := fun pins s σ H Q I q => h pins s σ H Q I (f σ H Q q)
theorem _root_.L2.PT.imp {X : Cx} {e : Expr} {t t' : TT} (h : PT X e t) (f : ∀ σ H Q, t' σ H Q -> t σ H Q) : PT X e t' := fun pins s σ H Q I q => h pins s σ H Q I (f σ H Q q)
theorem _root_.L2.PW.imp {X : Cx} {e : Expr} {t t' : TT} (h : PW X e t) (f : ∀ σ H Q, t' σ H Q -> t σ H Q) : PW X e t' := fun wh pins s σ H Q I q => h wh pins s σ H Q I (f σ H Q q)
theorem _root_.L2.PA.imp {X : Cx} {e : List Expr} {t t' : TA} (h : PA X e t) (f : ∀ σ H Q, t' σ H Q -> t σ H Q) : PA X e t' := fun pos pins s σ H Q I q => h pos pins s σ H Q I (f σ H Q q)
def ad (i : Nat) : FD := fun δ => M.ofO (δ.getD i none)
def fC (d : D) : FD := fun _ => M.ret d
def f1 (op : D -> Option D) (f : FD) : FD := fun δ => M.bind (f δ) fun a => M.ofO (op a)
def f2 (op : D -> D -> Option D) (f g : FD) : FD := fun δ => M.bind (f δ) fun a => M.bind (g δ) fun b => M.ofO (op a b)
def af : FL := fun _ => M.ret []
def aa (f : FD) (g : FL) : FL := fun δ => M.bind (f δ) fun a => M.bind (g δ) fun as => M.ret (a :: as)
def aj (op : List D -> Option D) (g : FL) : FD := fun δ => M.bind (g δ) fun as => M.ofO (op as)
def aA (m : List D -> M D) (g : FL) : FD := fun δ => M.bind (g δ) fun as => m as
section
variable {X : Cx} {E : St -> XK} {e a b : Expr} {es : List Expr} {pos : Pos}
theorem ae (i : Nat) {x : Str} (h : PE X (.Name x pos) (jf i)) : PE X (.Name x pos) (tV X.K (ad i) E) := h.imp fun σ H Q h_ => by
 obtain ⟨F, δ, β, fr, vk, r⟩ := h_
 obtain ⟨d, e, r⟩ := run.ofO r
 have e2 : δ[i]? = some (some d) := by
  rw [List.getD_eq_getElem?_getD] at e
  cases q : δ[i]? with
  | none => rw [q] at e; cases e
  | some z => rw [q] at e; simp at e; rw [e]
 obtain ⟨v, h1, h2⟩ := vk.tell i d e2
 exact ⟨v, h1, r v H (To.refl fr) h2⟩
theorem v_c {d : D} {v : V} (h : PE X e (tC v)) (hd : ∀ F H, Den X.K F H d v) : PE X e (tV X.K (fC d) E) := h.imp fun σ H Q h_ => by obtain ⟨F, δ, β, fr, vk, r⟩ := h_; exact run.ret fr r (hd F H)
theorem aI {i j pos} : PE X (.Constant (.int i) j pos) (tV X.K (fC (.int i)) E) := v_c aZ fun _ _ => rfl
theorem dI {i j pos} : PE X (.Constant (.bool i) j pos) (tV X.K (fC (.bl i)) E) := v_c ya fun _ _ => rfl
theorem tu {j pos} : PE X (.Constant .none j pos) (tV X.K (fC .non) E) := v_c wb fun _ _ => rfl
theorem eY {i j pos} : PE X (.Constant (.str i) j pos) (tV X.K (fC (.str i)) E) := v_c qv fun _ _ => rfl
theorem ag : PA X [] (tVA X.K af E) := bT.imp fun σ H Q h_ => by obtain ⟨F, δ, β, fr, vk, r⟩ := h_; exact run.ret fr r DenL.nil
theorem ac {f : FD} {g : FL} (ha : PE X e (tV X.K f E)) (hr : PA X es (tVA X.K g E)) (hs : starEach (e :: es) X.env = (false, eval e X.env) :: starEach es X.env := by rfl) : PA X (e :: es) (tVA X.K (aa f g) E) :=
 (ba ha hr hs).imp fun σ H Q h_ => ex6 h_ fun F δ β fr vk r => ⟨F, δ, β, fr, vk, (run.bind (R := Den X.K F) r).mono fun v H1 ⟨d, β1, t, hd, r1⟩ =>
  ⟨F, δ, β1, t.fr, vk.tr (t.tr fr), (run.bind (R := DenL X.K F) r1).mono fun vs H2 h_ => ex5 h_ fun ds β2 t2 hds r2 => run.ret t2.fr r2 (DenL.cons (Den.tr (t2.tr t.fr) _ _ hd) hds)⟩⟩
def bd (K : Frag) (r : R2) (op : D -> D -> Option D) : Prop := ∀ (F : Fx) (H : Hp) (β : Bg) (Q : VK) (d1 d2 d : D) (v1 v2 : V), Fr F H β -> Den K F H d1 v1 -> Den K F H d2 v2 -> op d1 d2 = some d ->
 (∀ v H', To F H H' β -> Den K F H' d v -> Q v H') -> r v1 v2 H Q
def uc (K : Frag) (r : V -> Hp -> VK -> Prop) (op : D -> Option D) : Prop := ∀ (F : Fx) (H : Hp) (β : Bg) (Q : VK) (d1 d : D) (v1 : V), Fr F H β -> Den K F H d1 v1 -> op d1 = some d ->
 (∀ v H', To F H H' β -> Den K F H' d v -> Q v H') -> r v1 H Q
def cy (K : Frag) (r : List V -> Hp -> VK -> Prop) (op : List D -> Option D) : Prop := ∀ (F : Fx) (H : Hp) (β : Bg) (Q : VK) (ds : List D) (d : D) (vs : List V), Fr F H β -> DenL K F H ds vs -> op ds = some d ->
 (∀ v H', To F H H' β -> Den K F H' d v -> Q v H') -> r vs H Q
theorem jD {r : R2} {op : D -> D -> Option D} {f g : FD} {K : Frag} (l : bd K r op) {σ : St} {H : Hp} {Q : VK} (h : tV K (f2 op f g) E σ H Q) : tOp r (tV K f E) (tV K g E) σ H Q := by
 obtain ⟨F, δ, β, fr, vk, h⟩ := h
 refine ⟨F, δ, β, fr, vk, (run.bind (R := Den K F) h).mono fun v H1 h_ => ex5 h_ fun d β1 t hd r1 => ⟨F, δ, β1, t.fr, vk.tr (t.tr fr), (run.bind (R := Den K F) r1).mono fun v2 H2 h_ => ex5 h_ fun d2 β2 t2 hd2 r2 => ?_⟩⟩
 obtain ⟨d3, e3, k⟩ := run.ofO r2
 exact l F H2 β2 Q d d2 d3 v v2 t2.fr (Den.tr (t2.tr t.fr) _ _ hd) hd2 e3 k
theorem d9 {op : Operator} {r : R2} {o : D -> D -> Option D} {f g : FD} (ho : OpR X (binaryOp op) r) (l : bd X.K r o) (ha : PE X a (tV X.K f E)) (hb : PE X b (tV X.K g E)) : PE X (.BinOp a op b pos) (tV X.K (f2 o f g) E) :=
 (bZ ho ha hb).imp fun _ _ _ => jD l
theorem gu {op : CmpOp} {r : R2} {o : D -> D -> Option D} {f g : FD} (ho : OpR X (compareOp op) r) (l : bd X.K r o) (ha : PE X a (tV X.K f E)) (hb : PE X b (tV X.K g E)) (hm : behindInMarks op b = false := by first | exact j4 _ | rfl) : PE X (.Compare a [op] [b] pos) (tV X.K (f2 o f g) E) :=
 (uK ho ha hb hm).imp fun _ _ _ => jD l
theorem oY {op : UnaryOp} {r : V -> Hp -> VK -> Prop} {o : D -> Option D} {f : FD} (ho : UnR X (unaryOp op) r) (l : uc X.K r o) (ha : PE X a (tV X.K f E)) : PE X (.UnaryOp op a pos) (tV X.K (f1 o f) E) :=
 (x9 ho ha).imp fun σ H Q h_ => ex6 h_ fun F δ β fr vk h => ⟨F, δ, β, fr, vk, (run.bind (R := Den X.K F) h).mono fun v H1 h_ => ex5 h_ fun d β1 t hd r1 => let ⟨d3, e3, k⟩ := run.ofO r1; l F H1 β1 Q d d3 v t.fr hd e3 k⟩
theorem cz {r : R2} {o : D -> D -> Option D} {f g : FD} (hr : IxR X r) (l : bd X.K r o) (ha : PE X a (tV X.K f E)) (hb : PE X b (tV X.K g E)) (hs : oS b := by exact fun _ _ => rfl) : PE X (.Subscript a b pos) (tV X.K (f2 o f g) E) :=
 (cZ hr ha hb hs).imp fun _ _ _ => jD l
theorem qg {K : Frag} {r : List V -> Hp -> VK -> Prop} {op : List D -> Option D} {g : FL} (l : cy K r op) {σ : St} {H : Hp} {Q : VK} (h : tV K (aj op g) E σ H Q) : tCB r (tVA K g E) σ H Q := by
 obtain ⟨F, δ, β, fr, vk, h⟩ := h
 refine ⟨F, δ, β, fr, vk, (run.bind (R := DenL K F) h).mono fun v H1 h_ => ex5 h_ fun d β1 t hd r1 => ?_⟩
 obtain ⟨d3, e3, k⟩ := run.ofO r1
 exact l F H1 β1 Q d d3 v t.fr hd e3 k
theorem au {x : Str} {p : Pos} {id : String} {r : List V -> Hp -> VK -> Prop} {op : List D -> Option D} {g : FL} (hc : bt X (.builtin id) r) (l : cy X.K r op) (hg : Gl X x) (hm : X.mg x = none) (hv : bootBuiltins x = some (.builtin id)) (ha : PA X (e :: es) (tVA X.K g E)) (hn : x ≠ "__name__" := by decide) (hdb : (x == ("__debug__" : Str)) = false := by decide)
  (he : starEach (e :: es) X.env = (false, eval e X.env) :: starEach es X.env := by rfl) (hpl : (backTo pos (starEach es X.env)).any (·.1) = false := by rfl) : PE X (.Call (.Name x p) (e :: es) [] pos) (tV X.K (aj op g) E) :=
 (eK hc hg hm hv ha hn hdb he hpl).imp fun _ _ _ => qg l
theorem gv {x : Str} {p : Pos} {T : String} {r : List V -> Hp -> VK -> Prop} {op : List D -> Option D} {g : FL} (hc : bt X (.type T) r) (l : cy X.K r op) (hg : Gl X x) (hm : X.mg x = none) (hv : bootBuiltins x = some (.type T)) (ha : PA X (e :: es) (tVA X.K g E)) (hn : x ≠ "__name__" := by decide) (hdb : (x == ("__debug__" : Str)) = false := by decide)
  (he : starEach (e :: es) X.env = (false, eval e X.env) :: starEach es X.env := by rfl) (hpl : (backTo pos (starEach es X.env)).any (·.1) = false := by rfl) : PE X (.Call (.Name x p) (e :: es) [] pos) (tV X.K (aj op g) E) :=
 (h8 hc hg hm hv ha hn hdb he hpl).imp fun _ _ _ => qg l
def c5 (ds : List D) : Option D := if ds.length <= sizeLine then some (.tup ds) else none
def ef (ds : List D) : Option D := if ds.length <= sizeLine then some (.lst ds) else none
theorem Den.newT {K : Frag} {F : Fx} {H : Hp} {β : Bg} {p : Addr} {ds : List D} {xs : List V} (fr : Fr F H β) (h : H p = none) (hd : DenL K F H ds xs) : Den K F (upd H p (.tup xs)) (.tup ds) (.ref p) :=
 ⟨p, xs, rfl, .inl ⟨fr.fresh h, .inl ai⟩, DenL.tr ((fr.upd _ h).tr fr) _ _ hd⟩
theorem Den.newL {K : Frag} {F : Fx} {H : Hp} {β : Bg} {p : Addr} {ds : List D} {xs : List V} (fr : Fr F H β) (h : H p = none) (hd : DenL K F H ds xs) : Den K F (upd H p (.lst xs)) (.lst ds) (.ref p) :=
 ⟨p, xs, rfl, ⟨fr.fresh h, .inl ai⟩, DenL.tr ((fr.upd _ h).tr fr) _ _ hd⟩
theorem tq {x1} {g : FL} (h : PA X es (tVA X.K g E)) : PE X (.Tuple es x1 pos) (tV X.K (aj c5 g) E) :=
 (v9 h).imp fun σ H Q h_ => ex6 h_ fun F δ β fr vk r => ⟨F, δ, β, fr, vk, (run.bind (R := DenL X.K F) r).mono fun vs H1 h_ => by
  obtain ⟨ds, β1, t, hd, r1⟩ := h_
  obtain ⟨d3, e3, k⟩ := run.ofO r1
  unfold c5 at e3
  split at e3
  ·cases e3
   exact ⟨by rw [← hd.length]; assumption, fun p hp => k _ _ (t.fr.upd _ hp) (Den.newT t.fr hp hd)⟩
  ·cases e3⟩
theorem xS {g : FL} (h : PA X es (tVA X.K g E)) : PE X (.List es pos) (tV X.K (aj ef g) E) :=
 (f9 h).imp fun σ H Q h_ => ex6 h_ fun F δ β fr vk r => ⟨F, δ, β, fr, vk, (run.bind (R := DenL X.K F) r).mono fun vs H1 h_ => by
  obtain ⟨ds, β1, t, hd, r1⟩ := h_
  obtain ⟨d3, e3, k⟩ := run.ofO r1
  unfold ef at e3
  split at e3
  ·cases e3
   exact ⟨by rw [← hd.length]; assumption, fun p hp => k _ _ (t.fr.upd _ hp) (Den.newL t.fr hp hd)⟩
  ·cases e3⟩
end
def spF (K : Frag) (n : Nat) (m : List D -> M D) : Sp := fun vs H Q E => vs.length = n /\ ∃ F ds β, Fr F H β /\ DenL K F H ds vs /\ run (Den K F) F (fun _ => E) [] (m ds) H Q β
section
variable {X : Cx} {E : St -> XK} {e : Expr} {es : List Expr} {pos p : Pos} {x : Str} {k n : Nat} {f : Addr} {fd : FuncData} {ps : List Str}
theorem run.toE {α γ : Type} {R : Hp -> α -> γ -> Prop} {F : Fx} {E : St -> XK} {σ : St} {m : M α} {H : Hp} {Q : γ -> Hp -> Prop} {β : Bg} (h : run R F E σ m H Q β) : run R F (fun _ => E σ) [] m H Q β := h
theorem aG {m : List D -> M D} {g : FL} (G : FnOk X.prog X.w X.K X.mg X.base (CXE X.prog X.w) k f fd ps (spF X.K n m)) (hr : Room k X.A) (hg : Gl X x) (hm : X.mg x = some (.ref f)) (hk : keepIn X.K (.ref f) = true) (hb : ay X.K fd ps []) (hx : aP (CXE X.prog X.w) X E)
  (ha : PA X (e :: es) (tVA X.K g E)) (hn : ∀ δ β r β', g δ β = some (.ok r, β') -> r.length = n) (hdb : (x == ("__debug__" : Str)) = false := by decide) (he : starEach (e :: es) X.env = (false, eval e X.env) :: starEach es X.env := by rfl) (hpl : (backTo pos (starEach es X.env)).any (·.1) = false := by rfl) :
  PE X (.Call (.Name x p) (e :: es) [] pos) (tV X.K (aA m g) E) :=
 (kP G hr hg hm hk hb .nil hx ha hdb he hpl).imp fun σ H Q h_ => ex6 h_ fun F δ β fr vk r => ⟨F, δ, β, fr, vk, by
  obtain ⟨r0, β0, e0, h0⟩ := run.bind (R := DenL X.K F) r
  refine ⟨r0, β0, e0, ?_⟩
  cases r0 with
  | error C => exact h0
  | ok ds =>
   intro vs H1 t hd
   obtain ⟨d', β1, t1, hd1, r1⟩ := h0 vs H1 t hd
   have hl := hn _ _ _ _ e0
   refine ⟨by rw [List.append_nil, ← hd.length, hl], F, d', β1, t1.fr, by rw [List.append_nil]; exact hd1, run.toE r1⟩⟩
end
theorem sY {δ : Dn} {β β' : Bg} {r : List D} (h : af δ β = some (.ok r, β')) : r.length = 0 := by cases h; rfl
theorem ah {f : FD} {g : FL} {n : Nat} (hg : ∀ δ β r β', g δ β = some (.ok r, β') -> r.length = n) : ∀ δ β r β', aa f g δ β = some (.ok r, β') -> r.length = n + 1 := by
 intro δ β r β' h
 unfold aa M.bind at h
 split at h
 ·cases h
 ·cases h
 ·dsimp only at h
  split at h
  ·cases h
  ·cases h
  ·rename_i as _ hq
   cases h
   rw [List.length_cons, hg _ _ _ _ hq]
section
variable {X : Cx} {K : Frag}
def opI (g : Int -> Int -> Option D) : D -> D -> Option D
 | .int i, .int j => g i j
 | _, _ => none
theorem m6 {g : Int -> Int -> Option D} {a b d : D} (h : opI g a b = some d) : ∃ i j, a = .int i /\ b = .int j /\ g i j = some d := by
 cases a <;> cases b <;> first | (exact ⟨_, _, rfl, rfl, h⟩) | (cases h)
theorem qI {g : Int -> Int -> Int} : bd K (rI0 fun i j => .int (g i j)) (opI fun i j => some (.int (g i j))) := fun F H β Q d1 d2 d v1 v2 fr h1 h2 e k => by
 obtain ⟨i, j, rfl, rfl, e⟩ := m6 e
 cases e
 exact ⟨i, j, h1, h2, k _ H (To.refl fr) rfl⟩
theorem gB {g : Int -> Int -> Bool} : bd K (rI0 fun i j => .bl (g i j)) (opI fun i j => some (.bl (g i j))) := fun F H β Q d1 d2 d v1 v2 fr h1 h2 e k => by
 obtain ⟨i, j, rfl, rfl, e⟩ := m6 e
 cases e
 exact ⟨i, j, h1, h2, k _ H (To.refl fr) rfl⟩
def pb : D -> D -> Option D := opI fun i j => some (.int (i - j))
def modD : D -> D -> Option D := opI fun i j => if decide (0 < j) = true then some (.int (i % j)) else none
def ltD : D -> D -> Option D := opI fun i j => some (.bl (decide (i < j)))
def leD : D -> D -> Option D := opI fun i j => some (.bl (decide (i <= j)))
def gtD : D -> D -> Option D := opI fun i j => some (.bl (decide (j < i)))
def geD : D -> D -> Option D := opI fun i j => some (.bl (decide (j <= i)))
theorem tS : bd K (rI0 fun i j => .int (i - j)) pb := qI
theorem wF : bd K (rI0 fun i j => .bl (decide (i < j))) ltD := gB
theorem pF : bd K (rI0 fun i j => .bl (decide (i <= j))) leD := gB
theorem wH : bd K (rI0 fun i j => .bl (decide (j < i))) gtD := gB
def pj : R2 := fun x y H Q => ∃ l b xs zs, x = .ref l /\ y = .ref b /\ Rd H l (.lst xs) /\ Rd H b (.lst zs) /\ xs.length + zs.length <= sizeLine /\ ∀ p, H p = none -> Q (.ref p) (upd H p (.lst (xs ++ zs)))
theorem uO : OpR X (binaryOp .Add) pj := by
 intro pins s σ H x y v u Q I rx ry h
 obtain ⟨l, b, xs, zs, rfl, rfl, hH, hB, hz, q⟩ := h
 cases rx
 cases ry
 obtain ⟨z, its, n, r, e⟩ := hH.ok I.hok
 obtain ⟨z2, its2, n2, r2, e2⟩ := hB.ok I.hok
 have l1 := r.length
 have l2 := r2.length
 refine PySem.P.add_list e e2 ?_ (by simp only [List.size_toArray]; omega)
 rw [show its.toArray ++ its2.toArray = (its ++ its2).toArray by simp]
 exact ⟨.ref _, _, I.lnew (t' := s.toks) (r.append r2) (by rw [List.length_append]; omega), rfl, q _ I.fresh⟩
def pk (K : Frag) : R2 := fun x y H Q => ∃ a b ys, x = .ref a /\ y = .ref b /\ SqT K H a [] /\ SqT K H b ys /\ Q (.ref b) H
theorem uP : OpR X (binaryOp .Add) (pk X.K) := by
 intro pins s σ H x y v u Q I rx ry h
 obtain ⟨a, b, ys, rfl, rfl, ha, hb, q⟩ := h
 cases rx
 cases ry
 obtain ⟨its, r1, p1, _⟩ := I.tuple ha
 obtain ⟨its2, r2, p2, _⟩ := I.tuple hb
 cases r1
 obtain ⟨⟨c1, d1, dt1, sl1⟩, ho, hc, n, hd⟩ := p1
 obtain ⟨⟨c2, d2, dt2, sl2⟩, ho2, hc2, n2, hd2⟩ := p2
 simp only at hc hd hc2 hd2
 subst hc hd hc2 hd2
 exact PySem.concat_meets ⟨_, ho, rfl⟩ ⟨_, ho2, rfl⟩ noFill_tuple_add seq_tuple_add PySem.F.slot_tuple_add PySem.F.entry_tuple_add (PySem.F.args_tuple_add_2 _ _) (tuple_addW0 a b _ _ n n2 d1 d2 sl1 sl2 (by simp)) ⟨ho, ho2, ⟨.ref b, H, I, rfl, q⟩⟩
def iu : D -> D -> Option D
 | .int i, .int j => some (.int (i + j))
 | .tup [], .tup b => some (.tup b)
 | .lst a, .lst b => if a.length + b.length <= sizeLine then some (.lst (a ++ b)) else none
 | .tup (c :: a), .tup b => if (c :: a).length + b.length <= sizeLine then some (.tup (c :: a ++ b)) else none
 | _, _ => none
theorem kc : bd K (fun x y H Q => (rI0 fun i j => .int (i + j)) x y H Q \/ pj x y H Q \/ pi K x y H Q \/ pk K x y H Q) iu := fun F H β Q d1 d2 d v1 v2 fr h1 h2 e k => by
 unfold iu at e
 split at e
 ·cases e
  exact .inl ⟨_, _, h1, h2, k _ H (To.refl fr) rfl⟩
 ·cases e
  obtain ⟨a, xs, rfl, r1, dl1⟩ := Den.sqT h1
  obtain ⟨b, ys, rfl, r2, dl2⟩ := Den.sqT h2
  have q : xs = [] := dl1
  subst q
  exact .inr (.inr (.inr ⟨a, b, ys, rfl, rfl, r1, r2, k _ H (To.refl fr) h2⟩))
 ·split at e
  ·cases e
   obtain ⟨a, xs, rfl, r1, dl1⟩ := Den.rdL h1
   obtain ⟨b, ys, rfl, r2, dl2⟩ := Den.rdL h2
   exact .inr (.inl ⟨a, b, xs, ys, rfl, rfl, r1, r2, by rw [← dl1.length, ← dl2.length]; assumption, fun p hp => k _ _ (fr.upd _ hp) (Den.newL fr hp (dl1.append dl2))⟩)
  ·cases e
 ·split at e
  ·cases e
   obtain ⟨a, xs, rfl, r1, dl1⟩ := Den.sqT h1
   obtain ⟨b, ys, rfl, r2, dl2⟩ := Den.sqT h2
   have n1 := dl1.length
   have n2 := dl2.length
   refine .inr (.inr (.inl ⟨a, b, xs, ys, rfl, rfl, r1, r2, (fun z => by subst z; cases n1), by rw [← n1, ← n2]; assumption, fun z => ?_, fun _ p hp => k _ _ (fr.upd _ hp) (Den.newT fr hp (dl1.append dl2))⟩))
   subst z
   have z2 := List.length_eq_zero_iff.mp n2
   subst z2
   rw [List.append_nil] at k
   exact k _ H (To.refl fr) h1
  ·cases e
 ·cases e
theorem d4 : OpR X (binaryOp .Add) (fun x y H Q => (rI0 fun i j => .int (i + j)) x y H Q \/ pj x y H Q \/ pi X.K x y H Q \/ pk X.K x y H Q) := jX.or (uO.or (uN.or uP))
def eqS : D -> D -> Option Bool
 | .non, .non => some true
 | .int i, .int j => some (decide (i = j))
 | .bl i, .bl j => some (decide (i = j))
 | .str i, .str j => some (decide (i = j))
 | .int _, .str _ => some false
 | .str _, .int _ => some false
 | .bl _, .str _ => some false
 | .str _, .bl _ => some false
 | .non, .int _ => some false
 | .int _, .non => some false
 | .non, .str _ => some false
 | .str _, .non => some false
 | _, _ => none
theorem q9 {F : Fx} {H : Hp} {a b : D} {v w : V} {c : Bool} (h : eqS a b = some c) (h1 : Den K F H a v) (h2 : Den K F H b w) : rO v w = true /\ decide (v = w) = c := by
 unfold eqS at h
 split at h <;> first
  | (cases h; cases h1.int; cases h2.int; exact ⟨rfl, by simp⟩)
  | (cases h; cases h1.bl; cases h2.bl; exact ⟨rfl, by simp⟩)
  | (cases h; cases h1.str; cases h2.str; exact ⟨rfl, by simp⟩)
  | (cases h; cases h1.non; cases h2.non; exact ⟨rfl, by simp⟩)
  | (cases h; cases h1.int; cases h2.str; exact ⟨rfl, rfl⟩)
  | (cases h; cases h1.str; cases h2.int; exact ⟨rfl, rfl⟩)
  | (cases h; cases h1.bl; cases h2.str; exact ⟨rfl, rfl⟩)
  | (cases h; cases h1.str; cases h2.bl; exact ⟨rfl, rfl⟩)
  | (cases h; cases h1.non; cases h2.int; exact ⟨rfl, rfl⟩)
  | (cases h; cases h1.int; cases h2.non; exact ⟨rfl, rfl⟩)
  | (cases h; cases h1.non; cases h2.str; exact ⟨rfl, rfl⟩)
  | (cases h; cases h1.str; cases h2.non; exact ⟨rfl, rfl⟩)
  | cases h
def isN : D -> Bool
 | .non => true
 | _ => false
theorem wN {F : Fx} {H : Hp} {d : D} {v : V} (h : Den K F H d v) : decide (v = .non) = isN d := by
 cases d with
 | non => cases h.non; rfl
 | bl b => cases h.bl; rfl
 | int b => cases h.int; rfl
 | str b => cases h.str; rfl
 | ty b => cases h.ty; rfl
 | txt => unfold Den at h; obtain ⟨z, rfl⟩ := h; rfl
 | lst ds => obtain ⟨a, xs, rfl, _⟩ := Den.sqL h; rfl
 | tup ds => obtain ⟨a, xs, rfl, _⟩ := Den.sqT h; rfl
 | scr ds => obtain ⟨a, rfl, _⟩ := Den.scr h; rfl
 | obj C ns ds =>
  unfold Den at h
  obtain ⟨a, _, _, rfl, _⟩ := h; rfl
 | bag =>
  unfold Den at h
  obtain ⟨a, _, _, rfl⟩ := h; rfl
 | adr a =>
  unfold Den at h
  obtain rfl := h; rfl
def d8 : D -> D -> Option D
 | a, .non => some (.bl (isN a))
 | _, _ => none
def iE : D -> D -> Option D
 | a, .non => some (.bl (!isN a))
 | _, _ => none
theorem tT : bd K (fun x y H Q => y = .non /\ Q (.bl (decide (x = .non))) H) d8 := fun F H β Q d1 d2 d v1 v2 fr h1 h2 e k => by
 unfold d8 at e
 split at e
 ·cases e
  exact ⟨h2, by rw [wN h1]; exact k _ H (To.refl fr) rfl⟩
 ·cases e
def cP : D -> Bool
 | .int _ => true | .bl _ => true | .str _ => true | .non => true | _ => false
def eqF : D -> D -> Bool
 | .non, .non => true
 | .bl a, .bl b => a == b
 | .bl a, .int b => (if a then 1 else 0) == b
 | .int a, .bl b => a == (if b then 1 else 0)
 | .int a, .int b => a == b
 | .str a, .str b => a == b
 | _, _ => false
def dC : D -> Option (List D)
 | .lst a => some a
 | .tup a => some a
 | _ => none
def inB (x : D) (ys : List D) : Bool := ys.any fun y => eqF y x
def inD (neg : Bool) (x y : D) : Option D := (dC y).bind fun ys => if (cP x && ys.all cP) = true then some (.bl (if neg then !inB x ys else inB x ys)) else none
theorem k9 {F : Fx} {H : Hp} {d : D} {v : V} (f : cP d = true) (h : Den K F H d v) : dU v = true := by
 cases d <;> first | (cases h.int; rfl) | (cases h.bl; rfl) | (cases h.str; rfl) | (cases h.non; rfl) | cases f
theorem wV {F : Fx} {H : Hp} {a b : D} {v w : V} (fa : cP a = true) (fb : cP b = true) (h1 : Den K F H a v) (h2 : Den K F H b w) : eqV v w = eqF a b := by
 cases a <;> cases b <;> first
  | (cases h1.int; cases h2.int; rfl) | (cases h1.int; cases h2.bl; rfl) | (cases h1.int; cases h2.str; rfl) | (cases h1.int; cases h2.non; rfl)
  | (cases h1.bl; cases h2.int; rfl) | (cases h1.bl; cases h2.bl; rfl) | (cases h1.bl; cases h2.str; rfl) | (cases h1.bl; cases h2.non; rfl)
  | (cases h1.str; cases h2.int; rfl) | (cases h1.str; cases h2.bl; rfl) | (cases h1.str; cases h2.str; rfl) | (cases h1.str; cases h2.non; rfl)
  | (cases h1.non; cases h2.int; rfl) | (cases h1.non; cases h2.bl; rfl) | (cases h1.non; cases h2.str; rfl) | (cases h1.non; cases h2.non; rfl)
  | (exfalso; exact Bool.false_ne_true fa) | (exfalso; exact Bool.false_ne_true fb)
theorem nl {F : Fx} {H : Hp} {x : D} {v : V} (fx : cP x = true) (hx : Den K F H x v) : ∀ {ds : List D} {vs : List V}, ds.all cP = true -> DenL K F H ds vs -> vs.all dU = true /\ inV v vs = inB x ds
 | [], vs, _, h => by have q : vs = [] := h; subst q; exact ⟨rfl, rfl⟩
 | d :: ds, vs, f, h => by
  obtain ⟨y, r, q, h1, h2⟩ := h
  subst q
  rw [List.all_cons, Bool.and_eq_true] at f
  obtain ⟨i1, i2⟩ := nl fx hx f.2 h2
  refine ⟨by rw [List.all_cons, k9 f.1 h1, i1]; rfl, ?_⟩
  unfold inV inB at i2 ⊢
  rw [List.any_cons, List.any_cons, i2, wV f.1 fx h1 hx]
theorem l_in {neg : Bool} : bd K (rIn K neg) (inD neg) := fun F H β Q d1 d2 d v1 v2 fr h1 h2 e k => by
 unfold inD at e
 cases q : dC d2 with
 | none => rw [q] at e; cases e
 | some ys =>
  rw [q] at e
  simp only [Option.bind_some] at e
  split at e
  ·rename_i hf
   rw [Bool.and_eq_true] at hf
   cases e
   cases d2 <;> first | (cases q; obtain ⟨a, xs, rfl, r1, dl⟩ := Den.sqL h2; obtain ⟨i1, i2⟩ := nl hf.1 h1 hf.2 dl; exact ⟨a, xs, rfl, .inl r1, k9 hf.1 h1, i1, by rw [i2]; exact k _ H (To.refl fr) rfl⟩) | (cases q; obtain ⟨a, xs, rfl, r1, dl⟩ := Den.sqT h2; obtain ⟨i1, i2⟩ := nl hf.1 h1 hf.2 dl; exact ⟨a, xs, rfl, .inr r1, k9 hf.1 h1, i1, by rw [i2]; exact k _ H (To.refl fr) rfl⟩) | cases q
  ·cases e
def ixD : D -> D -> Option D
 | .lst xs, .int i => atI xs i
 | .tup xs, .int i => atI xs i
 | _, _ => none
theorem rB {F : Fx} {H : Hp} {ds : List D} {vs : List V} {i : Int} {d : D} (h : DenL K F H ds vs) (e : atI ds i = some d) : ∃ v, atI vs i = some v /\ Den K F H d v := by
 unfold atI at e ⊢
 rw [← h.length]
 cases q : ixN ds.length i with
 | none => rw [q] at e; cases e
 | some j =>
  rw [q] at e
  exact h.get e
theorem cD : bd K (fun x y H Q => ph K x y H Q \/ rV K x y H Q) ixD := fun F H β Q d1 d2 d v1 v2 fr h1 h2 e k => by
 unfold ixD at e
 split at e
 ·obtain ⟨a, xs, rfl, r1, dl⟩ := Den.sqL h1
  obtain ⟨v, e2, hd⟩ := rB dl e
  exact .inl ⟨a, xs, _, v, rfl, h2, r1, e2, k _ H (To.refl fr) hd⟩
 ·obtain ⟨a, xs, rfl, r1, dl⟩ := Den.sqT h1
  obtain ⟨v, e2, hd⟩ := rB dl e
  exact .inr ⟨a, xs, _, v, rfl, h2, r1, e2, k _ H (To.refl fr) hd⟩
 ·cases e
theorem bc : IxR X (fun x y H Q => ph X.K x y H Q \/ rV X.K x y H Q) := bJ.or wM
def bf : List D -> Option D
 | [.lst xs] => some (.int xs.length)
 | [.tup xs] => some (.int xs.length)
 | _ => none
theorem DenL.one {F : Fx} {H : Hp} {d : D} {vs : List V} (h : DenL K F H [d] vs) : ∃ v, vs = [v] /\ Den K F H d v := by
 obtain ⟨x, r, e, h1, h2⟩ := h
 have q : r = [] := h2
 subst q
 exact ⟨x, e, h1⟩
theorem DenL.two {F : Fx} {H : Hp} {d c : D} {vs : List V} (h : DenL K F H [d, c] vs) : ∃ v w, vs = [v, w] /\ Den K F H d v /\ Den K F H c w := by
 obtain ⟨x, r, e, h1, h2⟩ := h
 obtain ⟨y, rfl, h3⟩ := DenL.one h2
 exact ⟨x, y, e, h1, h3⟩
theorem c9 : cy K (fun xs H Q => ∃ p ys, xs = [.ref p] /\ (SqL K H p ys \/ SqT K H p ys) /\ Q (.int ys.length) H) bf := fun F H β Q ds d vs fr h e k => by
 unfold bf at e
 split at e
 ·cases e
  obtain ⟨v, rfl, g⟩ := DenL.one h
  obtain ⟨a, xs, rfl, r, dl⟩ := Den.sqL g
  exact ⟨a, xs, rfl, .inl r, by rw [← dl.length]; exact k _ H (To.refl fr) rfl⟩
 ·cases e
  obtain ⟨v, rfl, g⟩ := DenL.one h
  obtain ⟨a, xs, rfl, r, dl⟩ := Den.sqT g
  exact ⟨a, xs, rfl, .inr r, by rw [← dl.length]; exact k _ H (To.refl fr) rfl⟩
 ·cases e
def ls : List D -> Option D
 | [.int i] => some (.int (if i < 0 then -i else i))
 | _ => none
def ng : List D -> Option D
 | [.int i, .int j] => some (.int (if j < i then j else i))
 | _ => none
theorem yi : cy K (fun xs H Q => ∃ i j, xs = [.int i, .int j] /\ Q (.int (if j < i then j else i)) H) ng := fun F H β Q ds d vs fr h e k => by
 unfold ng at e
 split at e
 ·cases e
  obtain ⟨v, w, rfl, g, g'⟩ := DenL.two h
  cases g.int
  cases g'.int
  exact ⟨_, _, rfl, k _ H (To.refl fr) rfl⟩
 ·cases e
def bP : List D -> Option (List Int)
 | [] => some []
 | .int i :: r => (bP r).map (i :: ·)
 | _ => none
theorem intsOf_eq : ∀ {ds : List D} {ns : List Int}, bP ds = some ns -> ds = ns.map D.int
 | [], ns, h => by cases h; rfl
 | d :: ds, ns, h => by
  cases d with
  | int i =>
   unfold bP at h
   cases q : bP ds with
   | none => rw [q] at h; cases h
   | some ms => rw [q] at h; cases h; rw [intsOf_eq q]; rfl
  | _ => cases h
theorem kj : ∀ ns : List Int, bP (ns.map D.int) = some ns
 | [] => rfl
 | n :: ns => by
  show (bP (ns.map D.int)).map (n :: ·) = _
  rw [kj ns]; rfl
def rN : List D -> Option D
 | [.lst xs] => (bP xs).map fun ns => .int ns.sum
 | _ => none
theorem yh : cy K (fun xs H Q => ∃ (a : Addr) (ns : List Int), xs = [.ref a] /\ SqL K H a (ns.map V.int) /\ Q (.int ns.sum) H) rN := fun F H β Q ds d vs fr h e k => by
 unfold rN at e
 split at e
 ·rename_i xs
  cases q : bP xs with
  | none => rw [q] at e; cases e
  | some ns =>
   rw [q] at e; cases e
   obtain ⟨v, rfl, g⟩ := DenL.one h
   obtain ⟨a, ys, rfl, r, dl⟩ := Den.sqL g
   rw [intsOf_eq q] at dl
   have e2 := DenL.ints ns dl
   subst e2
   exact ⟨a, ns, rfl, r, k _ H (To.refl fr) rfl⟩
 ·cases e
def j9 : List D -> Option D
 | [.lst xs] => some (.lst xs)
 | [.tup xs] => some (.lst xs)
 | _ => none
theorem qL : cy K (fun xs H Q => ∃ p ys, xs = [.ref p] /\ (SqL K H p ys \/ SqT K H p ys) /\ ∀ l, H l = none -> Q (.ref l) (upd H l (.lst ys))) j9 := fun F H β Q ds d vs fr h e k => by
 unfold j9 at e
 split at e
 ·cases e
  obtain ⟨v, rfl, g⟩ := DenL.one h
  obtain ⟨a, xs, rfl, r, dl⟩ := Den.sqL g
  exact ⟨a, xs, rfl, .inl r, fun l hl => k _ _ (fr.upd _ hl) (Den.newL fr hl dl)⟩
 ·cases e
  obtain ⟨v, rfl, g⟩ := DenL.one h
  obtain ⟨a, xs, rfl, r, dl⟩ := Den.sqT g
  exact ⟨a, xs, rfl, .inr r, fun l hl => k _ _ (fr.upd _ hl) (Den.newL fr hl dl)⟩
 ·cases e
end
def asB : D -> Option Bool
 | .bl b => some b
 | _ => none
theorem jv {d : D} {b : Bool} (h : asB d = some b) : d = .bl b := by cases d <;> first | (cases h; rfl) | cases h
def gw : D -> Option Bool
 | .non => some false
 | .bl b => some b
 | .int i => some (i != 0)
 | .lst xs => some (!xs.isEmpty)
 | .tup xs => some (!xs.isEmpty)
 | _ => none
def fB (f : FD) : Dn -> M Bool := fun δ => M.bind (f δ) fun d => M.ofO (asB d)
def bF (f : FD) : Dn -> M Bool := fun δ => M.bind (f δ) fun d => M.ofO (gw d)
def iM (f g : Dn -> M Bool) : Dn -> M Bool := fun δ => M.bind (f δ) fun c => if c = true then g δ else M.ret false
def cG (f g : Dn -> M Bool) : Dn -> M Bool := fun δ => M.bind (f δ) fun c => if c = true then M.ret true else g δ
def bq (f : Dn -> M Bool) : Dn -> M Bool := fun δ => M.bind (f δ) fun c => M.ret (!c)
def dj (f g : FD) : FD := fun δ => M.bind (f δ) fun d => M.bind (M.ofO (asB d)) fun c => if c = true then g δ else M.ret (.bl false)
def fOr (f g : FD) : FD := fun δ => M.bind (f δ) fun d => M.bind (M.ofO (asB d)) fun c => if c = true then M.ret (.bl true) else g δ
def la (f : FD) : FD := fun δ => M.bind (f δ) fun d => M.bind (M.ofO (asB d)) fun c => M.ret (.bl (!c))
def fIf (t : Dn -> M Bool) (f g : FD) : FD := fun δ => M.bind (t δ) fun c => if c = true then f δ else g δ
def ck (o o' : D -> D -> Option D) (f g h : FD) : FD := fun δ => M.bind (f δ) fun a => M.bind (g δ) fun b => M.bind (M.ofO (o a b)) fun z => M.bind (M.ofO (asB z)) fun c => if c = true then M.bind (h δ) (fun w => M.ofO (o' b w)) else M.ret (.bl false)
section
variable {X : Cx} {E : St -> XK} {a b c : Expr} {rest : List Expr} {pos : Pos} {K : Frag}
theorem M.ofO_bind {α γ : Type} {o : Option α} {k : α -> M γ} {β : Bg} {z : Except Addr γ × Bg} (h : M.bind (M.ofO o) k β = some z) : ∃ a, o = some a /\ k a β = some z := by
 cases o with
 | none => cases h
 | some a => exact ⟨a, rfl, h⟩
theorem run.ofO_bind {α γ ζ : Type} {R : Hp -> γ -> ζ -> Prop} {F : Fx} {σ : St} {o : Option α} {k : α -> M γ} {H : Hp} {Q : ζ -> Hp -> Prop} {β : Bg} (h : run R F E σ (M.bind (M.ofO o) k) H Q β) : ∃ a, o = some a /\ run R F E σ (k a) H Q β := by
 obtain ⟨r, β', e, h⟩ := h
 obtain ⟨a, q, e⟩ := M.ofO_bind e
 exact ⟨a, q, r, β', e, h⟩
theorem run.bOk {F : Fx} {σ : St} {d : D} {v : V} {H : Hp} {Q : Bool -> Hp -> Prop} {β : Bg} (fr : Fr F H β) (hd : Den K F H d v) (h : run (fun _ (a b : Bool) => b = a) F E σ (M.ofO (asB d)) H Q β) : ∃ k, v = .bl k /\ Q k H := by
 obtain ⟨b, e, k⟩ := run.ofO h
 rw [jv e] at hd
 exact ⟨b, hd, k b H (To.refl fr) rfl⟩
theorem mK {f : FD} {σ : St} {H : Hp} {Q : Bool -> Hp -> Prop} (h : tVT K (fB f) E σ H Q) : tV K f E σ H fun x H' => ∃ k, x = .bl k /\ Q k H' := by
 obtain ⟨F, δ, β, fr, vk, h⟩ := h
 exact ⟨F, δ, β, fr, vk, (run.bind (R := Den K F) h).mono fun v H1 h_ => ex5 h_ fun d β1 t hd r1 => run.bOk t.fr hd r1⟩
theorem dB {op : CmpOp} {r : R2} {o : D -> D -> Option D} {f g : FD} (ho : OpR X (compareOp op) r) (l : bd X.K r o) (ha : PE X a (tV X.K f E)) (hb : PE X b (tV X.K g E)) (hm : behindInMarks op b = false := by first | exact j4 _ | rfl) : PT X (.Compare a [op] [b] pos) (tVT X.K (fB (f2 o f g)) E) :=
 (ou ho ha hb hm).imp fun σ H Q h => jD l (mK h)
theorem qe {r r' : R2} {o o' : D -> D -> Option D} {f g h : FD} (l : bd K r o) (l' : bd K r' o') {σ : St} {H : Hp} {Q : VK} (hw : tV K (ck o o' f g h) E σ H Q) : qf r r' (tV K f E) (tV K g E) (tV K h E) σ H Q := by
 obtain ⟨F, δ, β, fr, vk, hw⟩ := hw
 refine ⟨F, δ, β, fr, vk, (run.bind (R := Den K F) hw).mono fun v H1 h_ => ex5 h_ fun d β1 t hd r1 => ⟨F, δ, β1, t.fr, vk.tr (t.tr fr), (run.bind (R := Den K F) r1).mono fun v2 H2 h_ => ex5 h_ fun d2 β2 t2 hd2 r2 => ?_⟩⟩
 obtain ⟨z, ez, r3⟩ := run.ofO_bind r2
 obtain ⟨c, ec, r4⟩ := run.ofO_bind r3
 rw [jv ec] at ez
 refine l F H2 β2 _ d d2 _ v v2 t2.fr (Den.tr (t2.tr t.fr) _ _ hd) hd2 ez fun vz H3 t3 hz => ⟨c, hz, ?_⟩
 cases c with
 | true =>
  rw [if_pos rfl] at r4
  refine ⟨F, δ, β2, t3.fr, vk.tr ((t.tr fr).trans ((t2.tr t.fr).trans (t3.tr t2.fr))), ?_⟩
  have r5 : run (Den K F) F E σ (M.bind (h δ) fun w => M.ofO (o' d2 w)) H3 Q β2 := by
   obtain ⟨rr, β', e, q⟩ := r4
   refine ⟨rr, β', e, ?_⟩
   cases rr with
   | ok d => exact fun v H' tt => q v H' (t3.trans tt)
   | error C => exact fun H' tt => q H' (t3.trans tt)
  refine (run.bind (R := Den K F) r5).mono fun w H4 h_ => ex5 h_ fun dw β4 t4 hdw r6 => ?_
  obtain ⟨d3, e3, k⟩ := run.ofO r6
  exact l' F H4 β4 Q d2 dw d3 v2 w t4.fr (Den.tr ((t3.tr t2.fr).trans (t4.tr t3.fr)) _ _ hd2) hdw e3 k
 | false =>
  rw [if_neg Bool.false_ne_true] at r4
  obtain ⟨rr, β', e, q⟩ := r4
  cases e
  exact q _ H3 t3 rfl
theorem n6 {op op' : CmpOp} {r r' : R2} {o o' : D -> D -> Option D} {f g h : FD} (ho : OpR X (compareOp op) r) (ho' : OpR X (compareOp op') r') (l : bd X.K r o) (l' : bd X.K r' o') (ha : PE X a (tV X.K f E)) (hb : PE X b (tV X.K g E)) (hc : PE X c (tV X.K h E)) (hm : lastMarks [op, op'] [b, c] = false := by with_unfolding_all rfl) :
  PT X (.Compare a [op, op'] [b, c] pos) (tVT X.K (fB (ck o o' f g h)) E) := (rX ho ho' ha hb hc hm).imp fun σ H Q q => qe l l' (mK q)
theorem ul {F : Fx} {H : Hp} {d : D} {v : V} {k : Bool} (h : gw d = some k) (hd : Den K F H d v) : sZ K v H k := by
 cases d with
 | non => cases h; cases hd.non; rfl
 | bl b => cases h; cases hd.bl; rfl
 | int i => cases h; cases hd.int; rfl
 | lst xs =>
  cases h
  obtain ⟨a, ys, rfl, r, dl⟩ := Den.sqL hd
  refine .inl ⟨ys, r, ?_⟩
  have := dl.length
  cases xs <;> cases ys <;> first | rfl | (simp at this)
 | tup xs =>
  cases h
  obtain ⟨a, ys, rfl, r, dl⟩ := Den.sqT hd
  refine .inr (.inl ⟨ys, r, ?_⟩)
  have := dl.length
  cases xs <;> cases ys <;> first | rfl | (simp at this)
 | _ => cases h
theorem dA {f : FD} (ha : PE X a (tV X.K f E)) (he : ∀ whole, isTrue a X.env whole = (do let v ← whole; standAt a.pos; holding [v] (truthy v)) := by intro _; rfl) : PT X a (tVT X.K (bF f) E) :=
 (rW ha he).imp fun σ H Q h_ => ex6 h_ fun F δ β fr vk h => ⟨F, δ, β, fr, vk, (run.bind (R := Den X.K F) h).mono fun v H1 h_ => by
  obtain ⟨d, β1, t, hd, r1⟩ := h_
  obtain ⟨k, e, q⟩ := run.ofO r1
  exact ⟨k, ul e hd, q k H1 (To.refl t.fr) rfl⟩⟩
theorem dR {f : Dn -> M Bool} (ha : PT X a (tVT X.K f E)) : PT X (.UnaryOp .Not a pos) (tVT X.K (bq f) E) :=
 (vX ha).imp fun σ H Q h_ => ex6 h_ fun F δ β fr vk h => ⟨F, δ, β, fr, vk, (run.bind (R := fun _ (a b : Bool) => b = a) h).mono fun v H1 h_ => by
  obtain ⟨d, β1, t, hd, r1⟩ := h_
  subst hd
  exact run.ret t.fr r1 rfl⟩
theorem vC {f g : Dn -> M Bool} {σ : St} {H : Hp} {Q : Bool -> Hp -> Prop} (h : tVT K (cG f g) E σ H Q) : tOr (tVT K f E) (tVT K g E) σ H Q := by
 obtain ⟨F, δ, β, fr, vk, h⟩ := h
 refine ⟨F, δ, β, fr, vk, (run.bind (R := fun _ (a b : Bool) => b = a) h).mono fun v H1 h_ => ex5 h_ fun d β1 t hd r1 => ?_⟩
 subst hd
 cases v with
 | false => rw [if_neg Bool.false_ne_true] at r1 ⊢; exact ⟨F, δ, β1, t.fr, vk.tr (t.tr fr), r1⟩
 | true => rw [if_pos rfl] at r1 ⊢; exact run.ret t.fr r1 rfl
theorem jy {f : Dn -> M Bool} (ha : PT X a (tVT X.K f E)) : PW X (.BoolOp .Or [a] pos) (tVT X.K f E) := vW ha
theorem mz {f g : Dn -> M Bool} (ha : PT X a (tVT X.K f E)) (hb : PW X (.BoolOp .Or (b :: rest) pos) (tVT X.K g E)) : PW X (.BoolOp .Or (a :: b :: rest) pos) (tVT X.K (cG f g) E) := (x8 ha hb).imp fun _ _ _ => vC
theorem g6 {e : Expr} {f : Dn -> M Bool} (h : PW X e (tVT X.K f E)) : PT X e (tVT X.K f E) := PW.pt h
theorem oZ {op} {f : FD} (h : PE X a (tV X.K f E)) : PE X (.BoolOp op [a] pos) (tV X.K f E) := wa h
theorem run.asB {F : Fx} {σ : St} {d : D} {v : V} {k : Bool -> M D} {H : Hp} {Q : VK} {β : Bg} (hd : Den K F H d v) (h : run (Den K F) F E σ (M.bind (M.ofO (asB d)) k) H Q β) : ∃ c, v = .bl c /\ run (Den K F) F E σ (k c) H Q β := by
 obtain ⟨c, e, h⟩ := run.ofO_bind h
 rw [jv e] at hd
 exact ⟨c, hd, h⟩
theorem o5 {f g : FD} (ha : PE X a (tV X.K f E)) (hb : PE X (.BoolOp .And (b :: rest) pos) (tV X.K g E)) : PE X (.BoolOp .And (a :: b :: rest) pos) (tV X.K (dj f g) E) :=
 (wj ha hb).imp fun σ H Q h_ => ex6 h_ fun F δ β fr vk h => ⟨F, δ, β, fr, vk, (run.bind (R := Den X.K F) h).mono fun v H1 h_ => by
  obtain ⟨d, β1, t, hd, r1⟩ := h_
  obtain ⟨c, e, r2⟩ := run.asB hd r1
  refine ⟨c, e, ?_⟩
  cases c with
  | true => rw [if_pos rfl] at r2 ⊢; exact ⟨F, δ, β1, t.fr, vk.tr (t.tr fr), r2⟩
  | false => rw [if_neg Bool.false_ne_true] at r2 ⊢; exact run.ret t.fr r2 rfl⟩
def tyD : D -> Option String
 | .non => some "NoneType" | .bl _ => some "bool" | .int _ => some "int" | .str _ => some "str" | .lst _ => some "list" | .tup _ => some "tuple" | _ => none
def fM : String -> String -> Option Bool
 | "int", "str" => some false | "int", "bool" => some false | "int", "list" => some false | "int", "tuple" => some false | "int", "int" => some true
 | "bool", "str" => some false | "bool", "bool" => some true | "bool", "list" => some false | "bool", "tuple" => some false
 | "str", "str" => some true | "str", "bool" => some false | "str", "list" => some false | "str", "tuple" => some false
 | "NoneType", "str" => some false | "NoneType", "bool" => some false | "NoneType", "list" => some false | "NoneType", "tuple" => some false
 | "list", "list" => some true | "list", "tuple" => some false | "list", "str" => some false | "list", "bool" => some false
 | "tuple", "list" => some false | "tuple", "tuple" => some true | "tuple", "str" => some false | "tuple", "bool" => some false
 | _, _ => none
def fK : String -> String -> String -> Option Bool
 | "int", "list", "tuple" => some false | "bool", "list", "tuple" => some false | "str", "list", "tuple" => some false | "NoneType", "list", "tuple" => some false | "list", "list", "tuple" => some true | "tuple", "list", "tuple" => some true
 | "int", "int", "str" => some true | "bool", "int", "str" => some true | "str", "int", "str" => some true | "NoneType", "int", "str" => some false | "list", "int", "str" => some false | "tuple", "int", "str" => some false
 | _, _, _ => none
theorem u3 {a b : String} {c : Bool} (h : fM a b = some c) : kitOne K (.type a) (.type b) = some c := by
 unfold fM at h
 split at h <;> first | (cases h; kernel_rfl) | cases h
theorem u2 {a b b' : String} {c : Bool} (h : fK a b b' = some c) : PySem.W.kitAny K (.type a) ([b, b'].map Value.type) = some c := by
 unfold fK at h
 split at h <;> first | (cases h; kernel_rfl) | cases h
def TyG (K : Frag) (H : Hp) (x : V) (t : Value) : Prop := TyOf K H x t \/ (∃ a ys, x = .ref a /\ SqL K H a ys /\ t = .type "list") \/ (∃ a ys, x = .ref a /\ SqT K H a ys /\ t = .type "tuple")
def tN (K : Frag) : List V -> Hp -> VK -> Prop := fun xs H Q => ∃ x c t b, xs = [x, .ty c] /\ TyG K H x t /\ kitOne K t (.type c) = some b /\ Q (.bl b) H
theorem bV : bt X (.builtin "isinstance") (tN X.K) := by
 intro pins s σ H xs us Q I r h
 obtain ⟨x, c, t, b, rfl, ty, e, q⟩ := h
 cases r with
 | cons r1 r2 =>
  cases r2 with
  | cons r2 r3 =>
   cases r3
   cases r2
   rcases ty with ty | ⟨a, ys, rfl, sq, rfl⟩ | ⟨a, ys, rfl, sq, rfl⟩
   ·exact lK I r1 ty e fun tk => ⟨.bl b, H, I.tok _, rfl, q⟩
   ·cases r1
    obtain ⟨its, _, pl, _⟩ := I.list sq
    obtain ⟨o, ho, hc, _⟩ := pl.isList
    exact kia_one kitx_list I.kIn ⟨o, ho, hc⟩ e (fun z => nomatch z) fun tk => ⟨.bl b, H, I.tok _, rfl, q⟩
   ·cases r1
    obtain ⟨its, _, pl, _⟩ := I.tuple sq
    obtain ⟨o, ho, hc, _⟩ := pl
    exact kia_one kitx_tuple I.kIn ⟨o, ho, hc⟩ e (fun z => nomatch z) fun tk => ⟨.bl b, H, I.tok _, rfl, q⟩
theorem mD {F : Fx} {H : Hp} {d : D} {v : V} {t : String} (h : tyD d = some t) (hd : Den K F H d v) : TyG K H v (.type t) := by
 cases d with
 | non => cases h; cases hd.non; exact .inl .non
 | bl b => cases h; cases hd.bl; exact .inl (.bl b)
 | int b => cases h; cases hd.int; exact .inl (.int b)
 | str b => cases h; cases hd.str; exact .inl (.str b)
 | lst ds => cases h; obtain ⟨a, xs, rfl, sq, _⟩ := Den.sqL hd; exact .inr (.inl ⟨a, xs, rfl, sq, rfl⟩)
 | tup ds => cases h; obtain ⟨a, xs, rfl, sq, _⟩ := Den.sqT hd; exact .inr (.inr ⟨a, xs, rfl, sq, rfl⟩)
 | _ => cases h
def bx : List D -> Option D
 | [x, .ty c] => (tyD x).bind fun t => (fM t c).map D.bl
 | _ => none
theorem fm : cy K (tN K) bx := fun F H β Q ds d vs fr h e k => by
 unfold bx at e
 split at e
 ·rename_i x c
  cases q : tyD x with
  | none => rw [q] at e; cases e
  | some t =>
   rw [q] at e
   simp only [Option.bind_some] at e
   cases q2 : fM t c with
   | none => rw [q2] at e; cases e
   | some b =>
    rw [q2] at e; cases e
    obtain ⟨v, w, rfl, h1, h2⟩ := DenL.two h
    cases h2.ty
    exact ⟨v, c, _, b, rfl, mD q h1, u3 q2, k _ H (To.refl fr) rfl⟩
 ·cases e
def qq (K : Frag) : List V -> Hp -> VK -> Prop := fun xs H Q => ∃ (x : V) (tp : Addr) (cs : List String) (t : Value) (b : Bool), xs = [x, .ref tp] /\ SqT K H tp (cs.map V.ty) /\ TyG K H x t /\ PySem.W.kitAny K t (cs.map Value.type) = some b /\ Q (.bl b) H
theorem kz : bt X (.builtin "isinstance") (qq X.K) := by
 intro pins s σ H xs us Q I r h
 obtain ⟨x, tp, cs, t, b, rfl, htp, ty, e, q⟩ := h
 cases r with
 | cons r1 r2 =>
  cases r2 with
  | cons r2 r3 =>
   cases r3
   cases r2
   obtain ⟨its, rv, ⟨⟨oc, od, odt, osl⟩, ho, hoc, n, hod⟩, _⟩ := I.tuple htp
   rw [qa rv] at hod
   dsimp only at hoc hod
   subst hoc hod
   have fin : ∀ tk, EP X pins σ Q (.bool b) { s with toks := tk } := fun tk => ⟨.bl b, H, I.tok _, rfl, q⟩
   rcases ty with ty | ⟨a, ys, rfl, sq, rfl⟩ | ⟨a, ys, rfl, sq, rfl⟩
   ·cases ty with
    | non => cases r1; exact kia_tup PySem.W.kitx_none I.kIn True.intro ho e (fun z => nomatch z) fin
    | bl y => cases r1; exact kia_tup PySem.W.kitx_bool I.kIn True.intro ho e (fun z => nomatch z) fin
    | int i => obtain ⟨t, rfl⟩ := r1; exact kia_tup PySem.W.kitx_int I.kIn True.intro ho e (fun z => nomatch z) fin
    | str y => obtain ⟨t, rfl⟩ := r1; exact kia_tup PySem.W.kitx_str I.kIn True.intro ho e (fun z => nomatch z) fin
    | flt y => obtain ⟨t, rfl⟩ := r1; exact kia_tup PySem.W.kitx_float I.kIn True.intro ho e (fun z => nomatch z) fin
    | @lst a xs ea =>
     cases r1
     obtain ⟨_, _, n, _, h1⟩ := (show aX X.prog X.w H s.heap a (.lst xs) from I.hok a _ ea)
     exact kia_tup kitx_list I.kIn ⟨_, h1, rfl⟩ ho e (fun z => nomatch z) fin
    | @frz a ob xs ea =>
     cases r1
     obtain ⟨_, _, _, n, _, h1⟩ := (show aX X.prog X.w H s.heap a (.frz ob (.lst xs)) from I.hok a _ ea)
     exact kia_tup kitx_list I.kIn ⟨_, h1, rfl⟩ ho e (fun z => nomatch z) fin
    | @tup a xs ea =>
     cases r1
     obtain ⟨_, _, _, p⟩ := (show aX X.prog X.w H s.heap a (.tup xs) from I.hok a _ ea)
     obtain ⟨o, h1, h2, _⟩ := p
     exact kia_tup kitx_tuple I.kIn ⟨o, h1, h2⟩ ho e (fun z => nomatch z) fin
    | @dK a kvs ea =>
     cases r1
     obtain ⟨_, _, vs, _, p⟩ := (show aX X.prog X.w H s.heap a (.dK kvs) from I.hok a _ ea)
     obtain ⟨o, es, ep, h1, h2, _⟩ := p
     exact kia_tup kitx_dict I.kIn ⟨o, h1, h2.1⟩ ho e (fun z => nomatch z) fin
    | @dT a kvs ea =>
     cases r1
     obtain ⟨_, _, xs, _, o, es, ep, h1, h2, _⟩ := (show aX X.prog X.w H s.heap a (.dT kvs) from I.hok a _ ea)
     exact kia_tup kitx_dict I.kIn ⟨o, h1, h2.1⟩ ho e (fun z => nomatch z) fin
    | @ins a C dx fs ea cl ha hn htk hm =>
     cases r1
     obtain ⟨mA, O, _⟩ := cm I.hok ea
     obtain ⟨od, J, _⟩ := O.look
     exact kia_tup (PySem.W.kitx_own (cl.get _) cl.hd ha hn htk hm) I.kIn J ho e (fun z => nomatch z) fin
   ·cases r1
    obtain ⟨its, _, pl, _⟩ := I.list sq
    obtain ⟨o, ho', hc, _⟩ := pl.isList
    exact kia_tup kitx_list I.kIn ⟨o, ho', hc⟩ ho e (fun z => nomatch z) fin
   ·cases r1
    obtain ⟨its, _, pl, _⟩ := I.tuple sq
    obtain ⟨o, ho', hc, _⟩ := pl
    exact kia_tup kitx_tuple I.kIn ⟨o, ho', hc⟩ ho e (fun z => nomatch z) fin
def da : List D -> Option D
 | [x, .tup [.ty a, .ty b]] => (tyD x).bind fun t => (fK t a b).map D.bl
 | _ => none
theorem qM : cy K (qq K) da := fun F H β Q ds d vs fr h e k => by
 unfold da at e
 split at e
 ·rename_i x a b
  cases q : tyD x with
  | none => rw [q] at e; cases e
  | some t =>
   rw [q] at e
   simp only [Option.bind_some] at e
   cases q2 : fK t a b with
   | none => rw [q2] at e; cases e
   | some c =>
    rw [q2] at e; cases e
    obtain ⟨v, w, rfl, h1, h2⟩ := DenL.two h
    obtain ⟨p, xs, rfl, sq, dl⟩ := Den.sqT h2
    obtain ⟨y, z, rfl, g1, g2⟩ := DenL.two dl
    cases g1.ty
    cases g2.ty
    exact ⟨v, p, [a, b], _, c, rfl, sq, mD q h1, u2 q2, k _ H (To.refl fr) rfl⟩
 ·cases e
end
def ItD (K : Frag) (J : It) (F : Fx) (H : Hp) (ds : List D) : Prop := ∀ (F2 : Fx) (H2 : Hp) (β2 : Bg), Tr F H F2 H2 -> Fr F2 H2 β2 -> ∀ i, (∀ d, ds[i]? = some d -> J.go i H2 /\ ∀ x H3, J.yld i H2 x H3 -> bh H2 H3 /\ Den K F2 H3 d x) /\ (i = ds.length -> J.stop i H2)
theorem ItD.tr {K : Frag} {J : It} {F F2 : Fx} {H H2 : Hp} {ds : List D} (t : Tr F H F2 H2) (h : ItD K J F H ds) : ItD K J F2 H2 ds := fun F3 H3 β3 t3 fr => h F3 H3 β3 (t.trans t3) fr
def iV (K : Frag) (f : FL) (E : St -> XK) : TI := fun σ H R => ∃ F δ β, Fr F H β /\ VOk K F H δ σ /\ run (fun H' (ds : List D) (J : It) => ItD K J F H' ds) F E σ (f δ) H R β
theorem _root_.L2.PI.imp {X : Cx} {tg e : Expr} {t t' : TI} (h : PI X tg e t) (f : ∀ σ H Q, t' σ H Q -> t σ H Q) : PI X tg e t' := fun pins s σ H Q I q => h pins s σ H Q I (f σ H Q q)
section
variable {X : Cx} {E : St -> XK} {tg : Expr} {K : Frag}
def iSeq (K : Frag) (tl : TE) : TI := fun σ H R => tl σ H fun x H1 => (∃ a, x = .ref a /\ (∃ xs, SqL K H1 a xs) /\ R (Itl K a) H1) \/ (∃ a, x = .ref a /\ (∃ xs, SqT K H1 a xs) /\ R (Itt K a) H1)
theorem v6 {l : Expr} {tl : TE} (hl : PE X l tl) : PI X tg l (iSeq X.K tl) := by
 intro pins s σ H R I h
 refine thn (hl pins s σ H _ I h) fun v s1 ⟨x, H1, I1, r1, q1⟩ => ?_
 have own : ∀ b ∈ [s1.heap.objs.size], cU X pins H1 b := fun b hb => by
  obtain rfl : b = s1.heap.objs.size := by simpa using hb
  exact I1.fpOk (Nat.le_refl _) (I1.hok.fresh (Nat.le_refl _))
 rcases q1 with ⟨a, e, ⟨xs, hq⟩, q⟩ | ⟨a, e, ⟨xs, hq⟩, q⟩
 ·subst e
  cases r1
  obtain ⟨its, rv, p, hz⟩ := I1.list hq
  exact wpAny_pyIter_list p.isList ⟨s1.heap.objs.size, [s1.heap.objs.size], _, _, H1, rfl, I1.kept (t' := s1.toks) fun b o e => Heap.get?_push_of_some _ e, lw a _, ⟨_, Heap.get?_push_size _ rfl, rfl, rfl⟩, own, q⟩
 ·subst e
  cases r1
  obtain ⟨its, rv, p, hz⟩ := I1.tuple hq
  exact wpAny_pyIter_tuple (show s1.heap.IsTuple a its.toArray from p) ⟨s1.heap.objs.size, [s1.heap.objs.size], _, _, H1, rfl, I1.kept (t' := s1.toks) fun b o e => Heap.get?_push_of_some _ e, o6 a _, ⟨_, Heap.get?_push_size _ rfl, rfl, rfl⟩, own, q⟩
theorem sF {F : Fx} {H : Hp} {ds : List D} {a : Addr} (h : Den K F H (.lst ds) (.ref a)) : ItD K (Itl K a) F H ds := fun F2 H2 β2 t fr i => by
 have h2 := Den.tr t _ _ h
 obtain ⟨a', xs, e, sq, dl⟩ := Den.sqL h2
 cases e
 refine ⟨fun d hd => ?_, fun hi => ⟨xs, sq, by rw [← dl.length, hi]; exact Nat.le_refl _⟩⟩
 obtain ⟨x, hx, _⟩ := dl.get hd
 refine ⟨⟨xs, x, sq, hx⟩, fun y H3 hy => ?_⟩
 obtain ⟨rfl, hy⟩ := hy
 obtain ⟨d', e', hd'⟩ := dl.getV (hy xs sq)
 rw [hd] at e'
 cases e'
 exact ⟨bh.refl _, hd'⟩
theorem u5 {F : Fx} {H : Hp} {ds : List D} {a : Addr} (h : Den K F H (.tup ds) (.ref a)) : ItD K (Itt K a) F H ds := fun F2 H2 β2 t fr i => by
 have h2 := Den.tr t _ _ h
 obtain ⟨a', xs, e, sq, dl⟩ := Den.sqT h2
 cases e
 refine ⟨fun d hd => ?_, fun hi => ⟨xs, sq, by rw [← dl.length, hi]; exact Nat.le_refl _⟩⟩
 obtain ⟨x, hx, _⟩ := dl.get hd
 refine ⟨⟨xs, x, sq, hx⟩, fun y H3 hy => ?_⟩
 obtain ⟨rfl, hy⟩ := hy
 obtain ⟨d', e', hd'⟩ := dl.getV (hy xs sq)
 rw [hd] at e'
 cases e'
 exact ⟨bh.refl _, hd'⟩
def aF (f : FD) : FL := fun δ => M.bind (f δ) fun d => M.ofO (dC d)
theorem bn {l : Expr} {f : FD} (hl : PE X l (tV X.K f E)) : PI X tg l (iV X.K (aF f) E) :=
 (v6 hl).imp fun σ H R h_ => ex6 h_ fun F δ β fr vk h => ⟨F, δ, β, fr, vk, (run.bind (R := Den X.K F) h).mono fun v H1 h_ => by
  obtain ⟨d, β1, t, hd, r1⟩ := h_
  obtain ⟨ds, e, k⟩ := run.ofO r1
  cases d <;> first
   | (cases e; obtain ⟨a, xs, rfl, sq, dl⟩ := Den.sqL hd; exact .inl ⟨a, rfl, ⟨xs, sq⟩, k _ H1 (To.refl t.fr) (sF hd)⟩)
   | (cases e; obtain ⟨a, xs, rfl, sq, dl⟩ := Den.sqT hd; exact .inr ⟨a, rfl, ⟨xs, sq⟩, k _ H1 (To.refl t.fr) (u5 hd)⟩)
   | cases e⟩
def ci (lo : Int) (n : Nat) : List D := (List.range n).map fun (i : Nat) => .int (lo + (i : Int))
theorem qO {F : Fx} {H : Hp} {lo : Int} {n : Nat} : ItD K (Itr lo n) F H (ci lo n) := fun F2 H2 β2 t fr i => by
 refine ⟨fun d hd => ?_, fun hi => ?_⟩
 ·unfold ci at hd
  have hi : i < n := by
   have := (List.getElem?_eq_some_iff.mp hd).1
   simpa using this
  rw [List.getElem?_map, List.getElem?_range hi] at hd
  cases hd
  exact ⟨hi, fun x H3 ⟨e1, e2⟩ => by subst e1 e2; exact ⟨bh.refl _, rfl⟩⟩
 ·show n <= i
  rw [hi]
  simp [ci]
def fJ : List D -> Option (List D)
 | [.int j] => if (decide (-(2 ^ 62) <= j) && decide (j < 2 ^ 62)) = true then some (ci 0 j.toNat) else none
 | _ => none
def bM (op : List D -> Option (List D)) (g : FL) : FL := fun δ => M.bind (g δ) fun as => M.ofO (op as)
theorem eN {a : Expr} {g : FL} {p pos : Pos} (hg : Gl X "range") (hm : X.mg "range" = none) (ha : PA X [a] (tVA X.K g E)) (hs : starEach [a] X.env = [(false, eval a X.env)] := by rfl) : PI X tg (.Call (.Name "range" p) [a] [] pos) (iV X.K (bM fJ g) E) :=
 (qu hg hm ha hs).imp fun σ H R h_ => ex6 h_ fun F δ β fr vk h => ⟨F, δ, β, fr, vk, (run.bind (R := DenL X.K F) h).mono fun vs H1 h_ => by
  obtain ⟨ds, β1, t, hd, r1⟩ := h_
  obtain ⟨l, e, k⟩ := run.ofO r1
  unfold fJ at e
  split at e
  ·split at e
   ·rename_i hj
    cases e
    simp only [Bool.and_eq_true, decide_eq_true_eq] at hj
    obtain ⟨v, rfl, h1⟩ := DenL.one hd
    cases h1.int
    exact ⟨_, rfl, hj.1, hj.2, k _ H1 (To.refl t.fr) qO⟩
   ·cases e
  ·cases e⟩
abbrev TgF := D -> Dn -> Option Dn
abbrev eS := List D -> Dn -> Option Dn
def cR (K : Frag) (g : TG) (tg : TgF) : Prop := ∀ (F : Fx) (H : Hp) (δ δ1 : Dn) (σ : St) (d : D) (v : V) (Q : St -> Hp -> Prop), VOk K F H δ σ -> Den K F H d v -> tg d δ = some δ1 -> (∀ σ1, VOk K F H δ1 σ1 -> Q σ1 H) -> g v σ H Q
def kD (K : Frag) (g : TGs) (tg : eS) : Prop := ∀ (F : Fx) (H : Hp) (δ δ1 : Dn) (σ : St) (ds : List D) (vs : List V) (Q : St -> Hp -> Prop), VOk K F H δ σ -> DenL K F H ds vs -> tg ds δ = some δ1 -> (∀ σ1, VOk K F H δ1 σ1 -> Q σ1 H) -> g vs σ H Q
def tgC (i : Nat) : TgF := fun d δ => if (δ.getD i (some .non)).isNone then some (δ.set i (some d)) else none
def je : eS := fun ds δ => match ds with
 | [] => some δ
 | _ => none
def fF (t : TgF) (u : eS) : eS := fun ds δ => match ds with
 | [] => none
 | d :: r => (t d δ).bind fun δ1 => u r δ1
def tgT (t : eS) : TgF := fun d δ => match d with
 | .tup ds => t ds δ
 | _ => none
theorem mI {i : Nat} {d : D} {δ δ1 : Dn} (h : tgC i d δ = some δ1) : δ[i]? = some none /\ δ1 = δ.set i (some d) := by
 unfold tgC at h
 split at h
 ·rename_i q
  cases h
  refine ⟨?_, rfl⟩
  rw [List.getD_eq_getElem?_getD] at q
  cases e : δ[i]? with
  | none => rw [e] at q; cases q
  | some z =>
   rw [e] at q
   cases z with
   | none => rfl
   | some w => cases q
 ·cases h
theorem aE {i : Nat} : cR K (cN i) (tgC i) := fun F H δ δ1 σ d v Q vk hd e k => by
 obtain ⟨_, rfl⟩ := mI e
 exact k _ (vk.set hd)
theorem uX : kD K gNil je := fun F H δ δ1 σ ds vs Q vk hd e k => by
 cases ds with
 | nil => cases e; exact ⟨hd, k _ vk⟩
 | cons _ _ => cases e
theorem nh {t : TG} {u : TGs} {tf : TgF} {uf : eS} (h1 : cR K t tf) (h2 : kD K u uf) : kD K (t6 t u) (fF tf uf) := fun F H δ δ1 σ ds vs Q vk hd e k => by
 cases ds with
 | nil => cases e
 | cons d r =>
  obtain ⟨x, xr, rfl, hx, hr⟩ := hd
  have e' : (tf d δ).bind (fun δ1 => uf r δ1) = some δ1 := e
  cases q : tf d δ with
  | none => rw [q] at e'; cases e'
  | some δ2 =>
   rw [q] at e'
   exact ⟨x, xr, rfl, h1 F H δ δ2 σ d x _ vk hx q fun σ1 vk1 => h2 F H δ2 δ1 σ1 r xr Q vk1 hr e' k⟩
theorem wB {n : Nat} {t : TGs} {tf : eS} (h : kD K t tf) (hn : ∀ ds δ δ1, tf ds δ = some δ1 -> ds.length = n) : cR K (wT K n t) (tgT tf) := fun F H δ δ1 σ d v Q vk hd e k => by
 cases d <;> first
  | (obtain ⟨a, xs, rfl, sq, dl⟩ := Den.sqT hd; exact ⟨a, xs, rfl, sq, by rw [← dl.length]; exact hn _ _ _ e, h F H δ δ1 σ _ xs Q vk dl e k⟩)
  | cases e
theorem rH : ∀ ds δ δ1, je ds δ = some δ1 -> ds.length = 0 := fun ds δ δ1 h => by
 cases ds with
 | nil => rfl
 | cons _ _ => cases h
theorem mH {t : TgF} {u : eS} {n : Nat} (h : ∀ ds δ δ1, u ds δ = some δ1 -> ds.length = n) : ∀ ds δ δ1, fF t u ds δ = some δ1 -> ds.length = n + 1 := fun ds δ δ1 e => by
 cases ds with
 | nil => cases e
 | cons d r =>
  have e' : (t d δ).bind (fun δ1 => u r δ1) = some δ1 := e
  cases q : t d δ with
  | none => rw [q] at e'; cases e'
  | some δ2 => rw [q] at e'; rw [List.length_cons, h _ _ _ e']
def dQ (tg : TgF) : Prop := ∀ d δ δ1, tg d δ = some δ1 -> Sub δ δ1 /\ δ.length = δ1.length
def mq (tg : eS) : Prop := ∀ d δ δ1, tg d δ = some δ1 -> Sub δ δ1 /\ δ.length = δ1.length
theorem aL {i : Nat} : dQ (tgC i) := fun d δ δ1 e => by
 obtain ⟨q, rfl⟩ := mI e
 refine ⟨fun j c ej => ?_, by rw [List.length_set]⟩
 rw [List.getElem?_set]
 by_cases z : i = j
 ·subst z; rw [q] at ej; cases ej
 ·rw [if_neg z]; exact ej
theorem uu : mq je := fun ds δ δ1 e => by
 cases ds with
 | nil => cases e; exact ⟨fun _ _ h => h, rfl⟩
 | cons _ _ => cases e
theorem mQ {t : TgF} {u : eS} (h1 : dQ t) (h2 : mq u) : mq (fF t u) := fun ds δ δ1 e => by
 cases ds with
 | nil => cases e
 | cons d r =>
  have e' : (t d δ).bind (fun δ1 => u r δ1) = some δ1 := e
  cases q : t d δ with
  | none => rw [q] at e'; cases e'
  | some δ2 =>
   rw [q] at e'
   obtain ⟨a1, a2⟩ := h1 _ _ _ q
   obtain ⟨b1, b2⟩ := h2 _ _ _ e'
   exact ⟨fun i c h => b1 i c (a1 i c h), a2.trans b2⟩
theorem vJ {t : eS} (h : mq t) : dQ (tgT t) := fun d δ δ1 e => by
 cases d <;> first | exact h _ _ _ e | cases e
structure ToD (F : Fx) (D : Addr) (H H' : Hp) (β' : Bg) : Prop where
 kp : ∀ a o, H a = some o -> a ≠ D -> (∀ b l, F.bg = some (b, l) -> a ≠ b /\ a ≠ l) -> H' a = some o
 fr : Fr F H' β'
theorem ToD.trans {F : Fx} {D : Addr} {H H1 H2 : Hp} {β1 β2 : Bg} (a : ToD F D H H1 β1) (b : ToD F D H1 H2 β2) : ToD F D H H2 β2 := ⟨fun x o h n m => b.kp x o (a.kp x o h n m) n m, b.fr⟩
theorem To.toD {F : Fx} {H H' : Hp} {β' : Bg} (t : To F H H' β') (D : Addr) : ToD F D H H' β' := ⟨fun a o h _ m => t.kp a o h m, t.fr⟩
theorem ToD.tr {F : Fx} {D : Addr} {H H' : Hp} {β β' : Bg} (fr : Fr F H β) (hD : F.A D) (t : ToD F D H H' β') : Tr F H F H' :=
 ⟨fun _ h _ => h, fun a o h e => t.kp a o e (fun z => h (z ▸ hD)) fun b l q => ⟨fun z => h (z ▸ (fr.bgA b l q).1), fun z => h (z ▸ (fr.bgA b l q).2.1)⟩, rfl⟩
def fD (K : Frag) (D : Addr) (tb : TB) (f : Dn -> M (List Pu.D)) : Prop := ∀ (F : Fx) (H : Hp) (δ : Dn) (β β' : Bg) (σ : St) (acc : List V) (as os : List Pu.D) (Q : St -> Hp -> Prop), Fr F H β -> F.A D -> (∀ b l, F.bg = some (b, l) -> D ≠ b /\ D ≠ l) -> VOk K F H δ σ -> H D = some (.lst acc) -> DenL K F H as acc ->
 f δ β = some (.ok os, β') -> as.length + os.length <= sizeLine -> (∀ σ1 H1 acc1, ToD F D H H1 β' -> VOk K F H1 δ σ1 -> H1 D = some (.lst acc1) -> DenL K F H1 (as ++ os) acc1 -> Q σ1 H1) -> tb σ H Q
def cEm (f : Dn -> M Pu.D) : Dn -> M (List Pu.D) := fun δ => M.bind (f δ) fun d => M.ret [d]
theorem M.bind_inv {α γ : Type} {m : M α} {k : α -> M γ} {β β' : Bg} {r : γ} (h : M.bind m k β = some (.ok r, β')) : ∃ a β1, m β = some (.ok a, β1) /\ k a β1 = some (.ok r, β') := by
 unfold M.bind at h
 split at h
 ·cases h
 ·cases h
 ·rename_i a β1 e
  exact ⟨a, β1, e, h⟩
theorem E0.run {α γ : Type} {R : Hp -> α -> γ -> Prop} {F : Fx} {σ : St} {m : M α} {H : Hp} {Q : γ -> Hp -> Prop} {β β' : Bg} {a : α} (e : m β = some (.ok a, β')) (h : ∀ v H', To F H H' β' -> R H' a v -> Q v H') : run R F E0 σ m H Q β := ⟨.ok a, β', e, h⟩
theorem aY {D : Addr} {f : Dn -> M Pu.D} : fD K D (pY D (tV K f E0)) (cEm f) := fun F H δ β β' σ acc as os Q fr hA hb vk hD hd e hz k => by
 obtain ⟨d, β1, e1, e2⟩ := M.bind_inv e
 cases e2
 refine ⟨F, δ, β, fr, vk, E0.run e1 fun v H1 t hv => ?_⟩
 have hD1 := t.kp D _ hD hb
 have dl := DenL.tr (t.tr fr) _ _ hd
 refine ⟨acc, hD1, by rw [← hd.length]; simp at hz; omega, ?_⟩
 have tD : ToD F D H1 (upd H1 D (.lst (acc ++ [v]))) β' := by
  refine ⟨fun a o h n _ => by rw [upd_ne n]; exact h, fun a h q => ?_, fr.bgA, fun b l q => ?_⟩
  ·by_cases z : a = D
   ·subst z; rw [ai] at q; cases q
   ·rw [upd_ne z] at q; exact t.fr.occ a h q
  ·rw [upd_ne (hb b l q).1.symm, upd_ne (hb b l q).2.symm]
   exact t.fr.bag b l q
 have tt := tD.tr t.fr hA
 exact k σ _ _ ((t.toD D).trans tD) (vk.tr ((t.tr fr).trans tt)) ai (DenL.append (DenL.tr tt _ _ dl) ⟨v, [], rfl, Den.tr tt _ _ hv, rfl⟩)
def cLp (tg : TgF) (tt : Dn -> M Bool) (b : Dn -> M (List Pu.D)) : List Pu.D -> Dn -> M (List Pu.D)
 | [], _ => M.ret []
 | d :: ds, δ => match tg d δ with
  | none => M.fail
  | some δ1 => M.bind (tt δ1) fun c => M.bind (if c = true then b δ1 else M.ret []) fun o => M.bind (cLp tg tt b ds δ) fun os => M.ret (o ++ os)
theorem kW {D : Addr} {J : It} {g : TG} {tg : TgF} {tt : Dn -> M Bool} {tb : TB} {b : Dn -> M (List Pu.D)} (hg : cR K g tg) (sg : dQ tg) (hb : fD K D tb b) {F : Fx} {H : Hp} {δ : Dn} {β β' : Bg} {σ : St} {acc : List V} {as os ds : List Pu.D} {Q : St -> Hp -> Prop} (fr : Fr F H β) (hA : F.A D) (hn : ∀ b l, F.bg = some (b, l) -> D ≠ b /\ D ≠ l) (vk : VOk K F H δ σ) (hD : H D = some (.lst acc)) (hd : DenL K F H as acc)
  (it : ItD K J F H ds) (e : cLp tg tt b ds δ β = some (.ok os, β')) (hz : as.length + os.length <= sizeLine) (k : ∀ σ1 H1 acc1, ToD F D H H1 β' -> VOk K F H1 δ σ1 -> H1 D = some (.lst acc1) -> DenL K F H1 (as ++ os) acc1 -> Q σ1 H1) : dg J g (tVT K tt E0) tb σ H Q := by
 refine ⟨fun i m σ1 H1 => m + i = ds.length /\ ∃ β1 acc1 as1 os1, ToD F D H H1 β1 /\ VOk K F H1 δ σ1 /\ H1 D = some (.lst acc1) /\ DenL K F H1 as1 acc1 /\ cLp tg tt b (ds.drop i) δ β1 = some (.ok os1, β') /\ as1 ++ os1 = as ++ os,
  ⟨ds.length, by omega, β, acc, as, os, ⟨fun _ _ h _ _ => h, fr⟩, vk, hD, hd, e, rfl⟩, ?_⟩
 rintro i m σ1 H1 ⟨hm, β1, acc1, as1, os1, t1, vk1, hD1, hd1, e1, ea⟩
 have tr1 := t1.tr fr hA
 obtain ⟨iy, is⟩ := it F H1 β1 tr1 t1.fr i
 cases hi : ds[i]? with
 | none =>
  have hl : ds.length <= i := List.getElem?_eq_none_iff.mp hi
  rw [List.drop_eq_nil_of_le hl] at e1
  cases e1
  refine .inl ⟨is (by omega), k σ1 H1 acc1 t1 vk1 hD1 ?_⟩
  rw [← ea, List.append_nil]
  exact hd1
 | some d =>
  have hl : i < ds.length := (List.getElem?_eq_some_iff.mp hi).1
  obtain ⟨go, yl⟩ := iy d hi
  have ed : ds.drop i = d :: ds.drop (i + 1) := by
   rw [List.drop_eq_getElem_cons hl]
   congr 1
   exact Option.some.inj ((List.getElem?_eq_getElem hl).symm.trans hi)
  rw [ed] at e1
  unfold cLp at e1
  cases q : tg d δ with
  | none => rw [q] at e1; cases e1
  | some δ1 =>
   rw [q] at e1
   obtain ⟨c, β2, e2, e3⟩ := M.bind_inv e1
   obtain ⟨o, β3, e4, e5⟩ := M.bind_inv e3
   obtain ⟨os2, β4, e6, e7⟩ := M.bind_inv e5
   cases e7
   obtain ⟨s1, s2⟩ := sg _ _ _ q
   refine .inr ⟨go, fun σ9 H9 => ∃ acc9, ToD F D H H9 β3 /\ VOk K F H9 δ σ9 /\ H9 D = some (.lst acc9) /\ DenL K F H9 (as1 ++ o) acc9, ?_, fun x H2 hy => ?_⟩
   ·rintro σ9 H9 ⟨acc9, t9, vk9, hD9, hd9⟩
    exact ⟨m - 1, by omega, by omega, β3, acc9, as1 ++ o, os2, t9, vk9, hD9, hd9, e6, by rw [List.append_assoc]; exact ea⟩
   ·obtain ⟨sm, dx⟩ := yl x H2 hy
    have t2 : To F H1 H2 β1 := t1.fr.same sm
    have tr2 := t2.tr t1.fr
    refine hg F H2 δ δ1 σ1 d x _ (vk1.tr tr2) dx q fun σ2 vk2 => ⟨F, δ1, β1, t2.fr, vk2, E0.run e2 fun c' H3 t3 ec => ?_⟩
    subst ec
    have hDn := hn
    have hD2 := sm _ _ hD1
    have hD3 := t3.kp D _ hD2 hn
    have tr3 := t3.tr t2.fr
    have d3 := DenL.tr (tr2.trans tr3) _ _ hd1
    have tt3 : ToD F D H H3 β2 := t1.trans ((t2.trans t3).toD D)
    have hle : as1.length + (o ++ os2).length <= sizeLine := by
     have := congrArg List.length ea
     simp only [List.length_append] at this ⊢
     omega
    cases c' with
    | true =>
     rw [if_pos rfl] at e4 ⊢
     refine hb F H3 δ1 β2 β3 σ2 acc1 as1 o _ t3.fr hA hn (vk2.tr tr3) hD3 d3 e4 (by rw [List.length_append] at hle; omega) fun σ4 H4 acc4 t4 vk4 hD4 hd4 => ?_
     exact ⟨acc4, tt3.trans t4, vk4.sub s1 s2, hD4, hd4⟩
    | false =>
     rw [if_neg Bool.false_ne_true] at e4 ⊢
     cases e4
     exact ⟨acc1, tt3, (vk2.tr tr3).sub s1 s2, hD3, by rw [List.append_nil]; exact d3⟩
def cNx (it : Dn -> M (List Pu.D)) (tg : TgF) (tt : Dn -> M Bool) (b : Dn -> M (List Pu.D)) : Dn -> M (List Pu.D) := fun δ => M.bind (it δ) fun ds => cLp tg tt b ds δ
theorem uZ {D : Addr} {it : Dn -> M (List Pu.D)} {g : TG} {tg : TgF} {tt : Dn -> M Bool} {tb : TB} {b : Dn -> M (List Pu.D)} (hg : cR K g tg) (sg : dQ tg) (hb : fD K D tb b) : fD K D (t8 (iV K it E0) fun J => dg J g (tVT K tt E0) tb) (cNx it tg tt b) := fun F H δ β β' σ acc as os Q fr hA hn vk hD hd e hz k => by
 obtain ⟨ds, β1, e1, e2⟩ := M.bind_inv e
 refine ⟨F, δ, β, fr, vk, E0.run e1 fun J H1 t hJ => ?_⟩
 exact kW hg sg hb t.fr hA hn (vk.tr (t.tr fr)) (t.kp D _ hD hn) (DenL.tr (t.tr fr) _ _ hd) hJ e2 hz fun σ1 H1 acc1 t1 => k σ1 H1 acc1 ((t.toD D).trans t1)
def cSt (nv : Nat) (caps : List Nat) (δ : Dn) : Dn := List.replicate nv none ++ caps.map fun j => δ.getD j none
def aJ (nv : Nat) (caps : List Nat) (it : Dn -> M (List Pu.D)) (tg : TgF) (tt : Dn -> M Bool) (b : Dn -> M (List Pu.D)) : Dn -> M Pu.D := fun δ β => match it δ β with
 | none => none
 | some (.error C, β1) => some (.error C, β1)
 | some (.ok ds, β1) => match cLp tg tt b ds (cSt nv caps δ) β1 with
  | some (.ok os, β2) => if os.length <= sizeLine then some (.ok (.lst os), β2) else none
  | _ => none
theorem nP {F : Fx} {H : Hp} {δ : Dn} {σ : St} {vars : List Str} {caps : List Nat} (vk : VOk K F H δ σ) : VOk K F H (cSt vars.length caps δ) (ir vars caps σ) := by
 refine ⟨by simp [cSt, ir], fun i d e => ?_⟩
 unfold cSt at e
 unfold ir
 rw [List.getElem?_append] at e ⊢
 rw [List.length_replicate] at e ⊢
 by_cases hi : i < vars.length
 ·rw [if_pos hi, List.getElem?_replicate, if_pos hi] at e
  cases e
 ·rw [if_neg hi, List.getElem?_map] at e ⊢
  cases q : caps[i - vars.length]? with
  | none => rw [q] at e; cases e
  | some j =>
   rw [q] at e
   simp only [Option.map_some, Option.some.injEq] at e ⊢
   rw [List.getD_eq_getElem?_getD] at e
   cases z : δ[j]? with
   | none => rw [z] at e; cases e
   | some w =>
    rw [z] at e
    have ew : w = some d := e
    subst ew
    obtain ⟨v, h1, h2⟩ := vk.tell j d z
    exact ⟨v, by rw [List.getD_eq_getElem?_getD, h1]; rfl, h2⟩
theorem rM {vars : List Str} {caps : List Nat} {it : Dn -> M (List Pu.D)} {g : TG} {tg : TgF} {tt : Dn -> M Bool} {tb : Addr -> TB} {b : Dn -> M (List Pu.D)} (hg : cR K g tg) (sg : dQ tg) (hb : ∀ D, fD K D (tb D) b) {σ : St} {H : Hp} {Q : VK} (h : tV K (aJ vars.length caps it tg tt b) E σ H Q) :
  jE vars caps (iV K it E) (fun D J => dg J g (tVT K tt E0) (tb D)) σ H Q := by
 obtain ⟨F, δ, β, fr, vk, r, β', e, h⟩ := h
 unfold aJ at e
 refine ⟨F, δ, β, fr, vk, ?_⟩
 split at e
 ·cases e
 ·rename_i C β1 q
  cases e
  exact ⟨.error C, _, q, h⟩
 ·rename_i ds β1 q
  split at e
  ·rename_i os β2 q2
   split at e
   ·rename_i hz
    cases e
    refine ⟨.ok ds, β1, q, fun J H1 t hJ D hD => ?_⟩
    have hDA : ¬ F.A D := t.fr.fresh hD
    have nb : ∀ b l, F.bg = some (b, l) -> D ≠ b /\ D ≠ l := fun b l z => ⟨fun w => hDA (w ▸ (fr.bgA b l z).1), fun w => hDA (w ▸ (fr.bgA b l z).2.1)⟩
    have t2 := t.fr.upd (.lst []) hD
    have fr2 : Fr ⟨fun a => F.A a \/ a = D, F.bg⟩ (upd H1 D (.lst [])) β1 := by
     refine ⟨fun a ha z => ?_, fun b l z => let ⟨x, y, w⟩ := fr.bgA b l z; ⟨.inl x, .inl y, w⟩, t2.fr.bag⟩
     rcases ha with ha | ha
     ·exact t2.fr.occ a ha z
     ·subst ha; rw [ai] at z; cases z
    have tr2 : Tr F H1 ⟨fun a => F.A a \/ a = D, F.bg⟩ (upd H1 D (.lst [])) := ⟨fun a ha hs z => by
     rcases z with z | z
     ·exact ha z
     ·subst z; exact hs hD, fun a o ha z => by rw [upd_ne (ne_of_none z hD)]; exact z, rfl⟩
    refine kW (D := D) (as := []) (os := os) hg sg (hb D) fr2 (.inr rfl) nb (nP (vk.tr ((t.tr fr).trans tr2))) ai rfl (hJ.tr tr2) q2 (by simpa using hz) fun σ1 H2 acc1 t3 vk3 hD3 hd3 => ?_
    have tf : To F H1 H2 β' := by
     refine ⟨fun a o z n => t3.kp a o (by rw [upd_ne (ne_of_none z hD)]; exact z) (ne_of_none z hD) n, fun a ha z => t3.fr.occ a (Or.inl ha) z, fr.bgA, t3.fr.bag⟩
    refine h _ H2 (t.trans tf) ⟨D, acc1, rfl, ⟨hDA, .inl hD3⟩, DenL.tr (F := ⟨fun a => F.A a \/ a = D, F.bg⟩) ⟨fun a ha _ z => ha (Or.inl z), fun a o _ z => z, rfl⟩ _ _ hd3⟩
   ·cases e
  ·cases e
end
inductive Sl where
 | sh (d : D) | own (ds : List D) | grd (rows : List (List D))
abbrev Ds := List (Option Sl)
inductive Out where
 | nx (δ : Ds) | rt (d : D) | bk (δ : Ds) | ct (δ : Ds) | ex (C : Addr) (δ : Ds) | rg (rows : List (List D))
abbrev G := Ds -> Bg -> Option (Out × Bg)
abbrev Ow := Addr -> Option Nat
def FxB (B : Ow) (bg : Option (Addr × Addr)) : Fx := ⟨fun a => B a ≠ none, bg⟩
def FxA (B : Ow) (bg : Option (Addr × Addr)) : Fx := ⟨fun a => B a = some 0 \/ B a = some 1, bg⟩
def RowL (K : Frag) (F : Fx) (H : Hp) (P : Addr -> Prop) : List (List D) -> List Addr -> Prop
 | [], [] => True
 | ds :: rows, r :: rs => P r /\ (∃ xs, H r = some (.lst xs) /\ DenL K F H ds xs) /\ RowL K F H P rows rs
 | _, _ => False
theorem RowL.tr {K : Frag} {F F2 : Fx} {H H2 : Hp} {P P2 : Addr -> Prop} (t : Tr F H F2 H2) : ∀ {rows : List (List D)} {rs : List Addr}, RowL K F H P rows rs -> (∀ r xs, r ∈ rs -> P r -> H r = some (.lst xs) -> P2 r /\ H2 r = some (.lst xs)) -> RowL K F2 H2 P2 rows rs
 | [], [], _, _ => trivial
 | ds :: rows, r :: rs, h, f => by
  obtain ⟨h1, ⟨xs, h2, h3⟩, h4⟩ := h
  obtain ⟨p, q⟩ := f r xs List.mem_cons_self h1 h2
  exact ⟨p, ⟨xs, q, DenL.tr t _ _ h3⟩, RowL.tr t h4 fun r' xs' hr => f r' xs' (List.mem_cons_of_mem _ hr)⟩
 | [], _ :: _, h, _ => h.elim
 | _ :: _, [], h, _ => h.elim
theorem RowL.all {K : Frag} {F : Fx} {H : Hp} {P : Addr -> Prop} : ∀ {rows : List (List D)} {rs : List Addr}, RowL K F H P rows rs -> ∀ r ∈ rs, P r /\ ∃ xs, H r = some (.lst xs)
 | [], [], _, r, hr => by cases hr
 | ds :: rows, r0 :: rs, h, r, hr => by
  obtain ⟨h1, ⟨xs, h2, h3⟩, h4⟩ := h
  rcases List.mem_cons.mp hr with rfl | hr
  ·exact ⟨h1, xs, h2⟩
  ·exact RowL.all h4 r hr
 | [], _ :: _, h, _, _ => h.elim
 | _ :: _, [], h, _, _ => h.elim
theorem RowL.den {K : Frag} {F F2 : Fx} {H : Hp} {P : Addr -> Prop} (t : Tr F H F2 H) : ∀ {rows : List (List D)} {rs : List Addr}, RowL K F H P rows rs -> (∀ r, r ∈ rs -> P r -> ¬ F2.A r) -> DenL K F2 H (rows.map D.lst) (rs.map V.ref)
 | [], [], _, _ => rfl
 | ds :: rows, r :: rs, h, f => by
  obtain ⟨h1, ⟨xs, h2, h3⟩, h4⟩ := h
  exact DenL.cons ⟨r, xs, rfl, ⟨f r List.mem_cons_self h1, .inl h2⟩, DenL.tr t _ _ h3⟩ (RowL.den t h4 fun r' hr => f r' (List.mem_cons_of_mem _ hr))
 | [], _ :: _, h, _ => h.elim
 | _ :: _, [], h, _ => h.elim
theorem RowL.len {K : Frag} {F : Fx} {H : Hp} {P : Addr -> Prop} : ∀ {rows : List (List D)} {rs : List Addr}, RowL K F H P rows rs -> rows.length = rs.length
 | [], [], _ => rfl
 | ds :: rows, r :: rs, h => by simp [RowL.len h.2.2]
 | [], _ :: _, h => h.elim
 | _ :: _, [], h => h.elim
def cJ (K : Frag) (F : Fx) (H0 H : Hp) (rows : List (List D)) (v : V) : Prop := ∃ a rs, v = .ref a /\ H0 a = none /\ H a = some (.lst (rs.map V.ref)) /\ (a :: rs).Nodup /\ RowL K F H (fun r => H0 r = none) rows rs
def DenS (K : Frag) (B : Ow) (bg : Option (Addr × Addr)) (H : Hp) (i : Nat) : Sl -> V -> Prop
 | .sh d, v => Den K (FxB B bg) H d v
 | .own ds, v => ∃ a xs, v = .ref a /\ B a = some (i + 2) /\ H a = some (.lst xs) /\ DenL K (FxB B bg) H ds xs
 | .grd rows, v => ∃ a rs, v = .ref a /\ B a = some (i + 2) /\ H a = some (.lst (rs.map V.ref)) /\ (a :: rs).Nodup /\ RowL K (FxB B bg) H (fun r => B r = some (i + 2)) rows rs
structure SOk (K : Frag) (H₀ : Hp) (B : Ow) (bg : Option (Addr × Addr)) (H : Hp) (δ : Ds) (β : Bg) (σ : St) : Prop where
 fr : Fr (FxB B bg) H β
 bgt : ∀ b l, bg = some (b, l) -> B b = some 1 /\ B l = some 1
 len : δ.length = σ.length
 cov : ∀ a, H₀ a ≠ none -> H a ≠ none
 new : ∀ a k, B a = some (k + 2) -> H₀ a = none
 lst : ∀ a k, B a = some (k + 2) -> ∃ xs, H a = some (.lst xs)
 tell : ∀ (i : Nat) (s : Sl), δ[i]? = some (some s) -> ∃ v, σ[i]? = some (some v) /\ DenS K B bg H i s v
structure Stp (B : Ow) (H : Hp) (B' : Ow) (H' : Hp) : Prop where
 kp : ∀ a o, H a = some o -> (B a = none \/ B a = some 0) -> H' a = some o
 tg : ∀ a, B a = some 0 \/ B a = some 1 -> B' a = B a
 nn : ∀ a o, H a = some o -> B a = none -> B' a = none
 al : ∀ a, H a ≠ none -> H' a ≠ none
theorem Stp.refl (B : Ow) (H : Hp) : Stp B H B H := ⟨fun _ _ h _ => h, fun _ _ => rfl, fun _ _ _ h => h, fun _ h => h⟩
theorem Stp.trans {B B1 B2 : Ow} {H H1 H2 : Hp} (a : Stp B H B1 H1) (b : Stp B1 H1 B2 H2) : Stp B H B2 H2 := by
 refine ⟨fun x o h n => b.kp x o (a.kp x o h n) ?_, fun x h => ?_, fun x o h n => b.nn x o (a.kp x o h (.inl n)) (a.nn x o h n), fun x h => b.al x (a.al x h)⟩
 ·rcases n with n | n
  ·exact .inl (a.nn x o h n)
  ·exact .inr ((a.tg x (.inl n)).trans n)
 ·have e := a.tg x h
  rw [← e] at h
  exact (b.tg x h).trans e
def fE (K : Frag) (H₀ : Hp) (bg : Option (Addr × Addr)) (E : St -> XK) (Dn : Ends) (B : Ow) (H : Hp) (o : Out) (β' : Bg) : Prop := match o with
 | .nx δ' => ∀ σ' B' H', Stp B H B' H' -> SOk K H₀ B' bg H' δ' β' σ' -> Dn.nx σ' H'
 | .bk δ' => ∀ σ' B' H', Stp B H B' H' -> SOk K H₀ B' bg H' δ' β' σ' -> Dn.bk σ' H'
 | .ct δ' => ∀ σ' B' H', Stp B H B' H' -> SOk K H₀ B' bg H' δ' β' σ' -> Dn.ct σ' H'
 | .rt d => ∀ v B' H', Stp B H B' H' -> Fr (FxB B' bg) H' β' -> Den K (FxB B' bg) H' d v -> Dn.rt v H'
 | .rg rows => ∀ v B' H', Stp B H B' H' -> Fr (FxB B' bg) H' β' -> cJ K (FxB B' bg) H₀ H' rows v -> Dn.rt v H'
 | .ex C δ' => ∀ σ' B' H', Stp B H B' H' -> SOk K H₀ B' bg H' δ' β' σ' -> E σ' (.ref C) none H'
theorem fE.pre {K : Frag} {H₀ : Hp} {bg : Option (Addr × Addr)} {E : St -> XK} {Dn : Ends} {B B1 : Ow} {H H1 : Hp} {o : Out} {β' : Bg} (s : Stp B H B1 H1) (h : fE K H₀ bg E Dn B H o β') : fE K H₀ bg E Dn B1 H1 o β' := by
 cases o with
 | nx δ => exact fun σ' B' H' t => h σ' B' H' (s.trans t)
 | bk δ => exact fun σ' B' H' t => h σ' B' H' (s.trans t)
 | ct δ => exact fun σ' B' H' t => h σ' B' H' (s.trans t)
 | rt d => exact fun v B' H' t => h v B' H' (s.trans t)
 | rg d => exact fun v B' H' t => h v B' H' (s.trans t)
 | ex C δ => exact fun σ' B' H' t => h σ' B' H' (s.trans t)
def tG (K : Frag) (H₀ : Hp) (g : G) (E : St -> XK) : TS := fun Dn σ H => ∃ B bg δ β o β', SOk K H₀ B bg H δ β σ /\ g δ β = some (o, β') /\ fE K H₀ bg E Dn B H o β'
theorem _root_.L2.PS.imp {X : Cx} {e : Stmt} {t t' : TS} (h : PS X e t) (f : ∀ D σ H, t' D σ H -> t D σ H) : PS X e t' := fun pins s σ H D I q => h pins s σ H D I (f D σ H q)
theorem _root_.L2.PSs.imp {X : Cx} {e : List Stmt} {t t' : TS} (h : PSs X e t) (f : ∀ D σ H, t' D σ H -> t D σ H) : PSs X e t' := fun pins s σ H D I q => h pins s σ H D I (f D σ H q)
def vw (δ : Ds) : Dn := δ.map fun s => match s with
 | some (.sh d) => some d
 | _ => none
def vwA (δ : Ds) : Dn := δ.map fun s => match s with
 | some (.sh d) => some d
 | some (.own ds) => some (.lst ds)
 | some (.grd rows) => some (.lst (rows.map D.lst))
 | none => none
section
variable {K : Frag} {H₀ : Hp} {B : Ow} {bg : Option (Addr × Addr)} {H H' : Hp} {δ : Ds} {β β' : Bg} {σ : St}
theorem xQ {i : Nat} {d : D} (e : (vw δ)[i]? = some (some d)) : δ[i]? = some (some (.sh d)) := by
 unfold vw at e
 rw [List.getElem?_map] at e
 cases q : δ[i]? with
 | none => rw [q] at e; cases e
 | some z =>
  rw [q] at e
  cases z with
  | none => cases e
  | some s =>
   cases s with
   | sh c => cases e; rfl
   | own ds => cases e
   | grd rows => cases e
theorem SOk.view (h : SOk K H₀ B bg H δ β σ) : VOk K (FxB B bg) H (vw δ) σ := ⟨by unfold vw; rw [List.length_map, h.len], fun i d e => h.tell i _ (xQ e)⟩
theorem trA : Tr (FxB B bg) H (FxA B bg) H := ⟨fun a h _ z => by
 have h' : ¬ (B a ≠ none) := h
 rcases z with z | z
 ·exact h' (by rw [z]; simp)
 ·exact h' (by rw [z]; simp), fun _ _ _ h => h, rfl⟩
theorem SOk.frA (h : SOk K H₀ B bg H δ β σ) : Fr (FxA B bg) H β := ⟨fun a ha => h.fr.occ a (by
 show B a ≠ none
 rcases ha with z | z <;> rw [z] <;> simp), fun b l e => ⟨.inr (h.bgt b l e).1, .inr (h.bgt b l e).2, (h.fr.bgA b l e).2.2⟩, h.fr.bag⟩
theorem SOk.viewA (h : SOk K H₀ B bg H δ β σ) : VOk K (FxA B bg) H (vwA δ) σ := by
 refine ⟨by unfold vwA; rw [List.length_map, h.len], fun i d e => ?_⟩
 unfold vwA at e
 rw [List.getElem?_map] at e
 cases q : δ[i]? with
 | none => rw [q] at e; cases e
 | some z =>
  rw [q] at e
  cases z with
  | none => cases e
  | some s =>
   obtain ⟨v, h1, h2⟩ := h.tell i s q
   cases s with
   | sh c => cases e; exact ⟨v, h1, Den.tr trA _ _ h2⟩
   | own ds =>
    cases e
    obtain ⟨a, xs, e1, e2, e3, e4⟩ := h2
    refine ⟨v, h1, a, xs, e1, ⟨fun z => ?_, .inl e3⟩, DenL.tr trA _ _ e4⟩
    have z' : B a = some 0 \/ B a = some 1 := z
    rw [e2] at z'
    rcases z' with z' | z' <;> cases z'
   | grd rows =>
    cases e
    obtain ⟨a, rs, e1, e2, e3, e4, e5⟩ := h2
    have na : ∀ c, B c = some (i + 2) -> ¬ (FxA B bg).A c := fun c hc z => by
     have z' : B c = some 0 \/ B c = some 1 := z
     rw [hc] at z'
     rcases z' with z' | z' <;> cases z'
    exact ⟨v, h1, a, _, e1, ⟨na a e2, .inl e3⟩, RowL.den trA e5 fun r _ hr => na r hr⟩
theorem SOk.to {F : Fx} (h : SOk K H₀ B bg H δ β σ) (hF : F.bg = bg) (t : To F H H' β') : SOk K H₀ B bg H' δ β' σ /\ Stp B H B H' := by
 have nb : ∀ a, B a ≠ some 1 -> ∀ b l, F.bg = some (b, l) -> a ≠ b /\ a ≠ l := fun a ha b l e => by
  rw [hF] at e
  exact ⟨fun z => ha (z ▸ (h.bgt b l e).1), fun z => ha (z ▸ (h.bgt b l e).2)⟩
 have kp : ∀ a o, H a = some o -> B a ≠ some 1 -> H' a = some o := fun a o e n => t.kp a o e (nb a n)
 have fr : Fr (FxB B bg) H' β' := ⟨fun a ha z => (by
  by_cases hb : B a = some 1
  ·by_cases hh : ∃ b l, bg = some (b, l) /\ (a = b \/ a = l)
   ·obtain ⟨b, l, e, q⟩ := hh
    obtain ⟨z1, z2⟩ := t.fr.bag b l (hF.trans e)
    rcases q with rfl | rfl
    ·rw [z1] at z; cases z
    ·rw [z2] at z; cases z
   ·cases q : H a with
    | none => exact h.fr.occ a ha q
    | some o =>
     rw [t.kp a o q fun b l e => ⟨fun w => hh ⟨b, l, hF.symm.trans e, .inl w⟩, fun w => hh ⟨b, l, hF.symm.trans e, .inr w⟩⟩] at z
     cases z
  ·cases q : H a with
   | none => exact h.fr.occ a ha q
   | some o => rw [kp a o q hb] at z; cases z), h.fr.bgA, fun b l e => t.fr.bag b l (hF.trans e)⟩
 have tr : Tr (FxB B bg) H (FxB B bg) H' := ⟨fun _ n _ => n, fun a o n e => kp a o e (fun z => n (by show B a ≠ none; rw [z]; simp)), rfl⟩
 have al : ∀ a, H a ≠ none -> H' a ≠ none := fun a ha z => by
  by_cases hh : ∃ b l, bg = some (b, l) /\ (a = b \/ a = l)
  ·obtain ⟨b, l, e, q⟩ := hh
   obtain ⟨z1, z2⟩ := t.fr.bag b l (hF.trans e)
   rcases q with rfl | rfl
   ·rw [z1] at z; cases z
   ·rw [z2] at z; cases z
  ·cases q : H a with
   | none => exact ha q
   | some o =>
    rw [t.kp a o q fun b l e => ⟨fun w => hh ⟨b, l, hF.symm.trans e, .inl w⟩, fun w => hh ⟨b, l, hF.symm.trans e, .inr w⟩⟩] at z
    cases z
 refine ⟨⟨fr, h.bgt, h.len, fun a ha => al a (h.cov a ha), h.new, fun c k hc => (let ⟨xs, z⟩ := h.lst c k hc; ⟨xs, kp c _ z (by rw [hc]; intro z; cases z)⟩), fun i s e => ?_⟩, fun a o e n => kp a o e (by rcases n with n | n <;> rw [n] <;> simp), fun _ _ => rfl, fun _ _ _ n => n, al⟩
 obtain ⟨v, h1, h2⟩ := h.tell i s e
 refine ⟨v, h1, ?_⟩
 cases s with
 | sh c => exact Den.tr tr _ _ h2
 | own ds =>
  obtain ⟨a, xs, e1, e2, e3, e4⟩ := h2
  exact ⟨a, xs, e1, e2, kp a _ e3 (by rw [e2]; intro z; cases z), DenL.tr tr _ _ e4⟩
 | grd rows =>
  obtain ⟨a, rs, e1, e2, e3, e4, e5⟩ := h2
  exact ⟨a, rs, e1, e2, kp a _ e3 (by rw [e2]; intro z; cases z), e4, RowL.tr tr e5 fun r xs _ p q => ⟨p, kp r _ q (by rw [p]; intro z; cases z)⟩⟩
theorem SOk.set {i : Nat} {d : D} {v : V} (h : SOk K H₀ B bg H δ β σ) (hd : Den K (FxB B bg) H d v) : SOk K H₀ B bg H (δ.set i (some (.sh d))) β (σ.set i (some v)) := by
 refine ⟨h.fr, h.bgt, by rw [List.length_set, List.length_set, h.len], h.cov, h.new, h.lst, fun j c e => ?_⟩
 rw [List.getElem?_set] at e
 rw [List.getElem?_set]
 by_cases q : i = j
 ·subst q
  rw [if_pos rfl] at e ⊢
  split at e
  ·rename_i hl
   cases e
   rw [if_pos (by rw [← h.len]; exact hl)]
   exact ⟨v, rfl, hd⟩
  ·cases e
 ·rw [if_neg q] at e ⊢
  exact h.tell j c e
end
def gNil : G := fun δ β => some (.nx δ, β)
def ao (g h : G) : G := fun δ β => match g δ β with
 | some (.nx δ1, β1) => h δ1 β1
 | r => r
def cq (i : Nat) (f : FD) : G := fun δ β => match f (vw δ) β with
 | some (.ok d, β1) => some (.nx (δ.set i (some (.sh d))), β1)
 | some (.error C, β1) => some (.ex C δ, β1)
 | none => none
def db (i : Nat) (f : FD) : G := fun δ β => match f (vwA δ) β with
 | some (.ok d, β1) => if cP d = true then some (.nx (δ.set i (some (.sh d))), β1) else none
 | some (.error C, β1) => some (.ex C δ, β1)
 | none => none
def dD (f : FD) : G := fun δ β => match f (vwA δ) β with
 | some (.ok _, β1) => some (.nx δ, β1)
 | some (.error C, β1) => some (.ex C δ, β1)
 | none => none
def aK (f : FD) : G := fun δ β => match f (vwA δ) β with
 | some (.ok d, β1) => some (.rt d, β1)
 | some (.error C, β1) => some (.ex C δ, β1)
 | none => none
def gIf (t : Dn -> M Bool) (g h : G) : G := fun δ β => match t (vwA δ) β with
 | some (.ok true, β1) => g δ β1
 | some (.ok false, β1) => h δ β1
 | some (.error C, β1) => some (.ex C δ, β1)
 | none => none
section
variable {X : Cx} {E : St -> XK} {e : Expr} {st : Stmt} {sts : List Stmt} {pos : Pos}
theorem bD : PSs X [] (tG X.K X.H₀ gNil E) := kO.imp fun D σ H h_ => by
 obtain ⟨B, bg, δ, β, o, β', ok, e, h⟩ := h_
 cases e
 exact h σ B H (Stp.refl B H) ok
theorem ax {g h : G} (h1 : PS X st (tG X.K X.H₀ g E)) (h2 : PSs X sts (tG X.K X.H₀ h E)) : PSs X (st :: sts) (tG X.K X.H₀ (ao g h) E) := (bu h1 h2).imp fun D σ H h_ => by
 obtain ⟨B, bg, δ, β, o, β', ok, e, q⟩ := h_
 unfold ao at e
 split at e
 ·rename_i δ1 β1 e1
  refine ⟨B, bg, δ, β, .nx δ1, β1, ok, e1, fun σ' B' H' s ok' => ⟨B', bg, δ1, β1, o, β', ok', e, fE.pre s ?_⟩⟩
  exact q
 ·rename_i r hr
  refine ⟨B, bg, δ, β, o, β', ok, e, ?_⟩
  cases o with
  | nx δ1 => exact absurd e (hr δ1 β')
  | _ => exact q
theorem aC {g : G} (h1 : PS X st (tG X.K X.H₀ g E)) : PSs X [st] (tG X.K X.H₀ g E) := dn h1
theorem e8 {i : Nat} {x : Str} {pos' : Pos} {f : FD} (h : PS X (.Assign [.Name x pos'] e pos) (fG (tV X.K f E) (cN i))) : PS X (.Assign [.Name x pos'] e pos) (tG X.K X.H₀ (cq i f) E) := h.imp fun D σ H h_ => by
 obtain ⟨B, bg, δ, β, o, β', ok, e, q⟩ := h_
 refine ⟨FxB B bg, vw δ, β, ok.fr, ok.view, ?_⟩
 unfold cq at e
 split at e
 ·rename_i d β1 e1
  cases e
  refine ⟨.ok d, _, e1, fun v H' t hd => ?_⟩
  obtain ⟨ok2, s2⟩ := ok.to rfl t
  exact q _ B H' s2 (ok2.set hd)
 ·rename_i C β1 e1
  cases e
  refine ⟨.error C, _, e1, fun H' t => ?_⟩
  obtain ⟨ok2, s2⟩ := ok.to rfl t
  exact q _ B H' s2 ok2
 ·cases e
theorem sO {K : Frag} {F F2 : Fx} {H : Hp} {d : D} {v : V} (hf : cP d = true) (h : Den K F H d v) : Den K F2 H d v := by
 cases d <;> first | exact h | cases hf
theorem qk {i : Nat} {x : Str} {pos' : Pos} {f : FD} (h : PS X (.Assign [.Name x pos'] e pos) (fG (tV X.K f E) (cN i))) : PS X (.Assign [.Name x pos'] e pos) (tG X.K X.H₀ (db i f) E) := h.imp fun D σ H h_ => by
 obtain ⟨B, bg, δ, β, o, β', ok, e, q⟩ := h_
 refine ⟨FxA B bg, vwA δ, β, ok.frA, ok.viewA, ?_⟩
 unfold db at e
 split at e
 ·rename_i d β1 e1
  split at e
  ·rename_i hf
   cases e
   refine ⟨.ok d, _, e1, fun v H' t hd => ?_⟩
   obtain ⟨ok2, s2⟩ := ok.to rfl t
   exact q _ B H' s2 (ok2.set (sO hf hd))
  ·cases e
 ·rename_i C β1 e1
  cases e
  refine ⟨.error C, _, e1, fun H' t => ?_⟩
  obtain ⟨ok2, s2⟩ := ok.to rfl t
  exact q _ B H' s2 ok2
 ·cases e
theorem vO {f : FD} (h : PS X (.Expr e pos) (iz (tV X.K f E))) : PS X (.Expr e pos) (tG X.K X.H₀ (dD f) E) := h.imp fun D σ H h_ => by
 obtain ⟨B, bg, δ, β, o, β', ok, e, q⟩ := h_
 refine ⟨FxA B bg, vwA δ, β, ok.frA, ok.viewA, ?_⟩
 unfold dD at e
 split at e
 ·rename_i d β1 e1
  cases e
  refine ⟨.ok d, _, e1, fun v H' t hd => ?_⟩
  obtain ⟨ok2, s2⟩ := ok.to rfl t
  exact q _ B H' s2 ok2
 ·rename_i C β1 e1
  cases e
  refine ⟨.error C, _, e1, fun H' t => ?_⟩
  obtain ⟨ok2, s2⟩ := ok.to rfl t
  exact q _ B H' s2 ok2
 ·cases e
def dO (B : Ow) : Ow := fun a => if B a = some 0 \/ B a = some 1 then B a else none
theorem wC {B : Ow} {bg : Option (Addr × Addr)} {H : Hp} : Tr (FxA B bg) H (FxB (dO B) bg) H := ⟨fun a h _ z => by
 have z' : dO B a ≠ none := z
 unfold dO at z'
 split at z'
 ·rename_i q; exact h q
 ·exact z' rfl, fun _ _ _ h => h, rfl⟩
theorem sx {B : Ow} {H : Hp} : Stp B H (dO B) H := ⟨fun _ _ h _ => h, fun a h => by unfold dO; rw [if_pos h], fun a o h n => by unfold dO; rw [n]; simp, fun _ h => h⟩
theorem aU {f : FD} (h : PS X (.Return (some e) pos) (o8 (tV X.K f E))) : PS X (.Return (some e) pos) (tG X.K X.H₀ (aK f) E) := h.imp fun D σ H h_ => by
 obtain ⟨B, bg, δ, β, o, β', ok, e, q⟩ := h_
 refine ⟨FxA B bg, vwA δ, β, ok.frA, ok.viewA, ?_⟩
 unfold aK at e
 split at e
 ·rename_i d β1 e1
  cases e
  refine ⟨.ok d, _, e1, fun v H' t hd => ?_⟩
  obtain ⟨ok2, s2⟩ := ok.to rfl t
  refine q _ (dO B) H' (s2.trans sx) ⟨fun a ha => ok2.fr.occ a ?_, fun b l e => ?_, ok2.fr.bag⟩ (Den.tr wC _ _ hd)
  ·have ha' : dO B a ≠ none := ha
   show B a ≠ none
   unfold dO at ha'
   split at ha'
   ·exact ha'
   ·exact absurd rfl ha'
  ·refine ⟨?_, ?_, (ok2.fr.bgA b l e).2.2⟩
   ·show dO B b ≠ none
    unfold dO
    rw [if_pos (.inr (ok.bgt b l e).1), (ok.bgt b l e).1]; simp
   ·show dO B l ≠ none
    unfold dO
    rw [if_pos (.inr (ok.bgt b l e).2), (ok.bgt b l e).2]; simp
 ·rename_i C β1 e1
  cases e
  refine ⟨.error C, _, e1, fun H' t => ?_⟩
  obtain ⟨ok2, s2⟩ := ok.to rfl t
  exact q _ B H' s2 ok2
 ·cases e
theorem bY {c : Expr} {a b : List Stmt} {t : Dn -> M Bool} {g h : G} (hc : PT X c (tVT X.K t E)) (ha : PSs X a (tG X.K X.H₀ g E)) (hb : PSs X b (tG X.K X.H₀ h E)) : PS X (.If c a b pos) (tG X.K X.H₀ (gIf t g h) E) := (tP hc ha hb).imp fun D σ H h_ => by
 obtain ⟨B, bg, δ, β, o, β', ok, e, q⟩ := h_
 refine ⟨FxA B bg, vwA δ, β, ok.frA, ok.viewA, ?_⟩
 unfold gIf at e
 split at e
 ·rename_i β1 e1
  refine ⟨.ok true, _, e1, fun v H' t hd => ?_⟩
  subst hd
  obtain ⟨ok2, s2⟩ := ok.to rfl t
  rw [if_pos rfl]
  exact ⟨B, bg, δ, β1, o, β', ok2, e, fE.pre s2 q⟩
 ·rename_i β1 e1
  refine ⟨.ok false, _, e1, fun v H' t hd => ?_⟩
  subst hd
  obtain ⟨ok2, s2⟩ := ok.to rfl t
  rw [if_neg Bool.false_ne_true]
  exact ⟨B, bg, δ, β1, o, β', ok2, e, fE.pre s2 q⟩
 ·rename_i C β1 e1
  cases e
  refine ⟨.error C, _, e1, fun H' t => ?_⟩
  obtain ⟨ok2, s2⟩ := ok.to rfl t
  exact q _ B H' s2 ok2
 ·cases e
abbrev TgS := D -> Ds -> Option Ds
abbrev p0 := List D -> Ds -> Option Ds
def ua (K : Frag) (g : TG) (tg : TgS) : Prop := ∀ (H₀ : Hp) (B : Ow) (bg : Option (Addr × Addr)) (H : Hp) (δ δ1 : Ds) (β : Bg) (σ : St) (d : D) (v : V) (Q : St -> Hp -> Prop), SOk K H₀ B bg H δ β σ -> Den K (FxB B bg) H d v -> tg d δ = some δ1 -> (∀ σ1, SOk K H₀ B bg H δ1 β σ1 -> Q σ1 H) -> g v σ H Q
def sgN (i : Nat) : TgS := fun d δ => some (δ.set i (some (.sh d)))
def kJ : p0 := fun ds δ => match ds with
 | [] => some δ
 | _ => none
def kI (t : TgS) (u : p0) : p0 := fun ds δ => match ds with
 | [] => none
 | d :: r => (t d δ).bind fun δ1 => u r δ1
def sgT (t : p0) : TgS := fun d δ => match d with
 | .tup ds => t ds δ
 | _ => none
variable {K : Frag}
theorem kT {i : Nat} : ua K (cN i) (sgN i) := fun H₀ B bg H δ δ1 β σ d v Q ok hd e k => by
 cases e
 exact k _ (ok.set hd)
def k8 (f : FD) (tg : TgS) : G := fun δ β => match f (vw δ) β with
 | some (.ok d, β1) => (tg d δ).map fun δ1 => (.nx δ1, β1)
 | some (.error C, β1) => some (.ex C δ, β1)
 | none => none
def k6 (i j : Nat) (f : FL) : G := fun δ β => match f (vw δ) β with
 | some (.ok [c, d], β1) => some (.nx ((δ.set i (some (.sh c))).set j (some (.sh d))), β1)
 | some (.error C, β1) => some (.ex C δ, β1)
 | _ => none
def k7 (i : Nat) (op : D -> D -> Option D) (f : FD) : G := fun δ β => match (vw δ).getD i none with
 | none => none
 | some c => match f (vw δ) β with
  | some (.ok d, β1) => (op c d).map fun z => (.nx (δ.set i (some (.sh z))), β1)
  | some (.error C, β1) => some (.ex C δ, β1)
  | none => none
end
theorem Stp.tr {B B' : Ow} {H H' : Hp} {bg : Option (Addr × Addr)} (s : Stp B H B' H') : Tr (FxB B bg) H (FxB B' bg) H' :=
 ⟨fun a h hs z => by
  have hn : B a = none := by
   cases q : B a with
   | none => rfl
   | some t => exact absurd (show B a ≠ none by rw [q]; simp) h
  cases q : H a with
  | none => exact hs q
  | some o => exact z (s.nn a o q hn), fun a o h e => s.kp a o e (.inl (by
  cases q : B a with
  | none => rfl
  | some t => exact absurd (show B a ≠ none by rw [q]; simp) h)), rfl⟩
section
variable {X : Cx} {E : St -> XK} {e : Expr} {st : Stmt} {sts : List Stmt} {pos : Pos} {K : Frag}
def gLp (tg : TgS) (g : G) : List D -> G
 | [], δ, β => some (.nx δ, β)
 | d :: ds, δ, β => match tg d δ with
  | none => none
  | some δ1 => match g δ1 β with
   | some (.nx δ2, β2) => gLp tg g ds δ2 β2
   | some (.ct δ2, β2) => gLp tg g ds δ2 β2
   | some (.bk δ2, β2) => some (.nx δ2, β2)
   | r => r
def jq (it : FL) (tg : TgS) (g : G) : G := fun δ β => match it (vw δ) β with
 | some (.ok ds, β1) => gLp tg g ds δ β1
 | some (.error C, β1) => some (.ex C δ, β1)
 | none => none
theorem pe {tgt iter : Expr} {body : List Stmt} {it : FL} {tgg : TG} {tg : TgS} {g : G} (l : ua X.K tgg tg) (h : PS X (.For tgt iter body [] pos) (vE (iV X.K it E) tgg (tG X.K X.H₀ g E))) : PS X (.For tgt iter body [] pos) (tG X.K X.H₀ (jq it tg g) E) := h.imp fun D σ H h_ => by
 obtain ⟨B, bg, δ, β, o, β', ok, e, q⟩ := h_
 refine ⟨FxB B bg, vw δ, β, ok.fr, ok.view, ?_⟩
 unfold jq at e
 split at e
 ·rename_i ds β1 e1
  refine ⟨.ok ds, _, e1, fun J H1 t hJ => ?_⟩
  obtain ⟨ok1, s1⟩ := ok.to rfl t
  refine ⟨fun i m σ2 H2 => m + i = ds.length /\ ∃ B2 δ2 β2, Stp B H1 B2 H2 /\ SOk X.K X.H₀ B2 bg H2 δ2 β2 σ2 /\ gLp tg g (ds.drop i) δ2 β2 = some (o, β'), ⟨ds.length, by omega, B, δ, β1, Stp.refl B H1, ok1, e⟩, ?_⟩
  rintro i m σ2 H2 ⟨hm, B2, δ2, β2, s2, ok2, e2⟩
  obtain ⟨iy, is⟩ := hJ (FxB B2 bg) H2 β2 s2.tr ok2.fr i
  cases hi : ds[i]? with
  | none =>
   have hl : ds.length <= i := List.getElem?_eq_none_iff.mp hi
   rw [List.drop_eq_nil_of_le hl] at e2
   cases e2
   exact .inl ⟨is (by omega), q σ2 B2 H2 (s1.trans s2) ok2⟩
  | some d =>
   have hl : i < ds.length := (List.getElem?_eq_some_iff.mp hi).1
   obtain ⟨go, yl⟩ := iy d hi
   have ed : ds.drop i = d :: ds.drop (i + 1) := by
    rw [List.drop_eq_getElem_cons hl]
    congr 1
    exact Option.some.inj ((List.getElem?_eq_getElem hl).symm.trans hi)
   rw [ed] at e2
   unfold gLp at e2
   split at e2
   ·cases e2
   ·rename_i δ3 e3
    refine .inr ⟨go, fun σ9 H9 => ∃ B9 δ9 β9, Stp B H1 B9 H9 /\ SOk X.K X.H₀ B9 bg H9 δ9 β9 σ9 /\ gLp tg g (ds.drop (i + 1)) δ9 β9 = some (o, β'), fun σ9 H9 ⟨B9, δ9, β9, z1, z2, z3⟩ => ⟨m - 1, by omega, by omega, B9, δ9, β9, z1, z2, z3⟩, fun x H3 hy => ?_⟩
    obtain ⟨sm, dx⟩ := yl x H3 hy
    obtain ⟨ok3, s3⟩ := ok2.to rfl (ok2.fr.same sm)
    refine l X.H₀ B2 bg H3 δ2 δ3 β2 σ2 d x _ ok3 dx e3 fun σ4 ok4 => ?_
    have s23 := s2.trans s3
    split at e2
    ·rename_i δ5 β5 e5
     exact ⟨B2, bg, δ3, β2, .nx δ5, β5, ok4, e5, fun σ6 B6 H6 s6 ok6 => ⟨B6, δ5, β5, s23.trans s6, ok6, e2⟩⟩
    ·rename_i δ5 β5 e5
     exact ⟨B2, bg, δ3, β2, .ct δ5, β5, ok4, e5, fun σ6 B6 H6 s6 ok6 => ⟨B6, δ5, β5, s23.trans s6, ok6, e2⟩⟩
    ·rename_i δ5 β5 e5
     cases e2
     exact ⟨B2, bg, δ3, β2, .bk δ5, _, ok4, e5, fun σ6 B6 H6 s6 ok6 => q σ6 B6 H6 (s1.trans (s23.trans s6)) ok6⟩
    ·rename_i x h1 h2 h3
     refine ⟨B2, bg, δ3, β2, o, β', ok4, e2, ?_⟩
     have q2 := fE.pre (s1.trans s23) q
     cases o with
     | nx δ5 => exact absurd e2 (h1 _ _)
     | ct δ5 => exact absurd e2 (h2 _ _)
     | bk δ5 => exact absurd e2 (h3 _ _)
     | rt d => exact q2
     | rg d => exact q2
     | ex C δ5 => exact q2
 ·rename_i C β1 e1
  cases e
  refine ⟨.error C, _, e1, fun H' t => ?_⟩
  obtain ⟨ok2, s2⟩ := ok.to rfl t
  exact q _ B H' s2 ok2
 ·cases e
theorem SOk.newOwn {H₀ : Hp} {B : Ow} {bg : Option (Addr × Addr)} {H : Hp} {δ : Ds} {β : Bg} {σ : St} {i : Nat} {p : Addr} {ds : List D} {xs : List V} (ok : SOk K H₀ B bg H δ β σ) (hp : H p = none) (hd : DenL K (FxB B bg) H ds xs) :
  SOk K H₀ (fun a => if a = p then some (i + 2) else B a) bg (upd H p (.lst xs)) (δ.set i (some (.own ds))) β (σ.set i (some (.ref p))) /\ Stp B H (fun a => if a = p then some (i + 2) else B a) (upd H p (.lst xs)) := by
 have hB : B p = none := by
  cases q : B p with
  | none => rfl
  | some t => exact absurd hp (ok.fr.occ p (by show B p ≠ none; rw [q]; simp))
 have stp : Stp B H (fun a => if a = p then some (i + 2) else B a) (upd H p (.lst xs)) := by
  refine ⟨fun a o h _ => by rw [upd_ne (ne_of_none h hp)]; exact h, fun a h => ?_, fun a o h n => ?_, ?_⟩
  ·have : a ≠ p := fun z => by subst z; rw [hB] at h; rcases h with h | h <;> cases h
   simp only [if_neg this]
  ·simp only [if_neg (ne_of_none h hp)]; exact n
  ·exact fun a ha => by
    by_cases z : a = p
    ·subst z; rw [ai]; simp
    ·rw [upd_ne z]; exact ha
 have tr : Tr (FxB B bg) H (FxB (fun a => if a = p then some (i + 2) else B a) bg) (upd H p (.lst xs)) := stp.tr
 have nb : ∀ b l, bg = some (b, l) -> b ≠ p /\ l ≠ p := fun b l e => by
  obtain ⟨b1, b2⟩ := ok.bgt b l e
  exact ⟨fun z => (by subst z; rw [hB] at b1; cases b1), fun z => (by subst z; rw [hB] at b2; cases b2)⟩
 refine ⟨⟨⟨fun a ha z => ?_, fun b l e => ?_, fun b l e => ?_⟩, fun b l e => ?_, by rw [List.length_set, List.length_set, ok.len], fun a ha => stp.al a (ok.cov a ha), fun c k hc => (by
  have hc' : (if c = p then some (i + 2) else B c) = some (k + 2) := hc
  by_cases z : c = p
  ·cases w : H₀ c with
   | none => rfl
   | some o => exact absurd (z ▸ hp) (ok.cov c (by rw [w]; simp))
  ·rw [if_neg z] at hc'; exact ok.new c k hc'), fun c k hc => (by
  have hc' : (if c = p then some (i + 2) else B c) = some (k + 2) := hc
  by_cases z : c = p
  ·subst z; exact ⟨xs, ai⟩
  ·rw [if_neg z] at hc'; rw [upd_ne z]; exact ok.lst c k hc'), fun j s e => ?_⟩, stp⟩
 ·by_cases q : a = p
  ·subst q; rw [ai] at z; cases z
  ·rw [upd_ne q] at z
   have ha' : (if a = p then some (i + 2) else B a) ≠ none := ha
   rw [if_neg q] at ha'
   exact ok.fr.occ a ha' z
 ·obtain ⟨n1, n2⟩ := nb b l e
  obtain ⟨b1, b2⟩ := ok.bgt b l e
  refine ⟨?_, ?_, (ok.fr.bgA b l e).2.2⟩
  ·show (if b = p then some (i + 2) else B b) ≠ none
   rw [if_neg n1, b1]; simp
  ·show (if l = p then some (i + 2) else B l) ≠ none
   rw [if_neg n2, b2]; simp
 ·obtain ⟨n1, n2⟩ := nb b l e
  rw [upd_ne n1, upd_ne n2]
  exact ok.fr.bag b l e
 ·obtain ⟨n1, n2⟩ := nb b l e
  simp only [if_neg n1, if_neg n2]
  exact ok.bgt b l e
 ·rw [List.getElem?_set] at e
  rw [List.getElem?_set]
  by_cases q : i = j
  ·subst q
   rw [if_pos rfl] at e ⊢
   split at e
   ·rename_i hl
    cases e
    rw [if_pos (by rw [← ok.len]; exact hl)]
    exact ⟨_, rfl, p, xs, rfl, if_pos rfl, ai, DenL.tr tr _ _ hd⟩
   ·cases e
  ·rw [if_neg q] at e ⊢
   obtain ⟨v, h1, h2⟩ := ok.tell j s e
   refine ⟨v, h1, ?_⟩
   cases s with
   | sh d => exact Den.tr tr _ _ h2
   | own cs =>
    obtain ⟨a, ys, e1, e2, e3, e4⟩ := h2
    have na := ne_of_none e3 hp
    exact ⟨a, ys, e1, by simp only [if_neg na]; exact e2, by rw [upd_ne na]; exact e3, DenL.tr tr _ _ e4⟩
   | grd rows =>
    obtain ⟨a, rs, e1, e2, e3, e4, e5⟩ := h2
    have na := ne_of_none e3 hp
    exact ⟨a, rs, e1, by simp only [if_neg na]; exact e2, by rw [upd_ne na]; exact e3, e4, RowL.tr tr e5 fun r zs _ p q => ⟨by simp only [if_neg (ne_of_none q hp)]; exact p, by rw [upd_ne (ne_of_none q hp)]; exact q⟩⟩
theorem SOk.writeOwn {H₀ : Hp} {B : Ow} {bg : Option (Addr × Addr)} {H : Hp} {δ : Ds} {β : Bg} {σ : St} {i : Nat} {a : Addr} {ds : List D} {xs ys : List V} (ok : SOk K H₀ B bg H δ β σ) (hs : σ[i]? = some (some (.ref a))) (hB : B a = some (i + 2)) (ha : H a = some (.lst ys)) (hd : DenL K (FxB B bg) H ds xs) :
  SOk K H₀ B bg (upd H a (.lst xs)) (δ.set i (some (.own ds))) β σ /\ Stp B H B (upd H a (.lst xs)) := by
 have stp : Stp B H B (upd H a (.lst xs)) := by
  refine ⟨fun c o h n => ?_, fun _ _ => rfl, fun _ _ _ n => n, fun c hc => ?_⟩
  ·rw [upd_ne]
   ·exact h
   ·intro z; subst z; rw [hB] at n; rcases n with n | n <;> cases n
  ·by_cases z : c = a
   ·subst z; rw [ai]; simp
   ·rw [upd_ne z]; exact hc
 have tr : Tr (FxB B bg) H (FxB B bg) (upd H a (.lst xs)) := stp.tr
 refine ⟨⟨⟨fun c hc z => ?_, ok.fr.bgA, fun b l e => ?_⟩, ok.bgt, by rw [List.length_set, ok.len], fun a ha => stp.al a (ok.cov a ha), ok.new, fun c k hc => (by
  by_cases z : c = a
  ·subst z; exact ⟨xs, ai⟩
  ·rw [upd_ne z]; exact ok.lst c k hc), fun j s e => ?_⟩, stp⟩
 ·by_cases q : c = a
  ·subst q; rw [ai] at z; cases z
  ·rw [upd_ne q] at z; exact ok.fr.occ c hc z
 ·obtain ⟨b1, b2⟩ := ok.bgt b l e
  rw [upd_ne (fun z => by subst z; rw [hB] at b1; cases b1), upd_ne (fun z => by subst z; rw [hB] at b2; cases b2)]
  exact ok.fr.bag b l e
 ·rw [List.getElem?_set] at e
  by_cases q : i = j
  ·subst q
   rw [if_pos rfl] at e
   split at e
   ·cases e
    exact ⟨_, hs, a, xs, rfl, hB, ai, DenL.tr tr _ _ hd⟩
   ·cases e
  ·rw [if_neg q] at e
   obtain ⟨v, h1, h2⟩ := ok.tell j s e
   refine ⟨v, h1, ?_⟩
   cases s with
   | sh d => exact Den.tr tr _ _ h2
   | own cs =>
    obtain ⟨c, zs, e1, e2, e3, e4⟩ := h2
    have na : c ≠ a := fun z => by subst z; rw [hB] at e2; cases e2; exact q rfl
    exact ⟨c, zs, e1, e2, by rw [upd_ne na]; exact e3, DenL.tr tr _ _ e4⟩
   | grd rows =>
    obtain ⟨c, rs, e1, e2, e3, e4, e5⟩ := h2
    have na : ∀ c, B c = some (j + 2) -> c ≠ a := fun c e2 z => by subst z; rw [hB] at e2; cases e2; exact q rfl
    exact ⟨c, rs, e1, e2, by rw [upd_ne (na c e2)]; exact e3, e4, RowL.tr tr e5 fun r zs _ p q => ⟨p, by rw [upd_ne (na r p)]; exact q⟩⟩
def ny (i : Nat) (f : FL) : G := fun δ β => match f (vw δ) β with
 | some (.ok ds, β1) => if ds.length <= sizeLine then some (.nx (δ.set i (some (.own ds))), β1) else none
 | some (.error C, β1) => some (.ex C δ, β1)
 | none => none
theorem x4 {i : Nat} {f : FL} (h : PS X st (fG (rL (tVA X.K f E)) (cN i))) : PS X st (tG X.K X.H₀ (ny i f) E) := h.imp fun D σ H h_ => by
 obtain ⟨B, bg, δ, β, o, β', ok, e, q⟩ := h_
 refine ⟨FxB B bg, vw δ, β, ok.fr, ok.view, ?_⟩
 unfold ny at e
 split at e
 ·rename_i ds β1 e1
  split at e
  ·rename_i hz
   cases e
   refine ⟨.ok ds, _, e1, fun vs H' t hd => ⟨by rw [← hd.length]; exact hz, fun p hp => ?_⟩⟩
   obtain ⟨ok2, s2⟩ := ok.to rfl t
   obtain ⟨ok3, s3⟩ := ok2.newOwn (i := i) hp hd
   exact q _ _ _ (s2.trans s3) ok3
  ·cases e
 ·rename_i C β1 e1
  cases e
  refine ⟨.error C, _, e1, fun H' t => ?_⟩
  obtain ⟨ok2, s2⟩ := ok.to rfl t
  exact q _ B H' s2 ok2
 ·cases e
def nB (i : Nat) (f : FL) : G := fun δ β => match δ.getD i none with
 | some (.own cs) => match f (vw δ) β with
  | some (.ok [d], β1) => if cs.length < sizeLine then some (.nx (δ.set i (some (.own (cs ++ [d])))), β1) else none
  | some (.error C, β1) => some (.ex C δ, β1)
  | _ => none
 | _ => none
theorem dr {α : Type} {δ : List (Option α)} {i : Nat} {s : α} (h : δ.getD i none = some s) : δ[i]? = some (some s) := by
 rw [List.getD_eq_getElem?_getD] at h
 cases z : δ[i]? with
 | none => rw [z] at h; cases h
 | some w => rw [z] at h; simp at h; rw [h]
theorem x5 {i : Nat} {f : FL} (h : PS X st (iz (tBM X.K "list" iB (jf i) (tVA X.K f E)))) : PS X st (tG X.K X.H₀ (nB i f) E) := h.imp fun D σ H h_ => by
 obtain ⟨B, bg, δ, β, o, β', ok, e, q⟩ := h_
 unfold nB at e
 split at e
 ·rename_i cs ec
  obtain ⟨v, h1, a, ys, rfl, e2, e3, e4⟩ := ok.tell i _ (dr ec)
  refine ⟨_, h1, .inl ⟨rfl, ys, SqL.of e3⟩, FxB B bg, vw δ, β, ok.fr, ok.view, ?_⟩
  split at e
  ·rename_i d β1 e1
   split at e
   ·rename_i hz
    cases e
    refine ⟨.ok [d], _, e1, fun vs H' t hd => ?_⟩
    obtain ⟨ok2, s2⟩ := ok.to rfl t
    obtain ⟨v, rfl, hv⟩ := DenL.one hd
    obtain ⟨v', h1', a', ys', ev', e2', e3', e4'⟩ := ok2.tell i _ (dr ec)
    rw [h1] at h1'
    cases h1'
    cases ev'
    refine ⟨a, ys', v, rfl, rfl, e3', by rw [← e4'.length]; exact hz, ?_⟩
    obtain ⟨ok3, s3⟩ := ok2.writeOwn (ds := cs ++ [d]) (xs := ys' ++ [v]) h1 e2 e3' (DenL.append e4' (DenL.cons hv DenL.nil))
    exact q _ _ _ (s2.trans s3) ok3
   ·cases e
  ·rename_i C β1 e1
   cases e
   refine ⟨.error C, _, e1, fun H' t => ?_⟩
   obtain ⟨ok2, s2⟩ := ok.to rfl t
   exact q _ B H' s2 ok2
  ·cases e
 ·cases e
def stD (n : Nat) (ds : List D) : Ds := ds.map (fun d => some (Sl.sh d)) ++ List.replicate (n - ds.length) none
def aN (n : Nat) (g : G) : List D -> M D := fun ds β => match g (stD n ds) β with
 | some (.rt d, β') => some (.ok d, β')
 | some (.nx _, β') => some (.ok .non, β')
 | some (.ex C _, β') => some (.error C, β')
 | _ => none
theorem jI {F : Fx} {H : Hp} {β : Bg} {ds : List D} {vs : List V} {N : List Str} (fr : Fr F H β) (hd : DenL K F H ds vs) : ∃ B, SOk K H B F.bg H (stD N.length ds) β (cY N vs) /\ (∀ a, F.A a -> B a = some 0 \/ B a = some 1) /\ (∀ a, B a = some 1 -> ∃ b l, F.bg = some (b, l) /\ (a = b \/ a = l)) /\ (∀ a, B a ≠ none -> F.A a) := by
 classical
 refine ⟨fun a => if F.A a then (if ∃ b l, F.bg = some (b, l) /\ (a = b \/ a = l) then some 1 else some 0) else none, ⟨⟨fun a ha => fr.occ a ?_, fun b l e => ?_, fr.bag⟩, fun b l e => ?_, ?_, fun _ h => h, fun c k hc => (by
  have hc' : (if F.A c then (if ∃ b l, F.bg = some (b, l) /\ (c = b \/ c = l) then some 1 else some 0) else none) = some (k + 2) := hc
  split at hc'
  ·split at hc' <;> cases hc'
  ·cases hc'), fun c k hc => (by
  have hc' : (if F.A c then (if ∃ b l, F.bg = some (b, l) /\ (c = b \/ c = l) then some 1 else some 0) else none) = some (k + 2) := hc
  split at hc'
  ·split at hc' <;> cases hc'
  ·cases hc'), fun i s e => ?_⟩, fun a ha => ?_, fun a ha => ?_, fun a ha => ?_⟩
 ·have ha' : (if F.A a then (if ∃ b l, F.bg = some (b, l) /\ (a = b \/ a = l) then some 1 else some 0) else none) ≠ (none : Option Nat) := ha
  split at ha'
  ·assumption
  ·exact absurd rfl ha'
 ·obtain ⟨a1, a2, a3⟩ := fr.bgA b l e
  refine ⟨?_, ?_, a3⟩
  ·show (if F.A b then (if ∃ b' l, F.bg = some (b', l) /\ (b = b' \/ b = l) then some 1 else some 0) else none) ≠ (none : Option Nat)
   rw [if_pos a1]; split <;> simp
  ·show (if F.A l then (if ∃ b' l', F.bg = some (b', l') /\ (l = b' \/ l = l') then some 1 else some 0) else none) ≠ (none : Option Nat)
   rw [if_pos a2]; split <;> simp
 ·obtain ⟨a1, a2, a3⟩ := fr.bgA b l e
  exact ⟨by rw [if_pos a1, if_pos ⟨b, l, e, .inl rfl⟩], by rw [if_pos a2, if_pos ⟨b, l, e, .inr rfl⟩]⟩
 ·unfold stD cY
  rw [List.length_append, List.length_append, List.length_map, List.length_map, List.length_replicate, List.length_replicate, hd.length]
 ·unfold stD at e
  unfold cY
  rw [List.getElem?_append, List.length_map] at e
  rw [List.getElem?_append, List.length_map, ← hd.length]
  by_cases hi : i < ds.length
  ·rw [if_pos hi, List.getElem?_map] at e
   rw [if_pos hi, List.getElem?_map]
   cases z : ds[i]? with
   | none => rw [z] at e; cases e
   | some d =>
    rw [z] at e
    cases e
    obtain ⟨v, h1, h2⟩ := hd.get z
    refine ⟨v, by rw [h1]; rfl, ?_⟩
    have tr0 : Tr F H (FxB (fun a => if F.A a then (if ∃ b l, F.bg = some (b, l) /\ (a = b \/ a = l) then some 1 else some 0) else none) F.bg) H := by
     refine ⟨fun a ha _ z' => ?_, fun _ _ _ h => h, rfl⟩
     have z2 : (if F.A a then (if ∃ b l, F.bg = some (b, l) /\ (a = b \/ a = l) then some 1 else some 0) else none) ≠ (none : Option Nat) := z'
     rw [if_neg ha] at z2
     exact z2 rfl
    exact Den.tr tr0 _ _ h2
  ·rw [if_neg hi, List.getElem?_replicate] at e
   split at e <;> cases e
 ·simp only [if_pos ha]
  split
  ·exact .inr rfl
  ·exact .inl rfl
 ·simp only at ha
  split at ha
  ·split at ha
   ·assumption
   ·cases ha
  ·cases ha
 ·simp only at ha
  split at ha
  ·assumption
  ·exact absurd rfl ha
end
section
variable {P : Program} {w : World} {K : Frag} {mg : Str -> Option Value} {base : Heap}
theorem va {x qual : Str} {st : Stmt} {f : Addr} {fd : FuncData} {N ps : List Str} {k : Nat} {g : G} (F : FunD K x qual st f fd) (S : FnScope N ps (ak st))
  (hbody : ∀ (cdv : Value) (A : Around) (outer : List Env) (s : Shared) (H : Hp) (E : XK), Room k (A.deeper (envOfC qual (ak st) s.heap.objs.size f cdv)) ->
   PSs (bG (CXE P w) P w K mg base N qual (ak st) f cdv A outer s H E) (br st) (tG K H g (fun _ => E))) : FnOk P w K mg base (CXE P w) (k + 1) f fd ps (spF K ps.length (aN N.length g)) := by
 refine F.okE S (fun vs H Q E h => h.1) fun cdv A outer s H vs Q E hr h => ?_
 obtain ⟨hl, F0, ds, β, fr, hd, r, β', e, h⟩ := h
 refine ⟨_, hbody cdv A outer s H E hr, ?_⟩
 obtain ⟨B, ok, hA, h1, hn⟩ := jI (N := N) fr hd
 have toF : ∀ {B' : Ow} {H' : Hp}, Stp B H B' H' -> Fr (FxB B' F0.bg) H' β' -> To F0 H H' β' /\ Tr (FxB B' F0.bg) H' F0 H' := fun {B' H'} s fr' => by
  have hs : ∀ a, F0.A a -> B' a ≠ none := fun a ha => by
   rw [s.tg a (hA a ha)]
   rcases hA a ha with z | z <;> rw [z] <;> simp
  refine ⟨⟨fun a o ha n => s.kp a o ha ?_, fun a ha => fr'.occ a (hs a ha), fun b l e => fr.bgA b l e, fr'.bag⟩, fun a ha _ z => ha (hs a z), fun _ _ _ h => h, rfl⟩
  cases q : B a with
  | none => exact .inl rfl
  | some t =>
   have := hA a (hn a (by rw [q]; simp))
   rcases this with z | z
   ·rw [q] at z; exact .inr z
   ·obtain ⟨b, l, e, w⟩ := h1 a z
    obtain ⟨n1, n2⟩ := n b l e
    rcases w with w | w
    ·exact absurd w n1
    ·exact absurd w n2
 unfold aN at e
 split at e
 ·rename_i d β1 e1
  cases e
  refine ⟨B, F0.bg, stD N.length ds, β, .rt d, β', ok, e1, fun v B' H' s fr' hv => ?_⟩
  obtain ⟨t1, t2⟩ := toF s fr'
  exact h v H' t1 (Den.tr t2 _ _ hv)
 ·rename_i δ' β1 e1
  cases e
  refine ⟨B, F0.bg, stD N.length ds, β, .nx δ', β', ok, e1, fun σ' B' H' s ok' => ?_⟩
  obtain ⟨t1, t2⟩ := toF s ok'.fr
  exact h _ H' t1 rfl
 ·rename_i C δ' β1 e1
  cases e
  refine ⟨B, F0.bg, stD N.length ds, β, .ex C δ', β', ok, e1, fun σ' B' H' s ok' => ?_⟩
  obtain ⟨t1, t2⟩ := toF s ok'.fr
  exact h H' t1
 ·cases e
end
section
variable {prog : Program} {w : World} {A : Around}
theorem yp (hh : A.handled = none) (it t : Addr) (ne : t ≠ it) (items : Array Value) : Draws prog w A it [it, t] items.size (fun i v => items[i]? = some v) (fun i h => h.IsTupleIter it t i /\ h.IsTuple t items) where
 live := fun _ _ st => let ⟨o, e, _⟩ := st.1; ⟨o, e⟩
 frame := fun _ _ _ st k => ⟨st.1.at fun o e => k it (by simp) o e, by
  obtain ⟨o, e, r⟩ := st.2
  exact ⟨o, k t (by simp) o e, r⟩⟩
 item := fun i s Q E hi st hQ => by
  obtain ⟨o, eo, co, dq⟩ := id st.1
  obtain ⟨ot, et, _, nt, dt⟩ := st.2
  have hx : items[i]? = some items[i] := by simp [hi]
  unfold Builtin.SmallTypes.nextOf; refine wpAny_bind (wpAny_callSpecial?_slot (name := Str.ofString "__next__") st.1.typeIs F.slot_tuple_iterator_next (wpAny_call_entry F.slot_tuple_iterator_next st.1.typeIs F.entry_tuple_iterator_next ?_ (F.args_tuple_iterator_next_1 _)))
  show wpAny _ _ (field (.ref it) 0 >>= _) _ _ _; refine wpAny_bind (wpAny_field eo dq (x := .ref t) rfl ?_)
  show wpAny _ _ (if (Value.ref t == Value.none) = true then _ else _) _ _ _; rw [if_neg (show ¬ ((Value.ref t == Value.none) = true) from Bool.false_ne_true)]
  show wpAny _ _ (field (.ref it) 1 >>= _) _ _ _; refine wpAny_bind (wpAny_field eo dq (x := .int i 0) rfl ?_)
  show wpAny _ _ (seqItems? (.ref t) >>= _) _ _ _; refine wpAny_bind (wpAny_seqItems et dt ?_)
  simp only [Int.toNat_natCast, hx]; refine wpAny_bind (wpAny_setField eo dq (by simp) (wpAny_pure ⟨items[i], rfl, wpAny_pure (hQ _ _ s.toks hx ⟨?_, ?_⟩ (Heap.SameBut.update ..))⟩))
  ·exact ⟨_, Heap.get?_update_self _ eo (Obj.isFreed_of_fields (Obj.data_mapFields dq _)), (Obj.cls_mapFields ..).trans co, by rw [Obj.data_mapFields dq]; simp [rawInt]⟩
  ·exact ⟨ot, (Heap.SameBut.update ..).extBut _ _ ne et, by assumption, nt, dt⟩
 done := fun s Q E st hE => by
  obtain ⟨o, eo, co, dq⟩ := id st.1
  obtain ⟨ot, et, _, nt, dt⟩ := st.2
  have hx : items[items.size]? = none := by simp
  unfold Builtin.SmallTypes.nextOf; refine wpAny_bind (wpAny_callSpecial?_slot (name := Str.ofString "__next__") st.1.typeIs F.slot_tuple_iterator_next (wpAny_call_entry F.slot_tuple_iterator_next st.1.typeIs F.entry_tuple_iterator_next ?_ (F.args_tuple_iterator_next_1 _)))
  show wpAny _ _ (field (.ref it) 0 >>= _) _ _ _; refine wpAny_bind (wpAny_field eo dq (x := .ref t) rfl ?_)
  show wpAny _ _ (if (Value.ref t == Value.none) = true then _ else _) _ _ _; rw [if_neg (show ¬ ((Value.ref t == Value.none) = true) from Bool.false_ne_true)]
  show wpAny _ _ (field (.ref it) 1 >>= _) _ _ _; refine wpAny_bind (wpAny_field eo dq (x := .int items.size 0) rfl ?_)
  show wpAny _ _ (seqItems? (.ref t) >>= _) _ _ _; refine wpAny_bind (wpAny_seqItems et dt ?_)
  simp only [Int.toNat_natCast, hx]; refine wpAny_bind (wpAny_rule (wpAny_bind (wpAny_setField eo dq (by simp) ?_)))
  show wpAny _ _ (newExc (.type "StopIteration") [] >>= _) _ _ _; refine wpAny_bind ?_
  simp only [newExc, newTuple]; refine wpAny_bind (wpAny_newObj_type ?_ (by size_fits))
  refine wpAny_bind (m := firstArgMember _ _) (wpAny_of_eq (a := Value.none) (by first | rfl | (simp only [firstArgMember]; rfl)) ?_); refine wpAny_newObj_type ?_ (by size_fits)
  simp only [raiseNew]; refine wpAny_bind (wpAny_handled ?_)
  first | rw [show A.in1.handled = none from hh] | rw [hh]; skip
  refine wpAny_bind (wpAny_pure (wpAny_throw ?_)); exact hE _ _ (((Heap.SameBut.update ..).extBut.push _).push _) ⟨_, Heap.get?_push_size _ rfl, rfl⟩
end
structure Ap (z TI TO i1 i2 : Addr) (f1 f2 : List Addr) : Prop where
 a1 : TI ≠ z
 a2 : TO ≠ z
 a3 : i1 ≠ z
 a4 : i2 ≠ z
 a5 : TI ≠ TO
 a6 : TI ≠ i1
 a7 : TI ≠ i2
 a8 : TO ≠ i1
 a9 : TO ≠ i2
 b1 : i1 ≠ i2
 c1 : z ∉ f1
 c2 : TO ∉ f1
 c3 : i2 ∉ f1
 d1 : z ∉ f2
 d2 : TO ∉ f2
 d3 : i1 ∉ f2
 m1 : i1 ∈ f1
 m2 : i2 ∈ f2
section
variable {prog : Program} {w : World} {A : Around} {E : Value -> Shared -> Prop} {s : Shared}
theorem bj {it : Addr} {f : List Addr} {h h' : Heap} (sb : Heap.SameBut it h h') (n : it ∉ f) : ∀ b ∈ f, ∀ o, h.get? b = some o -> h'.get? b = some o := fun b hb o e => sb.extBut b o (fun q => n (q ▸ hb)) e
theorem p7 {z TI TO i1 i2 : Addr} {f1 f2 : List Addr} {n1 n2 k : Nat} {P1 P2 : Nat -> Value -> Prop} {S1 S2 : Nat -> Heap -> Prop} {a b : Value} {Q : Value -> Shared -> Prop} (D1 : Draws prog w A i1 f1 n1 P1 S1) (D2 : Draws prog w A i2 f2 n2 P2 S2) (ap : Ap z TI TO i1 i2 f1 f2)
  (ez : IsZip s.heap z TI TO .none) (eI : IsPair s.heap TI (.ref i1) (.ref i2)) (eO : IsPair s.heap TO a b) (s1 : S1 k s.heap) (s2 : S2 k s.heap) (k1 : k < n1) (k2 : k < n2)
  (hQ : ∀ h' tk x y, P1 k x -> P2 k y -> IsZip h' z TI TO (rawInt s.heap.objs.size) -> IsPair h' TO x y -> S1 (k + 1) h' -> S2 (k + 1) h' -> IsPair h' s.heap.objs.size x y -> h'.objs.size = s.heap.objs.size + 1 -> (∀ c o, c ≠ z -> c ≠ TO -> c ≠ i1 -> c ≠ i2 -> s.heap.get? c = some o -> h'.get? c = some o) -> Q (.ref s.heap.objs.size) { s with heap := h', toks := tk }) :
  wpAny (model prog w) A (Builtin.«zip.__next__» ⟨[.ref z], []⟩) (fun fin s' => ∃ v, fin = .done (.ret v) /\ Q v s') E s := by
 obtain ⟨hp, gg, dd, tk0, os⟩ := s
 show wpAny _ _ (field (.ref z) 2 >>= _) _ _ _; refine wpAny_bind (wpAny_field ez rfl (x := .bool false) rfl ?_)
 show wpAny _ _ (field (.ref z) 3 >>= _) _ _ _; refine wpAny_bind (wpAny_field ez rfl (x := .ref TI) rfl ?_)
 refine wpAny_bind (wpAny_seqItems eI rfl ?_)
 show wpAny _ _ (Builtin.SmallTypes.ownedTupleIsFree (.ref z) >>= _) _ _ _; refine wpAny_bind ?_
 unfold Builtin.SmallTypes.ownedTupleIsFree; refine wpAny_bind (wpAny_field ez rfl (x := .none) rfl (wpAny_pure ?_))
 simp only [if_true]; refine wpAny_bind (wpAny_rule ?_)
 refine wpAny_bind (wpAny_field ez rfl (x := .ref TO) rfl ?_)
 refine wpAny_bind (wpAny_setField_rec ez (by simp) fun g1 ez1 sb1 => ?_)
 replace ez1 : IsZip g1 z TI TO .ellipsis := ez1
 replace sb1 : Heap.SameBut z hp g1 := sb1
 refine wpAny_bind ?_
 simp only [List.zipIdx_cons, List.zipIdx_nil, List.forIn_cons, List.forIn_nil]; refine wpAny_bind (wpAny_bind (wpAny_onRaise ?_))
 show wpAny _ _ (Builtin.SmallTypes.nextOf (.ref i1) >>= _) _ _ _; refine wpAny_bind (D1.item k _ _ _ k1 (D1.frame _ _ _ s1 (bj sb1 ap.c1)) fun x g2 tk2 px st2 sb2 => wpAny_pure ?_)
 replace sb2 : Heap.SameBut i1 g1 g2 := sb2
 have eO2 : IsPair g2 TO a b := sb2.extBut _ _ ap.a8 (sb1.extBut _ _ ap.a2 eO)
 refine wpAny_bind (wpAny_seqItems eO2 rfl ?_); refine wpAny_bind (wpAny_updateSeq_pair eO2 fun g3 eO3 sb3 => ?_)
 replace eO3 : IsPair g3 TO x b := eO3
 replace sb3 : Heap.SameBut TO g2 g3 := sb3
 refine wpAny_bind (wpAny_letGo (wpAny_pure ?_)); refine wpAny_bind (wpAny_bind (wpAny_onRaise ?_))
 show wpAny _ _ (Builtin.SmallTypes.nextOf (.ref i2) >>= _) _ _ _; refine wpAny_bind (D2.item k _ _ _ k2 (D2.frame _ _ _ (D2.frame _ _ _ (D2.frame _ _ _ s2 (bj sb1 ap.d1)) (bj sb2 ap.d3)) (bj sb3 ap.d2)) fun y g4 tk4 py st4 sb4 => wpAny_pure ?_)
 replace sb4 : Heap.SameBut i2 g3 g4 := sb4
 have eO4 : IsPair g4 TO x b := sb4.extBut _ _ ap.a9 eO3
 refine wpAny_bind (wpAny_seqItems eO4 rfl ?_); refine wpAny_bind (wpAny_updateSeq_pair eO4 fun g5 eO5 sb5 => ?_)
 replace eO5 : IsPair g5 TO x y := eO5
 replace sb5 : Heap.SameBut TO g4 g5 := sb5
 refine wpAny_bind (wpAny_letGo (wpAny_pure (wpAny_pure ?_))); refine wpAny_bind (wpAny_seqItems eO5 rfl ?_)
 refine wpAny_bind (wpAny_newTuple ?_)
 have zs : g5.objs.size = hp.objs.size := by rw [sb5.1, sb4.1, sb3.1, sb2.1, sb1.1]
 have ez5 : IsZip g5 z TI TO .ellipsis := sb5.extBut _ _ ap.a2.symm (sb4.extBut _ _ ap.a4.symm (sb3.extBut _ _ ap.a2.symm (sb2.extBut _ _ ap.a3.symm ez1)))
 have kp5 : ∀ c o, c ≠ z -> c ≠ TO -> c ≠ i1 -> c ≠ i2 -> hp.get? c = some o -> g5.get? c = some o := fun c o n1 n2 n3 n4 e => sb5.extBut _ _ n2 (sb4.extBut _ _ n4 (sb3.extBut _ _ n2 (sb2.extBut _ _ n3 (sb1.extBut _ _ n1 e))))
 have st1 : S1 (k + 1) g5 := D1.frame _ _ _ (D1.frame _ _ _ (D1.frame _ _ _ st2 (bj sb3 ap.c2)) (bj sb4 ap.c3)) (bj sb5 ap.c2)
 have st5 : S2 (k + 1) g5 := D2.frame _ _ _ st4 (bj sb5 ap.d2)
 have zl : z < g5.objs.size := Heap.lt_size ez5
 show wpAny _ _ (Builtin.SmallTypes.ownedTupleHandOut (.ref z) (.ref g5.objs.size) >>= _) _ _ _; refine wpAny_bind ?_
 unfold Builtin.SmallTypes.ownedTupleHandOut; have ez6 : IsZip (g5.push { cls := .type "tuple", data := .seq #[x, y] }) z TI TO .ellipsis := Heap.get?_push_of_some _ ez5
 refine wpAny_bind (wpAny_setField_rec ez6 (by simp) fun g7 ez7 sb7 => ?_)
 replace ez7 : IsZip g7 z TI TO (rawInt g5.objs.size) := ez7
 refine wpAny_setField_rec ez7 (by simp) fun g8 ez8 sb8 => ?_
 replace ez8 : IsZip g8 z TI TO (rawInt g5.objs.size) := ez8
 have up : ∀ c o, c ≠ z -> g5.get? c = some o -> g8.get? c = some o := fun c o n e => sb8.extBut _ _ n (sb7.extBut _ _ n (Heap.get?_push_of_some _ e))
 have eT : IsPair g8 g5.objs.size x y := sb8.extBut _ _ (Nat.ne_of_gt zl) (sb7.extBut _ _ (Nat.ne_of_gt zl) (Heap.get?_push_size _ rfl))
 have z8 : g8.objs.size = g5.objs.size + 1 := by rw [sb8.1, sb7.1, Heap.size_push]
 rw [zs] at ez8 eT z8; refine wpAny_pure ⟨_, rfl, ?_⟩
 show Q (.ref g5.objs.size) ⟨g8, gg, dd, _, os⟩
 rw [zs]; exact hQ g8 _ x y px py ez8 (up _ _ ap.a2 eO5) (D1.frame _ _ _ st1 fun b hb o e => up b o (fun q => ap.c1 (q ▸ hb)) e) (D2.frame _ _ _ st5 fun b hb o e => up b o (fun q => ap.d1 (q ▸ hb)) e) eT z8 fun c o n1 n2 n3 n4 e => up c o n1 (kp5 c o n1 n2 n3 n4 e)
theorem rD {z TI TO i1 i2 : Addr} {f1 f2 : List Addr} {n1 n2 k : Nat} {P1 P2 : Nat -> Value -> Prop} {S1 S2 : Nat -> Heap -> Prop} {a b : Value} {Q : Fin -> Shared -> Prop} (D1 : Draws prog w A i1 f1 n1 P1 S1) (D2 : Draws prog w A i2 f2 n2 P2 S2) (ap : Ap z TI TO i1 i2 f1 f2)
  (ez : IsZip s.heap z TI TO .none) (eI : IsPair s.heap TI (.ref i1) (.ref i2)) (eO : IsPair s.heap TO a b) (s1 : S1 k s.heap) (s2 : S2 k s.heap) (k1 : k = n1 \/ (k < n1 /\ k = n2))
  (hE : ∀ h' e tk, (∀ c o, c ≠ z -> c ≠ TO -> c ≠ i1 -> c ≠ i2 -> s.heap.get? c = some o -> h'.get? c = some o) -> (∃ o, h'.get? e = some o /\ o.cls = .type "StopIteration") -> E (.ref e) { s with heap := h', toks := tk }) :
  wpAny (model prog w) A (Builtin.«zip.__next__» ⟨[.ref z], []⟩) Q E s := by
 obtain ⟨hp, gg, dd, tk0, os⟩ := s
 show wpAny _ _ (field (.ref z) 2 >>= _) _ _ _; refine wpAny_bind (wpAny_field ez rfl (x := .bool false) rfl ?_)
 show wpAny _ _ (field (.ref z) 3 >>= _) _ _ _; refine wpAny_bind (wpAny_field ez rfl (x := .ref TI) rfl ?_)
 refine wpAny_bind (wpAny_seqItems eI rfl ?_)
 show wpAny _ _ (Builtin.SmallTypes.ownedTupleIsFree (.ref z) >>= _) _ _ _; refine wpAny_bind ?_
 unfold Builtin.SmallTypes.ownedTupleIsFree; refine wpAny_bind (wpAny_field ez rfl (x := .none) rfl (wpAny_pure ?_))
 simp only [if_true]; refine wpAny_bind (wpAny_rule ?_)
 refine wpAny_bind (wpAny_field ez rfl (x := .ref TO) rfl ?_)
 refine wpAny_bind (wpAny_setField_rec ez (by simp) fun g1 ez1 sb1 => ?_)
 replace ez1 : IsZip g1 z TI TO .ellipsis := ez1
 replace sb1 : Heap.SameBut z hp g1 := sb1
 refine wpAny_bind ?_
 simp only [List.zipIdx_cons, List.zipIdx_nil, List.forIn_cons, List.forIn_nil]; refine wpAny_bind (wpAny_bind (wpAny_onRaise ?_))
 show wpAny _ _ (Builtin.SmallTypes.nextOf (.ref i1) >>= _) _ _ _
 rcases k1 with rfl | ⟨k1, rfl⟩
 ·refine wpAny_bind (D1.done _ _ _ (D1.frame _ _ _ s1 (bj sb1 ap.c1)) fun g2 e sb2 he => ?_)
  replace sb2 : Heap.ExtBut i1 g1 g2 := sb2
  obtain ⟨oe, eoe, ce⟩ := he
  have ez2 : IsZip g2 z TI TO .ellipsis := sb2 _ _ ap.a3.symm ez1
  have nez : e ≠ z := fun q => by subst q; rw [ez2] at eoe; cases eoe; simp at ce
  exact wpAny_setField_rec ez2 (by simp) fun g3 _ sb3 => hE g3 e _ (fun c o n1 _ n3 _ q => sb3.extBut _ _ n1 (sb2 _ _ n3 (sb1.extBut _ _ n1 q))) ⟨oe, sb3.extBut _ _ nez eoe, ce⟩
 ·refine wpAny_bind (D1.item k _ _ _ k1 (D1.frame _ _ _ s1 (bj sb1 ap.c1)) fun x g2 tk2 px st2 sb2 => wpAny_pure ?_)
  replace sb2 : Heap.SameBut i1 g1 g2 := sb2
  have eO2 : IsPair g2 TO a b := sb2.extBut _ _ ap.a8 (sb1.extBut _ _ ap.a2 eO)
  refine wpAny_bind (wpAny_seqItems eO2 rfl ?_); refine wpAny_bind (wpAny_updateSeq_pair eO2 fun g3 eO3 sb3 => ?_)
  replace sb3 : Heap.SameBut TO g2 g3 := sb3
  refine wpAny_bind (wpAny_letGo (wpAny_pure ?_)); refine wpAny_bind (wpAny_bind (wpAny_onRaise ?_))
  show wpAny _ _ (Builtin.SmallTypes.nextOf (.ref i2) >>= _) _ _ _; refine wpAny_bind (D2.done _ _ _ (D2.frame _ _ _ (D2.frame _ _ _ (D2.frame _ _ _ s2 (bj sb1 ap.d1)) (bj sb2 ap.d3)) (bj sb3 ap.d2)) fun g4 e sb4 he => ?_)
  replace sb4 : Heap.ExtBut i2 g3 g4 := sb4
  obtain ⟨oe, eoe, ce⟩ := he
  have ez4 : IsZip g4 z TI TO .ellipsis := sb4 _ _ ap.a4.symm (sb3.extBut _ _ ap.a2.symm (sb2.extBut _ _ ap.a3.symm ez1))
  have nez : e ≠ z := fun q => by subst q; rw [ez4] at eoe; cases eoe; simp at ce
  exact wpAny_setField_rec ez4 (by simp) fun g5 _ sb5 => hE g5 e _ (fun c o n1 n2 n3 n4 q => sb5.extBut _ _ n1 (sb4 _ _ n4 (sb3.extBut _ _ n2 (sb2.extBut _ _ n3 (sb1.extBut _ _ n1 q))))) ⟨oe, sb5.extBut _ _ nez eoe, ce⟩
theorem p6 {z TI TO i1 i2 : Addr} {f1 f2 : List Addr} {n1 n2 k : Nat} {P1 P2 : Nat -> Value -> Prop} {S1 S2 : Nat -> Heap -> Prop} {a b : Value} {Q : Option Value -> Shared -> Prop} (D1 : ∀ A' : Around, A'.handled = A.handled -> Draws prog w A' i1 f1 n1 P1 S1) (D2 : ∀ A' : Around, A'.handled = A.handled -> Draws prog w A' i2 f2 n2 P2 S2) (ap : Ap z TI TO i1 i2 f1 f2)
  (ez : IsZip s.heap z TI TO .none) (eI : IsPair s.heap TI (.ref i1) (.ref i2)) (eO : IsPair s.heap TO a b) (s1 : S1 k s.heap) (s2 : S2 k s.heap) (k1 : k < n1) (k2 : k < n2)
  (hQ : ∀ h' tk x y, P1 k x -> P2 k y -> IsZip h' z TI TO (rawInt s.heap.objs.size) -> IsPair h' TO x y -> S1 (k + 1) h' -> S2 (k + 1) h' -> IsPair h' s.heap.objs.size x y -> h'.objs.size = s.heap.objs.size + 1 -> (∀ c o, c ≠ z -> c ≠ TO -> c ≠ i1 -> c ≠ i2 -> s.heap.get? c = some o -> h'.get? c = some o) -> Q (some (.ref s.heap.objs.size)) { s with heap := h', toks := tk }) :
  wpAny (model prog w) A (pyNext (.ref z)) Q E s := by
 have ty : s.TypeIs (.ref z) "zip" := ⟨_, ez, rfl⟩
 unfold pyNext; exact wpAny_bind (wpAny_attempt (wpAny_callSpecial?_slot (name := Str.ofString "__next__") ty F.slot_zip_next (wpAny_call_entry F.slot_zip_next ty F.entry_zip_next (p7 (D1 _ rfl) (D2 _ rfl) ap ez eI eO s1 s2 k1 k2 fun h' tk x y a1 a2 a3 a4 a5 a6 a7 a8 a9 => wpAny_pure (hQ h' tk x y a1 a2 a3 a4 a5 a6 a7 a8 a9)) (F.args_zip_next_1 _))))
theorem rC {z TI TO i1 i2 : Addr} {f1 f2 : List Addr} {n1 n2 k : Nat} {P1 P2 : Nat -> Value -> Prop} {S1 S2 : Nat -> Heap -> Prop} {a b : Value} {Q : Option Value -> Shared -> Prop} (D1 : ∀ A' : Around, A'.handled = A.handled -> Draws prog w A' i1 f1 n1 P1 S1) (D2 : ∀ A' : Around, A'.handled = A.handled -> Draws prog w A' i2 f2 n2 P2 S2) (ap : Ap z TI TO i1 i2 f1 f2)
  (ez : IsZip s.heap z TI TO .none) (eI : IsPair s.heap TI (.ref i1) (.ref i2)) (eO : IsPair s.heap TO a b) (s1 : S1 k s.heap) (s2 : S2 k s.heap) (k1 : k = n1 \/ (k < n1 /\ k = n2))
  (hQ : ∀ h' tk, (∀ c o, c ≠ z -> c ≠ TO -> c ≠ i1 -> c ≠ i2 -> s.heap.get? c = some o -> h'.get? c = some o) -> Q none { s with heap := h', toks := tk }) : wpAny (model prog w) A (pyNext (.ref z)) Q E s := by
 have ty : s.TypeIs (.ref z) "zip" := ⟨_, ez, rfl⟩
 unfold pyNext; refine wpAny_bind (wpAny_attempt (wpAny_callSpecial?_slot (name := Str.ofString "__next__") ty F.slot_zip_next (wpAny_call_entry F.slot_zip_next ty F.entry_zip_next (rD (D1 _ rfl) (D2 _ rfl) ap ez eI eO s1 s2 k1 fun h' e tk hk he => ?_) (F.args_zip_next_1 _))))
 obtain ⟨o, eo, ce⟩ := he
 refine wpAny_bind (wpAny_isInstance (T := "StopIteration") (b := true) ⟨o, eo, ce⟩ isSubtype_stop ?_); exact wpAny_pure (hQ _ _ hk)
end
def Src (b : Bool) (h : Heap) (a : Addr) (its : Array Value) : Prop := if b = true then h.IsList a its else h.IsTuple a its
def tZ (b : Bool) : String := if b = true then "list_iterator" else "tuple_iterator"
abbrev kf (b : Bool) (a : Addr) : Obj := { cls := .type (tZ b), data := .fields #[.ref a, .int 0 0] }
def dF (b : Bool) (h : Heap) (it a : Addr) (k : Nat) : Prop := if b = true then h.IsListIter it a k else h.IsTupleIter it a k
section
variable {prog : Program} {w : World} {A : Around} {E : Value -> Shared -> Prop} {s : Shared}
theorem Src.keep {b : Bool} {h h' : Heap} {a : Addr} {its : Array Value} (x : Src b h a its) (k : ∀ o, h.get? a = some o -> h'.get? a = some o) : Src b h' a its := by
 unfold Src at x ⊢
 split at x
 ·rename_i q; rw [if_pos q]; exact x.at fun o e => k o e
 ·rename_i q; rw [if_neg q]
  obtain ⟨o, e, r⟩ := x
  exact ⟨o, k o e, r⟩
theorem jT {b : Bool} {a : Addr} {its : Array Value} {Q : Value -> Shared -> Prop} (x : Src b s.heap a its) (h : Q (.ref s.heap.objs.size) { s with heap := s.heap.push (kf b a) }) : wpAny (model prog w) A (pyIter (.ref a)) Q E s := by
 cases b with
 | true => exact wpAny_pyIter_list (show s.heap.IsList a its from x) h
 | false => exact wpAny_pyIter_tuple (show s.heap.IsTuple a its from x) h
theorem mo (b : Bool) (hh : A.handled = none) (it a : Addr) (ne : a ≠ it) (its : Array Value) : Draws prog w A it [it, a] its.size (fun i v => its[i]? = some v) (fun i h => dF b h it a i /\ Src b h a its) := by
 cases b with
 | true => exact Draws.list hh it a ne its
 | false => exact yp hh it a ne its
abbrev zH1 (b1 : Bool) (h : Heap) (l1 : Addr) : Heap := h.push (kf b1 l1)
abbrev zH2 (b1 b2 : Bool) (h : Heap) (l1 l2 : Addr) : Heap := (zH1 b1 h l1).push (kf b2 l2)
abbrev zH3 (b1 b2 : Bool) (h : Heap) (l1 l2 : Addr) : Heap := (zH2 b1 b2 h l1 l2).push { cls := .type "tuple", data := .seq #[.ref h.objs.size, .ref (zH1 b1 h l1).objs.size] }
abbrev zH4 (b1 b2 : Bool) (h : Heap) (l1 l2 : Addr) : Heap := (zH3 b1 b2 h l1 l2).push { cls := .type "tuple", data := .seq #[.none, .none] }
abbrev zH5 (b1 b2 : Bool) (h : Heap) (l1 l2 : Addr) : Heap := (zH4 b1 b2 h l1 l2).push { cls := .type "zip", data := .fields #[.none, .bool false, .bool false, .ref (zH2 b1 b2 h l1 l2).objs.size, .ref (zH3 b1 b2 h l1 l2).objs.size] }
theorem pA (b1 b2 : Bool) (l1 l2 : Addr) (xs ys : Array Value) :
  Meets (Builtin.«zip.__new__» ⟨[.type "zip", .ref l1, .ref l2], []⟩) (fun _ R s => Src b1 s.heap l1 xs /\ Src b2 s.heap l2 ys /\ R (.ok (.ret (.ref (zH4 b1 b2 s.heap l1 l2).objs.size))) { s with heap := zH5 b1 b2 s.heap l1 l2 }) :=
 .of_wp fun prog w A R s h => by
  obtain ⟨hp, g, d, tk, os⟩ := s; obtain ⟨e1, e2, q⟩ := h
  have hsub := sub_zip
  have x1 : Src b1 (Shared.heap ⟨hp, g, d, tk, os⟩) l1 xs := e1
  have x2 : Src b2 (Shared.heap ⟨hp.push (kf b1 l1), g, d, tk, os⟩) l2 ys := e2.keep fun o e => Heap.get?_push_of_some _ e
  wp_walk using jT x1, jT x2
  exact ⟨_, rfl, q⟩
theorem rk {b1 b2 : Bool} {l1 l2 : Addr} {xs ys : Array Value} {Q : Value -> Shared -> Prop} (e1 : Src b1 s.heap l1 xs) (e2 : Src b2 s.heap l2 ys)
  (h : ∀ h', IsZip h' (s.heap.objs.size + 4) (s.heap.objs.size + 2) (s.heap.objs.size + 3) .none -> IsPair h' (s.heap.objs.size + 2) (.ref s.heap.objs.size) (.ref (s.heap.objs.size + 1)) -> IsPair h' (s.heap.objs.size + 3) .none .none -> dF b1 h' s.heap.objs.size l1 0 -> dF b2 h' (s.heap.objs.size + 1) l2 0 -> h'.objs.size = s.heap.objs.size + 5 -> (∀ c o, s.heap.get? c = some o -> h'.get? c = some o) -> Q (.ref (s.heap.objs.size + 4)) { s with heap := h' }) :
  wpAny (model prog w) A (call (.type "zip") [.ref l1, .ref l2]) Q E s := by
 refine callType_new F.called_zip (by decide) (F.typeCall_zip_2 _ _) (F.newCall_zip_2 _ _) (fun obj => F.args_object_init_3 obj _ _) F.entry_zip_new (pA b1 b2 l1 l2 xs ys) ⟨e1, e2, ?_⟩
 have y1 : (zH1 b1 s.heap l1).objs.size = s.heap.objs.size + 1 := Heap.size_push ..
 have y2 : (zH2 b1 b2 s.heap l1 l2).objs.size = s.heap.objs.size + 2 := by rw [Heap.size_push, y1]
 have y3 : (zH3 b1 b2 s.heap l1 l2).objs.size = s.heap.objs.size + 3 := by rw [Heap.size_push, y2]
 have y4 : (zH4 b1 b2 s.heap l1 l2).objs.size = s.heap.objs.size + 4 := by rw [Heap.size_push, y3]
 have y5 : (zH5 b1 b2 s.heap l1 l2).objs.size = s.heap.objs.size + 5 := by rw [Heap.size_push, y4]
 have g5 : (zH5 b1 b2 s.heap l1 l2).get? (zH4 b1 b2 s.heap l1 l2).objs.size = some _ := Heap.get?_push_size _ rfl
 have g4 : (zH5 b1 b2 s.heap l1 l2).get? (zH3 b1 b2 s.heap l1 l2).objs.size = some _ := Heap.get?_push_of_some _ (Heap.get?_push_size _ rfl)
 have g3 : (zH5 b1 b2 s.heap l1 l2).get? (zH2 b1 b2 s.heap l1 l2).objs.size = some _ := Heap.get?_push_of_some _ (Heap.get?_push_of_some _ (Heap.get?_push_size _ rfl))
 have g2 : (zH5 b1 b2 s.heap l1 l2).get? (zH1 b1 s.heap l1).objs.size = some _ := Heap.get?_push_of_some _ (Heap.get?_push_of_some _ (Heap.get?_push_of_some _ (Heap.get?_push_size _ rfl)))
 have g1 : (zH5 b1 b2 s.heap l1 l2).get? s.heap.objs.size = some _ := Heap.get?_push_of_some _ (Heap.get?_push_of_some _ (Heap.get?_push_of_some _ (Heap.get?_push_of_some _ (Heap.get?_push_size _ rfl))))
 show _ /\ _
 rw [y2, y3, y4] at g5; rw [y1, y2] at g3; rw [y3] at g4; rw [y1] at g2; rw [y4]
 have it0 : ∀ (b : Bool) (h' : Heap) (p a : Addr), h'.get? p = some (kf b a) -> dF b h' p a 0 := fun b h' p a e => by
  cases b with
  | true => exact ⟨_, e, rfl, rfl⟩
  | false => exact ⟨_, e, rfl, rfl⟩
 exact ⟨⟨_, g5, rfl⟩, h _ g5 g3 g4 (it0 _ _ _ _ g1) (it0 _ _ _ _ g2) y5 fun c o x => Heap.get?_push_of_some _ (Heap.get?_push_of_some _ (Heap.get?_push_of_some _ (Heap.get?_push_of_some _ (Heap.get?_push_of_some _ x))))⟩
end
def SqS (b : Bool) (K : Frag) (H : Hp) (a : Addr) (xs : List V) : Prop := if b = true then SqL K H a xs else SqT K H a xs
def Itz (b1 b2 : Bool) (K : Frag) (l1 l2 : Addr) : It :=
 ⟨fun i H => ∃ xs ys x y, SqS b1 K H l1 xs /\ SqS b2 K H l2 ys /\ xs[i]? = some x /\ ys[i]? = some y,
  fun i H v H' => ∃ p x y, H p = none /\ v = .ref p /\ H' = upd H p (.tup [x, y]) /\ ∀ xs ys, SqS b1 K H l1 xs -> SqS b2 K H l2 ys -> xs[i]? = some x /\ ys[i]? = some y,
  fun i H => ∃ xs ys, SqS b1 K H l1 xs /\ SqS b2 K H l2 ys /\ (xs.length = i \/ (i < xs.length /\ ys.length = i))⟩
section
variable {X : Cx} {pins : List (Addr × Obj)} {σ : St} {H : Hp} {s : Shared}
theorem Inv.src {b : Bool} {a : Addr} {xs : List V} (I : Inv X pins σ H s) (h : SqS b X.K H a xs) : ∃ its : List Value, am xs its /\ Src b s.heap a its.toArray := by
 cases b with
 | true =>
  obtain ⟨its, r, p, _⟩ := I.list (show SqL X.K H a xs from h)
  exact ⟨its, r, p.isList⟩
 | false =>
  obtain ⟨its, r, p, _⟩ := I.tuple (show SqT X.K H a xs from h)
  exact ⟨its, r, p⟩
theorem Inv.src_inj {b : Bool} {a : Addr} {xs ys : List V} (I : Inv X pins σ H s) (h : SqS b X.K H a xs) (h' : SqS b X.K H a ys) : xs = ys := by
 cases b with
 | true => exact I.list_inj (show SqL X.K H a xs from h) h'
 | false => exact I.tuple_inj (show SqT X.K H a xs from h) h'
theorem dF.get {b : Bool} {h : Heap} {it a : Addr} {k : Nat} (x : dF b h it a k) : ∃ o, h.get? it = some o /\ o.cls = .type (tZ b) /\ ∃ fs, o.data = .fields fs := by
 cases b with
 | true => obtain ⟨o, e, c, d⟩ := (show h.IsListIter it a k from x); exact ⟨o, e, c, _, d⟩
 | false => obtain ⟨o, e, c, d⟩ := (show h.IsTupleIter it a k from x); exact ⟨o, e, c, _, d⟩
theorem dF.keep {b : Bool} {h h' : Heap} {it a : Addr} {k : Nat} (x : dF b h it a k) (q : ∀ o, h.get? it = some o -> h'.get? it = some o) : dF b h' it a k := by
 cases b with
 | true => exact (show h.IsListIter it a k from x).at fun o e => q o e
 | false => exact (show h.IsTupleIter it a k from x).at fun o e => q o e
end
section
variable {X : Cx} {pins : List (Addr × Obj)} {σ : St} {H : Hp} {s : Shared}
theorem Inv.turnNew {h' : Heap} {t' : Nat} {ch : List Addr} {p : Addr} {o : HO} (I : Inv X pins σ H s) (hf : ∀ b ∈ ch, cU X pins H b) (k : ∀ b u, b ∉ ch -> s.heap.get? b = some u -> h'.get? b = some u) (hp : s.heap.objs.size <= p) (new : aX X.prog X.w (upd H p o) h' p o) : Inv X pins σ (upd H p o) { s with heap := h', toks := t' } := by
 have hn : H p = none := I.hok.fresh hp
 have nt : ∀ b u, H b = some u -> b ∉ ch := fun b u e z => by rw [(hf b z).1] at e; cases e
 refine I.call' (s' := { s with heap := h', toks := t' }) (ch := ch) rfl ⟨fun b u e _ _ hc => k b u hc e, fun b u e _ _ hc => ⟨u.slots, k b u hc e⟩, fun b u e z hc => ?_, fun b u e hc => ⟨u, k b u hc e⟩, fun b ys e => ?_, fun b u ys e => ?_, fun b ys e => ⟨#[], ?_⟩⟩ (fun b u e => ?_) I.bare fun b hb => ?_
 ·rw [upd_ne (Nat.ne_of_lt (Nat.lt_of_lt_of_le (Heap.lt_size e) hp))]; exact z
 ·rw [upd_ne (ne_of_none e hn)]; exact e
 ·rw [upd_ne (ne_of_none e hn)]; exact e
 ·rw [upd_ne (ne_of_none e hn), e]; simp
 ·by_cases z : b = p
  ·subst z; rw [ai] at e; cases e; exact new
  ·rw [upd_ne z] at e
   refine (I.hok b u e).stay (fun c v hc q => k c v ?_ q) (fun c q => by rw [upd_ne (ne_of_none q hn)]; exact q) fun c xs q => by rw [upd_ne (ne_of_none q hn)]; exact q
   rcases hc with rfl | hc
   ·exact nt _ _ e
   ·exact nt _ _ hc
 ·obtain ⟨f0, f1, f2, f3, f4, f5⟩ := hf b hb
  exact ⟨f3, f1, f4, f5⟩
theorem Inv.turnL {h' : Heap} {t' : Nat} {ch : List Addr} (I : Inv X pins σ H s) (hf : ∀ b ∈ ch, cU X pins H b) (k : ∀ b u, b ∉ ch -> s.heap.get? b = some u -> h'.get? b = some u) : Inv X pins σ H { s with heap := h', toks := t' } := by
 have nt : ∀ b u, H b = some u -> b ∉ ch := fun b u e z => by rw [(hf b z).1] at e; cases e
 refine I.call' (s' := { s with heap := h', toks := t' }) (ch := ch) rfl ⟨fun b u e _ _ hc => k b u hc e, fun b u e _ _ hc => ⟨u.slots, k b u hc e⟩, fun b u e z hc => z, fun b u e hc => ⟨u, k b u hc e⟩, fun b ys e => e, fun b u ys e => e, fun b ys e => ⟨#[], by rw [e]; simp⟩⟩ (fun b u e => ?_) I.bare fun b hb => ?_
 ·refine (I.hok b u e).stay (fun c v hc q => k c v ?_ q) (fun c q => q) fun c xs q => q
  rcases hc with rfl | hc
  ·exact nt _ _ e
  ·exact nt _ _ hc
 ·obtain ⟨f0, f1, f2, f3, f4, f5⟩ := hf b hb
  exact ⟨f3, f1, f4, f5⟩
theorem Inv.src_ne {b : Bool} {a c : Addr} {xs : List V} (I : Inv X pins σ H s) (h : SqS b X.K H a xs) (f : cU X pins H c) : a ≠ c := by
 obtain ⟨f0, f1, f2, f3, f4, f5⟩ := f
 have old : ∀ o, X.K.lookup a = some o -> a ≠ c := fun o e z => by
  have e1 := I.ok.mod.kin a o e
  subst z
  rcases f3 with f3 | f3
  ·exact I.ok.noex a o e1 f3
  ·exact absurd (Nat.lt_of_lt_of_le (Heap.lt_size (I.ok.bs a o e1).1) f3) (Nat.lt_irrefl _)
 have rd : ∀ u, Rd H a u -> a ≠ c := fun u r z => by
  subst z
  rcases r with r | ⟨_, r⟩ <;> rw [f0] at r <;> cases r
 cases b with
 | true =>
  rcases (show SqL X.K H a xs from h) with h | ⟨o, _, _, e, _⟩
  ·exact rd _ h
  ·exact old o e
 | false =>
  rcases (show SqT X.K H a xs from h) with h | ⟨o, _, _, e, _⟩
  ·exact rd _ h
  ·exact old o e
end
theorem rF {P : Program} {w : World} {K : Frag} {elts : List Expr} {x1} {pos : Pos} (b1 b2 : Bool) (l1 l2 z TI TO i1 i2 : Addr) (nd : [z, TI, TO, i1, i2].Nodup) :
  Turn P w K (.Tuple elts x1 pos) (Itz b1 b2 K l1 l2) [z, TI, TO, i1, i2] z (fun i h => IsZip h z TI TO .none /\ IsPair h TI (.ref i1) (.ref i2) /\ (∃ a b, IsPair h TO a b) /\ dF b1 h i1 l1 i /\ dF b2 h i2 l2 i) where
 mem := by simp
 obj := fun i h st b hb => by
  obtain ⟨ez, eI, ⟨a, b', eO⟩, s1, s2⟩ := st
  simp only [List.mem_cons, List.not_mem_nil, or_false] at hb
  rcases hb with rfl | rfl | rfl | rfl | rfl
  ·exact ⟨_, ez, fun v q => by cases q⟩
  ·exact ⟨_, eI, fun v q => by cases q⟩
  ·exact ⟨_, eO, fun v q => by cases q⟩
  ·obtain ⟨o, e, _, fs, d⟩ := s1.get
   exact ⟨o, e, fun v q => by rw [d] at q; cases q⟩
  ·obtain ⟨o, e, _, fs, d⟩ := s2.get
   exact ⟨o, e, fun v q => by rw [d] at q; cases q⟩
 keep := fun i h h' st k => by
  obtain ⟨ez, eI, ⟨a, b', eO⟩, s1, s2⟩ := st
  exact ⟨k z (by simp) _ ez, k TI (by simp) _ eI, ⟨a, b', k TO (by simp) _ eO⟩, s1.keep fun o e => k i1 (by simp) o e, s2.keep fun o e => k i2 (by simp) o e⟩
 item := by
  intro X hP hw hK hc i pins s σ H E I hf st hg
  subst hP hw hK
  obtain ⟨xs, ys, x, y, q1, q2, hx, hy⟩ := hg
  obtain ⟨ez, eI, ⟨a, b', eO⟩, s1, s2⟩ := st
  obtain ⟨is1, r1, p1⟩ := Inv.src I q1
  obtain ⟨is2, r2, p2⟩ := Inv.src I q2
  have hd := I.ok.hd hc
  simp only [List.nodup_cons, List.mem_cons, List.not_mem_nil, or_false, not_or] at nd
  obtain ⟨⟨z1, z2, z3, z4⟩, ⟨t1, t2, t3⟩, ⟨o1, o2⟩, j1, _⟩ := nd
  have n1 : ∀ c ∈ [z, TI, TO, i1, i2], l1 ≠ c := fun c hc => Inv.src_ne I q1 (hf c hc)
  have n2 : ∀ c ∈ [z, TI, TO, i1, i2], l2 ≠ c := fun c hc => Inv.src_ne I q2 (hf c hc)
  have ap : Ap z TI TO i1 i2 [i1, l1] [i2, l2] := ⟨Ne.symm z1, Ne.symm z2, Ne.symm z3, Ne.symm z4, t1, t2, t3, o1, o2, j1, by simp [z3, (n1 z (by simp)).symm], by simp [o1, (n1 TO (by simp)).symm], by simp [Ne.symm j1, (n1 i2 (by simp)).symm], by simp [z4, (n2 z (by simp)).symm], by simp [o2, (n2 TO (by simp)).symm], by simp [j1, (n2 i1 (by simp)).symm], by simp, by simp⟩
  have k1 : i < is1.toArray.size := by
   rw [List.size_toArray, ← r1.length]; exact (List.getElem?_eq_some_iff.mp hx).1
  have k2 : i < is2.toArray.size := by
   rw [List.size_toArray, ← r2.length]; exact (List.getElem?_eq_some_iff.mp hy).1
  refine p6 (fun A' h' => mo b1 (h'.trans hd) i1 l1 (n1 i1 (by simp)) is1.toArray) (fun A' h' => mo b2 (h'.trans hd) i2 l2 (n2 i2 (by simp)) is2.toArray) ap ez eI eO ⟨s1, p1⟩ ⟨s2, p2⟩ k1 k2 fun h' tk u v pu pv fz fO f1 f2 fT sz kp => ?_
  refine ⟨_, rfl, wpAny_letOwnedTupleGo_zip (s := { s with heap := h', toks := tk }) fz fun h'' ez'' sb => ?_⟩
  replace sb : Heap.SameBut z h' h'' := sb
  have zT : s.heap.objs.size ≠ z := Nat.ne_of_gt (Heap.lt_size ez)
  obtain ⟨u', hu, ru⟩ := r1.get hx
  obtain ⟨v', hv, rv⟩ := r2.get hy
  have eu : u = u' := by
   have : is1[i]? = some u := by simpa using pu
   rw [this] at hu; exact Option.some.inj hu
  have ev : v = v' := by
   have : is2[i]? = some v := by simpa using pv
   rw [this] at hv; exact Option.some.inj hv
  subst eu ev
  have kk : ∀ b o, b ∉ [z, TI, TO, i1, i2] -> s.heap.get? b = some o -> h''.get? b = some o := fun b o hb e => by
   simp only [List.mem_cons, List.not_mem_nil, or_false, not_or] at hb
   exact sb.extBut b o hb.1 (kp b o hb.1 hb.2.2.1 hb.2.2.2.1 hb.2.2.2.2 e)
  have I2 : Inv X pins σ (upd H s.heap.objs.size (.tup [x, y])) { s with heap := h'', toks := tk } := by
   refine Inv.turnNew I hf kk (Nat.le_refl _) ⟨by show 2 <= sizeLine; decide, [u, v], .cons ru (.cons rv .nil), _, sb.extBut _ _ zT fT, rfl, _, rfl⟩
  refine ⟨.ref s.heap.objs.size, _, I2, rfl, ⟨s.heap.objs.size, x, y, I.hok.fresh (Nat.le_refl _), rfl, rfl, fun as bs h1 h2 => ⟨by rw [Inv.src_inj I h1 q1]; exact hx, by rw [Inv.src_inj I h2 q2]; exact hy⟩⟩, ⟨ez'', ?_, ⟨u, v, ?_⟩, ?_, ?_⟩, fun b hb => ?_⟩
  ·exact sb.extBut _ _ (Ne.symm z1) (kp TI _ (Ne.symm z1) t1 t2 t3 eI)
  ·exact sb.extBut _ _ (Ne.symm z2) fO
  ·exact f1.1.keep fun o e => sb.extBut _ _ (Ne.symm z3) e
  ·exact f2.1.keep fun o e => sb.extBut _ _ (Ne.symm z4) e
  ·rw [upd_ne]
   ·exact (hf b hb).1
   ·intro q
    have ol : ∃ o, s.heap.get? b = some o := by
     simp only [List.mem_cons, List.not_mem_nil, or_false] at hb
     rcases hb with rfl | rfl | rfl | rfl | rfl
     ·exact ⟨_, ez⟩
     ·exact ⟨_, eI⟩
     ·exact ⟨_, eO⟩
     ·obtain ⟨o, e, _⟩ := s1.get; exact ⟨o, e⟩
     ·obtain ⟨o, e, _⟩ := s2.get; exact ⟨o, e⟩
    obtain ⟨o, e⟩ := ol
    exact absurd (Heap.lt_size e) (by rw [q]; exact Nat.lt_irrefl _)
 done := by
  intro X hP hw hK hc i pins s σ H E I hf st hg
  subst hP hw hK
  obtain ⟨xs, ys, q1, q2, hl⟩ := hg
  obtain ⟨ez, eI, ⟨a, b', eO⟩, s1, s2⟩ := st
  obtain ⟨is1, r1, p1⟩ := Inv.src I q1
  obtain ⟨is2, r2, p2⟩ := Inv.src I q2
  have hd := I.ok.hd hc
  simp only [List.nodup_cons, List.mem_cons, List.not_mem_nil, or_false, not_or] at nd
  obtain ⟨⟨z1, z2, z3, z4⟩, ⟨t1, t2, t3⟩, ⟨o1, o2⟩, j1, _⟩ := nd
  have n1 : ∀ c ∈ [z, TI, TO, i1, i2], l1 ≠ c := fun c hc => Inv.src_ne I q1 (hf c hc)
  have n2 : ∀ c ∈ [z, TI, TO, i1, i2], l2 ≠ c := fun c hc => Inv.src_ne I q2 (hf c hc)
  have ap : Ap z TI TO i1 i2 [i1, l1] [i2, l2] := ⟨Ne.symm z1, Ne.symm z2, Ne.symm z3, Ne.symm z4, t1, t2, t3, o1, o2, j1, by simp [z3, (n1 z (by simp)).symm], by simp [o1, (n1 TO (by simp)).symm], by simp [Ne.symm j1, (n1 i2 (by simp)).symm], by simp [z4, (n2 z (by simp)).symm], by simp [o2, (n2 TO (by simp)).symm], by simp [j1, (n2 i1 (by simp)).symm], by simp, by simp⟩
  have g1 : is1.toArray.size = xs.length := by rw [List.size_toArray, ← r1.length]
  have g2 : is2.toArray.size = ys.length := by rw [List.size_toArray, ← r2.length]
  refine rC (fun A' h' => mo b1 (h'.trans hd) i1 l1 (n1 i1 (by simp)) is1.toArray) (fun A' h' => mo b2 (h'.trans hd) i2 l2 (n2 i2 (by simp)) is2.toArray) ap ez eI eO ⟨s1, p1⟩ ⟨s2, p2⟩ ?_ fun h' tk kp => ⟨rfl, Inv.turnL I hf fun b o hb e => ?_⟩
  ·rw [g1, g2]
   rcases hl with hl | ⟨h1, h2⟩
   ·exact .inl hl.symm
   ·exact .inr ⟨h1, h2.symm⟩
  ·simp only [List.mem_cons, List.not_mem_nil, or_false, not_or] at hb
   exact kp b o hb.1 hb.2.2.1 hb.2.2.2.1 hb.2.2.2.2 e
 self := fun _ _ _ _ _ st h => wpAny_pyIter_zip st.1 h
section
variable {X : Cx} {E : St -> XK} {K : Frag}
def iZp (K : Frag) (ta : TA) : TI := fun σ H R => ta σ H fun vs H1 => ∃ b1 b2 l1 l2 xs ys, vs = [.ref l1, .ref l2] /\ SqS b1 K H1 l1 xs /\ SqS b2 K H1 l2 ys /\ R (Itz b1 b2 K l1 l2) H1
theorem v5 {a b : Expr} {ta : TA} {p pos : Pos} {elts : List Expr} {x1} {tpos : Pos} (hg : Gl X "zip") (hm : X.mg "zip" = none) (ha : PA X [a, b] ta) (hs : starEach [a, b] X.env = [(false, eval a X.env), (false, eval b X.env)] := by rfl) (hs2 : starEach [b] X.env = [(false, eval b X.env)] := by rfl) :
  PI X (.Tuple elts x1 tpos) (.Call (.Name "zip" p) [a, b] [] pos) (iZp X.K ta) := by
 intro pins s σ H R I h
 refine Call_ (gh I hg hm PyProof.Rows.Boot.«zip» (PyProof.Rows.callWith_type1 (thn (ha pos pins s σ H _ I h) fun us s1 ⟨vs, H1, I1, r1, q1⟩ => ?_) (by rw [hs, hs2]) (by rw [hs2]; rfl)))
 obtain ⟨b1, b2, l1, l2, xs, ys, e, q1, q2, q⟩ := q1
 subst e
 cases r1 with
 | cons r rr =>
  cases rr with
  | cons r' rr =>
   cases rr
   cases r
   cases r'
   obtain ⟨is1, v1, p1⟩ := Inv.src I1 q1
   obtain ⟨is2, v2, p2⟩ := Inv.src I1 q2
   refine rk p1 p2 fun h' ez eI eO s1' s2' sz kp => ?_
   refine wpAny_pyIter_zip (s := { s1 with heap := h' }) ez ?_
   have I2 : Inv X pins σ H1 { s1 with heap := h' } := I1.kept (t' := s1.toks) kp
   refine ⟨_, [s1.heap.objs.size + 4, s1.heap.objs.size + 2, s1.heap.objs.size + 3, s1.heap.objs.size, s1.heap.objs.size + 1], _, Itz b1 b2 X.K l1 l2, H1, rfl, I2, rF b1 b2 l1 l2 (s1.heap.objs.size + 4) (s1.heap.objs.size + 2) (s1.heap.objs.size + 3) s1.heap.objs.size (s1.heap.objs.size + 1) (by simp), ⟨ez, eI, ⟨_, _, eO⟩, s1', s2'⟩, fun c hc => ?_, q⟩
   have hge : s1.heap.objs.size <= c := by
    simp only [List.mem_cons, List.not_mem_nil, or_false] at hc
    rcases hc with rfl | rfl | rfl | rfl | rfl
    ·exact Nat.le_add_right _ _
    ·exact Nat.le_add_right _ _
    ·exact Nat.le_add_right _ _
    ·exact Nat.le_refl _
    ·exact Nat.le_add_right _ _
   exact I1.fpOk hge (I1.hok.fresh hge)
def dh : List D -> List D -> List D
 | x :: xs, y :: ys => .tup [x, y] :: dh xs ys
 | _, _ => []
theorem mr : ∀ (xs ys : List D), (dh xs ys).length = min xs.length ys.length
 | [], ys => by simp [dh]
 | x :: xs, [] => by simp [dh]
 | x :: xs, y :: ys => by
  show (dh xs ys).length + 1 = _
  rw [mr xs ys, List.length_cons, List.length_cons]
  omega
theorem mt : ∀ {xs ys : List D} {i : Nat} {d : D}, (dh xs ys)[i]? = some d -> ∃ x y, xs[i]? = some x /\ ys[i]? = some y /\ d = .tup [x, y]
 | [], ys, i, d, h => by simp [dh] at h
 | x :: xs, [], i, d, h => by simp [dh] at h
 | x :: xs, y :: ys, 0, d, h => by
  simp [dh] at h
  exact ⟨x, y, rfl, rfl, h.symm⟩
 | x :: xs, y :: ys, i + 1, d, h => by
  have h' : (dh xs ys)[i]? = some d := by simpa [dh] using h
  obtain ⟨a, b, e1, e2, e3⟩ := mt h'
  exact ⟨a, b, by simpa using e1, by simpa using e2, e3⟩
def oU : List D -> Option (List D)
 | [a, b] => (dC a).bind fun xs => (dC b).map fun ys => dh xs ys
 | _ => none
theorem Den.sqS {F : Fx} {H : Hp} {d : D} {v : V} {ds : List D} (h : Den K F H d v) (e : dC d = some ds) : ∃ b a, v = .ref a /\ ∀ F2 H2, Tr F H F2 H2 -> ∃ xs, SqS b K H2 a xs /\ DenL K F2 H2 ds xs := by
 cases d <;> first
  | (cases e; obtain ⟨a, xs, rfl, _⟩ := Den.sqL h; refine ⟨true, a, rfl, fun F2 H2 t => ?_⟩; obtain ⟨a', ys, ea, sq, dl⟩ := Den.sqL (Den.tr t _ _ h); cases ea; exact ⟨ys, sq, dl⟩)
  | (cases e; obtain ⟨a, xs, rfl, _⟩ := Den.sqT h; refine ⟨false, a, rfl, fun F2 H2 t => ?_⟩; obtain ⟨a', ys, ea, sq, dl⟩ := Den.sqT (Den.tr t _ _ h); cases ea; exact ⟨ys, sq, dl⟩)
  | cases e
theorem u4 {F : Fx} {H : Hp} {b1 b2 : Bool} {l1 l2 : Addr} {ds es : List D} (h1 : ∀ F2 H2, Tr F H F2 H2 -> ∃ xs, SqS b1 K H2 l1 xs /\ DenL K F2 H2 ds xs) (h2 : ∀ F2 H2, Tr F H F2 H2 -> ∃ xs, SqS b2 K H2 l2 xs /\ DenL K F2 H2 es xs) : ItD K (Itz b1 b2 K l1 l2) F H (dh ds es) := fun F2 H2 β2 t fr i => by
 obtain ⟨xs, s1, d1⟩ := h1 F2 H2 t
 obtain ⟨ys, s2, d2⟩ := h2 F2 H2 t
 refine ⟨fun d hd => ?_, fun hi => ?_⟩
 ·obtain ⟨x, y, e1, e2, rfl⟩ := mt hd
  obtain ⟨u, hu, du⟩ := d1.get e1
  obtain ⟨v, hv, dv⟩ := d2.get e2
  refine ⟨⟨xs, ys, u, v, s1, s2, hu, hv⟩, fun z H3 hz => ?_⟩
  obtain ⟨p, u', v', hp, rfl, rfl, hh⟩ := hz
  obtain ⟨g1, g2⟩ := hh xs ys s1 s2
  rw [hu] at g1
  rw [hv] at g2
  cases g1
  cases g2
  exact ⟨bh.upd hp, Den.newT fr hp (DenL.cons du (DenL.cons dv DenL.nil))⟩
 ·rw [mr] at hi
  have e1 := d1.length
  have e2 := d2.length
  refine ⟨xs, ys, s1, s2, ?_⟩
  rw [← e1, ← e2]
  omega
def gA (g : FL) : FL := bM oU g
theorem yk {a b : Expr} {g : FL} {p pos : Pos} {elts : List Expr} {x1} {tpos : Pos} (hg : Gl X "zip") (hm : X.mg "zip" = none) (ha : PA X [a, b] (tVA X.K g E)) (hs : starEach [a, b] X.env = [(false, eval a X.env), (false, eval b X.env)] := by rfl) (hs2 : starEach [b] X.env = [(false, eval b X.env)] := by rfl) :
  PI X (.Tuple elts x1 tpos) (.Call (.Name "zip" p) [a, b] [] pos) (iV X.K (gA g) E) :=
 (v5 hg hm ha hs hs2).imp fun σ H R h_ => ex6 h_ fun F δ β fr vk h => ⟨F, δ, β, fr, vk, (run.bind (R := DenL X.K F) h).mono fun vs H1 h_ => by
  obtain ⟨ds, β1, t, hd, r1⟩ := h_
  obtain ⟨l, e, k⟩ := run.ofO r1
  unfold oU at e
  split at e
  ·rename_i c d
   obtain ⟨v, w', rfl, h1, h2⟩ := DenL.two hd
   cases q1 : dC c with
   | none => rw [q1] at e; cases e
   | some xs =>
    cases q2 : dC d with
    | none => rw [q1, q2] at e; cases e
    | some ys =>
     rw [q1, q2] at e
     cases e
     obtain ⟨b1, l1, rfl, z1⟩ := Den.sqS h1 q1
     obtain ⟨b2, l2, rfl, z2⟩ := Den.sqS h2 q2
     obtain ⟨us, g1, _⟩ := z1 F H1 (Tr.refl F H1)
     obtain ⟨ws, g2, _⟩ := z2 F H1 (Tr.refl F H1)
     exact ⟨b1, b2, l1, l2, us, ws, rfl, g1, g2, k _ H1 (To.refl t.fr) (u4 z1 z2)⟩
  ·cases e⟩
end
def jV (K : Frag) (f : Dn -> M Unit) (c : Nat) (E : St -> XK) : TJ := fun σ H n Q => n + c <= sizeLine /\ ∃ F δ β, Fr F H β /\ VOk K F H δ σ /\ run (fun _ (_ : Unit) (m : Nat) => m <= n + c) F E σ (f δ) H Q β
theorem _root_.L2.PJ.imp {X : Cx} {es : List Expr} {t t' : TJ} (h : PJ X es t) (f : ∀ σ H n Q, t' σ H n Q -> t σ H n Q) : PJ X es t' := fun pins s σ H acc Q I hz hq => h pins s σ H acc Q I hz (f σ H _ _ hq)
def dS : Dn -> M Unit := fun _ => M.ret ()
def cx (f : FD) (g : Dn -> M Unit) : Dn -> M Unit := fun δ => M.bind (f δ) fun d => match d with
 | .int i => if i.natAbs.log2 < 1920 then g δ else M.fail
 | _ => M.fail
section
variable {X : Cx} {E : St -> XK} {es : List Expr} {K : Frag}
theorem pJ : PJ X [] (jV X.K dS 0 E) := v3.imp fun σ H n Q h_ => by obtain ⟨_, F, δ, β, fr, vk, r⟩ := h_; exact run.ret fr r (Nat.le_refl _)
theorem iH {x : Str} {j : Nat} {p : Pos} {g : Dn -> M Unit} {c : Nat} (h : PJ X es (jV X.K g c E)) (he : evalEach (.Constant (.str x) j p :: es) X.env = eval (.Constant (.str x) j p) X.env :: evalEach es X.env := by rfl) : PJ X (.Constant (.str x) j p :: es) (jV X.K g (x.length + c) E) :=
 (vZ h he).imp fun σ H n Q h_ => by
  obtain ⟨hz, F, δ, β, fr, vk, r, β', e, k⟩ := h_
  exact ⟨by omega, by omega, F, δ, β, fr, vk, r, β', e, by
   cases r with
   | ok u => exact fun m H' t hm => k m H' t (by omega)
   | error C => exact k⟩
theorem kd {v : Expr} {p : Pos} {f : FD} {g : Dn -> M Unit} {c : Nat} (hv : PE X v (tV X.K f E)) (h : PJ X es (jV X.K g c E)) (he : evalEach (.FormattedValue v (-1) none p :: es) X.env = eval (.FormattedValue v (-1) none p) X.env :: evalEach es X.env := by rfl) : PJ X (.FormattedValue v (-1) none p :: es) (jV X.K (cx f g) (1921 + c) E) :=
 (v4 hv h he).imp fun σ H n Q ⟨hz, F, δ, β, fr, vk, r⟩ => ⟨F, δ, β, fr, vk, (run.bind (R := Den X.K F) r).mono fun v H1 h_ => by
  obtain ⟨d, β1, t, hd, r1⟩ := h_
  cases d with
  | int i =>
   by_cases q : i.natAbs.log2 < 1920
   ·simp only [if_pos q] at r1
    refine ⟨i, hd, q, by omega, fun m hm => ⟨by omega, F, δ, β1, t.fr, vk.tr (t.tr fr), ?_⟩⟩
    obtain ⟨rr, β', e, k⟩ := r1
    refine ⟨rr, β', e, ?_⟩
    cases rr with
    | ok u => exact fun m' H' t' hm' => k m' H' t' (by omega)
    | error C => exact k
   ·simp only [if_neg q] at r1
    obtain ⟨rr, β', e, k⟩ := r1
    cases e
  | _ => obtain ⟨rr, β', e, k⟩ := r1; cases e⟩
def de (f : Dn -> M Unit) : FD := fun δ => M.bind (f δ) fun _ => M.ret .txt
theorem mC {v1 v2 : Expr} {rest : List Expr} {pos : Pos} {f : Dn -> M Unit} {c : Nat} (h : PJ X (v1 :: v2 :: rest) (jV X.K f c E)) (hc : c <= sizeLine) : PE X (.JoinedStr (v1 :: v2 :: rest) pos) (tV X.K (de f) E) :=
 (uJ h).imp fun σ H Q h_ => ex6 h_ fun F δ β fr vk r => ⟨by omega, F, δ, β, fr, vk, (run.bind (R := fun _ (_ : Unit) (m : Nat) => m <= 0 + c) r).mono fun m H1 h_ => ex5 h_ fun d β1 t hd r1 => ⟨by omega, fun z hz => run.ret t.fr r1 ⟨z, rfl⟩⟩⟩
def tH (C : Addr) (n : Nat) : Sp := fun vs H Q _ => ∃ (x : Addr) (rest : List V), vs = .ref x :: rest /\ rest.length = n /\ H x = some (cf C x none) /\
 ∀ (dx : Option Addr) (H' : Hp), H' x = some (cf C x dx) -> (∀ b o, H b = some o -> b ≠ x -> H' b = some o) -> Q .non H'
def bB (C : Addr) (f : FL) : G := fun δ β => match f (vwA δ) β with
 | some (.ok _, β1) => some (.ex C δ, β1)
 | some (.error C', β1) => some (.ex C' δ, β1)
 | none => none
end
section
variable {P : Program} {w : World} {K : Frag} {mg : Str -> Option Value} {base : Heap} {N : List Str} {qual : Str} {scope : Scope} {f : Addr} {cd : Value} {A : Around} {outer : List Env} {s : Shared} {H : Hp} {E : XK}
theorem fZ {e : Expr} {pos : Pos} {C : Addr} {n : Nat} {g : FL} {E' : St -> XK} (xc : XC K C) (hn : ∀ δ β r β', g δ β = some (.ok r, β') -> r.length = n) (hz : n <= sizeLine)
  (h : PS (bG (CXE P w) P w K mg base N qual scope f cd A outer s H E) (.Raise (some e) none pos) (qc H K E (vF C (tH C n) [] E' (tVA K g (fun _ => E))))) :
  PS (bG (CXE P w) P w K mg base N qual scope f cd A outer s H E) (.Raise (some e) none pos) (tG K H (bB C g) (fun _ => E)) := h.imp fun D σ H1 h_ => by
 obtain ⟨B, bg, δ, β, o, β', ok, e, q⟩ := h_
 refine ⟨FxA B bg, vwA δ, β, ok.frA, ok.viewA, ?_⟩
 unfold bB at e
 split at e
 ·rename_i ds β1 e1
  cases e
  refine ⟨.ok ds, _, e1, fun vs H2 t hd => ?_⟩
  obtain ⟨ok2, s2⟩ := ok.to rfl t
  have hl : vs.length = n := by rw [← hd.length]; exact hn _ _ _ _ e1
  refine ⟨by rw [hl]; exact hz, fun x hx => ⟨x, vs ++ [], rfl, by rw [List.append_nil]; exact hl, ai, fun dx H' h1 h2 => ⟨rfl, x, C, dx, rfl, h1, ?_, xc, ?_⟩⟩⟩
  ·cases q0 : H x with
   | none => rfl
   | some o => exact absurd hx (ok2.cov x (by rw [q0]; simp))
  ·have sm : ∀ b o, H2 b = some o -> dk H' x b = some o := fun b o eb => by
    have hb : b ≠ x := ne_of_none eb hx
    rw [eA hb]
    exact h2 b o (by rw [upd_ne hb]; exact eb) hb
   obtain ⟨ok3, s3⟩ := ok2.to rfl (ok2.fr.same sm)
   exact q σ B _ (s2.trans s3) ok3
 ·rename_i C' β1 e1
  cases e
  refine ⟨.error C', _, e1, fun H' t => ?_⟩
  obtain ⟨ok2, s2⟩ := ok.to rfl t
  exact q _ B H' s2 ok2
 ·cases e
end
section
variable {X : Cx} {E : St -> XK} {K : Frag}
abbrev Gh := Addr -> G
def hNo : Gh := fun _ _ _ => none
def kX (K : Frag) (Dc : Addr) (g : G) (r : Gh) : Gh := fun C δ β => match PySem.W.exmOne K (.ref C) (.ref Dc) with
 | some true => g δ β
 | some false => r C δ β
 | none => none
def k4 (g : G) (h : Gh) : G := fun δ β => match g δ β with
 | some (.ex C δ1, β1) => h C δ1 β1
 | r => r
end
section
variable {X : Cx} {E : St -> XK} {K : Frag} {elt target iter : Expr} {ifs : List Expr} {rest : List Comprehension} {scope : Scope} {pos : Pos} {Nc vars : List Str} {caps : List Nat} {g : TG} {tb : Addr -> TB}
theorem aV : eU X [] (tVT X.K (fun _ => M.ret true) E0) := fun pins s σ H Q I h_ => by obtain ⟨F, δ, β, fr, vk, r⟩ := h_; exact mZ pins s σ H Q I (run.ret fr r rfl)
theorem bo {it : FL} {tg : TgF} {tt : Dn -> M Bool} {b : FL} (hc : X.calm = true) (S : CmpScope X scope Nc vars caps) (hi : PI X target iter (iV X.K it E))
  (hb : ∀ (cl : List (Str × Addr)) (C : Addr) (fp : List Addr) (s : Shared) (H : Hp), PG (aW X Nc scope cl C fp s H) target g /\ eU (aW X Nc scope cl C fp s H) ifs (tVT X.K tt E0) /\ ∀ D, PB (aW X Nc scope cl C fp s H) elt (⟨target, iter, ifs, 0⟩ :: rest) scope pos 0 D (tb D))
  (lg : cR X.K g tg) (sg : dQ tg) (lb : ∀ D, fD X.K D (tb D) b) (hs : ∀ x, foldedSetIterable iter X.env x = pure x := by intro _; rfl) : PE X (.ListComp elt (⟨target, iter, ifs, 0⟩ :: rest) scope pos) (tV X.K (aJ vars.length caps it tg tt b) E) :=
 (iC hc S hi hb hs).imp fun σ H Q h => rM lg sg lb h
def eM : D -> Option D
 | .int i => some (.int (-i))
 | _ => none
theorem ml : uc K (rU fun i => .int (-i)) eM := fun F H β Q d1 d v1 fr h1 e k => by
 cases d1 <;> first | (cases e; exact ⟨_, h1, k _ H (To.refl fr) rfl⟩) | cases e
end
def Bg.ok (β : Bg) : Prop := β.cells ≠ [] /\ β.cells.length <= 64 /\ (∀ c ∈ β.cells, 0 <= c) /\ 0 <= β.j
def Bg.pos (β : Bg) : Nat := (β.i % (β.cells.length : Int)).toNat
def Bg.cell (β : Bg) : Int := β.cells.getD β.pos 0
def Bg.nxt (β : Bg) : Int := (β.j + β.cell % 2147483629 + 77) * 48271 % 2147483629
def ff (β : Bg) (lot : Int) : Int := if 10 ^ 18 <= β.cell then β.cell % lot else β.nxt / 64 % lot
def gy (β : Bg) (lot : Int) : Bg := if 10 ^ 18 <= β.cell then ⟨β.cells.set β.pos (β.cell / lot), β.i, β.j⟩ else ⟨β.cells, β.i + 1, β.nxt⟩
open Classical in
noncomputable def cM : List D -> M D := fun ds β => match ds with
 | [.bag, .int lot] => if β.ok /\ 0 < lot /\ lot < 1073741824 then some (Except.ok (D.int (ff β lot)), gy β lot) else none
 | _ => none
theorem su {β : Bg} {lot : Int} (h : β.ok) (h0 : 0 < lot) (h1 : lot < 1073741824) : cM [.bag, .int lot] β = some (.ok (.int (ff β lot)), gy β lot) := by
 unfold cM
 exact if_pos ⟨h, h0, h1⟩
theorem qF {ds : List D} {β : Bg} {r : Except Addr D} {β' : Bg} (h : cM ds β = some (r, β')) : ∃ lot, ds = [.bag, .int lot] /\ β.ok /\ 0 < lot /\ lot < 1073741824 /\ r = .ok (.int (ff β lot)) /\ β' = gy β lot := by
 unfold cM at h
 split at h
 ·split at h
  ·rename_i lot q
   cases h
   exact ⟨lot, rfl, q.1, q.2.1, q.2.2, rfl, rfl⟩
  ·cases h
 ·cases h
theorem Bg.ok.at {β : Bg} (h : β.ok) : β.pos < β.cells.length /\ β.cells[β.pos]? = some β.cell /\ 0 <= β.cell /\ β.i % (β.cells.length : Int) = (β.pos : Int) := by
 obtain ⟨c1, c2, c3, c4⟩ := id h
 have hp : 0 < β.cells.length := List.length_pos_iff.mpr c1
 have a1 : 0 <= β.i % (β.cells.length : Int) := Int.emod_nonneg _ (by omega)
 have a2 : β.i % (β.cells.length : Int) < β.cells.length := Int.emod_lt_of_pos _ (by omega)
 have hk : β.pos < β.cells.length := by unfold Bg.pos; omega
 have e : β.cell = β.cells[β.pos] := by
  unfold Bg.cell
  rw [List.getD_eq_getElem?_getD, List.getElem?_eq_getElem hk]; rfl
 refine ⟨hk, by rw [e]; exact List.getElem?_eq_getElem hk, by rw [e]; exact c3 _ (List.getElem_mem hk), ?_⟩
 unfold Bg.pos; omega
theorem oq {β : Bg} {lot : Int} (h : β.ok) (h0 : 0 < lot) : 0 <= ff β lot /\ ff β lot < lot /\ (gy β lot).ok := by
 obtain ⟨hk, _, hc, _⟩ := h.at
 obtain ⟨c1, c2, c3, c4⟩ := id h
 unfold ff gy
 split
 ·refine ⟨Int.emod_nonneg _ (by omega), Int.emod_lt_of_pos _ h0, ?_, by rw [List.length_set]; exact c2, fun c hc' => ?_, c4⟩
  ·intro z
   have := congrArg List.length z
   rw [List.length_set] at this
   exact c1 (List.length_eq_zero_iff.mp this)
  ·rcases List.mem_or_eq_of_mem_set hc' with hc' | rfl
   ·exact c3 c hc'
   ·exact Int.ediv_nonneg hc (by omega)
 ·exact ⟨Int.emod_nonneg _ (by omega), Int.emod_lt_of_pos _ h0, c1, c2, c3, Int.emod_nonneg _ (by decide)⟩
end L2.Pu
namespace L2
open PySem PySem.Spec PyProof.Rows
end L2
namespace L2.Pu
open PySem PySem.Spec PyProof.Rows
section
variable {X : Cx} {E : St -> XK} {K : Frag}
def kE (K : Frag) (mg : Str -> Option Value) (x : Str) (d : D) : Prop := ∃ u v, mg x = some u /\ aD v u /\ ∀ F H, Den K F H d v
theorem fW {x : Str} {d : D} {pos : Pos} (c : kE X.K X.mg x d) (hg : Gl X x := by rfl) (hd : (x == ("__debug__" : Str)) = false := by decide) : PE X (.Name x pos) (tV X.K (fC d) E) := by
 obtain ⟨u, v, h1, h2, h3⟩ := c
 exact v_c (oy hg h1 h2 hd) h3
mutual
def toP : D -> Option PyData
 | .non => some .none
 | .bl b => some (.bool b)
 | .int i => some (.int i)
 | .str x => some (.str x)
 | .lst xs => (toPs xs).map PyData.list
 | .tup xs => (toPs xs).map PyData.tuple
 | _ => none
def toPs : List D -> Option (List PyData)
 | [] => some []
 | x :: xs => match toP x, toPs xs with
  | some p, some ps => some (p :: ps)
  | _, _ => none
end
mutual
theorem f8 {F : Fx} {pins : List (Addr × Obj)} {σ : St} {H : Hp} {s : Shared} (I : Inv X pins σ H s) : ∀ (d : D) (v : V) (u : Value) (p : PyData), Den X.K F H d v -> toP d = some p -> aD v u -> ∃ as, Reads s.heap u p as
 | .non, v, u, p, h, e, r => by cases e; cases h.non; cases r; exact ⟨_, .none⟩
 | .bl b, v, u, p, h, e, r => by cases e; cases h.bl; cases r; exact ⟨_, .bool b⟩
 | .int i, v, u, p, h, e, r => by cases e; cases h.int; obtain ⟨t, rfl⟩ := r; exact ⟨_, .int i t⟩
 | .str x, v, u, p, h, e, r => by cases e; cases h.str; obtain ⟨t, rfl⟩ := r; exact ⟨_, .str x t⟩
 | .lst xs, v, u, p, h, e, r => by
  unfold toP at e
  cases q : toPs xs with
  | none => rw [q] at e; cases e
  | some ps =>
   rw [q] at e; cases e
   obtain ⟨a, ys, rfl, sq, dl⟩ := Den.sqL h
   cases r
   obtain ⟨its, rv, pl, _⟩ := I.list sq
   obtain ⟨as, ra⟩ := reads_L I xs ys its ps dl q rv
   obtain ⟨o, ho, hc, n, hd⟩ := pl.isList
   exact ⟨_, .list ho hc hd (by simpa using ra)⟩
 | .tup xs, v, u, p, h, e, r => by
  unfold toP at e
  cases q : toPs xs with
  | none => rw [q] at e; cases e
  | some ps =>
   rw [q] at e; cases e
   obtain ⟨a, ys, rfl, sq, dl⟩ := Den.sqT h
   cases r
   obtain ⟨its, rv, pl, _⟩ := I.tuple sq
   obtain ⟨as, ra⟩ := reads_L I xs ys its ps dl q rv
   obtain ⟨o, ho, hc, n, hd⟩ := pl
   exact ⟨_, .tuple ho hc hd (by simpa using ra)⟩
 | .ty _, _, _, _, _, e, _ => by cases e
 | .txt, _, _, _, _, e, _ => by cases e
 | .scr _, _, _, _, _, e, _ => by cases e
 | .obj _ _ _, _, _, _, _, e, _ => by cases e
 | .bag, _, _, _, _, e, _ => by cases e
 | .adr _, _, _, _, _, e, _ => by cases e
theorem reads_L {F : Fx} {pins : List (Addr × Obj)} {σ : St} {H : Hp} {s : Shared} (I : Inv X pins σ H s) : ∀ (ds : List D) (vs : List V) (us : List Value) (ps : List PyData), DenL X.K F H ds vs -> toPs ds = some ps -> am vs us -> ∃ as, ReadsAll s.heap us ps as
 | [], vs, us, ps, h, e, r => by
  have q : vs = [] := h
  subst q
  cases e
  cases r
  exact ⟨_, .nil⟩
 | d :: ds, vs, us, ps, h, e, r => by
  obtain ⟨x, xr, rfl, h1, h2⟩ := h
  unfold toPs at e
  split at e
  ·rename_i p pr e1 e2
   cases e
   cases r with
   | cons r1 r2 =>
    obtain ⟨as, z1⟩ := f8 I d x _ p h1 e1 r1
    obtain ⟨bs, z2⟩ := reads_L I ds xr _ pr h2 e2 r2
    exact ⟨_, .cons z1 z2⟩
  ·cases e
end
def gM (a b : D) : Option Bool := match toP a, toP b with
 | some p, some q => if (SeqAt.shaped p && SeqAt.shaped q) = true then some (PyData.eqv p q) else none
 | _, _ => none
def fN (a b : D) : Option D := match eqS a b with
 | some c => some (.bl c)
 | none => (gM a b).map D.bl
def cn (a b : D) : Option D := match eqS a b with
 | some c => some (.bl (!c))
 | none => (gM a b).map fun c => D.bl (!c)
def kN (X : Cx) (g : Bool -> Bool) : R2 := fun x y H Q => ∃ (F : Fx) (a b : D) (c : Bool), Den X.K F H a x /\ Den X.K F H b y /\ gM a b = some c /\ Q (.bl (g c)) H
theorem lR {a b : D} {c : Bool} (h : gM a b = some c) : ∃ p q, toP a = some p /\ toP b = some q /\ SeqAt.shaped p = true /\ SeqAt.shaped q = true /\ c = PyData.eqv p q := by
 unfold gM at h
 split at h
 ·rename_i p q e1 e2
  split at h
  ·rename_i hs
   rw [Bool.and_eq_true] at hs
   cases h
   exact ⟨p, q, e1, e2, hs.1, hs.2, rfl⟩
  ·cases h
 ·cases h
theorem wo {k : Nat} (hr : Room k X.A) : OpR X (compareOp .Eq) (kN X id) := by
 intro pins s σ H x y v u Q I rx ry h
 obtain ⟨F, a, b, c, d1, d2, e, q⟩ := h
 obtain ⟨p, p', e1, e2, s1, s2, rfl⟩ := lR e
 obtain ⟨as, r1⟩ := f8 I a x v p d1 e1 rx
 obtain ⟨bs, r2⟩ := f8 I b y u p' d2 e2 ry
 exact eq_dataH r1 r2 s1 s2 hr.units ⟨.bl _, H, I, rfl, q⟩
theorem wm {k : Nat} (hr : Room k X.A) : OpR X (compareOp .NotEq) (kN X not) := by
 intro pins s σ H x y v u Q I rx ry h
 obtain ⟨F, a, b, c, d1, d2, e, q⟩ := h
 obtain ⟨p, p', e1, e2, s1, s2, rfl⟩ := lR e
 obtain ⟨as, r1⟩ := f8 I a x v p d1 e1 rx
 obtain ⟨bs, r2⟩ := f8 I b y u p' d2 e2 ry
 exact ne_dataH r1 r2 s1 s2 hr.units ⟨.bl _, H, I, rfl, q⟩
theorem m5 {k : Nat} (hr : Room k X.A) : OpR X (compareOp .Eq) (fun x y H Q => rEq x y H Q \/ kN X id x y H Q) := yd.or (wo hr)
theorem gb {k : Nat} (hr : Room k X.A) : OpR X (compareOp .NotEq) (fun x y H Q => rNe x y H Q \/ kN X not x y H Q) := yb.or (wm hr)
theorem pG : bd X.K (fun x y H Q => rEq x y H Q \/ kN X id x y H Q) fN := fun F H β Q d1 d2 d v1 v2 fr h1 h2 e k => by
 unfold fN at e
 split at e
 ·rename_i c q
  cases e
  obtain ⟨s1, s2⟩ := q9 q h1 h2
  exact .inl ⟨s1, by rw [s2]; exact k _ H (To.refl fr) rfl⟩
 ·cases q : gM d1 d2 with
  | none => rw [q] at e; cases e
  | some c => rw [q] at e; cases e; exact .inr ⟨F, d1, d2, c, h1, h2, q, k _ H (To.refl fr) rfl⟩
theorem iG : bd X.K (fun x y H Q => rNe x y H Q \/ kN X not x y H Q) cn := fun F H β Q d1 d2 d v1 v2 fr h1 h2 e k => by
 unfold cn at e
 split at e
 ·rename_i c q
  cases e
  obtain ⟨s1, s2⟩ := q9 q h1 h2
  exact .inl ⟨s1, by rw [s2]; exact k _ H (To.refl fr) rfl⟩
 ·cases q : gM d1 d2 with
  | none => rw [q] at e; cases e
  | some c => rw [q] at e; cases e; exact .inr ⟨F, d1, d2, c, h1, h2, q, k _ H (To.refl fr) rfl⟩
theorem iS (i j : Int) : fN (.int i) (.int j) = some (.bl (decide (i = j))) := rfl
theorem gL (i j : Int) : cn (.int i) (.int j) = some (.bl (!decide (i = j))) := rfl
theorem iT (i j : Bool) : fN (.bl i) (.bl j) = some (.bl (decide (i = j))) := rfl
theorem iP (i j : Bool) : cn (.bl i) (.bl j) = some (.bl (!decide (i = j))) := rfl
theorem iR (i j : Str) : fN (.str i) (.str j) = some (.bl (decide (i = j))) := rfl
theorem iO (i j : Str) : cn (.str i) (.str j) = some (.bl (!decide (i = j))) := rfl
def pQ (d : D) : Bool := match toP d with
 | some p => SeqAt.shaped p
 | none => false
def addI : D -> D -> Option D := opI fun i j => some (.int (i + j))
abbrev bw := rN
theorem bp (hc : X.calm = true) : bt X (.builtin "sum") (fun xs H Q => ∃ (a : Addr) (ns : List Int), xs = [.ref a] /\ SqL X.K H a (ns.map V.int) /\ Q (.int ns.sum) H) := rm hc
theorem cB : cy K (fun xs H Q => ∃ (a : Addr) (ns : List Int), xs = [.ref a] /\ SqL K H a (ns.map V.int) /\ Q (.int ns.sum) H) bw := yh
def ud (H : Hp) (b l : Addr) : Prop := ∃ (cells : List Int) (i j : Int), H b = some (.lst [.ref l, .int i, .int j]) /\ H l = some (.lst (cells.map V.int)) /\ cells ≠ [] /\ cells.length <= 64 /\ (∀ c ∈ cells, 0 <= c) /\ 0 <= j
theorem dP {n k : Nat} (h : k < n) : ixN n (k : Int) = some k := by
 unfold ixN
 rw [if_pos (by omega), if_pos (by omega)]
 simp
theorem yq (ns : List Int) : ∃ ms : List Int, lm (ns.map V.int) none (some 63) = ms.map V.int /\ ms.length <= 63 := by
 refine ⟨(ns.drop (HT.sIx ns.length 0 none)).take (HT.sIx ns.length ns.length (some 63) - HT.sIx ns.length 0 none), ?_, ?_⟩
 ·unfold lm
  rw [List.length_map, List.map_take, List.map_drop]
 ·rw [List.length_take]
  have : HT.sIx ns.length ns.length (some 63) <= 63 := by
   unfold HT.sIx
   simp
   omega
  omega
def x3 (K : Frag) : Sp := fun vs H Q _ => ∃ (a : Addr) (ns : List Int), vs = [.ref a] /\ SqL K H a (ns.map V.int) /\ ∀ (b l : Addr) (H' : Hp), H b = none -> H l = none -> ud H' b l -> bh H H' -> Q (.ref b) H'
def tF (K : Frag) : Sp := fun vs H Q _ => ∃ (a : Addr) (ns : List Int), vs = [.ref a] /\ SqL K H a (ns.map V.int) /\ ns.length <= 63 /\ ∀ H', Q (.bl true) H'
theorem ve {H₀ H : Hp} {b l : Addr} {a : Addr} {n : Nat} (sm : bh H₀ H) (hb : H₀ b = none) (hl : H₀ l = none) (B : ud H b l) : ∃ β, β.ok /\ SOk K H₀ (fun c => if c = b \/ c = l then some 1 else none) (some (b, l)) H (none :: some (.sh .bag) :: List.replicate n none) β (some (.ref a) :: some (.ref b) :: List.replicate n none) := by
 obtain ⟨cells, i, j, e1, e2, h1, h2, h3, h4⟩ := B
 have nbl : b ≠ l := yg e1 e2 (by
  intro z
  cases cells with
  | nil => exact h1 rfl
  | cons c r => simp at z)
 refine ⟨⟨cells, i, j⟩, ⟨h1, h2, h3, h4⟩, ⟨⟨fun c hc => ?_, fun b' l' e => ?_, fun b' l' e => ?_⟩, fun b' l' e => ?_, by simp, fun c hc => ?_, fun c k hc => (by
  have hc' : (if c = b \/ c = l then some 1 else none) = some (k + 2) := hc
  split at hc' <;> cases hc'), fun c k hc => (by
  have hc' : (if c = b \/ c = l then some 1 else none) = some (k + 2) := hc
  split at hc' <;> cases hc'), fun k s e => ?_⟩⟩
 ·have hc' : (if c = b \/ c = l then some 1 else none) ≠ (none : Option Nat) := hc
  split at hc'
  ·rename_i q
   rcases q with rfl | rfl
   ·rw [e1]; simp
   ·rw [e2]; simp
  ·exact absurd rfl hc'
 ·cases e
  refine ⟨?_, ?_, nbl⟩
  ·show (if b = b \/ b = l then some 1 else none) ≠ (none : Option Nat)
   rw [if_pos (.inl rfl)]; simp
  ·show (if l = b \/ l = l then some 1 else none) ≠ (none : Option Nat)
   rw [if_pos (.inr rfl)]; simp
 ·cases e
  exact ⟨e1, e2⟩
 ·cases e
  exact ⟨if_pos (.inl rfl), if_pos (.inr rfl)⟩
 ·cases q : H₀ c with
  | none => exact absurd q hc
  | some o => rw [sm c o q]; simp
 ·match k with
  | 0 => simp at e
  | 1 =>
   simp at e
   subst e
   exact ⟨.ref b, rfl, b, l, rfl, rfl⟩
  | k + 2 =>
   simp only [List.getElem?_cons_succ, List.getElem?_replicate] at e
   split at e <;> cases e
end
section
variable {P : Program} {w : World} {K : Frag} {mg : Str -> Option Value} {base : Heap}
theorem cF {x qual : Str} {st : Stmt} {f : Addr} {fd : FuncData} {N ps : List Str} {k : Nat} (n m : Nat) (g : G) (F : FunD K x qual st f fd) (S : FnScope N ps (ak st)) (hn : ps.length = n) (hm : N.length = m)
  (hbody : ∀ (cdv : Value) (A : Around) (outer : List Env) (s : Shared) (H : Hp) (E : XK), Room k (A.deeper (envOfC qual (ak st) s.heap.objs.size f cdv)) ->
   PSs (bG (CXE P w) P w K mg base N qual (ak st) f cdv A outer s H E) (br st) (tG K H g (fun _ => E))) : FnOk P w K mg base (CXE P w) (k + 1) f fd ps (spF K n (aN m g)) := by
 subst hn hm
 exact va F S hbody
end
end L2.Pu
namespace L2
open PySem PySem.Spec PyProof.Rows
theorem CmpScope.ofB {X : Cx} {scope : Scope} {Nc vars : List Str} {caps : List Nat} (k : scope.kind = .function) (nd : (scope.names.map (·.1)).Nodup)
  (fr : (scope.names.all fun y => y.2 != .free || (X.env.scope.names.lookup y.1 == some .cell || X.env.scope.names.lookup y.1 == some .free)) = true) (nm : Nc = vars ++ caps.map (fun j => X.N.getD j Str.empty))
  (cp : (caps.all fun j => decide (j < X.N.length) && scope.names.lookup (X.N.getD j Str.empty) == some .free) = true) : CmpScope X scope Nc vars caps := by
 refine ⟨k, nd, fun y hy e => ?_, nm, fun j hj => ?_⟩
 ·have := List.all_eq_true.mp fr y hy
  rw [e] at this
  simp only [bne_self_eq_false, Bool.false_or, Bool.or_eq_true, beq_iff_eq] at this
  exact this
 ·have := List.all_eq_true.mp cp j hj
  simp only [Bool.and_eq_true, decide_eq_true_eq, beq_iff_eq] at this
  exact this
end L2
namespace L2.Pu
theorem iU (i j : Int) : iu (.int i) (.int j) = some (.int (i + j)) := rfl
theorem gp (i j : Int) : addI (.int i) (.int j) = some (.int (i + j)) := rfl
theorem iN (i j : Int) : pb (.int i) (.int j) = some (.int (i - j)) := rfl
theorem iQ (i j : Int) : modD (.int i) (.int j) = if decide (0 < j) = true then some (.int (i % j)) else none := rfl
theorem lh (i j : Int) : ltD (.int i) (.int j) = some (.bl (decide (i < j))) := rfl
theorem li (i j : Int) : leD (.int i) (.int j) = some (.bl (decide (i <= j))) := rfl
theorem lj (i j : Int) : gtD (.int i) (.int j) = some (.bl (decide (j < i))) := rfl
theorem ll (i j : Int) : geD (.int i) (.int j) = some (.bl (decide (j <= i))) := rfl
end L2.Pu
namespace L2.Pu
open PySem PySem.Spec
def okD : Nat -> D -> Prop
 | _, .int _ => True
 | _, .bl _ => True
 | _, .str _ => True
 | _, .non => True
 | n + 1, .lst xs => xs.length <= sizeLine /\ ∀ x ∈ xs, okD n x
 | n + 1, .tup xs => xs.length <= sizeLine /\ ∀ x ∈ xs, okD n x
 | _, _ => False
noncomputable def fw (rec : List D -> M D) : G :=
  ao (gIf (bF (aj da (aa (ad 1) (aa (aj c5 (aa (fC (.ty "list")) (aa (fC (.ty "tuple")) (af)))) (af))))) (ao (gIf (cG (fB (f2 (cn) (aj bx (aa (ad 1) (aa (fC (.ty "list")) (af)))) (aj bx (aa (ad 0) (aa (fC (.ty "list")) (af)))))) (fB (f2 (cn) (aj bx (aa (ad 1) (aa (fC (.ty "tuple")) (af)))) (aj bx (aa (ad 0) (aa (fC (.ty "tuple")) (af))))))) (aK (fC (.bl false))) (gNil))
  (ao (gIf (fB (f2 (cn) (aj bf (aa (ad 0) (af))) (aj bf (aa (ad 1) (af))))) (aK (fC (.bl false))) (gNil))
  (aK (f2 (inD true) (fC (.bl false)) (aJ 2 [] (gA (aa (ad 0) (aa (ad 1) (af)))) (tgT (fF (tgC 0) (fF (tgC 1) je))) (fun _ => M.ret true) (cEm (aA rec (aa (ad 0) (aa (ad 1) (af)))))))))) (gNil))
  (ao (gIf (fB (f2 (d8) (ad 1) (fC .non))) (aK (f2 (d8) (ad 0) (fC .non))) (gNil))
  (ao (gIf (cG (fB (f2 (cn) (aj bx (aa (ad 1) (aa (fC (.ty "str")) (af)))) (aj bx (aa (ad 0) (aa (fC (.ty "str")) (af)))))) (fB (f2 (cn) (aj bx (aa (ad 1) (aa (fC (.ty "bool")) (af)))) (aj bx (aa (ad 0) (aa (fC (.ty "bool")) (af))))))) (aK (fC (.bl false))) (gNil))
  (aK (dj (aj da (aa (ad 0) (aa (aj c5 (aa (fC (.ty "int")) (aa (fC (.ty "str")) (af)))) (af)))) (f2 (fN) (ad 0) (ad 1))))))
noncomputable def c8 : Nat -> List D -> M D
 | 0 => fun _ => M.fail
 | n + 1 => aN 2 (fw (c8 n))
theorem dJ : (0 : Nat) + 1 + 1 <= sizeLine := by decide
theorem dm : (2 : Nat) <= sizeLine := by decide
theorem jt {rec : List D -> M D} {β : Bg} : ∀ xs : List D, (∀ x ∈ xs, rec [x, x] β = some (.ok (.bl true), β)) ->
  cLp (tgT (fF (tgC 0) (fF (tgC 1) je))) (fun _ => M.ret true) (cEm (aA rec (aa (ad 0) (aa (ad 1) (af))))) (dh xs xs) [none, none] β = some (.ok (List.replicate xs.length (.bl true)), β)
 | [], _ => rfl
 | x :: xs, h => by
  have ih := jt xs fun y hy => h y (List.mem_cons_of_mem _ hy)
  have hx := h x List.mem_cons_self
  unfold dh cLp
  simp only [tgT, fF, je, tgC, cEm, Option.isNone_none, Option.isNone_some, Option.bind_some, List.set_cons_zero, List.set_cons_succ, List.getD_cons_zero, List.getD_cons_succ, if_true, aA, aa, af, ad, M.bind, M.ret, M.ofO, hx, ih, reduceIte]
  rfl
theorem nQ (n : Nat) : (List.replicate n (D.bl true)).all cP = true := by
 induction n with
 | zero => rfl
 | succ n ih => rw [List.replicate_succ, List.all_cons, ih]; rfl
theorem oI (n : Nat) : inB (.bl false) (List.replicate n (D.bl true)) = false := by
 unfold inB
 induction n with
 | zero => rfl
 | succ n ih => rw [List.replicate_succ, List.any_cons, ih]; rfl
theorem kM : ∀ (n : Nat) (d : D) (β : Bg), okD n d -> c8 (n + 1) [d, d] β = some (.ok (.bl true), β)
 | n, .int i, β, _ => by
  unfold c8 aN fw
  simp only [ao, cq, db, dD, aK, gIf, Pu.gNil, k8, k6, k7, k4, bB, kX, hNo, ad, fC, f1, f2, af, aa, aj, aA, fB, bF, iM, cG, bq, dj, fOr, la, fIf, ck, aF, bM, gA, de, cx, dS, M.bind, M.ret, M.ofO, M.fail, vw, vwA, stD, List.map_cons, List.map_nil, List.set_cons_zero, List.set_cons_succ, List.getD_cons_zero, List.getD_cons_succ, List.length_cons, List.length_nil, List.replicate_zero, List.replicate_succ, List.append_nil, List.cons_append, List.nil_append, Nat.sub_self, Nat.reduceSub, Nat.reduceAdd, Nat.reduceLT, Nat.reduceLeDiff, Int.reduceLT, Int.reduceLE, iU, gp, iN, iQ, lh, li, lj, ll, iS, gL, iT, iP, iR, iO, beq_self_eq_true, asB, gw, d8, iE, isN, eM, c5, ef, sgT, kI, kJ, sgN, Option.map_some, Option.bind_some, Option.map_none, bf, ls, bx, da, tyD, fM, fK, if_true, if_false, reduceIte, Bool.not_true, Bool.not_false, decide_true, decide_false, Bool.false_eq_true, dm, dJ]
 | n, .bl i, β, _ => by
  unfold c8 aN fw
  simp only [ao, cq, db, dD, aK, gIf, Pu.gNil, k8, k6, k7, k4, bB, kX, hNo, ad, fC, f1, f2, af, aa, aj, aA, fB, bF, iM, cG, bq, dj, fOr, la, fIf, ck, aF, bM, gA, de, cx, dS, M.bind, M.ret, M.ofO, M.fail, vw, vwA, stD, List.map_cons, List.map_nil, List.set_cons_zero, List.set_cons_succ, List.getD_cons_zero, List.getD_cons_succ, List.length_cons, List.length_nil, List.replicate_zero, List.replicate_succ, List.append_nil, List.cons_append, List.nil_append, Nat.sub_self, Nat.reduceSub, Nat.reduceAdd, Nat.reduceLT, Nat.reduceLeDiff, Int.reduceLT, Int.reduceLE, iU, gp, iN, iQ, lh, li, lj, ll, iS, gL, iT, iP, iR, iO, beq_self_eq_true, asB, gw, d8, iE, isN, eM, c5, ef, sgT, kI, kJ, sgN, Option.map_some, Option.bind_some, Option.map_none, bf, ls, bx, da, tyD, fM, fK, if_true, if_false, reduceIte, Bool.not_true, Bool.not_false, decide_true, decide_false, Bool.false_eq_true, dm, dJ]
 | n, .str i, β, _ => by
  unfold c8 aN fw
  simp only [ao, cq, db, dD, aK, gIf, Pu.gNil, k8, k6, k7, k4, bB, kX, hNo, ad, fC, f1, f2, af, aa, aj, aA, fB, bF, iM, cG, bq, dj, fOr, la, fIf, ck, aF, bM, gA, de, cx, dS, M.bind, M.ret, M.ofO, M.fail, vw, vwA, stD, List.map_cons, List.map_nil, List.set_cons_zero, List.set_cons_succ, List.getD_cons_zero, List.getD_cons_succ, List.length_cons, List.length_nil, List.replicate_zero, List.replicate_succ, List.append_nil, List.cons_append, List.nil_append, Nat.sub_self, Nat.reduceSub, Nat.reduceAdd, Nat.reduceLT, Nat.reduceLeDiff, Int.reduceLT, Int.reduceLE, iU, gp, iN, iQ, lh, li, lj, ll, iS, gL, iT, iP, iR, iO, beq_self_eq_true, asB, gw, d8, iE, isN, eM, c5, ef, sgT, kI, kJ, sgN, Option.map_some, Option.bind_some, Option.map_none, bf, ls, bx, da, tyD, fM, fK, if_true, if_false, reduceIte, Bool.not_true, Bool.not_false, decide_true, decide_false, Bool.false_eq_true, dm, dJ]
 | n, .non, β, _ => by
  unfold c8 aN fw
  simp only [ao, cq, db, dD, aK, gIf, Pu.gNil, k8, k6, k7, k4, bB, kX, hNo, ad, fC, f1, f2, af, aa, aj, aA, fB, bF, iM, cG, bq, dj, fOr, la, fIf, ck, aF, bM, gA, de, cx, dS, M.bind, M.ret, M.ofO, M.fail, vw, vwA, stD, List.map_cons, List.map_nil, List.set_cons_zero, List.set_cons_succ, List.getD_cons_zero, List.getD_cons_succ, List.length_cons, List.length_nil, List.replicate_zero, List.replicate_succ, List.append_nil, List.cons_append, List.nil_append, Nat.sub_self, Nat.reduceSub, Nat.reduceAdd, Nat.reduceLT, Nat.reduceLeDiff, Int.reduceLT, Int.reduceLE, iU, gp, iN, iQ, lh, li, lj, ll, iS, gL, iT, iP, iR, iO, beq_self_eq_true, asB, gw, d8, iE, isN, eM, c5, ef, sgT, kI, kJ, sgN, Option.map_some, Option.bind_some, Option.map_none, bf, ls, bx, da, tyD, fM, fK, if_true, if_false, reduceIte, Bool.not_true, Bool.not_false, decide_true, decide_false, Bool.false_eq_true, dm, dJ]
 | n + 1, .lst xs, β, h => by
  have h' : xs.length <= sizeLine /\ ∀ x ∈ xs, okD n x := h
  have c := jt (rec := c8 (n + 1)) (β := β) xs fun x hx => kM n x β (h'.2 x hx)
  have hr : (List.replicate xs.length (D.bl true)).length <= sizeLine := by rw [List.length_replicate]; exact h'.1
  unfold c8 aN fw
  simp only [ao, cq, db, dD, aK, gIf, Pu.gNil, k8, k6, k7, k4, bB, kX, hNo, ad, fC, f1, f2, af, aa, aj, aA, fB, bF, iM, cG, bq, dj, fOr, la, fIf, ck, aF, bM, gA, de, cx, dS, M.bind, M.ret, M.ofO, M.fail, vw, vwA, stD, List.map_cons, List.map_nil, List.set_cons_zero, List.set_cons_succ, List.getD_cons_zero, List.getD_cons_succ, List.length_cons, List.length_nil, List.replicate_zero, List.replicate_succ, List.append_nil, List.cons_append, List.nil_append, Nat.sub_self, Nat.reduceSub, Nat.reduceAdd, Nat.reduceLT, Nat.reduceLeDiff, Int.reduceLT, Int.reduceLE, iU, gp, iN, iQ, lh, li, lj, ll, iS, gL, iT, iP, iR, iO, beq_self_eq_true, asB, gw, d8, iE, isN, eM, c5, ef, sgT, kI, kJ, sgN, Option.map_some, Option.bind_some, Option.map_none, bf, ls, bx, da, tyD, fM, fK, if_true, if_false, reduceIte, Bool.not_true, Bool.not_false, decide_true, decide_false, Bool.false_eq_true, dm, dJ, aJ, oU, dC, cSt, c, hr, inD, nQ, oI, cP, Bool.and_self]
 | n + 1, .tup xs, β, h => by
  have h' : xs.length <= sizeLine /\ ∀ x ∈ xs, okD n x := h
  have c := jt (rec := c8 (n + 1)) (β := β) xs fun x hx => kM n x β (h'.2 x hx)
  have hr : (List.replicate xs.length (D.bl true)).length <= sizeLine := by rw [List.length_replicate]; exact h'.1
  unfold c8 aN fw
  simp only [ao, cq, db, dD, aK, gIf, Pu.gNil, k8, k6, k7, k4, bB, kX, hNo, ad, fC, f1, f2, af, aa, aj, aA, fB, bF, iM, cG, bq, dj, fOr, la, fIf, ck, aF, bM, gA, de, cx, dS, M.bind, M.ret, M.ofO, M.fail, vw, vwA, stD, List.map_cons, List.map_nil, List.set_cons_zero, List.set_cons_succ, List.getD_cons_zero, List.getD_cons_succ, List.length_cons, List.length_nil, List.replicate_zero, List.replicate_succ, List.append_nil, List.cons_append, List.nil_append, Nat.sub_self, Nat.reduceSub, Nat.reduceAdd, Nat.reduceLT, Nat.reduceLeDiff, Int.reduceLT, Int.reduceLE, iU, gp, iN, iQ, lh, li, lj, ll, iS, gL, iT, iP, iR, iO, beq_self_eq_true, asB, gw, d8, iE, isN, eM, c5, ef, sgT, kI, kJ, sgN, Option.map_some, Option.bind_some, Option.map_none, bf, ls, bx, da, tyD, fM, fK, if_true, if_false, reduceIte, Bool.not_true, Bool.not_false, decide_true, decide_false, Bool.false_eq_true, dm, dJ, aJ, oU, dC, cSt, c, hr, inD, nQ, oI, cP, Bool.and_self]
 | 0, .lst _, _, h => h.elim
 | 0, .tup _, _, h => h.elim
 | _, .ty _, _, h => by cases ‹Nat› <;> exact h.elim
 | _, .txt, _, h => by cases ‹Nat› <;> exact h.elim
 | _, .scr _, _, h => by cases ‹Nat› <;> exact h.elim
 | 0, .obj _ _ _, _, h => h.elim
 | _ + 1, .obj _ _ _, _, h => h.elim
 | _, .bag, _, h => by cases ‹Nat› <;> exact h.elim
 | 0, .adr _, _, h => h.elim
 | _ + 1, .adr _, _, h => h.elim
end L2.Pu
namespace L2.Pu
open PySem PySem.Spec
theorem oP {nv : Nat} {caps : List Nat} {it : FL} {tg : TgF} {tt : Dn -> M Bool} {b : FL} {δ : Dn} {β β1 β2 : Bg} {ds os : List D} (h1 : it δ β = some (.ok ds, β1)) (h2 : cLp tg tt b ds (cSt nv caps δ) β1 = some (.ok os, β2)) (h3 : os.length <= sizeLine) : aJ nv caps it tg tt b δ β = some (.ok (.lst os), β2) := by
 unfold aJ
 simp only [h1, h2, h3, if_true]
def plD : Nat -> D -> Prop
 | _, .int _ => True
 | _, .bl _ => True
 | _, .non => True
 | n + 1, .lst xs => ∀ x ∈ xs, plD n x
 | n + 1, .tup xs => ∀ x ∈ xs, plD n x
 | _, _ => False
theorem uF : ∀ (n : Nat) (d : D), plD n d -> ∃ p, toP d = some p /\ p.canLay0 = true /\ p.depth <= n + 1 := by
 have many : ∀ (n : Nat) (xs : List D), (∀ x ∈ xs, ∃ p, toP x = some p /\ p.canLay0 = true /\ p.depth <= n) -> ∃ ps, toPs xs = some ps /\ PyData.canLayAll0 ps = true /\ PyData.depthAll ps <= n := by
  intro n xs
  induction xs with
  | nil => intro _; exact ⟨[], rfl, rfl, by simp [PyData.depthAll]⟩
  | cons x xs ih =>
   intro h
   obtain ⟨p, h1, h2, h3⟩ := h x List.mem_cons_self
   obtain ⟨ps, g1, g2, g3⟩ := ih fun y hy => h y (List.mem_cons_of_mem _ hy)
   refine ⟨p :: ps, ?_, ?_, ?_⟩
   ·unfold toPs; simp only [h1, g1]
   ·simp [PyData.canLayAll0, h2, g2]
   ·simp only [PyData.depthAll]; omega
 intro n
 induction n with
 | zero =>
  intro d h
  cases d with
  | int i => exact ⟨.int i, rfl, rfl, by simp [PyData.depth]⟩
  | bl i => exact ⟨.bool i, rfl, rfl, by simp [PyData.depth]⟩
  | non => exact ⟨.none, rfl, rfl, by simp [PyData.depth]⟩
  | _ => exact h.elim
 | succ n ih =>
  intro d h
  cases d with
  | int i => exact ⟨.int i, rfl, rfl, by simp [PyData.depth]⟩
  | bl i => exact ⟨.bool i, rfl, rfl, by simp [PyData.depth]⟩
  | non => exact ⟨.none, rfl, rfl, by simp [PyData.depth]⟩
  | lst xs =>
   obtain ⟨ps, g1, g2, g3⟩ := many (n + 1) xs fun x hx => ih x (h x hx)
   exact ⟨.list ps, by unfold toP; simp [g1], by simp [PyData.canLay0, g2], by simp only [PyData.depth]; omega⟩
  | tup xs =>
   obtain ⟨ps, g1, g2, g3⟩ := many (n + 1) xs fun x hx => ih x (h x hx)
   exact ⟨.tuple ps, by unfold toP; simp [g1], by simp [PyData.canLay0, g2], by simp only [PyData.depth]; omega⟩
  | _ => exact h.elim
theorem nL {d : D} (n : Nat) (h : plD n d) (hn : n <= 60) : pQ d = true := by
 obtain ⟨p, h1, h2, h3⟩ := uF n d h
 unfold pQ
 simp only [h1, SeqAt.shaped, h2, Bool.true_and, decide_eq_true_eq]
 omega
end L2.Pu
namespace L2.Pu
open PySem PySem.Spec PyProof.Rows
section
variable {X : Cx} {E : St -> XK} {K : Frag} {a b : Expr} {es : List Expr} {pos : Pos}
theorem To.none {F : Fx} {H H1 : Hp} {β1 : Bg} {p : Addr} (t : To F H H1 β1) (h : H1 p = none) : H p = none := by
 cases q : H p with
 | none => rfl
 | some o =>
  have : H1 p = some o := t.kp p o q fun b l e => by
   obtain ⟨z1, z2⟩ := t.fr.bag b l e
   exact ⟨fun w => (by subst w; rw [z1] at h; cases h), fun w => (by subst w; rw [z2] at h; cases h)⟩
  rw [this] at h; cases h
def Fx.but (F : Fx) (a : Addr) : Fx := ⟨fun c => F.A c \/ c = a, F.bg⟩
theorem Fx.tr_but {F : Fx} {H H1 : Hp} {β1 : Bg} {p : Addr} (fr : Fr F H β1) (hp : H p = none) (hs : ∀ c o, H c = some o -> H1 c = some o) : Tr F H (F.but p) H1 := ⟨fun c h1 h2 z => by
 rcases z with z | z
 ·exact h1 z
 ·subst z; exact h2 hp, fun c o _ h => hs c o h, rfl⟩
theorem Fx.tr_of {F : Fx} {H : Hp} {p : Addr} : Tr (F.but p) H F H := ⟨fun c h _ z => h (Or.inl z), fun _ _ _ h => h, rfl⟩
def bR (K : Frag) (F : Fx) (H0 H : Hp) (ds : List D) (v : V) : Prop := ∃ a xs, v = .ref a /\ H0 a = none /\ H a = some (.lst xs) /\ DenL K (F.but a) H ds xs
def tVO (K : Frag) (f : FL) (E : St -> XK) : TE := fun σ H Q => ∃ F δ β, Fr F H β /\ VOk K F H δ σ /\ run (bR K F H) F E σ (f δ) H Q β
def tVG (K : Frag) (f : Dn -> M (List (List D))) (E : St -> XK) : TE := fun σ H Q => ∃ F δ β, Fr F H β /\ VOk K F H δ σ /\ run (cJ K F H) F E σ (f δ) H Q β
def szL (ds : List D) : Option (List D) := if ds.length <= sizeLine then some ds else none
def fi (op : List D -> Option (List D)) (g : FL) : FL := fun δ => M.bind (g δ) fun ds => M.ofO (op ds)
theorem bR.new {F : Fx} {H H1 : Hp} {β1 : Bg} {p : Addr} {ds : List D} {xs : List V} (t : To F H H1 β1) (hp : H1 p = none) (hd : DenL K F H1 ds xs) : bR K F H (upd H1 p (.lst xs)) ds (.ref p) :=
 ⟨p, xs, rfl, t.none hp, ai, DenL.tr (Fx.tr_but t.fr hp fun c o h => by rw [upd_ne (ne_of_none h hp)]; exact h) _ _ hd⟩
def ub (K : Frag) (r : List V -> Hp -> VK -> Prop) (op : List D -> Option (List D)) : Prop := ∀ (F : Fx) (H0 H : Hp) (β : Bg) (Q : VK) (ds os : List D) (vs : List V), To F H0 H β -> DenL K F H ds vs -> op ds = some os ->
 (∀ v H', To F H H' β -> bR K F H0 H' os v -> Q v H') -> r vs H Q
theorem jm {x : Str} {p : Pos} {T : String} {r : List V -> Hp -> VK -> Prop} {op : List D -> Option (List D)} {g : FL} {e : Expr} (hc : bt X (.type T) r) (l : ub X.K r op) (hg : Gl X x) (hm : X.mg x = none) (hv : bootBuiltins x = some (.type T)) (ha : PA X (e :: es) (tVA X.K g E)) (hn : x ≠ "__name__" := by decide) (hdb : (x == ("__debug__" : Str)) = false := by decide)
  (he : starEach (e :: es) X.env = (false, eval e X.env) :: starEach es X.env := by rfl) (hpl : (backTo pos (starEach es X.env)).any (·.1) = false := by rfl) : PE X (.Call (.Name x p) (e :: es) [] pos) (tVO X.K (fi op g) E) :=
 (h8 hc hg hm hv ha hn hdb he hpl).imp fun σ H Q h_ => ex6 h_ fun F δ β fr vk h => ⟨F, δ, β, fr, vk, (run.bind (R := DenL X.K F) h).mono fun vs H1 h_ => by
  obtain ⟨ds, β1, t, hd, r1⟩ := h_
  obtain ⟨d3, e3, k⟩ := run.ofO r1
  exact l F H H1 β1 Q ds d3 vs t hd e3 k⟩
def ei : List D -> Option (List D)
 | [.lst xs] => some xs
 | [.tup xs] => some xs
 | _ => none
theorem kU : ub K (fun xs H Q => ∃ p ys, xs = [.ref p] /\ (SqL K H p ys \/ SqT K H p ys) /\ ∀ l, H l = none -> Q (.ref l) (upd H l (.lst ys))) ei := fun F H0 H β Q ds os vs t h e k => by
 unfold ei at e
 split at e
 ·cases e
  obtain ⟨v, rfl, g⟩ := DenL.one h
  obtain ⟨a, xs, rfl, r, dl⟩ := Den.sqL g
  exact ⟨a, xs, rfl, .inl r, fun l hl => k _ _ (t.fr.upd _ hl) (bR.new t hl dl)⟩
 ·cases e
  obtain ⟨v, rfl, g⟩ := DenL.one h
  obtain ⟨a, xs, rfl, r, dl⟩ := Den.sqT g
  exact ⟨a, xs, rfl, .inr r, fun l hl => k _ _ (t.fr.upd _ hl) (bR.new t hl dl)⟩
 ·cases e
theorem DenL.rep {F : Fx} {H : Hp} {ds : List D} {xs : List V} (h : DenL K F H ds xs) : ∀ n : Nat, DenL K F H (List.replicate n ds).flatten (List.replicate n xs).flatten
 | 0 => rfl
 | n + 1 => by
  rw [List.replicate_succ, List.flatten_cons, List.replicate_succ, List.flatten_cons]
  exact DenL.append h (DenL.rep h n)
def mW (ds : List D) (d : D) : Option (List D) := match d with
 | .int k => if (decide (-(2 ^ 63) <= k) && decide (k < 2 ^ 63) && decide (ds.length <= sizeLine) && decide (ds.length * k.toNat <= sizeLine)) = true then some (List.replicate k.toNat ds).flatten else none
 | _ => none
def pz (g : FL) (f : FD) : FL := fun δ => M.bind (g δ) fun ds => M.bind (M.ofO (szL ds)) fun ds => M.bind (f δ) fun d => M.ofO (mW ds d)
theorem ye {g : FL} {f : FD} {pos' : Pos} (ha : PA X es (tVA X.K g E)) (hb : PE X b (tV X.K f E)) : PE X (.BinOp (.List es pos') .Mult b pos) (tVO X.K (pz g f) E) :=
 (bZ wk (f9 ha) hb).imp fun σ H Q h_ => ex6 h_ fun F δ β fr vk r => ⟨F, δ, β, fr, vk, (run.bind (R := DenL X.K F) r).mono fun vs H1 h_ => by
  obtain ⟨ds, β1, t, hd, r1⟩ := h_
  obtain ⟨ds', e3, r2⟩ := run.ofO_bind r1
  unfold szL at e3
  split at e3
  ·rename_i hz
   cases e3
   refine ⟨by rw [← hd.length]; exact hz, fun p hp => ?_⟩
   have t1 := t.fr.upd (.lst vs) hp
   have hA := t.fr.fresh hp
   refine ⟨F, δ, β1, t1.fr, (vk.tr (t.tr fr)).tr (t1.tr t.fr), ?_⟩
   obtain ⟨rr, β2, e, h⟩ := r2
   have r2' : run (bR X.K F H) F E σ (M.bind (f δ) fun d => M.ofO (mW ds d)) (upd H1 p (.lst vs)) Q β1 := by
    refine ⟨rr, β2, e, ?_⟩
    cases rr with
    | ok d => exact fun v H' t2 => h v H' (t1.trans t2)
    | error C => exact fun H' t2 => h H' (t1.trans t2)
   refine (run.bind (R := Den X.K F) r2').mono fun w H2 h_ => ex5 h_ fun d β3 t2 hw r3 => ?_
   obtain ⟨os, e4, k⟩ := run.ofO r3
   unfold mW at e4
   split at e4
   ·split at e4
    ·rename_i kk hk
     cases e4
     simp only [Bool.and_eq_true, decide_eq_true_eq] at hk
     cases hw
     have hp2 : H2 p = some (.lst vs) := t2.kp p _ ai fun b l q => ⟨fun z => hA (z ▸ (fr.bgA b l q).1), fun z => hA (z ▸ (fr.bgA b l q).2.1)⟩
     have tt := t1.trans t2
     exact ⟨p, _, vs, rfl, rfl, hp2, hk.1.1.1, hk.1.1.2, by rw [← hd.length]; exact hk.2, fun q hq => k _ _ (t2.fr.upd _ hq) (bR.new (t.trans tt) hq ((DenL.tr (tt.tr t.fr) _ _ hd).rep _))⟩
    ·cases e4
   ·cases e4
  ·cases e3⟩
def d6 (nv : Nat) (caps : List Nat) (it : Dn -> M (List Pu.D)) (tg : TgF) (tt : Dn -> M Bool) (b : Dn -> M (List Pu.D)) : Dn -> M (List Pu.D) := fun δ β => match it δ β with
 | none => none
 | some (.error C, β1) => some (.error C, β1)
 | some (.ok ds, β1) => match cLp tg tt b ds (cSt nv caps δ) β1 with
  | some (.ok os, β2) => if os.length <= sizeLine then some (.ok os, β2) else none
  | _ => none
theorem qd {vars : List Str} {caps : List Nat} {it : Dn -> M (List Pu.D)} {g : TG} {tg : TgF} {tt : Dn -> M Bool} {tb : Addr -> TB} {b : Dn -> M (List Pu.D)} (hg : cR K g tg) (sg : dQ tg) (hb : ∀ D, fD K D (tb D) b) {σ : St} {H : Hp} {Q : VK} (h : tVO K (d6 vars.length caps it tg tt b) E σ H Q) :
  jE vars caps (iV K it E) (fun D J => dg J g (tVT K tt E0) (tb D)) σ H Q := by
 obtain ⟨F, δ, β, fr, vk, r, β', e, h⟩ := h
 unfold d6 at e
 refine ⟨F, δ, β, fr, vk, ?_⟩
 split at e
 ·cases e
 ·rename_i C β1 q
  cases e
  exact ⟨.error C, _, q, h⟩
 ·rename_i ds β1 q
  split at e
  ·rename_i os β2 q2
   split at e
   ·rename_i hz
    cases e
    refine ⟨.ok ds, β1, q, fun J H1 t hJ D hD => ?_⟩
    have hDA : ¬ F.A D := t.fr.fresh hD
    have nb : ∀ b l, F.bg = some (b, l) -> D ≠ b /\ D ≠ l := fun b l z => ⟨fun w => hDA (w ▸ (fr.bgA b l z).1), fun w => hDA (w ▸ (fr.bgA b l z).2.1)⟩
    have t2 := t.fr.upd (.lst []) hD
    have fr2 : Fr ⟨fun a => F.A a \/ a = D, F.bg⟩ (upd H1 D (.lst [])) β1 := by
     refine ⟨fun a ha z => ?_, fun b l z => let ⟨x, y, w⟩ := fr.bgA b l z; ⟨.inl x, .inl y, w⟩, t2.fr.bag⟩
     rcases ha with ha | ha
     ·exact t2.fr.occ a ha z
     ·subst ha; rw [ai] at z; cases z
    have tr2 : Tr F H1 ⟨fun a => F.A a \/ a = D, F.bg⟩ (upd H1 D (.lst [])) := ⟨fun a ha hs z => by
     rcases z with z | z
     ·exact ha z
     ·subst z; exact hs hD, fun a o ha z => by rw [upd_ne (ne_of_none z hD)]; exact z, rfl⟩
    refine kW (D := D) (as := []) (os := os) hg sg (hb D) fr2 (.inr rfl) nb (nP (vk.tr ((t.tr fr).trans tr2))) ai rfl (hJ.tr tr2) q2 (by simpa using hz) fun σ1 H2 acc1 t3 vk3 hD3 hd3 => ?_
    have tf : To F H1 H2 β' := by
     refine ⟨fun a o z n => t3.kp a o (by rw [upd_ne (ne_of_none z hD)]; exact z) (ne_of_none z hD) n, fun a ha z => t3.fr.occ a (Or.inl ha) z, fr.bgA, t3.fr.bag⟩
    exact h _ H2 (t.trans tf) ⟨D, acc1, rfl, t.none hD, hD3, hd3⟩
   ·cases e
  ·cases e
def ju (tg : TgF) (tt : Dn -> M Bool) (b : Dn -> M (List (List Pu.D))) : List Pu.D -> Dn -> M (List (List Pu.D))
 | [], _ => M.ret []
 | d :: ds, δ => match tg d δ with
  | none => M.fail
  | some δ1 => M.bind (tt δ1) fun c => M.bind (if c = true then b δ1 else M.ret []) fun o => M.bind (ju tg tt b ds δ) fun os => M.ret (o ++ os)
def RwA (K : Frag) (F : Fx) (D : Addr) (H0 H : Hp) (as : List (List Pu.D)) (acc : List V) : Prop := (∀ c, H0 c ≠ none -> H c ≠ none) /\ ∃ rs, acc = rs.map V.ref /\ (D :: rs).Nodup /\ RowL K F H (fun r => H0 r = none) as rs
theorem RwA.mono {F : Fx} {D : Addr} {H0 H H1 : Hp} {β β1 : Bg} {as : List (List Pu.D)} {acc : List V} (hA : F.A D) (h0 : ∀ b l, F.bg = some (b, l) -> H0 b ≠ none /\ H0 l ≠ none) (fr : Fr F H β) (t : ToD F D H H1 β1) (h : RwA K F D H0 H as acc) : RwA K F D H0 H1 as acc := by
 obtain ⟨cv, rs, e, nd, rl⟩ := h
 refine ⟨fun c hc z => ?_, rs, e, nd, RowL.tr (t.tr fr hA) rl fun r xs hr p q => ⟨p, t.kp r _ q (fun z => ?_) fun b l w => ⟨fun z => ?_, fun z => ?_⟩⟩⟩
 ·cases q : H c with
  | none => exact cv c hc q
  | some o =>
   by_cases hd : c = D
   ·subst hd; exact t.fr.occ _ hA z
   ·by_cases hb : ∃ b l, F.bg = some (b, l) /\ (c = b \/ c = l)
    ·obtain ⟨b, l, w, hcb⟩ := hb
     rcases hcb with rfl | rfl
     ·exact t.fr.occ _ (fr.bgA _ _ w).1 z
     ·exact t.fr.occ _ (fr.bgA _ _ w).2.1 z
    ·rw [t.kp c o q hd fun b l w => ⟨fun y => hb ⟨b, l, w, .inl y⟩, fun y => hb ⟨b, l, w, .inr y⟩⟩] at z
     cases z
 ·subst z; exact (List.nodup_cons.mp nd).1 hr
 ·subst z; exact (h0 _ _ w).1 p
 ·subst z; exact (h0 _ _ w).2 p
def kC (K : Frag) (D : Addr) (tb : TB) (f : Dn -> M (List (List Pu.D))) : Prop := ∀ (F : Fx) (H0 H : Hp) (δ : Dn) (β β' : Bg) (σ : St) (acc : List V) (as os : List (List Pu.D)) (Q : St -> Hp -> Prop), Fr F H β -> F.A D -> (∀ b l, F.bg = some (b, l) -> D ≠ b /\ D ≠ l) -> (∀ b l, F.bg = some (b, l) -> H0 b ≠ none /\ H0 l ≠ none) -> VOk K F H δ σ -> H D = some (.lst acc) -> RwA K F D H0 H as acc ->
 f δ β = some (.ok os, β') -> as.length + os.length <= sizeLine -> (∀ σ1 H1 acc1, ToD F D H H1 β' -> VOk K F H1 δ σ1 -> H1 D = some (.lst acc1) -> RwA K F D H0 H1 (as ++ os) acc1 -> Q σ1 H1) -> tb σ H Q
def fQ (f : Dn -> M (List Pu.D)) : Dn -> M (List (List Pu.D)) := fun δ => M.bind (f δ) fun d => M.ret [d]
theorem RowL.snoc {F : Fx} {H : Hp} {P : Addr -> Prop} {ds : List Pu.D} {r : Addr} {xs : List V} (p : P r) (h1 : H r = some (.lst xs)) (h2 : DenL K F H ds xs) : ∀ {rows : List (List Pu.D)} {rs : List Addr}, RowL K F H P rows rs -> RowL K F H P (rows ++ [ds]) (rs ++ [r])
 | [], [], _ => ⟨p, ⟨xs, h1, h2⟩, trivial⟩
 | _ :: _, _ :: _, h => ⟨h.1, h.2.1, RowL.snoc p h1 h2 h.2.2⟩
 | [], _ :: _, h => h.elim
 | _ :: _, [], h => h.elim
theorem iF {D : Addr} {f : Dn -> M (List Pu.D)} : kC K D (pY D (tVO K f E0)) (fQ f) := fun F H0 H δ β β' σ acc as os Q fr hA hb h0 vk hD hd e hz k => by
 obtain ⟨d, β1, e1, e2⟩ := M.bind_inv e
 cases e2
 refine ⟨F, δ, β, fr, vk, E0.run e1 fun v H1 t hv => ?_⟩
 have hD1 := t.kp D _ hD hb
 have hd1 := hd.mono hA h0 fr (t.toD D)
 obtain ⟨r, xs, rfl, n0, n1, n2⟩ := hv
 obtain ⟨cv, rs, ea, nd, rl⟩ := hd1
 obtain ⟨cv0, rs0, ea0, nd0, rl0⟩ := hd
 have hlen : acc.length = as.length := by rw [ea, List.length_map, rl.len]
 have ers : rs0 = rs := by
  have : rs0.map V.ref = rs.map V.ref := ea0.symm.trans ea
  exact List.map_inj_right (fun a b q => by cases q; rfl) |>.mp this
 subst ers
 have nD : r ≠ D := fun z => by subst z; rw [hD] at n0; cases n0
 have nr : r ∉ rs0 := fun z => by
  obtain ⟨_, ys, q⟩ := rl0.all r z
  rw [q] at n0; cases n0
 have h0r : H0 r = none := by
  cases q : H0 r with
  | none => rfl
  | some o => exact absurd n0 (cv0 r (by rw [q]; simp))
 refine ⟨acc, hD1, by rw [hlen]; simp at hz; omega, ?_⟩
 have tD : ToD F D H1 (upd H1 D (.lst (acc ++ [.ref r]))) β' := by
  refine ⟨fun a o h n _ => by rw [upd_ne n]; exact h, fun a h q => ?_, fr.bgA, fun b l q => ?_⟩
  ·by_cases z : a = D
   ·subst z; rw [ai] at q; cases q
   ·rw [upd_ne z] at q; exact t.fr.occ a h q
  ·rw [upd_ne (hb b l q).1.symm, upd_ne (hb b l q).2.symm]
   exact t.fr.bag b l q
 have tt := tD.tr t.fr hA
 refine k σ _ _ ((t.toD D).trans tD) (vk.tr ((t.tr fr).trans tt)) ai (RwA.mono hA h0 t.fr tD ⟨cv, rs0 ++ [r], by rw [ea, List.map_append]; rfl, ?_, RowL.snoc h0r n1 (DenL.tr Fx.tr_of _ _ n2) rl⟩)
 rw [← List.cons_append, List.nodup_append]
 refine ⟨nd0, by simp, fun x hx y hy => ?_⟩
 obtain rfl : y = r := by simpa using hy
 rcases List.mem_cons.mp hx with rfl | hx
 ·exact nD.symm
 ·exact fun z => nr (z ▸ hx)
end
section
variable {X : Cx} {E : St -> XK} {K : Frag}
theorem uV {D : Addr} {J : It} {g : TG} {tg : TgF} {tt : Dn -> M Bool} {tb : TB} {b : Dn -> M (List (List Pu.D))} (hg : cR K g tg) (sg : dQ tg) (hb : kC K D tb b) {F : Fx} {H0 H : Hp} {δ : Dn} {β β' : Bg} {σ : St} {acc : List V} {as os : List (List Pu.D)} {ds : List Pu.D} {Q : St -> Hp -> Prop} (fr : Fr F H β) (hA : F.A D) (hn : ∀ b l, F.bg = some (b, l) -> D ≠ b /\ D ≠ l) (h0 : ∀ b l, F.bg = some (b, l) -> H0 b ≠ none /\ H0 l ≠ none) (vk : VOk K F H δ σ) (hD : H D = some (.lst acc)) (hd : RwA K F D H0 H as acc)
  (it : ItD K J F H ds) (e : ju tg tt b ds δ β = some (.ok os, β')) (hz : as.length + os.length <= sizeLine) (k : ∀ σ1 H1 acc1, ToD F D H H1 β' -> VOk K F H1 δ σ1 -> H1 D = some (.lst acc1) -> RwA K F D H0 H1 (as ++ os) acc1 -> Q σ1 H1) : dg J g (tVT K tt E0) tb σ H Q := by
 refine ⟨fun i m σ1 H1 => m + i = ds.length /\ ∃ β1 acc1 as1 os1, ToD F D H H1 β1 /\ VOk K F H1 δ σ1 /\ H1 D = some (.lst acc1) /\ RwA K F D H0 H1 as1 acc1 /\ ju tg tt b (ds.drop i) δ β1 = some (.ok os1, β') /\ as1 ++ os1 = as ++ os,
  ⟨ds.length, by omega, β, acc, as, os, ⟨fun _ _ h _ _ => h, fr⟩, vk, hD, hd, e, rfl⟩, ?_⟩
 rintro i m σ1 H1 ⟨hm, β1, acc1, as1, os1, t1, vk1, hD1, hd1, e1, ea⟩
 have tr1 := t1.tr fr hA
 obtain ⟨iy, is⟩ := it F H1 β1 tr1 t1.fr i
 cases hi : ds[i]? with
 | none =>
  have hl : ds.length <= i := List.getElem?_eq_none_iff.mp hi
  rw [List.drop_eq_nil_of_le hl] at e1
  cases e1
  refine .inl ⟨is (by omega), k σ1 H1 acc1 t1 vk1 hD1 ?_⟩
  rw [← ea, List.append_nil]
  exact hd1
 | some d =>
  have hl : i < ds.length := (List.getElem?_eq_some_iff.mp hi).1
  obtain ⟨go, yl⟩ := iy d hi
  have ed : ds.drop i = d :: ds.drop (i + 1) := by
   rw [List.drop_eq_getElem_cons hl]
   congr 1
   exact Option.some.inj ((List.getElem?_eq_getElem hl).symm.trans hi)
  rw [ed] at e1
  unfold ju at e1
  cases q : tg d δ with
  | none => rw [q] at e1; cases e1
  | some δ1 =>
   rw [q] at e1
   obtain ⟨c, β2, e2, e3⟩ := M.bind_inv e1
   obtain ⟨o, β3, e4, e5⟩ := M.bind_inv e3
   obtain ⟨os2, β4, e6, e7⟩ := M.bind_inv e5
   cases e7
   obtain ⟨s1, s2⟩ := sg _ _ _ q
   refine .inr ⟨go, fun σ9 H9 => ∃ acc9, ToD F D H H9 β3 /\ VOk K F H9 δ σ9 /\ H9 D = some (.lst acc9) /\ RwA K F D H0 H9 (as1 ++ o) acc9, ?_, fun x H2 hy => ?_⟩
   ·rintro σ9 H9 ⟨acc9, t9, vk9, hD9, hd9⟩
    exact ⟨m - 1, by omega, by omega, β3, acc9, as1 ++ o, os2, t9, vk9, hD9, hd9, e6, by rw [List.append_assoc]; exact ea⟩
   ·obtain ⟨sm, dx⟩ := yl x H2 hy
    have t2 : To F H1 H2 β1 := t1.fr.same sm
    have tr2 := t2.tr t1.fr
    refine hg F H2 δ δ1 σ1 d x _ (vk1.tr tr2) dx q fun σ2 vk2 => ⟨F, δ1, β1, t2.fr, vk2, E0.run e2 fun c' H3 t3 ec => ?_⟩
    subst ec
    have hD2 := sm _ _ hD1
    have hD3 := t3.kp D _ hD2 hn
    have tr3 := t3.tr t2.fr
    have d3 := (hd1.mono hA h0 t1.fr (t2.toD D)).mono hA h0 t2.fr (t3.toD D)
    have tt3 : ToD F D H H3 β2 := t1.trans ((t2.trans t3).toD D)
    have hle : as1.length + (o ++ os2).length <= sizeLine := by
     have := congrArg List.length ea
     simp only [List.length_append] at this ⊢
     omega
    cases c' with
    | true =>
     rw [if_pos rfl] at e4 ⊢
     refine hb F H0 H3 δ1 β2 β3 σ2 acc1 as1 o _ t3.fr hA hn h0 (vk2.tr tr3) hD3 d3 e4 (by rw [List.length_append] at hle; omega) fun σ4 H4 acc4 t4 vk4 hD4 hd4 => ?_
     exact ⟨acc4, tt3.trans t4, vk4.sub s1 s2, hD4, hd4⟩
    | false =>
     rw [if_neg Bool.false_ne_true] at e4 ⊢
     cases e4
     exact ⟨acc1, tt3, (vk2.tr tr3).sub s1 s2, hD3, by rw [List.append_nil]; exact d3⟩
def cj (nv : Nat) (caps : List Nat) (it : Dn -> M (List Pu.D)) (tg : TgF) (tt : Dn -> M Bool) (b : Dn -> M (List (List Pu.D))) : Dn -> M (List (List Pu.D)) := fun δ β => match it δ β with
 | none => none
 | some (.error C, β1) => some (.error C, β1)
 | some (.ok ds, β1) => match ju tg tt b ds (cSt nv caps δ) β1 with
  | some (.ok os, β2) => if os.length <= sizeLine then some (.ok os, β2) else none
  | _ => none
theorem lA {vars : List Str} {caps : List Nat} {it : Dn -> M (List Pu.D)} {g : TG} {tg : TgF} {tt : Dn -> M Bool} {tb : Addr -> TB} {b : Dn -> M (List (List Pu.D))} (hg : cR K g tg) (sg : dQ tg) (hb : ∀ D, kC K D (tb D) b) {σ : St} {H : Hp} {Q : VK} (h : tVG K (cj vars.length caps it tg tt b) E σ H Q) :
  jE vars caps (iV K it E) (fun D J => dg J g (tVT K tt E0) (tb D)) σ H Q := by
 obtain ⟨F, δ, β, fr, vk, r, β', e, h⟩ := h
 unfold cj at e
 refine ⟨F, δ, β, fr, vk, ?_⟩
 split at e
 ·cases e
 ·rename_i C β1 q
  cases e
  exact ⟨.error C, _, q, h⟩
 ·rename_i ds β1 q
  split at e
  ·rename_i os β2 q2
   split at e
   ·rename_i hz
    cases e
    refine ⟨.ok ds, β1, q, fun J H1 t hJ D hD => ?_⟩
    have hDA : ¬ F.A D := t.fr.fresh hD
    have nb : ∀ b l, F.bg = some (b, l) -> D ≠ b /\ D ≠ l := fun b l z => ⟨fun w => hDA (w ▸ (fr.bgA b l z).1), fun w => hDA (w ▸ (fr.bgA b l z).2.1)⟩
    have t2 := t.fr.upd (.lst []) hD
    have fr2 : Fr ⟨fun a => F.A a \/ a = D, F.bg⟩ (upd H1 D (.lst [])) β1 := by
     refine ⟨fun a ha z => ?_, fun b l z => let ⟨x, y, w⟩ := fr.bgA b l z; ⟨.inl x, .inl y, w⟩, t2.fr.bag⟩
     rcases ha with ha | ha
     ·exact t2.fr.occ a ha z
     ·subst ha; rw [ai] at z; cases z
    have tr2 : Tr F H1 ⟨fun a => F.A a \/ a = D, F.bg⟩ (upd H1 D (.lst [])) := ⟨fun a ha hs z => by
     rcases z with z | z
     ·exact ha z
     ·subst z; exact hs hD, fun a o ha z => by rw [upd_ne (ne_of_none z hD)]; exact z, rfl⟩
    have cv : ∀ c, H c ≠ none -> upd H1 D (.lst []) c ≠ none := fun c hc z => by
     by_cases w : c = D
     ·subst w; rw [ai] at z; cases z
     ·rw [upd_ne w] at z; exact hc (t.none z)
    refine uV (D := D) (H0 := H) (as := []) (os := os) hg sg (hb D) fr2 (.inr rfl) nb (fun b l z => ⟨fr.occ _ (fr.bgA b l z).1, fr.occ _ (fr.bgA b l z).2.1⟩) (nP (vk.tr ((t.tr fr).trans tr2))) ai ⟨cv, [], rfl, by simp, trivial⟩ (hJ.tr tr2) q2 (by simpa using hz) fun σ1 H2 acc1 t3 vk3 hD3 hd3 => ?_
    have tf : To F H1 H2 β' := by
     refine ⟨fun a o z n => t3.kp a o (by rw [upd_ne (ne_of_none z hD)]; exact z) (ne_of_none z hD) n, fun a ha z => t3.fr.occ a (Or.inl ha) z, fr.bgA, t3.fr.bag⟩
    obtain ⟨_, rs, ea, nd, rl⟩ := hd3
    subst ea
    exact h _ H2 (t.trans tf) ⟨D, rs, rfl, t.none hD, hD3, nd, RowL.tr (F := ⟨fun a => F.A a \/ a = D, F.bg⟩) ⟨fun a ha _ z => ha (Or.inl z), fun a o _ z => z, rfl⟩ rl fun r xs _ p q => ⟨p, q⟩⟩
   ·cases e
  ·cases e
section
variable {elt target iter : Expr} {ifs : List Expr} {rest : List Comprehension} {scope : Scope} {pos : Pos} {Nc vars : List Str} {caps : List Nat} {g : TG} {tb : Addr -> TB}
theorem qC {it : FL} {tg : TgF} {tt : Dn -> M Bool} {b : FL} (hc : X.calm = true) (S : CmpScope X scope Nc vars caps) (hi : PI X target iter (iV X.K it E))
  (hb : ∀ (cl : List (Str × Addr)) (C : Addr) (fp : List Addr) (s : Shared) (H : Hp), PG (aW X Nc scope cl C fp s H) target g /\ eU (aW X Nc scope cl C fp s H) ifs (tVT X.K tt E0) /\ ∀ D, PB (aW X Nc scope cl C fp s H) elt (⟨target, iter, ifs, 0⟩ :: rest) scope pos 0 D (tb D))
  (lg : cR X.K g tg) (sg : dQ tg) (lb : ∀ D, fD X.K D (tb D) b) (hs : ∀ x, foldedSetIterable iter X.env x = pure x := by intro _; rfl) : PE X (.ListComp elt (⟨target, iter, ifs, 0⟩ :: rest) scope pos) (tVO X.K (d6 vars.length caps it tg tt b) E) :=
 (iC hc S hi hb hs).imp fun σ H Q h => qd lg sg lb h
theorem nu {it : FL} {tg : TgF} {tt : Dn -> M Bool} {b : Dn -> M (List (List D))} (hc : X.calm = true) (S : CmpScope X scope Nc vars caps) (hi : PI X target iter (iV X.K it E))
  (hb : ∀ (cl : List (Str × Addr)) (C : Addr) (fp : List Addr) (s : Shared) (H : Hp), PG (aW X Nc scope cl C fp s H) target g /\ eU (aW X Nc scope cl C fp s H) ifs (tVT X.K tt E0) /\ ∀ D, PB (aW X Nc scope cl C fp s H) elt (⟨target, iter, ifs, 0⟩ :: rest) scope pos 0 D (tb D))
  (lg : cR X.K g tg) (sg : dQ tg) (lb : ∀ D, kC X.K D (tb D) b) (hs : ∀ x, foldedSetIterable iter X.env x = pure x := by intro _; rfl) : PE X (.ListComp elt (⟨target, iter, ifs, 0⟩ :: rest) scope pos) (tVG X.K (cj vars.length caps it tg tt b) E) :=
 (iC hc S hi hb hs).imp fun σ H Q h => lA lg sg lb h
end
mutual
def noL : D -> Bool
 | .int _ => true
 | .bl _ => true
 | .str _ => true
 | .non => true
 | .tup ds => noLs ds
 | _ => false
def noLs : List D -> Bool
 | [] => true
 | d :: ds => noL d && noLs ds
end
mutual
theorem oF {F F2 : Fx} {H : Hp} (hF : ∀ c, F2.A c -> F.A c \/ ∃ xs, H c = some (.lst xs)) : ∀ (d : D) (v : V), noL d = true -> Den K F H d v -> Den K F2 H d v
 | .int i, v, _, h => h
 | .bl i, v, _, h => h
 | .str i, v, _, h => h
 | .non, v, _, h => h
 | .tup ds, v, n, h => by
  obtain ⟨a, xs, e, h1, h2⟩ := h
  refine ⟨a, xs, e, ?_, noLs_den hF ds xs (by simpa [noL] using n) h2⟩
  rcases h1 with ⟨h1, r⟩ | h1
  ·refine .inl ⟨fun z => ?_, r⟩
   rcases hF a z with z | ⟨ys, z⟩
   ·exact h1 z
   ·rcases r with r | ⟨o, r⟩ <;> rw [z] at r <;> cases r
  ·exact .inr h1
 | .lst _, _, n, _ => by simp [noL] at n
 | .scr _, _, n, _ => by simp [noL] at n
 | .ty _, _, n, _ => by simp [noL] at n
 | .txt, _, n, _ => by simp [noL] at n
 | .obj _ _ _, _, n, _ => by simp [noL] at n
 | .bag, _, n, _ => by simp [noL] at n
 | .adr _, _, n, _ => by simp [noL] at n
theorem noLs_den {F F2 : Fx} {H : Hp} (hF : ∀ c, F2.A c -> F.A c \/ ∃ xs, H c = some (.lst xs)) : ∀ (ds : List D) (xs : List V), noLs ds = true -> DenL K F H ds xs -> DenL K F2 H ds xs
 | [], xs, _, h => h
 | d :: ds, xs, n, h => by
  have n' : noL d = true /\ noLs ds = true := by simpa [noLs] using n
  obtain ⟨x, xr, e, h1, h2⟩ := h
  exact ⟨x, xr, e, oF hF d x n'.1 h1, noLs_den hF ds xr n'.2 h2⟩
end
theorem RowL.noL {F F2 : Fx} {H : Hp} {P P2 : Addr -> Prop} (hF : ∀ c, F2.A c -> F.A c \/ ∃ xs, H c = some (.lst xs)) : ∀ {rows : List (List D)} {rs : List Addr}, (∀ ds ∈ rows, noLs ds = true) -> RowL K F H P rows rs -> (∀ r ∈ rs, P2 r) -> RowL K F2 H P2 rows rs
 | [], [], _, _, _ => trivial
 | ds :: rows, r :: rs, n, h, p => by
  obtain ⟨h1, ⟨xs, h2, h3⟩, h4⟩ := h
  exact ⟨p r List.mem_cons_self, ⟨xs, h2, noLs_den hF _ _ (n ds List.mem_cons_self) h3⟩, RowL.noL hF (fun x hx => n x (List.mem_cons_of_mem _ hx)) h4 fun x hx => p x (List.mem_cons_of_mem _ hx)⟩
 | [], _ :: _, _, h, _ => h.elim
 | _ :: _, [], _, h, _ => h.elim
theorem SOk.newGrd {H₀ : Hp} {B : Ow} {bg : Option (Addr × Addr)} {H H' : Hp} {δ : Ds} {β β' : Bg} {σ : St} {i : Nat} {rows : List (List D)} {v : V} (ok : SOk K H₀ B bg H δ β σ) (t : To (FxB B bg) H H' β') (hn : ∀ ds ∈ rows, noLs ds = true) (hv : cJ K (FxB B bg) H H' rows v) :
  ∃ B', SOk K H₀ B' bg H' (δ.set i (some (.grd rows))) β' (σ.set i (some v)) /\ Stp B H B' H' := by
 classical
 obtain ⟨a, rs, rfl, n0, n1, nd, rl⟩ := hv
 have hno : ∀ c, c = a \/ c ∈ rs -> H c = none := fun c hc => by
  rcases hc with rfl | hc
  ·exact n0
  ·exact (rl.all c hc).1
 have hB : ∀ c, c = a \/ c ∈ rs -> B c = none := fun c hc => Classical.byContradiction fun z => ok.fr.occ c z (hno c hc)
 have nb : ∀ b l, bg = some (b, l) -> ¬ (b = a \/ b ∈ rs) /\ ¬ (l = a \/ l ∈ rs) := fun b l e => by
  obtain ⟨b1, b2⟩ := ok.bgt b l e
  exact ⟨fun z => (by rw [hB b z] at b1; cases b1), fun z => (by rw [hB l z] at b2; cases b2)⟩
 obtain ⟨ok2, s2⟩ := ok.to rfl t
 have stp : Stp B H (fun c => if c = a \/ c ∈ rs then some (i + 2) else B c) H' := by
  refine ⟨s2.kp, fun c hc => ?_, fun c o h n => ?_, s2.al⟩
  ·have : ¬ (c = a \/ c ∈ rs) := fun z => by rw [hB c z] at hc; rcases hc with hc | hc <;> cases hc
   simp only [if_neg this]
  ·have : ¬ (c = a \/ c ∈ rs) := fun z => by rw [hno c z] at h; cases h
   simp only [if_neg this]; exact n
 have tr : Tr (FxB B bg) H (FxB (fun c => if c = a \/ c ∈ rs then some (i + 2) else B c) bg) H' := stp.tr
 refine ⟨fun c => if c = a \/ c ∈ rs then some (i + 2) else B c, ⟨⟨fun c hc z => ?_, fun b l e => ?_, ok2.fr.bag⟩, fun b l e => ?_, by rw [List.length_set, List.length_set, ok.len], ok2.cov, fun c k hc => (by
  have hc' : (if c = a \/ c ∈ rs then some (i + 2) else B c) = some (k + 2) := hc
  by_cases z : c = a \/ c ∈ rs
  ·cases w : H₀ c with
   | none => rfl
   | some o => exact absurd (hno c z) (ok.cov c (by rw [w]; simp))
  ·rw [if_neg z] at hc'; exact ok.new c k hc'), fun c k hc => (by
  have hc' : (if c = a \/ c ∈ rs then some (i + 2) else B c) = some (k + 2) := hc
  by_cases z : c = a \/ c ∈ rs
  ·rcases z with rfl | z
   ·exact ⟨_, n1⟩
   ·exact (rl.all c z).2
  ·rw [if_neg z] at hc'; exact ok2.lst c k hc'), fun j s e => ?_⟩, stp⟩
 ·by_cases q : c = a \/ c ∈ rs
  ·rcases q with rfl | q
   ·rw [n1] at z; cases z
   ·obtain ⟨_, xs, w⟩ := rl.all c q
    rw [w] at z; cases z
  ·have hc' : (if c = a \/ c ∈ rs then some (i + 2) else B c) ≠ none := hc
   rw [if_neg q] at hc'
   exact ok2.fr.occ c hc' z
 ·obtain ⟨x1, x2⟩ := nb b l e
  obtain ⟨b1, b2⟩ := ok.bgt b l e
  refine ⟨?_, ?_, (ok.fr.bgA b l e).2.2⟩
  ·show (if b = a \/ b ∈ rs then some (i + 2) else B b) ≠ none
   rw [if_neg x1, b1]; simp
  ·show (if l = a \/ l ∈ rs then some (i + 2) else B l) ≠ none
   rw [if_neg x2, b2]; simp
 ·obtain ⟨x1, x2⟩ := nb b l e
  simp only [if_neg x1, if_neg x2]
  exact ok.bgt b l e
 ·rw [List.getElem?_set] at e
  rw [List.getElem?_set]
  by_cases q : i = j
  ·subst q
   rw [if_pos rfl] at e ⊢
   split at e
   ·rename_i hl
    cases e
    rw [if_pos (by rw [← ok.len]; exact hl)]
    refine ⟨_, rfl, a, rs, rfl, if_pos (.inl rfl), n1, nd, RowL.noL (F := FxB B bg) (fun c hc => ?_) hn rl fun r hr => if_pos (.inr hr)⟩
    have hc' : (if c = a \/ c ∈ rs then some (i + 2) else B c) ≠ none := hc
    by_cases w : c = a \/ c ∈ rs
    ·rcases w with rfl | w
     ·exact .inr ⟨_, n1⟩
     ·exact .inr (rl.all c w).2
    ·rw [if_neg w] at hc'
     exact .inl hc'
   ·cases e
  ·rw [if_neg q] at e ⊢
   obtain ⟨w, h1, h2⟩ := ok.tell j s e
   refine ⟨w, h1, ?_⟩
   cases s with
   | sh d => exact Den.tr tr _ _ h2
   | own cs =>
    obtain ⟨c, ys, e1, e2, e3, e4⟩ := h2
    have na : ¬ (c = a \/ c ∈ rs) := fun z => by rw [hno c z] at e3; cases e3
    exact ⟨c, ys, e1, by simp only [if_neg na]; exact e2, t.kp c _ e3 (fun b l z => ⟨fun y => (by subst y; rw [(ok.bgt _ _ z).1] at e2; cases e2), fun y => (by subst y; rw [(ok.bgt _ _ z).2] at e2; cases e2)⟩), DenL.tr tr _ _ e4⟩
   | grd rows2 =>
    obtain ⟨c, qs, e1, e2, e3, e4, e5⟩ := h2
    have na : ∀ c, H c ≠ none -> ¬ (c = a \/ c ∈ rs) := fun c hc z => hc (hno c z)
    have kk : ∀ c o, H c = some o -> B c = some (j + 2) -> H' c = some o := fun c o h1 h2 => t.kp c o h1 (fun b l z => ⟨fun y => (by subst y; rw [(ok.bgt _ _ z).1] at h2; cases h2), fun y => (by subst y; rw [(ok.bgt _ _ z).2] at h2; cases h2)⟩)
    exact ⟨c, qs, e1, by simp only [if_neg (na c (by rw [e3]; simp))]; exact e2, kk c _ e3 e2, e4, RowL.tr tr e5 fun r xs _ p y => ⟨by simp only [if_neg (na r (by rw [y]; simp))]; exact p, kk r _ y p⟩⟩
end
section
variable {X : Cx} {E : St -> XK} {K : Frag} {st : Stmt} {H₀ : Hp} {B : Ow} {bg : Option (Addr × Addr)} {H H' : Hp} {δ : Ds} {β β' : Bg} {σ : St}
def gG (i : Nat) (f : Dn -> M (List (List D))) : G := fun δ β => match f (vw δ) β with
 | some (.ok rows, β1) => if (rows.all noLs) = true then some (.nx (δ.set i (some (.grd rows))), β1) else none
 | some (.error C, β1) => some (.ex C δ, β1)
 | none => none
theorem ma {i : Nat} {f : Dn -> M (List (List D))} (h : PS X st (fG (tVG X.K f E) (cN i))) : PS X st (tG X.K X.H₀ (gG i f) E) := h.imp fun D σ H h_ => by
 obtain ⟨B, bg, δ, β, o, β', ok, e, q⟩ := h_
 refine ⟨FxB B bg, vw δ, β, ok.fr, ok.view, ?_⟩
 unfold gG at e
 split at e
 ·rename_i rows β1 e1
  split at e
  ·rename_i hn
   cases e
   refine ⟨.ok rows, _, e1, fun v H' t hd => ?_⟩
   obtain ⟨B', ok2, s2⟩ := ok.newGrd (i := i) t (fun ds hds => List.all_eq_true.mp hn ds hds) hd
   exact q _ _ _ s2 ok2
  ·cases e
 ·rename_i C β1 e1
  cases e
  refine ⟨.error C, _, e1, fun H' t => ?_⟩
  obtain ⟨ok2, s2⟩ := ok.to rfl t
  exact q _ B H' s2 ok2
 ·cases e
theorem RowL.put {F : Fx} {H : Hp} {P : Addr -> Prop} {r : Addr} {xs : List V} {ds : List D} (t : Tr F H F (upd H r (.lst xs))) (hd : DenL K F (upd H r (.lst xs)) ds xs) : ∀ {rows : List (List D)} {rs : List Addr} (j : Nat), RowL K F H P rows rs -> rs.Nodup -> rs[j]? = some r -> RowL K F (upd H r (.lst xs)) P (rows.set j ds) rs
 | d0 :: rows, r0 :: rs, 0, h, nd, e => by
  obtain rfl : r0 = r := by simpa using e
  have ne : ∀ r' ∈ rs, r' ≠ r0 := fun r' hr z => (List.nodup_cons.mp nd).1 (z ▸ hr)
  exact ⟨h.1, ⟨xs, ai, hd⟩, RowL.tr t h.2.2 fun r' ys hr p q => ⟨p, by rw [upd_ne (ne r' hr)]; exact q⟩⟩
 | d0 :: rows, r0 :: rs, j + 1, h, nd, e => by
  have e' : rs[j]? = some r := by simpa using e
  obtain ⟨h1, ⟨ys, h2, h3⟩, h4⟩ := h
  have ne : r0 ≠ r := fun z => (List.nodup_cons.mp nd).1 (z ▸ List.mem_of_getElem? e')
  exact ⟨h1, ⟨ys, by rw [upd_ne ne]; exact h2, DenL.tr t _ _ h3⟩, RowL.put t hd j h4 (List.nodup_cons.mp nd).2 e'⟩
 | [], [], _, _, _, e => by simp at e
 | [], _ :: _, _, h, _, _ => h.elim
 | _ :: _, [], _, h, _, _ => h.elim
theorem RowL.at {F : Fx} {H : Hp} {P : Addr -> Prop} : ∀ {rows : List (List D)} {rs : List Addr} {j : Nat} {ds : List D}, RowL K F H P rows rs -> rows[j]? = some ds -> ∃ r xs, rs[j]? = some r /\ P r /\ H r = some (.lst xs) /\ DenL K F H ds xs
 | d0 :: rows, r0 :: rs, 0, ds, h, e => by
  obtain rfl : d0 = ds := by simpa using e
  obtain ⟨h1, ⟨ys, h2, h3⟩, h4⟩ := h
  exact ⟨r0, ys, rfl, h1, h2, h3⟩
 | d0 :: rows, r0 :: rs, j + 1, ds, h, e => by
  obtain ⟨r, xs, e1, e2⟩ := RowL.at h.2.2 (j := j) (ds := ds) (by simpa using e)
  exact ⟨r, xs, by simpa using e1, e2⟩
 | [], [], _, _, _, e => by simp at e
 | [], _ :: _, _, _, h, _ => h.elim
 | _ :: _, [], _, _, h, _ => h.elim
theorem SOk.writeRow {i j : Nat} {a r : Addr} {rs : List Addr} {rows : List (List D)} {ds : List D} {xs ys : List V} (ok : SOk K H₀ B bg H δ β σ) (hs : σ[i]? = some (some (.ref a))) (hB : B a = some (i + 2)) (ha : H a = some (.lst (rs.map V.ref))) (nd : (a :: rs).Nodup) (rl : RowL K (FxB B bg) H (fun r => B r = some (i + 2)) rows rs) (hj : rs[j]? = some r) (hr : H r = some (.lst ys)) (hd : DenL K (FxB B bg) H ds xs) :
  SOk K H₀ B bg (upd H r (.lst xs)) (δ.set i (some (.grd (rows.set j ds)))) β σ /\ Stp B H B (upd H r (.lst xs)) := by
 have hrs : r ∈ rs := List.mem_of_getElem? hj
 have hBr : B r = some (i + 2) := (rl.all r hrs).1
 have stp : Stp B H B (upd H r (.lst xs)) := by
  refine ⟨fun c o h n => ?_, fun _ _ => rfl, fun _ _ _ n => n, fun c hc => ?_⟩
  ·rw [upd_ne]
   ·exact h
   ·intro z; subst z; rw [hBr] at n; rcases n with n | n <;> cases n
  ·by_cases z : c = r
   ·subst z; rw [ai]; simp
   ·rw [upd_ne z]; exact hc
 have tr : Tr (FxB B bg) H (FxB B bg) (upd H r (.lst xs)) := stp.tr
 refine ⟨⟨⟨fun c hc z => ?_, ok.fr.bgA, fun b l e => ?_⟩, ok.bgt, by rw [List.length_set, ok.len], fun a ha => stp.al a (ok.cov a ha), ok.new, fun c k hc => (by
  by_cases z : c = r
  ·subst z; exact ⟨xs, ai⟩
  ·rw [upd_ne z]; exact ok.lst c k hc), fun k s e => ?_⟩, stp⟩
 ·by_cases q : c = r
  ·subst q; rw [ai] at z; cases z
  ·rw [upd_ne q] at z; exact ok.fr.occ c hc z
 ·obtain ⟨b1, b2⟩ := ok.bgt b l e
  rw [upd_ne (fun z => by subst z; rw [hBr] at b1; cases b1), upd_ne (fun z => by subst z; rw [hBr] at b2; cases b2)]
  exact ok.fr.bag b l e
 ·rw [List.getElem?_set] at e
  by_cases q : i = k
  ·subst q
   rw [if_pos rfl] at e
   split at e
   ·cases e
    have nar : a ≠ r := fun z => (List.nodup_cons.mp nd).1 (z ▸ hrs)
    exact ⟨_, hs, a, rs, rfl, hB, by rw [upd_ne nar]; exact ha, nd, RowL.put tr (DenL.tr tr _ _ hd) j rl (List.nodup_cons.mp nd).2 hj⟩
   ·cases e
  ·rw [if_neg q] at e
   obtain ⟨v, h1, h2⟩ := ok.tell k s e
   refine ⟨v, h1, ?_⟩
   have na : ∀ c, B c = some (k + 2) -> c ≠ r := fun c e2 z => by subst z; rw [hBr] at e2; cases e2; exact q rfl
   cases s with
   | sh d => exact Den.tr tr _ _ h2
   | own cs =>
    obtain ⟨c, zs, e1, e2, e3, e4⟩ := h2
    exact ⟨c, zs, e1, e2, by rw [upd_ne (na c e2)]; exact e3, DenL.tr tr _ _ e4⟩
   | grd rows2 =>
    obtain ⟨c, qs, e1, e2, e3, e4, e5⟩ := h2
    exact ⟨c, qs, e1, e2, by rw [upd_ne (na c e2)]; exact e3, e4, RowL.tr tr e5 fun r zs _ p q => ⟨p, by rw [upd_ne (na r p)]; exact q⟩⟩
def gm (f : Dn -> M (List (List D))) : G := fun δ β => match f (vw δ) β with
 | some (.ok rows, β1) => some (.rg rows, β1)
 | some (.error C, β1) => some (.ex C δ, β1)
 | none => none
theorem oh {f : Dn -> M (List (List D))} {e : Expr} {pos : Pos} (h : PS X (.Return (some e) pos) (o8 (tVG X.K f E))) : PS X (.Return (some e) pos) (tG X.K X.H₀ (gm f) E) := h.imp fun D σ H h_ => by
 obtain ⟨B, bg, δ, β, o, β', ok, e, q⟩ := h_
 refine ⟨FxB B bg, vw δ, β, ok.fr, ok.view, ?_⟩
 unfold gm at e
 split at e
 ·rename_i rows β1 e1
  cases e
  refine ⟨.ok rows, _, e1, fun v H' t hd => ?_⟩
  obtain ⟨ok2, s2⟩ := ok.to rfl t
  have nw : ∀ c, H c = none -> X.H₀ c = none := fun c hc => by
   cases w : X.H₀ c with
   | none => rfl
   | some o => exact absurd hc (ok.cov c (by rw [w]; simp))
  obtain ⟨a, rs, rfl, n0, n1, nd, rl⟩ := hd
  exact q _ B H' s2 ok2.fr ⟨a, rs, rfl, nw a n0, n1, nd, RowL.tr (Tr.refl _ _) rl fun r xs _ p y => ⟨nw r p, y⟩⟩
 ·rename_i C β1 e1
  cases e
  refine ⟨.error C, _, e1, fun H' t => ?_⟩
  obtain ⟨ok2, s2⟩ := ok.to rfl t
  exact q _ B H' s2 ok2
 ·cases e
end
def spG (K : Frag) (n : Nat) (m : List D -> M (List (List D))) : Sp := fun vs H Q E => vs.length = n /\ ∃ F ds β, Fr F H β /\ DenL K F H ds vs /\ run (cJ K F H) F (fun _ => E) [] (m ds) H Q β
def gN (n : Nat) (g : G) : List D -> M (List (List D)) := fun ds β => match g (stD n ds) β with
 | some (.rg rows, β') => some (.ok rows, β')
 | some (.ex C _, β') => some (.error C, β')
 | _ => none
section
variable {P : Program} {w : World} {K : Frag} {mg : Str -> Option Value} {base : Heap}
theorem oJ {x qual : Str} {st : Stmt} {f : Addr} {fd : FuncData} {N ps : List Str} {k : Nat} (n m : Nat) (g : G) (F : FunD K x qual st f fd) (S : FnScope N ps (ak st)) (hn' : ps.length = n) (hm' : N.length = m)
  (hbody : ∀ (cdv : Value) (A : Around) (outer : List Env) (s : Shared) (H : Hp) (E : XK), Room k (A.deeper (envOfC qual (ak st) s.heap.objs.size f cdv)) ->
   PSs (bG (CXE P w) P w K mg base N qual (ak st) f cdv A outer s H E) (br st) (tG K H g (fun _ => E))) : FnOk P w K mg base (CXE P w) (k + 1) f fd ps (spG K n (gN m g)) := by
 subst hn' hm'
 refine F.okE S (fun vs H Q E h => h.1) fun cdv A outer s H vs Q E hr h => ?_
 obtain ⟨hl, F0, ds, β, fr, hd, r, β', e, h⟩ := h
 refine ⟨_, hbody cdv A outer s H E hr, ?_⟩
 obtain ⟨B, ok, hA, h1, hn⟩ := jI (N := N) fr hd
 have toF : ∀ {B' : Ow} {H' : Hp}, Stp B H B' H' -> Fr (FxB B' F0.bg) H' β' -> To F0 H H' β' /\ Tr (FxB B' F0.bg) H' F0 H' := fun {B' H'} s fr' => by
  have hs : ∀ a, F0.A a -> B' a ≠ none := fun a ha => by
   rw [s.tg a (hA a ha)]
   rcases hA a ha with z | z <;> rw [z] <;> simp
  refine ⟨⟨fun a o ha n => s.kp a o ha ?_, fun a ha => fr'.occ a (hs a ha), fun b l e => fr.bgA b l e, fr'.bag⟩, fun a ha _ z => ha (hs a z), fun _ _ _ h => h, rfl⟩
  cases q : B a with
  | none => exact .inl rfl
  | some t =>
   have := hA a (hn a (by rw [q]; simp))
   rcases this with z | z
   ·rw [q] at z; exact .inr z
   ·obtain ⟨b, l, e, w⟩ := h1 a z
    obtain ⟨n1, n2⟩ := n b l e
    rcases w with w | w
    ·exact absurd w n1
    ·exact absurd w n2
 unfold gN at e
 split at e
 ·rename_i d β1 e1
  cases e
  refine ⟨B, F0.bg, stD N.length ds, β, .rg d, β', ok, e1, fun v B' H' s fr' hv => ?_⟩
  obtain ⟨t1, t2⟩ := toF s fr'
  obtain ⟨a, rs, ev, n0, n1, nd, rl⟩ := hv
  exact h v H' t1 ⟨a, rs, ev, n0, n1, nd, RowL.tr t2 rl fun r xs _ p y => ⟨p, y⟩⟩
 ·rename_i C δ' β1 e1
  cases e
  refine ⟨B, F0.bg, stD N.length ds, β, .ex C δ', β', ok, e1, fun σ' B' H' s ok' => ?_⟩
  obtain ⟨t1, t2⟩ := toF s ok'.fr
  exact h H' t1
 ·cases e
end
section
variable {X : Cx} {E : St -> XK} {e : Expr} {es : List Expr} {pos p : Pos} {x : Str} {k n : Nat} {f : Addr} {fd : FuncData} {ps : List Str}
def im (m : List D -> M (List (List D))) (g : FL) : Dn -> M (List (List D)) := fun δ => M.bind (g δ) fun as => m as
theorem cJ.pre {K : Frag} {F : Fx} {H H1 H' : Hp} {β1 : Bg} {rows : List (List D)} {v : V} (t : To F H H1 β1) (h : cJ K F H1 H' rows v) : cJ K F H H' rows v := by
 obtain ⟨a, rs, ev, n0, n1, nd, rl⟩ := h
 exact ⟨a, rs, ev, t.none n0, n1, nd, RowL.tr (Tr.refl _ _) rl fun r xs _ p y => ⟨t.none p, y⟩⟩
theorem qT {m : List D -> M (List (List D))} {g : FL} (G : FnOk X.prog X.w X.K X.mg X.base (CXE X.prog X.w) k f fd ps (spG X.K n m)) (hr : Room k X.A) (hg : Gl X x) (hm : X.mg x = some (.ref f)) (hk : keepIn X.K (.ref f) = true) (hb : ay X.K fd ps []) (hx : aP (CXE X.prog X.w) X E)
  (ha : PA X (e :: es) (tVA X.K g E)) (hn : ∀ δ β r β', g δ β = some (.ok r, β') -> r.length = n) (hdb : (x == ("__debug__" : Str)) = false := by decide) (he : starEach (e :: es) X.env = (false, eval e X.env) :: starEach es X.env := by rfl) (hpl : (backTo pos (starEach es X.env)).any (·.1) = false := by rfl) :
  PE X (.Call (.Name x p) (e :: es) [] pos) (tVG X.K (im m g) E) :=
 (kP G hr hg hm hk hb .nil hx ha hdb he hpl).imp fun σ H Q h_ => ex6 h_ fun F δ β fr vk r => ⟨F, δ, β, fr, vk, by
  obtain ⟨r0, β0, e0, h0⟩ := run.bind (R := DenL X.K F) r
  refine ⟨r0, β0, e0, ?_⟩
  cases r0 with
  | error C => exact h0
  | ok ds =>
   intro vs H1 t hd
   obtain ⟨d', β1, t1, hd1, r1⟩ := h0 vs H1 t hd
   have hl := hn _ _ _ _ e0
   refine ⟨by rw [List.append_nil, ← hd.length, hl], F, d', β1, t1.fr, by rw [List.append_nil]; exact hd1, ?_⟩
   obtain ⟨rr, β2, e2, h2⟩ := r1
   refine ⟨rr, β2, e2, ?_⟩
   cases rr with
   | ok rows => exact fun v H' t2 hv => h2 v H' t2 (cJ.pre t1 hv)
   | error C => exact h2⟩
end
section
variable {X : Cx} {E : St -> XK} {K : Frag} {elt target iter : Expr} {ifs : List Expr} {rest : List Comprehension} {scope : Scope} {pos : Pos} {Nc vars : List Str} {caps : List Nat} {g : TG} {tb : Addr -> TB}
theorem vN {it : FL} {tg : TgF} {tt : Dn -> M Bool} {b : Dn -> M (List (List D))} {i : Nat} {x : Str} {pos' spos : Pos} (hN : X.N.Nodup) (hi' : X.N[i]? = some x) (hx : Loc X.env.scope x) (hc : X.calm = true) (S : CmpScope X scope Nc vars caps) (hi : PI X target iter (iV X.K it E))
  (hb : ∀ (cl : List (Str × Addr)) (C : Addr) (fp : List Addr) (s : Shared) (H : Hp), PG (aW X Nc scope cl C fp s H) target g /\ eU (aW X Nc scope cl C fp s H) ifs (tVT X.K tt E0) /\ ∀ D, PB (aW X Nc scope cl C fp s H) elt (⟨target, iter, ifs, 0⟩ :: rest) scope pos 0 D (tb D))
  (lg : cR X.K g tg) (sg : dQ tg) (lb : ∀ D, kC X.K D (tb D) b)
  (hsw : swapsWith (.ListComp elt (⟨target, iter, ifs, 0⟩ :: rest) scope pos) (some (.Name x pos')) spos.line X.env = pure true := by rfl)
  (hs : ∀ x, foldedSetIterable iter X.env x = pure x := by intro _; rfl) (hf : X.fn x = true \/ X.env.scope.names.lookup x = some .local := by first | exact .inl rfl | exact .inr rfl | assumption) :
  PS X (.Assign [.Name x pos'] (.ListComp elt (⟨target, iter, ifs, 0⟩ :: rest) scope pos) spos) (tG X.K X.H₀ (gG i (cj vars.length caps it tg tt b)) E) :=
 ma ((uC hN hi' hx hc S hi hb hsw hs hf).imp fun D σ H h => lA lg sg lb h)
end
end L2.Pu
namespace L2
open PySem PySem.Spec PyProof.Rows
section
variable {X : Cx}
theorem sV {bs : List Bool} {its : List Value} (r : am (bs.map V.bl) its) {i : Nat} {v : Value} (h : its.toArray[i]? = some v) : v = .bool (bs.getD i false) := by
 have h' : its[i]? = some v := by simpa using h
 have hl := r.length
 rw [List.length_map] at hl
 have hi : i < bs.length := by rw [hl]; exact (List.getElem?_eq_some_iff.mp h').1
 obtain ⟨u, hu, ru⟩ := r.get (i := i) (x := V.bl bs[i]) (by rw [List.getElem?_map, List.getElem?_eq_getElem hi]; rfl)
 rw [h'] at hu
 cases hu
 rw [List.getD_eq_getElem?_getD, List.getElem?_eq_getElem hi]
 exact ru
theorem qo {α : Type} (f : Bool -> Bool) (bs : List Bool) : (List.range bs.length).map (fun i => bs.getD i false) = bs := by
 apply List.ext_getElem?
 intro i
 rw [List.getElem?_map]
 by_cases h : i < bs.length
 ·rw [List.getElem?_range h, List.getElem?_eq_getElem h]
  simp [List.getD_eq_getElem?_getD, List.getElem?_eq_getElem h]
 ·rw [List.getElem?_eq_none (by simpa using h), List.getElem?_eq_none (by omega)]; rfl
theorem qp (bs : List Bool) : ((List.range bs.length).any fun i => bs.getD i false) = bs.any id := by
 conv => rhs; rw [← qo (α := Bool) id bs]
 rw [List.any_map]
 rfl
theorem lT (hc : X.calm = true) : bt X (.builtin "any") (fun xs H Q => ∃ (a : Addr) (bs : List Bool), xs = [.ref a] /\ SqL X.K H a (bs.map V.bl) /\ Q (.bl (bs.any id)) H) := by
 intro pins s σ H xs us Q I r h
 obtain ⟨a, bs, rfl, hq, q⟩ := h
 cases r with
 | cons r1 r2 =>
  cases r1
  cases r2
  obtain ⟨its, rv, p, hz⟩ := I.list hq
  have hl := p.isList
  have hlen : its.toArray.size = bs.length := by rw [List.size_toArray, ← rv.length, List.length_map]
  have hfr : ∀ b o, s.heap.get? b = some o -> b ≠ s.heap.objs.size := fun b o e z => by
   rw [z, Heap.get?_none_of_le (Nat.le_refl _)] at e
   cases e
  have hne : a ≠ s.heap.objs.size := by
   obtain ⟨o, e, _⟩ := hl
   exact hfr a o e
  have W := Walks.list (prog := X.prog) (w := X.w) (A := X.A.in1) (show X.A.in1.handled = none from I.ok.hd hc) s.heap.objs.size a hne its.toArray
  refine call_any_walk (wpAny_pyIter_list hl ⟨s.heap.objs.size, [s.heap.objs.size, a], [s.heap.objs.size], its.toArray.size, _, _, fun i => bs.getD i false, rfl, W, ⟨⟨_, Heap.get?_push_size s.heap rfl, rfl, rfl⟩, hl.push _⟩, fun i v s' Q' E' hv q' => ?_, fun h' tk hk => ?_⟩)
  ·rw [sV rv hv]
   exact wpAny_truthy_bool q'
  ·rw [hlen, qp]
   exact ⟨.bl (bs.any id), H, I.kept fun b o e => hk b o (fun z => hfr b o e (by simpa using z)) (Heap.get?_push_of_some _ e), rfl, q⟩
end
end L2
namespace L2.Pu
open PySem PySem.Spec PyProof.Rows
def bU : List D -> Option (List Bool)
 | [] => some []
 | .bl b :: r => (bU r).map (b :: ·)
 | _ => none
theorem jd {K : Frag} {F : Fx} {H : Hp} : ∀ {ds : List D} {xs : List V} {bs : List Bool}, bU ds = some bs -> DenL K F H ds xs -> xs = bs.map V.bl
 | [], xs, bs, e, h => by
  cases e
  cases h
  rfl
 | d :: ds, xs, bs, e, h => by
  obtain ⟨x, xr, rfl, h1, h2⟩ := h
  cases d <;> first
   | (rename_i b
      cases q : bU ds with
      | none => simp [bU, q] at e
      | some r =>
      simp [bU, q] at e
      subst e
      cases h1.bl
      rw [jd q h2]
      rfl)
   | simp [bU] at e
def lr : List D -> Option D
 | [.lst ds] => (bU ds).map fun bs => .bl (bs.any id)
 | _ => none
variable {K : Frag}
theorem tU : cy K (fun xs H Q => ∃ (a : Addr) (bs : List Bool), xs = [.ref a] /\ SqL K H a (bs.map V.bl) /\ Q (.bl (bs.any id)) H) lr := fun F H β Q ds d vs fr h e k => by
 unfold lr at e
 split at e
 ·obtain ⟨v, rfl, g⟩ := DenL.one h
  obtain ⟨a, xs, rfl, r, dl⟩ := Den.sqL g
  obtain ⟨bs, q, e⟩ := Option.map_eq_some_iff.mp e
  subst e
  rw [jd q dl] at r
  exact ⟨a, bs, rfl, r, k _ H (To.refl fr) rfl⟩
 ·cases e
end L2.Pu
namespace L2
open PySem PySem.Spec PyProof.Rows
section
variable {X : Cx} {a b c d : Expr} {ta tb tc td : TE} {pos : Pos}
end
end L2
namespace L2.Pu
open PySem PySem.Spec PyProof.Rows
section
variable {X : Cx} {E : St -> XK} {a b c d : Expr} {pos : Pos} {K : Frag}
end
section
variable {X : Cx} {E : St -> XK} {K : Frag} {st : Stmt} {H₀ : Hp} {B : Ow} {bg : Option (Addr × Addr)} {H H' : Hp} {δ : Ds} {β β' : Bg} {σ : St}
end
section
variable {X : Cx} {E : St -> XK} {K : Frag} {st : Stmt} {H₀ : Hp} {B : Ow} {bg : Option (Addr × Addr)} {H H' : Hp} {δ : Ds} {β β' : Bg} {σ : St}
theorem SOk.AtoB (ok : SOk K H₀ B bg H δ β σ) : ∀ c, (FxB B bg).A c -> (FxA B bg).A c \/ ∃ xs, H c = some (.lst xs) := fun c hc => by
 have hc' : B c ≠ none := hc
 cases q : B c with
 | none => exact absurd q hc'
 | some k =>
  match k, q with
  | 0, q => exact .inl (.inl q)
  | 1, q => exact .inl (.inr q)
  | k + 2, q => exact .inr (ok.lst c k q)
theorem SOk.noB {d : D} {v : V} (ok : SOk K H₀ B bg H δ β σ) (hn : noL d = true) (h : Den K (FxA B bg) H d v) : Den K (FxB B bg) H d v := oF ok.AtoB d v hn h
def em (i : Nat) (fa fb fv : FD) : G := fun δ β => match fv (vwA δ) β with
 | some (.ok d, β1) => match fa (vwA δ) β1 with
  | some (.ok (.int ka), β2) => match fb (vwA δ) β2 with
   | some (.ok (.int kb), β3) => match δ.getD i none with
    | some (.grd rows) => match ixN rows.length ka with
     | some ja => match rows[ja]? with
      | some ds => match ixN ds.length kb with
       | some jb => if noL d = true then some (.nx (δ.set i (some (.grd (rows.set ja (ds.set jb d))))), β3) else none
       | none => none
      | none => none
     | none => none
    | _ => none
   | _ => none
  | _ => none
 | _ => none
theorem hG {i : Nat} {fa fb fv : FD} (h : PS X st (fG (tV X.K fv E) (wU (tOp (ph X.K) (jf i) (tV X.K fa E)) (tV X.K fb E) tJ))) : PS X st (tG X.K X.H₀ (em i fa fb fv) E) := h.imp fun D σ H h_ => by
 obtain ⟨B, bg, δ, β, o, β', ok, e, q⟩ := h_
 refine ⟨FxA B bg, vwA δ, β, ok.frA, ok.viewA, ?_⟩
 unfold em at e
 split at e
 ·rename_i d β1 e1
  refine ⟨.ok d, _, e1, fun v H1 t1 hd => ?_⟩
  obtain ⟨ok1, s1⟩ := ok.to rfl t1
  split at e
  ·rename_i ka β2 e2
   split at e
   ·rename_i kb β3 e3
    split at e
    ·rename_i rows ec
     split at e
     ·rename_i ja ea
      split at e
      ·rename_i ds er
       split at e
       ·rename_i jb eb
        split at e
        ·rename_i hnl
         cases e
         have hd := ok1.noB hnl hd
         obtain ⟨w, h1, a, rs, rfl, hB, ha, nd, rl⟩ := ok1.tell i _ (dr ec)
         refine ⟨_, h1, FxA B bg, vwA δ, β1, ok1.frA, ok1.viewA, .ok (.int ka), β2, e2, fun y H2 t2 hy => ?_⟩
         cases hy
         obtain ⟨ok2, s2⟩ := ok1.to (F := FxA B bg) rfl t2
         obtain ⟨w2, h2, a2, rs2, ew, hB2, ha2, nd2, rl2⟩ := ok2.tell i _ (dr ec)
         rw [h1] at h2
         cases h2
         cases ew
         obtain ⟨r, xs, hr, hp, hx, dl⟩ := rl2.at er
         refine ⟨a, rs2.map V.ref, ka, .ref r, rfl, rfl, SqL.of ha2, ?_, ?_⟩
         ·unfold atI
          rw [List.length_map, ← rl2.len, ea]
          show (rs2.map V.ref)[ja]? = _
          rw [List.getElem?_map, hr]; rfl
         ·refine ⟨FxA B bg, vwA δ, β2, ok2.frA, ok2.viewA, .ok (.int kb), _, e3, fun z H3 t3 hz => ?_⟩
          cases hz
          obtain ⟨ok3, s3⟩ := ok2.to (F := FxA B bg) rfl t3
          obtain ⟨w3, h3, a3, rs3, ew3, hB3, ha3, nd3, rl3⟩ := ok3.tell i _ (dr ec)
          rw [h1] at h3
          cases h3
          cases ew3
          have ers : rs2 = rs3 := by
           have k1 : H3 a = some (.lst (rs2.map V.ref)) := t3.kp a _ ha2 (fun b l y => ⟨fun w => (by subst w; rw [(ok.bgt _ _ y).1] at hB2; cases hB2), fun w => (by subst w; rw [(ok.bgt _ _ y).2] at hB2; cases hB2)⟩)
           rw [ha3] at k1
           have k2 : rs3.map V.ref = rs2.map V.ref := by injection k1 with k1; injection k1
           exact (List.map_inj_right (fun a b q => by cases q; rfl) |>.mp k2).symm
          subst ers
          obtain ⟨r', xs', hr', hp', hx', dl'⟩ := rl3.at er
          rw [hr] at hr'
          cases hr'
          have hv3 : Den X.K (FxB B bg) H3 d v := Den.tr (s3.tr) _ _ (Den.tr (s2.tr) _ _ hd)
          refine ⟨r, xs', kb, jb, rfl, rfl, hx', by rw [← dl'.length]; exact eb, ?_⟩
          obtain ⟨ok4, s4⟩ := ok3.writeRow (ds := ds.set jb d) (xs := xs'.set jb v) h1 hB3 ha3 nd3 rl3 hr hx' (DenL.set jb dl' hv3)
          exact q _ _ _ (s1.trans (s2.trans (s3.trans s4))) ok4
        ·cases e
       ·cases e
      ·cases e
     ·cases e
    ·cases e
   ·cases e
  ·cases e
 ·cases e
end
section
variable {X : Cx} {E : St -> XK} {K : Frag} {a b e : Expr} {es : List Expr} {pos : Pos}
def o2 (op : D -> D -> Option (List D)) (f g : FD) : FL := fun δ => M.bind (f δ) fun a => M.bind (g δ) fun b => M.ofO (op a b)
end
section
variable {X : Cx} {E : St -> XK} {K : Frag}
end
def cS (K : Frag) (fd : FuncData) (ps : List Str) (dd : List D) : Prop := ∃ ds dvs, ay K fd ps ds /\ am dvs ds /\ ∀ F H, DenL K F H dd dvs
inductive Sr (α : Type) where
 | kw (j : Nat) | df (a : α)
section
variable {X : Cx} {E : St -> XK} {e : Expr} {es : List Expr} {pos p kpos : Pos} {x : Str} {k n : Nat} {f : Addr} {fd : FuncData} {ps ks : List Str} {kws : List Keyword} {nm : Option Str}
end
section
variable {X : Cx} {E : St -> XK} {e : Expr} {es : List Expr} {pos p kpos : Pos} {x : Str} {k n : Nat} {f : Addr} {fd : FuncData} {ps ks : List Str}
end
section
variable {X : Cx} {E : St -> XK} {K : Frag} {st : Stmt}
end
def Gw (g : G) (δ : Ds) (β : Bg) (Q : Out -> Bg -> Prop) : Prop := ∃ o β', g δ β = some (o, β') /\ Q o β'
section
variable {g h a b g1 g2 : G} {δ δ1 : Ds} {β β1 β2 β3 : Bg} {Q R : Out -> Bg -> Prop} {i : Nat} {f fa fb fv : FD} {fl : FL} {fg : Dn -> M (List (List D))} {d x y z : D} {ds as : List D} {t : Dn -> M Bool} {c : Bool} {C : Addr} {K : Frag}
theorem Gw.mono (k : Gw g δ β R) (q : ∀ o β, R o β -> Q o β) : Gw g δ β Q := let ⟨o, β', e, r⟩ := k; ⟨o, β', e, q _ _ r⟩
theorem uw : ao g gNil = g := by
 funext δ β
 unfold ao gNil
 split
 ·rename_i δ1 β1 e; exact e.symm
 ·rfl
theorem aT (k : Gw (ao g gNil) δ β Q) : Gw g δ β Q := by rw [uw] at k; exact k
theorem jA (q : Q (.nx δ) β) : Gw gNil δ β Q := ⟨_, _, rfl, q⟩
theorem cK (e : g δ β = some (.nx δ1, β1)) (k : Gw h δ1 β1 Q) : Gw (ao g h) δ β Q := by
 obtain ⟨o, β', e', q⟩ := k
 exact ⟨o, β', by unfold ao; rw [e]; exact e', q⟩
theorem cr (k : Gw h δ β Q) : Gw (ao gNil h) δ β Q := cK rfl k
theorem eV (e : f (vw δ) β = some (.ok d, β1)) (k : Gw h (δ.set i (some (.sh d))) β1 Q) : Gw (ao (cq i f) h) δ β Q := cK (by unfold cq; rw [e]) k
theorem p9 (e : f (vwA δ) β = some (.ok d, β1)) (k : Gw h (δ.set i (some (.sh d))) β1 Q) (hf : cP d = true := by rfl) : Gw (ao (db i f) h) δ β Q := cK (by unfold db; simp only [e, hf, if_true]) k
theorem vp (e : g δ β = some (.ex C δ1, β1)) (q : Q (.ex C δ1) β1) : Gw (ao g h) δ β Q := ⟨_, _, by unfold ao; rw [e], q⟩
theorem g0 (e : t (vwA δ) β = some (.ok c, β1)) (k : Gw (ao (if c = true then g1 else g2) h) δ β1 Q) : Gw (ao (gIf t g1 g2) h) δ β Q := by
 obtain ⟨o, β', e', q⟩ := k
 refine ⟨o, β', ?_, q⟩
 rw [← e']
 unfold ao gIf
 rw [e]
 cases c <;> rfl
theorem gt (e : t (vwA δ) β = some (.ok false, β1)) (k : Gw (ao g2 h) δ β1 Q) : Gw (ao (gIf t g1 g2) h) δ β Q := g0 e k
theorem bL (e : f (vwA δ) β = some (.ok d, β1)) (q : Q (.rt d) β1) : Gw (ao (aK f) h) δ β Q := ⟨_, _, by unfold ao aK; rw [e], q⟩
theorem nZ {rows : List (List D)} (e : fg (vw δ) β = some (.ok rows, β1)) (q : Q (.rg rows) β1) : Gw (ao (gm fg) h) δ β Q := ⟨_, _, by unfold ao gm; rw [e], q⟩
theorem fU (e : fl (vwA δ) β = some (.ok ds, β1)) (q : Q (.ex C δ) β1) : Gw (ao (bB C fl) h) δ β Q := vp (by unfold bB; rw [e]) q
theorem l7 {rows : List (List D)} (e : fg (vw δ) β = some (.ok rows, β1)) (hn : rows.all noLs = true) (k : Gw h (δ.set i (some (.grd rows))) β1 Q) : Gw (ao (gG i fg) h) δ β Q := cK (by unfold gG; simp only [e, hn, if_true]) k
theorem jz {rows : List (List D)} {ka kb : Int} {ja jb : Nat} (e1 : fv (vwA δ) β = some (.ok d, β1)) (e2 : fa (vwA δ) β1 = some (.ok (.int ka), β2)) (e3 : fb (vwA δ) β2 = some (.ok (.int kb), β3)) (eg : δ.getD i none = some (.grd rows))
  (h1 : ixN rows.length ka = some ja) (h2 : rows[ja]? = some ds) (h3 : ixN ds.length kb = some jb) (hn : noL d = true) (k : Gw h (δ.set i (some (.grd (rows.set ja (ds.set jb d))))) β3 Q) : Gw (ao (em i fa fb fv) h) δ β Q :=
 cK (by unfold em; simp only [e1, e2, e3, eg, h1, h2, h3, hn, if_true]) k
theorem xN (e : fl (vw δ) β = some (.ok ds, β1)) (hl : ds.length <= sizeLine) (k : Gw h (δ.set i (some (.own ds))) β1 Q) : Gw (ao (ny i fl) h) δ β Q := cK (by unfold ny; simp only [e, hl, if_true]) k
theorem xP {cs : List D} (eg : δ.getD i none = some (.own cs)) (e : fl (vw δ) β = some (.ok [d], β1)) (hl : cs.length < sizeLine) (k : Gw h (δ.set i (some (.own (cs ++ [d])))) β1 Q) : Gw (ao (nB i fl) h) δ β Q :=
 cK (by unfold nB; simp only [eg, e, hl, if_true]) k
def Tn (I : Ds -> Bg -> Prop) (h : G) (Q : Out -> Bg -> Prop) : Out -> Bg -> Prop := fun o β => match o with
 | .nx δ => I δ β
 | .ct δ => I δ β
 | .bk δ => Gw h δ β Q
 | o => Q o β
theorem oX {it : FL} {tg : TgS} (e : it (vw δ) β = some (.ok ds, β1)) (Iv : Nat -> Ds -> Bg -> Prop) (h0 : Iv 0 δ β1) (step : ∀ i d δ β, ds[i]? = some d -> Iv i δ β -> ∃ δ1, tg d δ = some δ1 /\ Gw g δ1 β (Tn (Iv (i + 1)) h Q)) (k : ∀ δ β, Iv ds.length δ β -> Gw h δ β Q) :
  Gw (ao (jq it tg g) h) δ β Q := by
 have gen : ∀ (es : List D) (j : Nat) (δ : Ds) (β : Bg), es = ds.drop j -> j + es.length = ds.length -> Iv j δ β -> Gw (ao (gLp tg g es) h) δ β Q := by
  intro es
  induction es with
  | nil =>
   intro j δ β _ hl hv
   simp at hl
   exact cK (g := gLp tg g []) rfl (k δ β (hl ▸ hv))
  | cons d es ih =>
   intro j δ β he hl hv
   have hj : ds[j]? = some d := by
    have := congrArg (fun l => l[0]?) he
    simpa [List.getElem?_drop] using this.symm
   obtain ⟨δ1, e1, o, β2, e2, q⟩ := step j d δ β hj hv
   have he' : es = ds.drop (j + 1) := by
    have := congrArg List.tail he
    simpa [List.tail_drop] using this
   have go : ∀ δ2, Iv (j + 1) δ2 β2 -> Gw (ao (gLp tg g es) h) δ2 β2 Q := fun δ2 hv2 => ih (j + 1) δ2 β2 he' (by simp at hl; omega) hv2
   have lift : ∀ {r : G} {δ2 : Ds}, Gw (ao r h) δ2 β2 Q -> gLp tg g (d :: es) δ β = r δ2 β2 -> Gw (ao (gLp tg g (d :: es)) h) δ β Q := fun {r δ2} ⟨o', β', e', q'⟩ er => ⟨o', β', by rw [← e']; unfold ao; rw [er], q'⟩
   cases o with
   | nx δ2 => exact lift (r := gLp tg g es) (go δ2 q) (by rw [gLp]; simp only [e1, e2])
   | ct δ2 => exact lift (r := gLp tg g es) (go δ2 q) (by rw [gLp]; simp only [e1, e2])
   | bk δ2 => exact lift (r := gNil) (cr q) (by rw [gLp]; simp only [e1, e2]; rfl)
   | rt d' => exact ⟨_, β2, by unfold ao; rw [gLp]; simp only [e1, e2], q⟩
   | rg d' => exact ⟨_, β2, by unfold ao; rw [gLp]; simp only [e1, e2], q⟩
   | ex C δ2 => exact ⟨_, β2, by unfold ao; rw [gLp]; simp only [e1, e2], q⟩
 obtain ⟨o, β', e', q⟩ := gen ds 0 δ β1 (by simp) (by simp) h0
 refine ⟨o, β', ?_, q⟩
 rw [← e']
 unfold ao jq
 rw [e]
theorem rA {n : Nat} {S : Except Addr D -> Bg -> Prop} (k : Gw g (stD n ds) β (fun o β' => match o with | .rt d => S (.ok d) β' | .nx _ => S (.ok .non) β' | .ex C _ => S (.error C) β' | _ => False)) : ∃ r β', aN n g ds β = some (r, β') /\ S r β' := by
 obtain ⟨o, β', e, q⟩ := k
 cases o with
 | rt d => exact ⟨.ok d, β', by unfold aN; rw [e], q⟩
 | nx δ => exact ⟨.ok .non, β', by unfold aN; rw [e], q⟩
 | ex C δ => exact ⟨.error C, β', by unfold aN; rw [e], q⟩
 | _ => exact q.elim
theorem vd {n : Nat} {S : List (List D) -> Bg -> Prop} (k : Gw g (stD n ds) β (fun o β' => match o with | .rg d => S d β' | _ => False)) : ∃ r β', gN n g ds β = some (.ok r, β') /\ S r β' := by
 obtain ⟨o, β', e, q⟩ := k
 cases o with
 | rg d => exact ⟨d, β', by unfold gN; rw [e], q⟩
 | _ => exact q.elim
theorem bv {n : Nat} {r : Except Addr D} (k : Gw g (stD n ds) β (fun o β' => β' = β /\ (match o with | .rt d => r = .ok d | .nx _ => r = .ok .non | .ex C _ => r = .error C | _ => False))) : aN n g ds β = some (r, β) := by
 obtain ⟨r', β', e, q1, q2⟩ := rA (S := fun r' β' => β' = β /\ r = r') (n := n) (ds := ds) (β := β) (k.mono fun o β' h => by
  cases o <;> first | exact h | exact h.2)
 subst q1 q2
 exact e
theorem oQ {n : Nat} {r : List (List D)} (k : Gw g (stD n ds) β (fun o β' => β' = β /\ (match o with | .rg d => r = d | _ => False))) : gN n g ds β = some (.ok r, β) := by
 obtain ⟨r', β', e, q1, q2⟩ := vd (S := fun r' β' => β' = β /\ r = r') (n := n) (ds := ds) (β := β) (k.mono fun o β' h => by
  cases o <;> first | exact h | exact h.2)
 subst q1 q2
 exact e
theorem aQ {m : List D -> M D} {r : Except Addr D × Bg} {δ : Dn} (e1 : fl δ β = some (.ok as, β1)) (e2 : m as β1 = some r) : aA m fl δ β = some r := by unfold aA M.bind; rw [e1]; exact e2
theorem nY {m : List D -> M (List (List D))} {r : Except Addr (List (List D)) × Bg} {δ : Dn} (e1 : fl δ β = some (.ok as, β1)) (e2 : m as β1 = some r) : im m fl δ β = some r := by unfold im M.bind; rw [e1]; exact e2
theorem x_2 {op : D -> D -> Option D} {δ : Dn} (e1 : fa δ β = some (.ok x, β1)) (e2 : fb δ β1 = some (.ok y, β2)) (e3 : op x y = some z) : f2 op fa fb δ β = some (.ok z, β2) := by unfold f2 M.bind; rw [e1]; simp only [e2, M.ofO, e3]
theorem x_1 {op : D -> Option D} {δ : Dn} (e1 : fa δ β = some (.ok x, β1)) (e3 : op x = some z) : f1 op fa δ β = some (.ok z, β1) := by unfold f1 M.bind; rw [e1]; simp only [M.ofO, e3]
theorem aS {op : List D -> Option D} {δ : Dn} (e1 : fl δ β = some (.ok as, β1)) (e3 : op as = some z) : aj op fl δ β = some (.ok z, β1) := by unfold aj M.bind; rw [e1]; simp only [M.ofO, e3]
theorem az {δ : Dn} (e1 : fa δ β = some (.ok x, β1)) (e2 : fl δ β1 = some (.ok as, β2)) : aa fa fl δ β = some (.ok (x :: as), β2) := by unfold aa M.bind; rw [e1]; simp only [e2, M.ret]
theorem iw {op : List D -> Option (List D)} {δ : Dn} (e1 : fl δ β = some (.ok as, β1)) (e2 : op as = some ds) : bM op fl δ β = some (.ok ds, β1) := by unfold bM M.bind; rw [e1]; simp only [e2, M.ofO]
theorem fS {δ : Dn} (e1 : fa δ β = some (.ok x, β1)) (e2 : dC x = some ds) : aF fa δ β = some (.ok ds, β1) := by unfold aF M.bind; rw [e1]; simp only [e2, M.ofO]
theorem x_B {δ : Dn} (e1 : fa δ β = some (.ok (.bl c), β1)) : fB fa δ β = some (.ok c, β1) := by unfold fB M.bind; rw [e1]; rfl
theorem jw {δ : Dn} (e1 : fa δ β = some (.ok x, β1)) (e2 : gw x = some c) : bF fa δ β = some (.ok c, β1) := by unfold bF M.bind; rw [e1]; simp only [M.ofO, e2]
theorem jx {δ : Dn} (e1 : t δ β = some (.ok c, β1)) : bq t δ β = some (.ok (!c), β1) := by unfold bq M.bind; rw [e1]; rfl
theorem dM (ok : β.ok) {lot : Int} (h0 : 0 < lot) (h1 : lot < 1073741824) : ∃ v β', cM [.bag, .int lot] β = some (.ok (.int v), β') /\ 0 <= v /\ v < lot /\ β'.ok := by
 obtain ⟨a0, a1, ok1⟩ := oq ok h0
 exact ⟨_, _, su ok h0 h1, a0, a1, ok1⟩
theorem nk {n : Nat} {k : Int} (h0 : 0 <= k) (h1 : k < n) : ixN n k = some k.toNat := by unfold ixN; rw [if_pos h0, if_pos h1]
theorem il {xs : List D} {k : Int} {d : D} (h0 : 0 <= k) (h : xs[k.toNat]? = some d) : ixD (.lst xs) (.int k) = some d := by
 have hl : k.toNat < xs.length := (List.getElem?_eq_some_iff.mp h).1
 show atI xs k = some d
 unfold atI
 rw [nk h0 (by omega)]
 exact h
theorem ix0 {x : D} {xs : List D} : ixD (.lst (x :: xs)) (.int 0) = some x := il (by decide) rfl
end
section
variable {β β1 β2 : Bg} {f g h i : FD} {t u : Dn -> M Bool} {δ : Dn} {c e : Bool} {x y z w : Int} {d : D}
theorem oV (e1 : t δ β = some (.ok false, β1)) (e2 : u δ β1 = some (.ok e, β2)) : cG t u δ β = some (.ok e, β2) := by
 unfold cG M.bind; rw [e1]; simp [e2]
theorem nW (e1 : f δ β = some (.ok (.bl true), β1)) (e2 : g δ β1 = some (.ok d, β2)) : dj f g δ β = some (.ok d, β2) := by
 unfold dj M.bind; rw [e1]; simp [asB, M.ofO, e2]
theorem ue (e1 : f δ β = some (.ok (.bl false), β1)) : dj f g δ β = some (.ok (.bl false), β1) := by
 unfold dj M.bind; rw [e1]; simp [asB, M.ofO, M.ret]
theorem le_int : leD (.int x) (.int y) = some (.bl (decide (x <= y))) := rfl
theorem lt_int : ltD (.int x) (.int y) = some (.bl (decide (x < y))) := rfl
theorem gt_int : gtD (.int x) (.int y) = some (.bl (decide (y < x))) := rfl
theorem nX (e1 : f δ β = some (.ok (.int x), β)) (e2 : g δ β = some (.ok (.int y), β)) (e3 : h δ β = some (.ok (.int z), β)) : ck leD leD f g h δ β = some (.ok (.bl (decide (x <= y) && decide (y <= z))), β) := by
 unfold ck M.bind
 rw [e1]
 simp only [e2, le_int, M.ofO, asB]
 by_cases q : x <= y
 ·simp only [q, decide_true, if_true, e3, le_int, Bool.true_and]
 ·simp only [q, decide_false, Bool.false_eq_true, if_false, M.ret, Bool.false_and]
theorem fk {x : Int} (h0 : -1000000 <= x) (h1 : x <= 1000000) : x.natAbs.log2 < 1920 := by
 have h : x.natAbs < 2 ^ 20 := by omega
 by_cases z : x.natAbs = 0
 ·rw [z]; decide
 ·have := (Nat.log2_lt z).mpr h
  omega
theorem mx {j : Dn -> M Unit} (e1 : f δ β = some (.ok (.int x), β)) (h0 : -1000000 <= x) (h1 : x <= 1000000) (e2 : j δ β = some (.ok (), β)) : cx f j δ β = some (.ok (), β) := by
 unfold cx M.bind
 rw [e1]
 simp only [fk h0 h1, if_true, e2]
theorem my {j : Dn -> M Unit} (e1 : j δ β = some (.ok (), β)) : de j δ β = some (.ok .txt, β) := by
 unfold de M.bind; rw [e1]; rfl
end
theorem xO {g h : G} {δ : Ds} {β : Bg} {Q : Out -> Bg -> Prop} (P : Ds -> Bg -> Prop) (k1 : Gw g δ β (fun o β1 => ∃ δ1, o = .nx δ1 /\ P δ1 β1)) (k2 : ∀ δ1 β1, P δ1 β1 -> Gw h δ1 β1 Q) : Gw (ao g h) δ β Q := by
 obtain ⟨o, β1, e, δ1, rfl, p⟩ := k1
 exact cK e (k2 δ1 β1 p)
theorem mB {δ : Ds} {β : Bg} {P : Ds -> Bg -> Prop} (p : P δ β) : Gw gNil δ β (fun o β1 => ∃ δ1, o = .nx δ1 /\ P δ1 β1) := jA ⟨_, rfl, p⟩
abbrev gI (rows : LI) : List (List D) := rows.map fun r => r.map D.int
abbrev lG (rows : List (List D)) : D := .lst (rows.map D.lst)
abbrev ar (rows : LI) : D := lG (gI rows)
def Shp {α : Type} (r c : Nat) (m : List (List α)) : Prop := m.length = r /\ ∀ row ∈ m, row.length = c
def tot (rows : LI) : Int := (rows.map List.sum).sum
theorem bE {n : Nat} (h : n <= 1000) : n <= sizeLine := Nat.le_trans h (by decide)
theorem ib : ∀ r : List Int, noLs (r.map D.int) = true
 | [] => rfl
 | x :: r => by
  show (noL (.int x) && noLs (r.map D.int)) = true
  rw [ib r]; rfl
theorem j5 (rows : LI) : (gI rows).all noLs = true := by
 rw [List.all_eq_true]
 intro x hx
 obtain ⟨r, _, rfl⟩ := List.mem_map.mp hx
 exact ib r
theorem Shp.set {α : Type} {r c i j : Nat} {m : List (List α)} {row : List α} {v : α} (h : Shp r c m) (hr : m[i]? = some row) : Shp r c (m.set i (row.set j v)) := ⟨by rw [List.length_set, h.1], fun x hx => by
 rcases List.mem_or_eq_of_mem_set hx with hx | rfl
 ·exact h.2 x hx
 ·rw [List.length_set]; exact h.2 row (List.mem_of_getElem? hr)⟩
theorem Shp.at {α : Type} {r c i : Nat} {m : List (List α)} (h : Shp r c m) (hi : i < r) : ∃ row, m[i]? = some row /\ row.length = c := by
 have hl : i < m.length := by rw [h.1]; exact hi
 exact ⟨m[i], List.getElem?_eq_getElem hl, h.2 _ (List.getElem_mem hl)⟩
theorem kB {α : Type} {l : List α} {i : Nat} (h : i < l.length) : ∃ x, l[i]? = some x := ⟨l[i], List.getElem?_eq_getElem h⟩
theorem kG : ∀ {xs : List Int} {j : Nat} {x v : Int}, xs[j]? = some x -> (xs.set j v).sum = xs.sum - x + v
 | [], j, x, v, h => by simp at h
 | y :: xs, 0, x, v, h => by
  simp at h; subst h
  simp only [List.set_cons_zero, List.sum_cons]; omega
 | y :: xs, j + 1, x, v, h => by
  have h' : xs[j]? = some x := by simpa using h
  simp only [List.set_cons_succ, List.sum_cons, kG h']; omega
theorem n5 {rows : LI} {i j : Nat} {row : List Int} {x v : Int} (h1 : rows[i]? = some row) (h2 : row[j]? = some x) : tot (rows.set i (row.set j v)) = tot rows - x + v := by
 unfold tot
 rw [List.map_set, kG (x := row.sum) (by rw [List.getElem?_map, h1]; rfl), kG h2]
 omega
theorem qD {rows : LI} {i j : Nat} {row : List Int} {v : Int} (h : ∀ r ∈ rows, ∀ x ∈ r, 0 <= x) (hr : rows[i]? = some row) (hv : 0 <= v) : ∀ r ∈ rows.set i (row.set j v), ∀ x ∈ r, 0 <= x := fun r hr' x hx => by
 rcases List.mem_or_eq_of_mem_set hr' with hr' | rfl
 ·exact h r hr' x hx
 ·rcases List.mem_or_eq_of_mem_set hx with hx | rfl
  ·exact h row (List.mem_of_getElem? hr) x hx
  ·exact hv
theorem mL : ∀ {xs : List Int}, (∀ x ∈ xs, 0 <= x) -> 0 <= xs.sum
 | [], _ => by simp
 | y :: xs, h => by
  have := mL (xs := xs) fun x hx => h x (List.mem_cons_of_mem _ hx)
  have := h y List.mem_cons_self
  simp only [List.sum_cons]; omega
theorem ni : ∀ {xs : List Int}, (∀ x ∈ xs, 0 <= x) -> ∀ x ∈ xs, x <= xs.sum
 | [], _, x, hx => by cases hx
 | y :: xs, h, x, hx => by
  have := mL (xs := xs) fun x hx => h x (List.mem_cons_of_mem _ hx)
  have := h y List.mem_cons_self
  rcases List.mem_cons.mp hx with rfl | hx
  ·simp only [List.sum_cons]; omega
  ·have := ni (xs := xs) (fun x hx => h x (List.mem_cons_of_mem _ hx)) x hx
   simp only [List.sum_cons]; omega
theorem wD {rows : LI} (h : ∀ r ∈ rows, ∀ x ∈ r, 0 <= x) : ∀ r ∈ rows, ∀ x ∈ r, x <= tot rows := fun r hr x hx => by
 have h1 := ni (h r hr) x hx
 have h2 := ni (xs := rows.map List.sum) (fun s hs => by
  obtain ⟨q, hq, rfl⟩ := List.mem_map.mp hs
  exact mL (h q hq)) r.sum (List.mem_map.mpr ⟨r, hr, rfl⟩)
 unfold tot
 omega
structure Tab (r c : Nat) (rows : LI) : Prop where
 shp : Shp r c rows
 nn : ∀ row ∈ rows, ∀ x ∈ row, 0 <= x
 tot : tot rows <= 40
 r0 : 1 <= r
 r1 : r <= 4
 c0 : 1 <= c
 c1 : c <= 6
theorem dL (ns : List Int) : bw [.lst (ns.map D.int)] = some (.int ns.sum) := by
 show ((bP (ns.map D.int)).map fun l => D.int l.sum) = _
 have : ∀ ns : List Int, bP (ns.map D.int) = some ns := fun ns => by
  induction ns with
  | nil => rfl
  | cons n ns ih => simp [bP, ih]
 rw [this]; rfl
theorem rg1 {n : Int} (h0 : 0 <= n) (h : n <= 10 ^ 9) : fJ [.int n] = some (ci 0 n.toNat) := by
 have q : (decide (-(2 ^ 62) <= n) && decide (n < 2 ^ 62)) = true := by
  simp only [Bool.and_eq_true, decide_eq_true_eq]
  omega
 show (if (decide (-(2 ^ 62) <= n) && decide (n < 2 ^ 62)) = true then some (ci 0 n.toNat) else none) = _
 rw [if_pos q]
theorem tI {n k : Nat} {d : D} (h : (ci 0 n)[k]? = some d) : k < n /\ d = .int (k : Int) := by
 unfold ci at h
 have hk : k < n := by
  have := (List.getElem?_eq_some_iff.mp h).1
  simpa using this
 rw [List.getElem?_map, List.getElem?_range hk] at h
 exact ⟨hk, by cases h; simp⟩
theorem cg {α : Type} {nv : Nat} {caps : List Nat} {it : FL} {tg : TgF} {f : FD} {δ : Dn} {β : Bg} (xs : List α) (u v : α -> D) (h1 : it δ β = some (.ok (xs.map u), β))
  (h2 : ∀ x ∈ xs, ∃ δ1, tg (u x) (cSt nv caps δ) = some δ1 /\ f δ1 β = some (.ok (v x), β)) (h3 : xs.length <= sizeLine) : aJ nv caps it tg (fun _ => M.ret true) (cEm f) δ β = some (.ok (.lst (xs.map v)), β) := by
 refine oP h1 ?_ (by rw [List.length_map]; exact h3)
 have gen : ∀ xs : List α, (∀ x ∈ xs, ∃ δ1, tg (u x) (cSt nv caps δ) = some δ1 /\ f δ1 β = some (.ok (v x), β)) -> cLp tg (fun _ => M.ret true) (cEm f) (xs.map u) (cSt nv caps δ) β = some (.ok (xs.map v), β) := by
  intro xs
  induction xs with
  | nil => intro _; rfl
  | cons x xs ih =>
   intro h
   obtain ⟨δ1, e1, e2⟩ := h x List.mem_cons_self
   have e3 := ih fun y hy => h y (List.mem_cons_of_mem _ hy)
   rw [List.map_cons, cLp]
   simp only [e1, M.bind, M.ret, reduceIte, cEm, e2, e3, List.map_cons, List.cons_append, List.nil_append]
 exact gen xs h2
theorem io {α : Type} {nv : Nat} {caps : List Nat} {it : FL} {tg : TgF} {f : FL} {δ : Dn} {β : Bg} (xs : List α) (u : α -> D) (v : α -> List D) (h1 : it δ β = some (.ok (xs.map u), β))
  (h2 : ∀ x ∈ xs, ∃ δ1, tg (u x) (cSt nv caps δ) = some δ1 /\ f δ1 β = some (.ok (v x), β)) (h3 : xs.length <= sizeLine) : cj nv caps it tg (fun _ => M.ret true) (fQ f) δ β = some (.ok (xs.map v), β) := by
 have gen : ∀ xs : List α, (∀ x ∈ xs, ∃ δ1, tg (u x) (cSt nv caps δ) = some δ1 /\ f δ1 β = some (.ok (v x), β)) -> ju tg (fun _ => M.ret true) (fQ f) (xs.map u) (cSt nv caps δ) β = some (.ok (xs.map v), β) := by
  intro xs
  induction xs with
  | nil => intro _; rfl
  | cons x xs ih =>
   intro h
   obtain ⟨δ1, e1, e2⟩ := h x List.mem_cons_self
   have e3 := ih fun y hy => h y (List.mem_cons_of_mem _ hy)
   rw [List.map_cons, ju]
   simp only [e1, M.bind, M.ret, reduceIte, fQ, e2, e3, List.map_cons, List.cons_append, List.nil_append]
 unfold cj
 simp only [h1, gen xs h2, List.length_map, h3, if_true]
theorem rh {α : Type} {nv : Nat} {caps : List Nat} {it : FL} {tg : TgF} {f : FD} {δ : Dn} {β : Bg} (xs : List α) (u : α -> D) (v : α -> D) (h1 : it δ β = some (.ok (xs.map u), β))
  (h2 : ∀ x ∈ xs, ∃ δ1, tg (u x) (cSt nv caps δ) = some δ1 /\ f δ1 β = some (.ok (v x), β)) (h3 : xs.length <= sizeLine) : d6 nv caps it tg (fun _ => M.ret true) (cEm f) δ β = some (.ok (xs.map v), β) := by
 have gen : ∀ xs : List α, (∀ x ∈ xs, ∃ δ1, tg (u x) (cSt nv caps δ) = some δ1 /\ f δ1 β = some (.ok (v x), β)) -> cLp tg (fun _ => M.ret true) (cEm f) (xs.map u) (cSt nv caps δ) β = some (.ok (xs.map v), β) := by
  intro xs
  induction xs with
  | nil => intro _; rfl
  | cons x xs ih =>
   intro h
   obtain ⟨δ1, e1, e2⟩ := h x List.mem_cons_self
   have e3 := ih fun y hy => h y (List.mem_cons_of_mem _ hy)
   rw [List.map_cons, cLp]
   simp only [e1, M.bind, M.ret, reduceIte, cEm, e2, e3, List.map_cons, List.cons_append, List.nil_append]
 unfold d6
 simp only [h1, gen xs h2, List.length_map, h3, if_true]
theorem vS {ds : List D} {c : Nat} (h1 : ds.length <= sizeLine) (h2 : ds.length * c <= sizeLine) (hc : c <= 1000000) : mW ds (.int (c : Int)) = some (List.replicate c ds).flatten := by
 have q : (decide (-(2 ^ 63) <= (c : Int)) && decide ((c : Int) < 2 ^ 63) && decide (ds.length <= sizeLine) && decide (ds.length * (c : Int).toNat <= sizeLine)) = true := by
  simp only [Bool.and_eq_true, decide_eq_true_eq]
  exact ⟨⟨⟨by omega, by omega⟩, h1⟩, by rw [Int.toNat_natCast]; exact h2⟩
 unfold mW
 simp only [q, if_true]
 rw [Int.toNat_natCast]
theorem nC {α : Type} (x : α) : ∀ c : Nat, (List.replicate c [x]).flatten = List.replicate c x
 | 0 => rfl
 | c + 1 => by rw [List.replicate_succ, List.flatten_cons, nC x c]; rfl
theorem yf {f : FD} {g : FD} {x : D} {c : Nat} {δ : Dn} {β : Bg} (e1 : f δ β = some (.ok x, β)) (e2 : g δ β = some (.ok (.int (c : Int)), β)) (hc : c <= 1000) : pz (aa f af) g δ β = some (.ok (List.replicate c x), β) := by
 have l1 : [x].length <= sizeLine := by rw [List.length_singleton]; decide
 have l2 : [x].length * c <= sizeLine := by rw [List.length_singleton, Nat.one_mul]; exact bE hc
 have r := vS (ds := [x]) (c := c) l1 l2 (by omega)
 rw [nC] at r
 have s : szL [x] = some [x] := by
  unfold szL
  rw [if_pos l1]
 have e3 : aa f af δ β = some (.ok [x], β) := az e1 rfl
 unfold pz
 rw [M.bind_ok e3, s, M.bind_some, M.bind_ok e2, r]
 rfl
theorem lU (bs : List Bool) : bU (bs.map D.bl) = some bs := by
 induction bs with
 | nil => rfl
 | cons b bs ih => simp [bU, ih]
theorem any_map {α : Type} (xs : List α) (p : α -> Bool) : lr [.lst (xs.map fun x => D.bl (p x))] = some (.bl (xs.any p)) := by
 show (bU _).map _ = _
 rw [show (xs.map fun x => D.bl (p x)) = (xs.map p).map D.bl by rw [List.map_map]; rfl, lU]
 simp only [Option.map_some, List.any_map]
 rfl
theorem ge {xs : List D} {r : Nat} (h : xs.length = r) : bf [.lst xs] = some (.int (r : Int)) := by subst h; rfl
theorem ij {rows : List (List D)} {r : Nat} (h : rows.length = r) : bf [lG rows] = some (.int (r : Int)) := ge (by rw [List.length_map, h])
theorem ke {rows : List (List D)} {k : Nat} {row : List D} (h : rows[k]? = some row) : ixD (lG rows) (.int (k : Int)) = some (.lst row) := il (by omega) (by rw [Int.toNat_natCast, List.getElem?_map, h]; rfl)
theorem iI {xs : List D} {k : Nat} {d : D} (h : xs[k]? = some d) : ixD (.lst xs) (.int (k : Int)) = some d := il (by omega) (by rw [Int.toNat_natCast]; exact h)
theorem ne_int {x y : Int} : cn (.int x) (.int y) = some (.bl (!decide (x = y))) := by rw [gL]
structure PairOk (p : Int × Int) : Prop where
 l : 0 <= p.1
 m : p.1 <= p.2
 h : p.2 <= 40
theorem vc {α : Type} {nv : Nat} {caps : List Nat} {it : FL} {tg : TgF} {b : FL} {δ : Dn} {β : Bg} (xs : List α) (u : α -> D) (o : α -> List D) (h1 : it δ β = some (.ok (xs.map u), β))
  (h2 : ∀ x ∈ xs, ∃ δ1, tg (u x) (cSt nv caps δ) = some δ1 /\ b δ1 β = some (.ok (o x), β)) (h3 : (xs.flatMap o).length <= sizeLine) : aJ nv caps it tg (fun _ => M.ret true) b δ β = some (.ok (.lst (xs.flatMap o)), β) := by
 refine oP h1 ?_ h3
 have gen : ∀ xs : List α, (∀ x ∈ xs, ∃ δ1, tg (u x) (cSt nv caps δ) = some δ1 /\ b δ1 β = some (.ok (o x), β)) -> cLp tg (fun _ => M.ret true) b (xs.map u) (cSt nv caps δ) β = some (.ok (xs.flatMap o), β) := by
  intro xs
  induction xs with
  | nil => intro _; rfl
  | cons x xs ih =>
   intro h
   obtain ⟨δ1, e1, e2⟩ := h x List.mem_cons_self
   have e3 := ih fun y hy => h y (List.mem_cons_of_mem _ hy)
   rw [List.map_cons, cLp]
   simp only [e1, M.bind, M.ret, reduceIte, e2, e3, List.flatMap_cons]
 exact gen xs h2
theorem ww {α : Type} {it : FL} {tg : TgF} {f : FD} {δ : Dn} {β : Bg} (xs : List α) (u v : α -> D) (h1 : it δ β = some (.ok (xs.map u), β))
  (h2 : ∀ x ∈ xs, ∃ δ1, tg (u x) δ = some δ1 /\ f δ1 β = some (.ok (v x), β)) : cNx it tg (fun _ => M.ret true) (cEm f) δ β = some (.ok (xs.map v), β) := by
 have gen : ∀ xs : List α, (∀ x ∈ xs, ∃ δ1, tg (u x) δ = some δ1 /\ f δ1 β = some (.ok (v x), β)) -> cLp tg (fun _ => M.ret true) (cEm f) (xs.map u) δ β = some (.ok (xs.map v), β) := by
  intro xs
  induction xs with
  | nil => intro _; rfl
  | cons x xs ih =>
   intro h
   obtain ⟨δ1, e1, e2⟩ := h x List.mem_cons_self
   have e3 := ih fun y hy => h y (List.mem_cons_of_mem _ hy)
   rw [List.map_cons, cLp]
   simp only [e1, M.bind, M.ret, reduceIte, cEm, e2, e3, List.map_cons, List.cons_append, List.nil_append]
 unfold cNx
 rw [M.bind_ok h1]
 exact gen xs h2
theorem qW {α γ : Type} {f : α -> List γ} {n : Nat} : ∀ {l : List α}, (∀ x ∈ l, (f x).length <= n) -> (l.flatMap f).length <= n * l.length
 | [], _ => by simp
 | x :: l, h => by
  have h1 := h x List.mem_cons_self
  have h2 := qW (l := l) fun y hy => h y (List.mem_cons_of_mem _ hy)
  rw [List.flatMap_cons, List.length_append, List.length_cons, Nat.mul_add]
  omega
theorem xG {α γ : Type} (xs : List α) (ys : α -> List γ) (p : α -> γ -> Bool) : lr [.lst (xs.flatMap fun x => (ys x).map fun y => D.bl (p x y))] = some (.bl (xs.any fun x => (ys x).any (p x))) := by
 show (bU _).map _ = _
 rw [show (xs.flatMap fun x => (ys x).map fun y => D.bl (p x y)) = (xs.flatMap fun x => (ys x).map (p x)).map D.bl by rw [List.map_flatMap]; simp only [List.map_map]; rfl, lU]
 simp only [Option.map_some, List.any_flatMap, List.any_map]
 rfl
def ee (rows : LI) : Bool := decide (1 <= rows.length) && decide (rows.length <= 4) && (decide (1 <= (rows.headD []).length) && decide ((rows.headD []).length <= 6)) && (rows.all fun row => decide (row.length = (rows.headD []).length)) && (rows.all fun row => row.all fun x => decide (0 <= x)) && decide (tot rows <= 40)
theorem dX {rows : LI} (h : ee rows = true) : Tab rows.length (rows.headD []).length rows := by
 unfold ee at h
 simp only [Bool.and_eq_true, decide_eq_true_eq, List.all_eq_true] at h
 obtain ⟨⟨⟨⟨⟨h1, h2⟩, h3, h4⟩, h5⟩, h6⟩, h7⟩ := h
 exact ⟨⟨rfl, h5⟩, h6, h7, h1, h2, h3, h4⟩
theorem rK {r c : Nat} {rows : LI} (t : Tab r c rows) : (rows.headD []).length = c := by
 have := t.shp.1
 have := t.r0
 cases rows with
 | nil => simp at *; omega
 | cons x xs => exact t.shp.2 x List.mem_cons_self
theorem lz {r c : Nat} {rows : LI} (t : Tab r c rows) : ee rows = true := by
 unfold ee
 simp only [Bool.and_eq_true, decide_eq_true_eq, List.all_eq_true]
 have h := rK t
 rw [h]
 exact ⟨⟨⟨⟨⟨by rw [t.shp.1]; exact t.r0, by rw [t.shp.1]; exact t.r1⟩, t.c0, t.c1⟩, t.shp.2⟩, t.nn⟩, t.tot⟩
def VIs (K : Frag) (d : D) (u : Value) : Prop := ∃ v, aD v u /\ ∀ F H, Den K F H d v
theorem kF {K : Frag} {i : Int} {t : Tok} : VIs K (.int i) (.int i t) := ⟨.int i, ⟨t, rfl⟩, fun _ _ => rfl⟩
theorem nJ {K : Frag} {mg : Str -> Option Value} {x : Str} {d : D} {u : Value} (h : mg x = some u) (v : VIs K d u) : kE K mg x d := let ⟨w, h1, h2⟩ := v; ⟨u, w, h, h1, h2⟩
section
variable {X : Cx} {E : St -> XK} {K : Frag} {st : Stmt}
end
section
variable {h : G} {δ : Ds} {β β1 β2 β3 : Bg} {Q : Out -> Bg -> Prop} {i : Nat} {fa fb fv : FD} {fl : FL} {d d0 d1 : D} {ds : List D} {op : D -> D -> Option D}
end
theorem xM {n : Nat} {d : D} {δ : Dn} {β : Bg} (e : δ.getD n none = some d) : ad n δ β = some (.ok d, β) := by unfold ad; rw [e]; rfl
section
variable {β β1 β2 : Bg} {f g h : FD} {δ : Dn} {x y z : Int}
end
theorem j8 {K : Frag} {F : Fx} {H : Hp} {f : Str} {d : D} : ∀ {ns : List Str} {ds : List D} {xs : List V}, DenL K F H ds xs -> (ns.zip ds).lookup f = some d -> ∃ v, (ns.zip xs).lookup f = some v /\ Den K F H d v
 | [], ds, xs, h, e => by simp at e
 | n :: ns, [], xs, h, e => by simp at e
 | n :: ns, c :: ds, xs, h, e => by
  obtain ⟨x, r, q, h1, h2⟩ := h
  subst q
  rw [List.zip_cons_cons, List.lookup_cons] at e ⊢
  split at e
  ·rename_i z
   cases e
   exact ⟨x, rfl, h1⟩
  ·rename_i z
   exact j8 h2 e
theorem fj {α : Type} {m : Str} : ∀ {ns : List Str} {xs : List α}, m ∉ ns -> (ns.zip xs).lookup m = none
 | [], xs, _ => by simp
 | n :: ns, [], _ => by simp
 | n :: ns, x :: xs, h => by
  rw [List.zip_cons_cons, List.lookup_cons]
  have h1 : m ≠ n := fun z => h (by rw [z]; exact List.mem_cons_self)
  have h2 : m ∉ ns := fun z => h (List.mem_cons_of_mem _ z)
  rw [show (m == n) = false by simpa using h1]
  exact fj h2
theorem cS.nil {K : Frag} {fd : FuncData} {ps : List Str} (b : ay K fd ps []) : cS K fd ps [] := ⟨[], [], b, .nil, fun _ _ => DenL.nil⟩
section
variable {X : Cx} {E : St -> XK} {o e : Expr} {es : List Expr} {pos p apos kpos : Pos} {x m : Str} {k n : Nat} {f C : Addr} {fd : FuncData} {ps ks : List Str} {kws : List Keyword}
def di (C : Addr) (f : Str) : D -> Option D
 | .obj C' ns ds => if C' = C then (ns.zip ds).lookup f else none
 | _ => none
theorem dz {f : Str} {g : FD} (c : Cls X.K C) (n : dG X.K C f) (he : PE X e (tV X.K g E)) (hb : attributeBase e f X.env (eval e X.env) = eval e X.env := by rfl) : PE X (.Attribute e f pos) (tV X.K (f1 (di C f) g) E) :=
 (we he hb).imp fun σ H Q h_ => ex6 h_ fun F δ β fr vk h => ⟨F, δ, β, fr, vk, (run.bind (R := Den X.K F) h).mono fun v H1 h_ => by
  obtain ⟨d, β1, t, hd, r1⟩ := h_
  obtain ⟨d3, e3, k⟩ := run.ofO r1
  cases d <;> first | cases e3 | skip
  rename_i C' ns ds
  unfold di at e3
  simp only at e3
  split at e3
  ·rename_i z
   subst z
   unfold Den at hd
   obtain ⟨a, dx, xs, rfl, h1, h2, h3, h4⟩ := hd
   obtain ⟨w, hw, dw⟩ := j8 h4 e3
   exact ⟨a, C', dx, _, w, rfl, h2, c, n, hw, k w H1 (To.refl t.fr) dw⟩
  ·cases e3⟩
def en (C : Addr) (m : Str) (mf : List D -> M D) (fo : FD) (g : FL) (dd : List D) : FD := fun δ => M.bind (fo δ) fun d => match d with
 | .obj C' ns _ => if C' = C /\ m ∉ ns then M.bind (g δ) fun as => mf (d :: (as ++ dd)) else M.fail
 | _ => M.fail
theorem sr {mf : List D -> M D} {fo : FD} {g : FL} {dd : List D} {K : Frag} {R : Sp} {dvs : List V} {σ : St} {H : Hp} {Q : VK} (hR : ∀ vs H Q E, spF K n mf vs H Q E -> R vs H Q E) (rd : ∀ F H, DenL K F H dd dvs) (hn : ∀ δ β r β', g δ β = some (.ok r, β') -> r.length + dd.length + 1 = n) (h : tV K (en C m mf fo g dd) E σ H Q) : tz C m R dvs E (tV K fo E) (tVA K g E) σ H Q := by
 obtain ⟨F, δ, β, fr, vk, h⟩ := h
 refine ⟨F, δ, β, fr, vk, (run.bind (R := Den K F) h).mono fun v H1 h_ => ex5 h_ fun d β1 t hd r1 => ?_⟩
 have fail : ∀ {mm : M D}, mm = M.fail -> run (Den K F) F E σ mm H1 Q β1 -> False := fun {mm} e r => by
  obtain ⟨r, β', e', _⟩ := r
  rw [e] at e'; cases e'
 cases d <;> first | exact (fail rfl r1).elim | skip
 rename_i C' ns ds
 simp only at r1
 split at r1
 ·rename_i z
  obtain ⟨rfl, hm⟩ := z
  have hd' := hd
  unfold Den at hd
  obtain ⟨a, dx, xs, rfl, h1, h2, h3, h4⟩ := hd
  refine ⟨a, dx, _, rfl, h2, fj hm, F, δ, β1, t.fr, vk.tr (t.tr fr), ?_⟩
  obtain ⟨r0, β0, e0, h0⟩ := run.bind (R := DenL K F) r1
  refine ⟨r0, β0, e0, ?_⟩
  cases r0 with
  | error C => exact h0
  | ok as =>
   intro vs H2 t2 hds
   obtain ⟨d', β2, t3, hd3, r3⟩ := h0 vs H2 t2 hds
   have hl := hn _ _ _ _ e0
   have hz := (rd F H2).length
   refine hR _ _ _ _ ⟨by rw [List.length_cons, List.length_append, ← hds.length, ← hz, hl], F, _ :: (d' ++ dd), β2, t3.fr, DenL.cons (Den.tr (t3.tr t.fr) _ _ hd') (DenL.append hd3 (rd F H2)), run.toE r3⟩
 ·exact (fail rfl r1).elim
theorem fV {mf : List D -> M D} {fo : FD} {dd : List D} {pl : Sem Bool} (c : Cls X.K C) (hm : Meth X.K C m f) (G : FnOk X.prog X.w X.K X.mg X.base (CXE X.prog X.w) k f fd ps (spF X.K n mf)) (hr : Room k X.A) (hb : cS X.K fd ps dd) (hx : aP (CXE X.prog X.w) X E)
  (ho : PE X o (tV X.K fo E)) (hn : dd.length + 1 = n)
  (ht : eval (.Call (.Attribute o m apos) [] [] pos) X.env = (do
   let ov ← eval o X.env
   standAt apos.atName
   let (f, first) ← holding [ov] (getMethod ov m pl)
   callWith pos f first (backTo pos (starEach [] X.env)) (backToKw pos (keywordEach [] X.env))) := by rfl) :
  PE X (.Call (.Attribute o m apos) [] [] pos) (tV X.K (en C m mf fo af dd) E) := by
 obtain ⟨ds, dvs, b, rv, rd⟩ := hb
 refine (jj (pl := pl) ho c hm G hr b rv hx ht).imp fun σ H Q h => ?_
 obtain ⟨F, δ, β, fr, vk, h⟩ := sr (fun _ _ _ _ z => z) rd (fun δ β r β' e => by cases e; simpa using hn) h
 refine ⟨F, δ, β, fr, vk, h.mono fun v H1 ⟨a, dx, fs, ev, ha, hl, F2, δ2, β2, fr2, vk2, r2⟩ => ⟨a, dx, fs, ev, ha, hl, ?_⟩⟩
 exact run.ret fr2 r2 DenL.nil
end
structure ToX (F : Fx) (x : Addr) (H H' : Hp) (β' : Bg) : Prop where
 kp : ∀ a o, a ≠ x -> H a = some o -> (∀ b l, F.bg = some (b, l) -> a ≠ b /\ a ≠ l) -> H' a = some o
 fr : Fr F H' β'
section
variable {X : Cx} {E : St -> XK} {e : Expr} {es : List Expr} {pos p kpos : Pos} {x : Str} {k n : Nat} {f C : Addr} {fd : FuncData} {ps ks ns : List Str} {kws : List Keyword}
def dE (C : Addr) (ns : List Str) (mi : List D -> M (List D)) (g : FL) (dd : List D) : FD := fun δ => M.bind (g δ) fun as => M.bind (mi (as ++ dd)) fun fs => M.ret (.obj C ns fs)
end
abbrev IP := Ds -> List D -> Bg -> Option (Except Addr (List D) × Bg)
def t5 : IP := fun _ done β => some (.ok done, β)
def gC (g : G) (ip : IP) : IP := fun δ done β => match g δ β with
 | some (.nx δ1, β1) => match δ[0]?, δ1[0]? with
  | some (some (Sl.sh (D.adr x))), some (some (Sl.sh (D.adr y))) => if x = y then ip δ1 done β1 else none
  | _, _ => none
 | some (.ex C _, β1) => some (.error C, β1)
 | _ => none
def kh (f : FD) (ip : IP) : IP := fun δ done β => match f (vw δ) β with
 | some (.ok d, β1) => ip δ (done ++ [d]) β1
 | some (.error C, β1) => some (.error C, β1)
 | none => none
structure StpX (x : Addr) (B : Ow) (H : Hp) (B' : Ow) (H' : Hp) : Prop where
 kp : ∀ a o, a ≠ x -> H a = some o -> (B a = none \/ B a = some 0) -> H' a = some o
 tg : ∀ a, B a = some 0 \/ B a = some 1 -> B' a = B a
 nn : ∀ a o, a ≠ x -> H a = some o -> B a = none -> B' a = none
 al : ∀ a, H a ≠ none -> H' a ≠ none
theorem Stp.x {x : Addr} {B B' : Ow} {H H' : Hp} (s : Stp B H B' H') : StpX x B H B' H' := ⟨fun a o _ => s.kp a o, s.tg, fun a o _ => s.nn a o, s.al⟩
theorem StpX.trans {x : Addr} {B B1 B2 : Ow} {H H1 H2 : Hp} (a : StpX x B H B1 H1) (b : StpX x B1 H1 B2 H2) : StpX x B H B2 H2 := by
 refine ⟨fun c o ne h n => b.kp c o ne (a.kp c o ne h n) ?_, fun c h => ?_, fun c o ne h n => b.nn c o ne (a.kp c o ne h (.inl n)) (a.nn c o ne h n), fun c h => b.al c (a.al c h)⟩
 ·rcases n with n | n
  ·exact .inl (a.nn c o ne h n)
  ·exact .inr ((a.tg c (.inl n)).trans n)
 ·have e := a.tg c h
  rw [← e] at h
  exact (b.tg c h).trans e
theorem lD {f : Str} {y : V} : ∀ {ns : List Str} {vs : List V}, ns.length = vs.length -> f ∉ ns -> bS f y (ns.zip vs) = (ns ++ [f]).zip (vs ++ [y])
 | [], [], _, _ => rfl
 | n :: ns, v :: vs, h, hf => by
  have h1 : ¬ n = f := fun z => hf (by rw [z]; exact List.mem_cons_self)
  show (if n = f then (n, y) :: ns.zip vs else (n, v) :: bS f y (ns.zip vs)) = _
  rw [if_neg h1, lD (by simpa using h) fun z => hf (List.mem_cons_of_mem _ z)]
  rfl
 | [], _ :: _, h, _ => by simp at h
 | _ :: _, [], h, _ => by simp at h
theorem SOk.upd0 {K : Frag} {H₀ : Hp} {B : Ow} {bg : Option (Addr × Addr)} {H : Hp} {δ : Ds} {β : Bg} {σ : St} {x : Addr} {o : HO} (ok : SOk K H₀ B bg H δ β σ) (hx : B x = some 0) : SOk K H₀ B bg (upd H x o) δ β σ /\ StpX x B H B (upd H x o) := by
 have al : ∀ c, H c ≠ none -> upd H x o c ≠ none := fun c hc => by
  by_cases z : c = x
  ·subst z; rw [ai]; simp
  ·rw [upd_ne z]; exact hc
 have nb : ∀ b l, bg = some (b, l) -> b ≠ x /\ l ≠ x := fun b l e => by
  obtain ⟨b1, b2⟩ := ok.bgt b l e
  exact ⟨fun z => (by rw [z, hx] at b1; cases b1), fun z => (by rw [z, hx] at b2; cases b2)⟩
 have tr : Tr (FxB B bg) H (FxB B bg) (upd H x o) := ⟨fun _ h _ => h, fun c u hc e => by
  rw [upd_ne]
  ·exact e
  ·intro z; subst z; exact hc (by show B c ≠ none; rw [hx]; simp), rfl⟩
 refine ⟨⟨⟨fun c hc => al c (ok.fr.occ c hc), ok.fr.bgA, fun b l e => ?_⟩, ok.bgt, ok.len, fun c hc => al c (ok.cov c hc), ok.new, fun c k hc => ?_, fun i s e => ?_⟩, fun c u ne h _ => by rw [upd_ne ne]; exact h, fun _ _ => rfl, fun _ _ _ _ n => n, al⟩
 ·obtain ⟨z1, z2⟩ := ok.fr.bag b l e
  obtain ⟨n1, n2⟩ := nb b l e
  exact ⟨by rw [upd_ne n1]; exact z1, by rw [upd_ne n2]; exact z2⟩
 ·obtain ⟨xs, h⟩ := ok.lst c k hc
  exact ⟨xs, by rw [upd_ne]; exact h; intro z; subst z; rw [hx] at hc; cases hc⟩
 ·obtain ⟨v, h1, h2⟩ := ok.tell i s e
  refine ⟨v, h1, ?_⟩
  cases s with
  | sh d => exact Den.tr tr _ _ h2
  | own ds =>
   obtain ⟨a, xs, rfl, hB, ha, hd⟩ := h2
   exact ⟨a, xs, rfl, hB, (by rw [upd_ne]; exact ha; intro z; subst z; rw [hx] at hB; cases hB), DenL.tr tr _ _ hd⟩
  | grd rows =>
   obtain ⟨a, rs, rfl, hB, ha, nd, rl⟩ := h2
   refine ⟨a, rs, rfl, hB, (by rw [upd_ne]; exact ha; intro z; subst z; rw [hx] at hB; cases hB), nd, RowL.tr tr rl fun r xs _ p q => ⟨p, ?_⟩⟩
   rw [upd_ne]
   ·exact q
   ·intro z; subst z
    have p' : B r = some (i + 2) := p
    rw [hx] at p'; cases p'
section
variable {X : Cx} {E : St -> XK} {st : Stmt} {sts : List Stmt} {C : Addr} {ns0 names : List Str} {ip : IP}
end
open Classical in
noncomputable def iJ (m : Nat) (ip : IP) : List D -> M (List D) := fun ds β => if h : ∃ r, ∀ x, ip (stD m (.adr x :: ds)) [] β = some r then some h.choose else none
theorem sI {m : Nat} {ip : IP} {ds : List D} {β : Bg} {r : Except Addr (List D) × Bg} (h : ∀ x, ip (stD m (.adr x :: ds)) [] β = some r) : iJ m ip ds β = some r := by
 have hx : ∃ r, ∀ x, ip (stD m (.adr x :: ds)) [] β = some r := ⟨r, h⟩
 unfold iJ
 rw [dif_pos hx]
 have := hx.choose_spec 0
 rw [h 0] at this
 exact this.symm
theorem qQ {m : Nat} {ip : IP} {ds : List D} {β : Bg} {r : Except Addr (List D) × Bg} (h : iJ m ip ds β = some r) : ∀ x, ip (stD m (.adr x :: ds)) [] β = some r := by
 unfold iJ at h
 split at h
 ·rename_i hx
  have := hx.choose_spec
  cases h
  exact this
 ·cases h
section
variable {P : Program} {w : World} {K : Frag} {mg : Str -> Option Value} {base : Heap}
end
section
variable {X : Cx} {E : St -> XK} {K : Frag} {st : Stmt}
end
section
variable {h : G} {δ : Ds} {β β1 : Bg} {Q : Out -> Bg -> Prop} {i : Nat} {f : FD}
end
section
variable {C Ce : Addr} {m : Str} {ns : List Str} {mf : List D -> M D} {mi : List D -> M (List D)} {fo : FD} {g gk : FL} {dd fs as ks : List D} {src : List (Sr D)} {δ : Dn} {β β1 β2 β3 : Bg} {r : Except Addr D × Bg} {d : D} {f : Str} {h : G} {Q : Out -> Bg -> Prop} {i : Nat} {δs : Ds}
theorem gZ (e1 : fo δ β = some (.ok (.obj C ns fs), β1)) (e2 : g δ β1 = some (.ok as, β2)) (e3 : mf (.obj C ns fs :: (as ++ dd)) β2 = some r) (hm : m ∉ ns := by decide) : en C m mf fo g dd δ β = some r := by
 unfold en
 rw [M.bind_ok e1]
 simp only [hm, not_false_eq_true, and_self, if_true]
 rw [M.bind_ok e2]
 exact e3
theorem vi (e1 : g δ β = some (.ok as, β1)) (e2 : mi (as ++ dd) β1 = some (.ok fs, β2)) : dE C ns mi g dd δ β = some (.ok (.obj C ns fs), β2) := by
 unfold dE
 rw [M.bind_ok e1, M.bind_ok e2]
 rfl
theorem ug (e1 : g δ β = some (.ok as, β1)) (e2 : mi (as ++ dd) β1 = some (.error Ce, β2)) : dE C ns mi g dd δ β = some (.error Ce, β2) := by
 unfold dE
 rw [M.bind_ok e1, M.bind_err e2]
theorem dy {x : FD} (e1 : x δ β = some (.ok (.obj C ns fs), β1)) (e2 : (ns.zip fs).lookup f = some d) : f1 (di C f) x δ β = some (.ok d, β1) := by
 refine x_1 e1 ?_
 unfold di
 simp only [if_true]
 exact e2
theorem wO {g : G} {ip : IP} {δ δ1 : Ds} {done : List D} {x : Addr} {r : Except Addr (List D) × Bg} (e : g δ β = some (.nx δ1, β1)) (h0 : δ[0]? = some (some (.sh (.adr x)))) (h1 : δ1[0]? = some (some (.sh (.adr x)))) (k : ip δ1 done β1 = some r) : gC g ip δ done β = some r := by
 unfold gC
 simp only [e, h0, h1, if_true]
 exact k
theorem u6 {g : G} {ip : IP} {δ δ1 : Ds} {done : List D} (e : g δ β = some (.ex Ce δ1, β1)) : gC g ip δ done β = some (.error Ce, β1) := by
 unfold gC
 simp only [e]
theorem wP {f : FD} {ip : IP} {δ : Ds} {done : List D} {d : D} {r : Except Addr (List D) × Bg} (e : f (vw δ) β = some (.ok d, β1)) (k : ip δ (done ++ [d]) β1 = some r) : kh f ip δ done β = some r := by
 unfold kh
 rw [e]
 exact k
end
def tpA {α : Type} (d : α) (c : Nat) (rows : List (List α)) : List (List α) := (List.range c).map fun j => rows.map fun row => row.getD j d
abbrev tp (c : Nat) (rows : LI) : LI := tpA 0 c rows
theorem ix {α : Type} {d : α} {r c : Nat} {rows : List (List α)} (h : rows.length = r) : Shp c r (tpA d c rows) := ⟨by simp [tpA], fun row hr => by
 obtain ⟨j, _, rfl⟩ := List.mem_map.mp hr
 rw [List.length_map, h]⟩
end L2.Pu
namespace L2.Pu
open PySem PySem.Spec PyProof PyProof.Rows
section
variable {X : Cx}
end
section
variable {prog : Program} {w : World} {A : Around} {E : Value -> Shared -> Prop} {s : Shared} {l : Addr} {xs : Array (Int × Tok)}
end
section
variable {X : Cx} {K : Frag}
end
end L2.Pu
namespace L2
open PySem PySem.Spec PyProof.Rows
end L2
namespace L2.Pu
open PySem PySem.Spec PyProof.Rows
section
variable {X : Cx} {E : St -> XK} {K : Frag} {elt target iter : Expr} {ifs : List Expr} {rest : List Comprehension} {scope : Scope} {pos : Pos} {Nc vars : List Str} {caps : List Nat} {g : TG} {tb : Addr -> TB}
end
section
variable {X : Cx} {E : St -> XK} {K : Frag} {st : Stmt} {H₀ : Hp} {B : Ow} {bg : Option (Addr × Addr)} {H H' : Hp} {δ : Ds} {β β' : Bg} {σ : St}
end
theorem lU1 {us : List Value} (h : us.length = 1) : ∃ a0, us = [a0] := List.length_eq_one_iff.mp h
theorem lU2 {us : List Value} (h : us.length = 2) : ∃ a0 a1, us = [a0, a1] := by
 obtain ⟨a, l, rfl⟩ := List.exists_cons_of_length_eq_add_one h
 obtain ⟨b, rfl⟩ := lU1 (us := l) (by simpa using h)
 exact ⟨_, _, rfl⟩
theorem lU3 {us : List Value} (h : us.length = 3) : ∃ a0 a1 a2, us = [a0, a1, a2] := by
 obtain ⟨a, l, rfl⟩ := List.exists_cons_of_length_eq_add_one h
 obtain ⟨b, c, rfl⟩ := lU2 (us := l) (by simpa using h)
 exact ⟨_, _, _, rfl⟩
end L2.Pu
namespace L2
open PySem PySem.Spec PyProof.Rows
section
variable {prog : Program} {w : World} {A : Around} {E : Value -> Shared -> Prop} {s : Shared} {K : Frag}
end
section
variable {X : Cx}
end
namespace Pu
section
variable {X : Cx} {E : St -> XK}
end
end Pu
end L2
namespace L2.Pu
open PySem PySem.Spec PyProof.Rows
section
variable {X : Cx} {E : St -> XK} {a b : Expr} {pos : Pos} {k : Nat} {f C : Addr} {fd : FuncData} {ps : List Str} {K : Frag}
def mj : D -> D -> Option D
 | .bl a, .bl b => some (.bl (!decide (a = b)))
 | _, _ => none
def vV (g : Bool -> Bool -> Bool) : R2 := fun x y H Q => ∃ p q, x = .bl p /\ y = .bl q /\ Q (.bl (g p q)) H
theorem sW (p q : Bool) : (Value.bool p == Value.bool q) = decide (p = q) := by cases p <;> cases q <;> rfl
theorem oz : OpR X (compareOp .IsNot) (vV fun p q => !decide (p = q)) := by
 intro pins s σ H x y v u Q I rx ry h
 obtain ⟨p, q, rfl, rfl, h⟩ := h
 cases rx
 cases ry
 exact wpAny_isNot_plain rfl ⟨_, H, I, by rw [sW]; exact rfl, h⟩
theorem qK : bd K (vV fun p q => !decide (p = q)) mj := fun F H β Q d1 d2 d v1 v2 fr h1 h2 e k => by
 unfold mj at e
 split at e
 ·cases e
  exact ⟨_, _, h1, h2, k _ H (To.refl fr) rfl⟩
 ·cases e
structure IsC (K : Frag) (C : Addr) : Prop where
 cl : Cls K C
 ha : findIn K (.ref C) "__class__" = some (some (.builtin "object.__class__"))
 hn : specialIn K (.builtin "object.__class__") "__get__" = some (some (.builtin "getset_descriptor.__get__"))
 htk : PySem.W.takesIn K (.builtin "object.__class__") = some true
 hm : mroIn K C (.type "object") = some true
def tM (K : Frag) : List V -> Hp -> VK -> Prop := fun xs H Q => ∃ x c t b, xs = [x, .ref c] /\ TyG K H x t /\ kitOne K t (.ref c) = some b /\ Q (.bl b) H
theorem rz : bt X (.builtin "isinstance") (tM X.K) := by
 intro pins s σ H xs us Q I r h
 obtain ⟨x, c, t, b, rfl, ty, e, q⟩ := h
 cases r with
 | cons r1 r2 =>
  cases r2 with
  | cons r2 r3 =>
   cases r3
   cases r2
   rcases ty with ty | ⟨a, ys, rfl, sq, rfl⟩ | ⟨a, ys, rfl, sq, rfl⟩
   ·exact lK I r1 ty e fun tk => ⟨.bl b, H, I.tok _, rfl, q⟩
   ·cases r1
    obtain ⟨its, _, pl, _⟩ := I.list sq
    obtain ⟨o, ho, hc, _⟩ := pl.isList
    exact kia_one kitx_list I.kIn ⟨o, ho, hc⟩ e (fun z => nomatch z) fun tk => ⟨.bl b, H, I.tok _, rfl, q⟩
   ·cases r1
    obtain ⟨its, _, pl, _⟩ := I.tuple sq
    obtain ⟨o, ho, hc, _⟩ := pl
    exact kia_one kitx_tuple I.kIn ⟨o, ho, hc⟩ e (fun z => nomatch z) fun tk => ⟨.bl b, H, I.tok _, rfl, q⟩
def mn (K : Frag) (C : Addr) : List D -> Option D
 | [.obj C' _ _, .adr c] => if C' = C then (kitOne K (.ref C') (.ref c)).map D.bl else none
 | [x, .adr c] => (tyD x).bind fun t => (kitOne K (.type t) (.ref c)).map D.bl
 | _ => none
theorem wG (ic : IsC K C) : cy K (tM K) (mn K C) := fun F H β Q ds d vs fr h e k => by
 unfold mn at e
 split at e
 ·rename_i C' ns fs c
  split at e
  ·rename_i z
   subst z
   cases q2 : kitOne K (.ref C') (.ref c) with
   | none => rw [q2] at e; cases e
   | some b =>
    rw [q2] at e; cases e
    obtain ⟨v, w, rfl, h1, h2⟩ := DenL.two h
    cases (show w = V.ref c from h2)
    unfold Den at h1
    obtain ⟨a, dx, xs, rfl, _, h3, _⟩ := h1
    exact ⟨_, c, _, b, rfl, .inl (.ins h3 ic.cl ic.ha ic.hn ic.htk ic.hm), q2, k _ H (To.refl fr) rfl⟩
  ·cases e
 ·rename_i x c _
  cases q : tyD x with
  | none => rw [q] at e; cases e
  | some t =>
   rw [q] at e
   simp only [Option.bind_some] at e
   cases q2 : kitOne K (.type t) (.ref c) with
   | none => rw [q2] at e; cases e
   | some b =>
    rw [q2] at e; cases e
    obtain ⟨v, w, rfl, h1, h2⟩ := DenL.two h
    cases (show w = V.ref c from h2)
    exact ⟨v, c, _, b, rfl, mD q h1, q2, k _ H (To.refl fr) rfl⟩
 ·cases e
theorem xU {x : Str} {c : Addr} (hg : Gl X x) (hm : X.mg x = some (.ref c)) (hd : (x == ("__debug__" : Str)) = false := by decide) : PE X (.Name x pos) (tV X.K (fC (.adr c)) E) := v_c (oy (v := .ref c) hg hm rfl hd) (fun _ _ => rfl)
def gJ (C : Addr) (mf : List D -> M D) (fa fb : FD) : FD := fun δ => M.bind (fa δ) fun x => M.bind (fb δ) fun y => match x, y with
 | .obj C1 _ _, .obj C2 _ _ => if C1 = C /\ C2 = C then mf [x, y] else M.fail
 | .obj C1 _ _, .lst _ => if C1 = C then mf [x, y] else M.fail
 | _, _ => M.fail
def tEqO (K : Frag) (C : Addr) (sp : Sp) (E : St -> XK) (ta tb : TE) : TE := fun σ H Q => ta σ H fun x H1 => tb σ H1 fun y H2 => ∃ l dx fs, x = .ref l /\ H2 l = some (.ins C dx fs) /\ ((∃ l2 dx2 fs2, y = .ref l2 /\ H2 l2 = some (.ins C dx2 fs2)) \/ ∃ l2 ys, y = .ref l2 /\ SqL K H2 l2 ys) /\ sp [x, y] H2 Q (E σ)
theorem rR {h : Heap} {l : Addr} {o : Obj} {t : Value} {M : Model} (e : h.get? l = some o) (hc : o.cls = t) : Looks M h (typeOf (.ref l)) t := by
 have := (PySem.W.Looks.ld (M := M) (part := some headPart) e)
 exact this.andThen (by rw [hc]; exact .now)
theorem vT {v : V} {u : Value} (r : aD v u) : u ≠ .notImplemented := by
 rintro rfl
 cases v <;> first | (obtain ⟨_, q⟩ := r; cases q; done) | (cases r; done)
theorem pR {Q : Value -> Shared -> Prop} {u : Value} {s : Shared} (h : u ≠ .notImplemented) (q : Q u s) : PySem.W.CmpBack Q u s := by
 cases u <;> first | exact q | exact absurd rfl h
theorem wf {ta tb : TE} {sp : Sp} (hm : Meth X.K C "__eq__" f) (G : FnOk X.prog X.w X.K X.mg X.base (CXE X.prog X.w) k f fd ps sp) (hr : Room k X.A) (hb : ay X.K fd ps []) (hx : aP (CXE X.prog X.w) X E) (hl : subIn X.K (.type "list") (.ref C) = some false)
  (ha : PE X a ta) (hbb : PE X b tb) (hmk : behindInMarks .Eq b = false) : PE X (.Compare a [.Eq] [b] pos) (tEqO X.K C sp E ta tb) := by
 intro pins s σ H Q I h
 refine wpAny_Compare1 (pZ ha hbb I h fun v u s2 x y H2 I2 rx ry q => ?_) hmk
 obtain ⟨l, dx, fs, rfl, hl1, hy, q⟩ := q
 cases rx
 obtain ⟨mA, O, _⟩ := cm I2.hok hl1
 obtain ⟨od, J, _⟩ := O.look
 obtain ⟨m, F⟩ := I2.fr
 have fin : wpAny (model X.prog X.w) X.A (call (.ref f) [.ref l, u]) (PySem.W.CmpBack (EP X pins σ Q)) X.xe s2 := by
  refine wpAny_mono (jO (us := [.ref l, u]) (vs := [.ref l, y]) G hr hb .nil hx I2 (.cons rfl (.cons ry .nil)) q) (fun w s3 z => ?_) fun _ _ z => z
  obtain ⟨v', H', I', r', q'⟩ := z
  exact pR (vT r') ⟨v', H', I', r', q'⟩
 have hu : X.A.units < cLine := by have := hr.un; omega
 refine PySem.W.cmp_ofEq ?_
 rcases hy with ⟨l2, dx2, fs2, rfl, hl2⟩ | ⟨l2, ys, rfl, sq⟩
 ·cases ry
  obtain ⟨mA2, O2, _⟩ := cm I2.hok hl2
  obtain ⟨od2, J2, _⟩ := O2.look
  exact PySem.W.cmp_K hu F I2.ok.mod.kin J J2.type (by unfold PySem.W.notFirst; rw [beq_self_eq_true, Bool.true_or]) hm.at_ hm.fn fin
 ·cases ry
  obtain ⟨its, _, pl, _⟩ := I2.list sq
  obtain ⟨o, ho, hc, _⟩ := pl.isList
  exact PySem.W.cmp_K hu F I2.ok.mod.kin J (rR ho hc) (by unfold PySem.W.notFirst; rw [hl]; exact Bool.or_true _) hm.at_ hm.fn fin
theorem l8 {mf : List D -> M D} {fa fb : FD} (hm : Meth X.K C "__eq__" f) (G : FnOk X.prog X.w X.K X.mg X.base (CXE X.prog X.w) k f fd ps (spF X.K 2 mf)) (hr : Room k X.A) (hb : ay X.K fd ps []) (hx : aP (CXE X.prog X.w) X E) (hl : subIn X.K (.type "list") (.ref C) = some false)
  (ha : PE X a (tV X.K fa E)) (hbb : PE X b (tV X.K fb E)) (hmk : behindInMarks .Eq b = false := by first | exact j4 _ | rfl) : PE X (.Compare a [.Eq] [b] pos) (tV X.K (gJ C mf fa fb) E) := by
 refine (wf hm G hr hb hx hl ha hbb hmk).imp fun σ H Q h => ?_
 obtain ⟨F, δ, β, fr, vk, h⟩ := h
 refine ⟨F, δ, β, fr, vk, (run.bind (R := Den X.K F) h).mono fun v H1 h_ => ex5 h_ fun d β1 t hd r1 => ⟨F, δ, β1, t.fr, vk.tr (t.tr fr), (run.bind (R := Den X.K F) r1).mono fun v2 H2 h_ => ex5 h_ fun d2 β2 t2 hd2 r2 => ?_⟩⟩
 have fail : ∀ {mm : M D}, mm = M.fail -> run (Den X.K F) F E σ mm H2 Q β2 -> False := fun {mm} e r => by
  obtain ⟨r, β', e', _⟩ := r
  rw [e] at e'; cases e'
 have hd' := Den.tr (t2.tr t.fr) _ _ hd
 have sp2 : ∀ {r3 : M D}, run (Den X.K F) F E σ (mf [d, d2]) H2 Q β2 -> spF X.K 2 mf [v, v2] H2 Q (E σ) := fun r => ⟨rfl, F, [d, d2], β2, t2.fr, DenL.cons hd' (DenL.cons hd2 DenL.nil), run.toE r⟩
 cases d with
 | obj C1 ns ds =>
  cases d2 with
  | lst xs =>
   simp only at r2
   split at r2
   ·rename_i z
    subst z
    have h1 := hd'
    unfold Den at h1
    obtain ⟨l, dx, ys, e1, _, h3, _⟩ := h1
    obtain ⟨l2, ys2, e2, sq, _⟩ := Den.sqL hd2
    exact ⟨l, dx, _, e1, h3, .inr ⟨l2, ys2, e2, sq⟩, sp2 (r3 := M.fail) r2⟩
   ·exact (fail rfl r2).elim
  | obj C2 ns2 ds2 =>
   simp only at r2
   split at r2
   ·rename_i z
    obtain ⟨rfl, rfl⟩ := z
    have h1 := hd'
    unfold Den at h1
    obtain ⟨l, dx, ys, e1, _, h3, _⟩ := h1
    have h2 := hd2
    unfold Den at h2
    obtain ⟨l2, dx2, ys2, e2, _, h4, _⟩ := h2
    exact ⟨l, dx, _, e1, h3, .inl ⟨l2, dx2, _, e2, h4⟩, sp2 (r3 := M.fail) r2⟩
   ·exact (fail rfl r2).elim
  | _ => exact (fail rfl r2).elim
 | _ => exact (fail (by cases d2 <;> rfl) r2).elim
theorem oW {mf : List D -> M D} {fa fb : FD} {δ : Dn} {β β1 β2 : Bg} {ns ms : List Str} {fs gs : List D} {r : Except Addr D × Bg} (e1 : fa δ β = some (.ok (.obj C ns fs), β1)) (e2 : fb δ β1 = some (.ok (.obj C ms gs), β2)) (e3 : mf [.obj C ns fs, .obj C ms gs] β2 = some r) : gJ C mf fa fb δ β = some r := by
 unfold gJ
 rw [M.bind_ok e1, M.bind_ok e2]
 show (if C = C /\ C = C then mf _ else M.fail) β2 = _
 rw [if_pos ⟨rfl, rfl⟩]
 exact e3
theorem vm {mf : List D -> M D} {fa fb : FD} {δ : Dn} {β β1 β2 : Bg} {ns : List Str} {fs gs : List D} {r : Except Addr D × Bg} (e1 : fa δ β = some (.ok (.obj C ns fs), β1)) (e2 : fb δ β1 = some (.ok (.lst gs), β2)) (e3 : mf [.obj C ns fs, .lst gs] β2 = some r) : gJ C mf fa fb δ β = some r := by
 unfold gJ
 rw [M.bind_ok e1, M.bind_ok e2]
 show (if C = C then mf _ else M.fail) β2 = _
 rw [if_pos rfl]
 exact e3
theorem sD (C : Addr) : kitOne K (.ref C) (.ref C) = some true := by unfold kitOne; rw [if_pos (beq_self_eq_true _)]
theorem sG {ns : List Str} {fs : List D} : mn K C [.obj C ns fs, .adr C] = some (.bl true) := by
 show (if C = C then (kitOne K (.ref C) (.ref C)).map D.bl else none) = _
 rw [if_pos rfl, sD]; rfl
end
section
variable {X : Cx} {E : St -> XK} {a : Expr} {p1 p2 pos1 pos2 : Pos} {K : Frag}
end
def Fx.old (F : Fx) (H0 : Hp) : Fx := ⟨fun a => F.A a \/ ∃ xs, H0 a = some (.lst xs), F.bg⟩
theorem Fx.tr_old {F : Fx} {H0 H : Hp} : Tr (F.old H0) H F H := ⟨fun a h _ z => h (.inl z), fun _ _ _ h => h, rfl⟩
theorem Fx.old_le {F F2 : Fx} {H0 H1 H : Hp} (h1 : ∀ a, F2.A a -> F.A a \/ ∃ xs, H1 a = some (.lst xs)) (h2 : ∀ a xs, H0 a = some (.lst xs) -> F.A a \/ ∃ ys, H1 a = some (.lst ys)) (hb : F2.bg = F.bg) : Tr (F.old H1) H (F2.old H0) H :=
 ⟨fun a h _ z => by
  rcases z with z | z
  ·exact h (h1 a z)
  ·obtain ⟨xs, z⟩ := z
   exact h (h2 a xs z), fun _ _ _ h => h, hb⟩
theorem To.lst {F : Fx} {H H1 : Hp} {β β1 : Bg} (fr : Fr F H β) (t : To F H H1 β1) : ∀ a xs, H a = some (.lst xs) -> F.A a \/ ∃ ys, H1 a = some (.lst ys) := fun a xs h => by
 by_cases z : F.A a
 ·exact .inl z
 ·exact .inr ⟨xs, t.kp a _ h fun b l q => ⟨fun w => z (w ▸ (fr.bgA b l q).1), fun w => z (w ▸ (fr.bgA b l q).2.1)⟩⟩
def tVN (K : Frag) (f : FD) (E : St -> XK) : TE := fun σ H Q => ∃ F δ β, Fr F H β /\ VOk K F H δ σ /\ run (Den K (F.old H)) F E σ (f δ) H Q β
section
variable {X : Cx} {E : St -> XK} {o e : Expr} {es : List Expr} {pos p apos : Pos} {x m : Str} {k n : Nat} {f C : Addr} {fd : FuncData} {ps ks ns : List Str} {kws : List Keyword} {st : Stmt} {sts : List Stmt}
theorem o0 {g : FD} (h : PE X e (tVN X.K g E)) : PE X e (tV X.K g E) := h.imp fun σ H Q h_ => ex6 h_ fun F δ β fr vk r => ⟨F, δ, β, fr, vk, by
 obtain ⟨r0, β', e0, h0⟩ := r
 refine ⟨r0, β', e0, ?_⟩
 cases r0 with
 | ok d => exact fun v H' t hd => h0 v H' t (Den.tr Fx.tr_old _ _ hd)
 | error C => exact h0⟩
def pM (rows : List (List D)) : Option D := if rows.all noLs = true then some (.lst (rows.map D.lst)) else none
def fGN (g : Dn -> M (List (List D))) : FD := fun δ => M.bind (g δ) fun rows => M.ofO (pM rows)
theorem wx {g : Dn -> M (List (List D))} (h : PE X e (tVG X.K g E)) : PE X e (tVN X.K (fGN g) E) := h.imp fun σ H Q h_ => ex6 h_ fun F δ β fr vk r => ⟨F, δ, β, fr, vk, (run.bind (R := cJ X.K F H) r).mono fun v H1 h_ => ex5 h_ fun rows β1 t hg r1 => by
 obtain ⟨d, e1, k⟩ := run.ofO r1
 unfold pM at e1
 split at e1
 ·rename_i hn
  cases e1
  obtain ⟨a, rs, rfl, n0, n1, nd, rl⟩ := hg
  have nA : ∀ c, H c = none -> ¬ (F.old H).A c := fun c hc z => by
   rcases z with z | z
   ·exact fr.occ c z hc
   ·obtain ⟨xs, z⟩ := z
    rw [hc] at z; cases z
  have rl2 : RowL X.K (F.old H) H1 (fun r => H r = none) rows rs := RowL.noL (fun c hc => by
   rcases hc with z | z
   ·exact .inl z
   ·obtain ⟨xs, z⟩ := z
    exact t.lst fr c xs z) (fun ds hd => List.all_eq_true.mp hn ds hd) rl fun r hr => (RowL.all rl r hr).1
  exact k _ H1 (To.refl t.fr) ⟨a, _, rfl, ⟨nA a n0, .inl n1⟩, RowL.den (Tr.refl _ _) rl2 fun r _ hr => nA r hr⟩
 ·cases e1⟩
def pc (K : Frag) (C : Addr) (ns : List Str) (n : Nat) (mi : List D -> M (List D)) : Sp := fun vs H Q E => ∃ x rest F ds β dx, vs = .ref x :: rest /\ rest.length = n /\ Fr F H β /\ F.A x /\ (∀ b l, F.bg = some (b, l) -> x ≠ b /\ x ≠ l) /\ H x = some (.ins C dx []) /\ DenL K F H ds rest /\
 ∃ r β', mi ds β = some (r, β') /\ match r with
  | .ok es => ∀ H' xs, ToX F x H H' β' -> H' x = some (.ins C dx (ns.zip xs)) -> ns.length = xs.length -> DenL K (F.old H) H' es xs -> Q .non H'
  | .error Ce => ∀ H', ToX F x H H' β' -> E (.ref Ce) none H'
theorem qE {K : Frag} {mi : List D -> M (List D)} {F : Fx} {H H2 : Hp} {β β2 : Bg} {σ : St} {Q : VK} {ds : List D} {vs : List V} (fr0 : Fr F H β) (t0 : To F H H2 β2) (hl : vs.length = n) (hd : DenL K F H2 ds vs) (r : run (Den K (F.old H)) F E σ (M.bind (mi ds) fun fs => M.ret (.obj C ns fs)) H2 Q β2) :
  ∀ x dx, H2 x = none -> H2 dx = none -> dx ≠ x -> pc K C ns n mi (.ref x :: vs) (upd (upd H2 dx (.own x)) x (.ins C dx [])) (fun v H3 => v = .non /\ Q (.ref x) H3) (E σ) := by
 intro x dx hx hdx ne
 have fr := t0.fr
 have hA : ¬ F.A x := fr.fresh hx
 have same : bh H2 (upd (upd H2 dx (.own x)) x (.ins C dx [])) := fun a o h => by
  rw [upd_ne (ne_of_none h hx), upd_ne (ne_of_none h hdx)]; exact h
 have t := fr.same same
 have frx : Fr (F.but x) (upd (upd H2 dx (.own x)) x (.ins C dx [])) β2 := ⟨fun a ha z => (by
  rcases ha with ha | ha
  ·exact t.fr.occ a ha z
  ·subst ha; rw [ai] at z; cases z), fun b l q => let ⟨z1, z2, z3⟩ := fr.bgA b l q; ⟨.inl z1, .inl z2, z3⟩, t.fr.bag⟩
 have nb : ∀ b l, F.bg = some (b, l) -> x ≠ b /\ x ≠ l := fun b l q => ⟨fun z => hA (z ▸ (fr.bgA b l q).1), fun z => hA (z ▸ (fr.bgA b l q).2.1)⟩
 have tr1 : Tr F H2 (F.but x) (upd (upd H2 dx (.own x)) x (.ins C dx [])) := ⟨fun a h1 h2 z => by
  rcases z with z | z
  ·exact h1 z
  ·subst z; exact h2 hx, fun a o _ h => same a o h, rfl⟩
 obtain ⟨rr, β', er, h⟩ := r
 refine ⟨x, vs, F.but x, ds, β2, dx, rfl, hl, frx, .inr rfl, nb, ai, DenL.tr tr1 _ _ hd, ?_⟩
 have toF : ∀ {H' : Hp} {β' : Bg}, ToX (F.but x) x (upd (upd H2 dx (.own x)) x (.ins C dx [])) H' β' -> To F H2 H' β' := fun {H' β'} tx => ⟨fun a o ha n => tx.kp a o (ne_of_none ha hx) (same a o ha) n, ⟨fun a ha => tx.fr.occ a (.inl ha), fr.bgA, tx.fr.bag⟩⟩
 cases q : mi ds β2 with
 | none => unfold M.bind at er; rw [q] at er; cases er
 | some z =>
  obtain ⟨r1, β1⟩ := z
  refine ⟨r1, β1, rfl, ?_⟩
  cases r1 with
  | error Ce =>
   rw [M.bind_err q] at er
   cases er
   exact fun H' tx => h H' (toF tx)
  | ok fs =>
   rw [M.bind_ok q] at er
   cases er
   refine fun H' xs tx hx' hlen hden => ⟨rfl, h (.ref x) H' (toF tx) ⟨x, dx, xs, rfl, fun z => ?_, hx', hlen, DenL.tr (Fx.old_le (F := F.but x) (fun a z => Or.inl (Or.inl z)) (fun a ys z => ?_) rfl) _ _ hden⟩⟩
   ·rcases z with z | z
    ·exact hA z
    ·obtain ⟨ys, z⟩ := z
     rw [t0.none hx] at z; cases z
   ·rcases t0.lst fr0 a ys z with z | z
    ·exact Or.inl (Or.inl z)
    ·obtain ⟨zs, z⟩ := z
     exact .inr ⟨zs, same a _ z⟩
theorem j6 {mi : List D -> M (List D)} {g : FL} {dd : List D} (Mm : Mk X.K C f) (G : FnOk X.prog X.w X.K X.mg X.base (CXE X.prog X.w) k f fd ps (pc X.K C ns n mi)) (hr : Room (k + 1) X.A) (hg : Gl X x) (hm : X.mg x = some (.ref C)) (hb : cS X.K fd ps dd) (hx : aP (CXE X.prog X.w) X E)
  (ha : PA X (e :: es) (tVA X.K g E)) (hn : ∀ δ β r β', g δ β = some (.ok r, β') -> r.length + dd.length = n) (hdb : (x == ("__debug__" : Str)) = false := by decide) (he : starEach (e :: es) X.env = (false, eval e X.env) :: starEach es X.env := by rfl) (hpl : (backTo pos (starEach es X.env)).any (·.1) = false := by rfl) :
  PE X (.Call (.Name x p) (e :: es) [] pos) (tVN X.K (dE C ns mi g dd) E) := by
 obtain ⟨ds, dvs, b, rv, rd⟩ := hb
 refine (uI Mm G hr hg hm b rv hx ha hdb he hpl).imp fun σ H Q h_ => ex6 h_ fun F δ β fr vk r => ⟨F, δ, β, fr, vk, ?_⟩
 obtain ⟨r0, β0, e0, h0⟩ := run.bind (R := DenL X.K F) r
 refine ⟨r0, β0, e0, ?_⟩
 cases r0 with
 | error C => exact h0
 | ok as =>
  intro vs H1 t hd
  obtain ⟨d', β1, t1, hd1, r1⟩ := h0 vs H1 t hd
  have hl := hn _ _ _ _ e0
  have hz := (rd F H1).length
  exact qE fr t1 (by rw [List.length_append, ← hd.length, ← hz, hl]) (DenL.append hd1 (rd F H1)) r1
def ku (i : Nat) (f : FD) : G := fun δ β => match f (vwA δ) β with
 | some (.ok d, β1) => some (.nx (δ.set i (some (.sh d))), β1)
 | some (.error C, β1) => some (.ex C δ, β1)
 | none => none
theorem vM {i : Nat} {g : FD} (h : PS X st (fG (tVN X.K g E) (cN i))) : PS X st (tG X.K X.H₀ (ku i g) E) := h.imp fun D σ H h_ => by
 obtain ⟨B, bg, δ, β, o, β', ok, e, q⟩ := h_
 refine ⟨FxA B bg, vwA δ, β, ok.frA, ok.viewA, ?_⟩
 unfold ku at e
 split at e
 ·rename_i d β1 e1
  cases e
  refine ⟨.ok d, _, e1, fun v H' t hd => ?_⟩
  obtain ⟨ok2, s2⟩ := ok.to rfl t
  have tr : Tr ((FxA B bg).old H) H' (FxB B bg) H' := ⟨fun a h _ z => h (ok.AtoB a z), fun _ _ _ h => h, rfl⟩
  exact q _ B H' s2 (ok2.set (Den.tr tr _ _ hd))
 ·rename_i C β1 e1
  cases e
  refine ⟨.error C, _, e1, fun H' t => ?_⟩
  obtain ⟨ok2, s2⟩ := ok.to rfl t
  exact q _ B H' s2 ok2
 ·cases e
def nR (H₀ : Hp) (B : Ow) (H : Hp) : Prop := ∀ a xs, H₀ a = some (.lst xs) -> B a = some 1 \/ ∃ ys, H a = some (.lst ys)
theorem nR.stp {K : Frag} {H₀ H H' : Hp} {B B' : Ow} {bg : Option (Addr × Addr)} {δ : Ds} {β : Bg} {σ : St} (k : nR H₀ B H) (ok : SOk K H₀ B bg H δ β σ) (s : Stp B H B' H') : nR H₀ B' H' := fun a xs h => by
 rcases k a xs h with z | z
 ·exact .inl ((s.tg a (.inr z)).trans z)
 ·obtain ⟨ys, z⟩ := z
  cases q : B a with
  | none => exact .inr ⟨ys, s.kp a _ z (.inl q)⟩
  | some n =>
   match n, q with
   | 0, q => exact .inr ⟨ys, s.kp a _ z (.inr q)⟩
   | 1, q => exact .inl ((s.tg a (.inr q)).trans q)
   | n + 2, q => rw [ok.new a n q] at h; cases h
def eC (K : Frag) (H₀ : Hp) (bg : Option (Addr × Addr)) (E : St -> XK) (Dn : Ends) (B : Ow) (H : Hp) (x C dx : Addr) (all : List Str) (r : Except Addr (List D)) (β' : Bg) : Prop := match r with
 | .ok ds => ∀ σ' B' H' vs, StpX x B H B' H' -> Fr (FxB B' bg) H' β' -> H' x = some (.ins C dx (all.zip vs)) -> all.length = vs.length -> DenL K ((FxB B' bg).old H₀) H' ds vs -> Dn.nx σ' H'
 | .error Ce => ∀ σ' B' H', StpX x B H B' H' -> Fr (FxB B' bg) H' β' -> E σ' (.ref Ce) none H'
theorem eC.pre {K : Frag} {H₀ : Hp} {bg : Option (Addr × Addr)} {Dn : Ends} {B B1 : Ow} {H H1 : Hp} {x C dx : Addr} {all : List Str} {r : Except Addr (List D)} {β' : Bg} (s : StpX x B H B1 H1) (h : eC K H₀ bg E Dn B H x C dx all r β') : eC K H₀ bg E Dn B1 H1 x C dx all r β' := by
 cases r with
 | ok ds => exact fun σ' B' H' vs t => h σ' B' H' vs (s.trans t)
 | error Ce => exact fun σ' B' H' t => h σ' B' H' (s.trans t)
def tIN (K : Frag) (H₀ : Hp) (C : Addr) (ns0 names : List Str) (ip : IP) (E : St -> XK) : TS := fun Dn σ H => ∃ B bg δ β x dx vs0 ds0 r β', SOk K H₀ B bg H δ β σ /\ nR H₀ B H /\ δ[0]? = some (some (.sh (.adr x))) /\ B x = some 0 /\ H x = some (.ins C dx (ns0.zip vs0)) /\ ns0.length = vs0.length /\ DenL K ((FxB B bg).old H₀) H ds0 vs0 /\ ip δ ds0 β = some (r, β') /\ eC K H₀ bg E Dn B H x C dx (ns0 ++ names) r β'
theorem oB {H₀ H H' : Hp} {B B' : Ow} {bg : Option (Addr × Addr)} (s : Stp B H B' H') (cov : ∀ a, H₀ a ≠ none -> H a ≠ none) : Tr ((FxB B bg).old H₀) H ((FxB B' bg).old H₀) H' :=
 ⟨fun a h h2 z => by
  have hb : B a = none := by
   cases q : B a with
   | none => rfl
   | some n => exact absurd (Or.inl (by show B a ≠ none; rw [q]; simp)) h
  rcases z with z | z
  ·cases q : H a with
   | none => exact h2 q
   | some o => exact z (s.nn a o q hb)
  ·exact h (Or.inr z), fun a o h e => s.kp a o e (.inl (by
   cases q : B a with
   | none => rfl
   | some n => exact absurd (Or.inl (by show B a ≠ none; rw [q]; simp)) h)), rfl⟩
variable {ns0 names : List Str} {ip : IP}
theorem wS : PSs X [] (tIN X.K X.H₀ C ns0 [] t5 E) := kO.imp fun Dn σ H h_ => by
 obtain ⟨B, bg, δ, β, x, dx, vs0, ds0, r, β', ok, kp, h0, hx, hH, hl, hd, e, k⟩ := h_
 cases e
 rw [List.append_nil] at k
 exact k σ B H vs0 (Stp.refl B H).x ok.fr hH hl hd
theorem wQ {g : G} (h1 : PS X st (tG X.K X.H₀ g E)) (h2 : PSs X sts (tIN X.K X.H₀ C ns0 names ip E)) : PSs X (st :: sts) (tIN X.K X.H₀ C ns0 names (gC g ip) E) := (bu h1 h2).imp fun Dn σ H h_ => by
 obtain ⟨B, bg, δ, β, x, dx, vs0, ds0, r, β', ok, kp, h0, hx, hH, hl, hd, e, k⟩ := h_
 unfold gC at e
 split at e
 ·rename_i δ1 β1 e1
  split at e
  ·rename_i x1 y1 q1 q2
   split at e
   ·rename_i z
    subst z
    rw [h0] at q1
    cases q1
    refine ⟨B, bg, δ, β, .nx δ1, β1, ok, e1, fun σ' B' H' s ok' => ?_⟩
    exact ⟨B', bg, δ1, β1, x, dx, vs0, ds0, r, β', ok', kp.stp ok s, q2, (s.tg x (.inl hx)).trans hx, s.kp x _ hH (.inr hx), hl, DenL.tr (oB s ok.cov) _ _ hd, e, eC.pre s.x k⟩
   ·cases e
  ·cases e
 ·rename_i Ce δ1 β1 e1
  cases e
  exact ⟨B, bg, δ, β, .ex Ce δ1, _, ok, e1, fun σ' B' H' s ok' => k σ' B' H' s.x ok'.fr⟩
 ·cases e
theorem wR {f : Str} {fv : FD} (c : Cls X.K C) (n : dG X.K C f) (hf : f ∉ ns0) (hlen : ns0.length < 1000) (h1 : PS X st (vR X.K (jf 0) (tVN X.K fv E) f)) (h2 : PSs X sts (tIN X.K X.H₀ C (ns0 ++ [f]) names ip E)) : PSs X (st :: sts) (tIN X.K X.H₀ C ns0 (f :: names) (kh fv ip) E) := (bu h1 h2).imp fun Dn σ H h_ => by
 obtain ⟨B, bg, δ, β, x, dx, vs0, ds0, r, β', ok, kp, h0, hx, hH, hl, hd, e, k⟩ := h_
 refine ⟨FxB B bg, vw δ, β, ok.fr, ok.view, ?_⟩
 unfold kh at e
 split at e
 ·rename_i d β1 e1
  refine ⟨.ok d, β1, e1, fun y H1 t1 hy => ?_⟩
  obtain ⟨ok1, s1⟩ := ok.to rfl t1
  obtain ⟨v, g1, g2⟩ := ok1.tell 0 _ h0
  have hv : v = .ref x := g2
  subst hv
  have hH1 := s1.kp x _ hH (.inr hx)
  have kp1 := kp.stp ok s1
  refine ⟨_, g1, x, C, dx, _, rfl, hH1, c, n, ?_, ?_⟩
  ·rw [List.length_zip]; omega
  obtain ⟨ok2, s2⟩ := ok1.upd0 (o := .ins C dx (bS f y (ns0.zip vs0))) hx
  have trx : Tr ((FxB B bg).old X.H₀) H1 ((FxB B bg).old X.H₀) (upd H1 x (.ins C dx (bS f y (ns0.zip vs0)))) := ⟨fun _ h _ => h, fun a u ha e => by
   rw [upd_ne]
   ·exact e
   ·intro z; subst z; exact ha (Or.inl (by show B a ≠ none; rw [hx]; simp)), rfl⟩
  have try_ : Tr ((FxB B bg).old H) H1 ((FxB B bg).old X.H₀) H1 := Fx.old_le (fun a z => Or.inl z) (fun a xs z => by
   rcases kp a xs z with z | z
   ·exact Or.inl (by show B a ≠ none; rw [z]; simp)
   ·exact Or.inr z) rfl
  have kp2 : nR X.H₀ B (upd H1 x (.ins C dx (bS f y (ns0.zip vs0)))) := fun a xs z => by
   rcases kp1 a xs z with z | z
   ·exact .inl z
   ·obtain ⟨ys, z⟩ := z
    refine .inr ⟨ys, ?_⟩
    rw [upd_ne]
    ·exact z
    ·intro w; subst w; rw [hH1] at z; cases z
  refine ⟨B, bg, δ, β1, x, dx, vs0 ++ [y], ds0 ++ [d], r, β', ok2, kp2, h0, hx, by rw [ai, lD hl hf], by simp [hl], DenL.append (DenL.tr trx _ _ (DenL.tr (oB s1 ok.cov) _ _ hd)) (DenL.cons (Den.tr trx _ _ (Den.tr try_ _ _ hy)) DenL.nil), e, ?_⟩
  rw [List.append_assoc]
  exact eC.pre (s1.x.trans s2) k
 ·rename_i Ce β1 e1
  cases e
  refine ⟨.error Ce, _, e1, fun H1 t1 => ?_⟩
  obtain ⟨ok1, s1⟩ := ok.to rfl t1
  exact k σ B H1 s1.x ok1.fr
 ·cases e
end
section
variable {P : Program} {w : World} {K : Frag} {mg : Str -> Option Value} {base : Heap}
theorem sN {x qual : Str} {st : Stmt} {f C : Addr} {fd : FuncData} {N ps names : List Str} {k : Nat} (n m : Nat) (ip : IP) (F : FunD K x qual st f fd) (S : FnScope N ps (ak st)) (hn' : ps.length = n + 1) (hm' : N.length = m)
  (hbody : ∀ (cdv : Value) (A : Around) (outer : List Env) (s : Shared) (H : Hp) (E : XK), Room k (A.deeper (envOfC qual (ak st) s.heap.objs.size f cdv)) ->
   PSs (bG (CXE P w) P w K mg base N qual (ak st) f cdv A outer s H E) (br st) (tIN K H C [] names ip (fun _ => E))) : FnOk P w K mg base (CXE P w) (k + 1) f fd ps (pc K C names n (iJ m ip)) := by
 subst hm'
 refine F.okE S (fun vs H Q E h => ?_) fun cdv A outer s H vs Q E hr h => ?_
 ·obtain ⟨y, rest, F0, ds, β, dx, rfl, hl, _⟩ := h
  rw [List.length_cons, hl, hn']
 obtain ⟨y, rest, F0, ds, β, dx, rfl, hl, fr, hA0, nb, hH, hd, r, β', e, h⟩ := h
 refine ⟨_, hbody cdv A outer s H E hr, ?_⟩
 have hd' : DenL K F0 H (.adr y :: ds) (.ref y :: rest) := DenL.cons rfl hd
 obtain ⟨B, ok, hA, h1, hn⟩ := jI (N := N) fr hd'
 have hy : B y = some 0 := by
  rcases hA y hA0 with z | z
  ·exact z
  ·obtain ⟨b, l, q, w⟩ := h1 y z
   obtain ⟨n1, n2⟩ := nb b l q
   rcases w with w | w
   ·exact absurd w n1
   ·exact absurd w n2
 have toF : ∀ {B' : Ow} {H' : Hp} {β' : Bg}, StpX y B H B' H' -> Fr (FxB B' F0.bg) H' β' -> ToX F0 y H H' β' /\ Tr ((FxB B' F0.bg).old H) H' (F0.old H) H' := fun {B' H' β'} s fr' => by
  have hs : ∀ a, F0.A a -> B' a ≠ none := fun a ha => by
   rw [s.tg a (hA a ha)]
   rcases hA a ha with z | z <;> rw [z] <;> simp
  refine ⟨⟨fun a o ne ha n => s.kp a o ne ha ?_, fun a ha => fr'.occ a (hs a ha), fun b l e => fr.bgA b l e, fr'.bag⟩, Fx.old_le (fun a z => Or.inl (hs a z)) (fun a xs z => Or.inr ⟨xs, z⟩) rfl⟩
  cases q : B a with
  | none => exact .inl rfl
  | some t =>
   have := hA a (hn a (by rw [q]; simp))
   rcases this with z | z
   ·rw [q] at z; exact .inr z
   ·obtain ⟨b, l, e, w⟩ := h1 a z
    obtain ⟨n1, n2⟩ := n b l e
    rcases w with w | w
    ·exact absurd w n1
    ·exact absurd w n2
 refine ⟨B, F0.bg, stD N.length (.adr y :: ds), β, y, dx, [], [], r, β', ok, fun a xs z => .inr ⟨xs, z⟩, rfl, hy, hH, rfl, DenL.nil, qQ e y, ?_⟩
 cases r with
 | ok es =>
  intro σ' B' H' vs s fr' hx' hlen hden
  obtain ⟨t1, t2⟩ := toF s fr'
  exact h H' vs t1 hx' hlen (DenL.tr t2 _ _ hden)
 | error Ce =>
  intro σ' B' H' s fr'
  exact h H' (toF s fr').1
end
section
variable {X : Cx} {E : St -> XK} {o : Expr} {pos apos : Pos} {m : Str} {k : Nat} {f C : Addr} {fd : FuncData} {ps : List Str}
def iK (C : Addr) (m : Str) (mf : List D -> M (List (List D))) (fo : FD) : Dn -> M (List (List D)) := fun δ => M.bind (fo δ) fun d => match d with
 | .obj C' ns _ => if C' = C /\ m ∉ ns then mf [d] else M.fail
 | _ => M.fail
theorem u8 {mf : List D -> M (List (List D))} {fo : FD} {pl : Sem Bool} (c : Cls X.K C) (hm : Meth X.K C m f) (G : FnOk X.prog X.w X.K X.mg X.base (CXE X.prog X.w) k f fd ps (spG X.K 1 mf)) (hr : Room k X.A) (hb : ay X.K fd ps []) (hx : aP (CXE X.prog X.w) X E)
  (ho : PE X o (tV X.K fo E))
  (ht : eval (.Call (.Attribute o m apos) [] [] pos) X.env = (do
   let ov ← eval o X.env
   standAt apos.atName
   let (f, first) ← holding [ov] (getMethod ov m pl)
   callWith pos f first (backTo pos (starEach [] X.env)) (backToKw pos (keywordEach [] X.env))) := by rfl) :
  PE X (.Call (.Attribute o m apos) [] [] pos) (tVG X.K (iK C m mf fo) E) :=
 (jj (pl := pl) ho c hm G hr hb .nil hx ht).imp fun σ H Q h_ => ex6 h_ fun F δ β fr vk h => ⟨F, δ, β, fr, vk, (run.bind (R := Den X.K F) h).mono fun v H1 h_ => ex5 h_ fun d β1 t hd r1 => by
  have fail : ∀ {mm : M (List (List D))}, mm = M.fail -> run (cJ X.K F H) F E σ mm H1 Q β1 -> False := fun {mm} e r => by
   obtain ⟨r, β', e', _⟩ := r
   rw [e] at e'; cases e'
  cases d <;> first | exact (fail rfl r1).elim | skip
  rename_i C' ns ds
  simp only at r1
  split at r1
  ·rename_i z
   obtain ⟨rfl, hnm⟩ := z
   have hd' := hd
   unfold Den at hd
   obtain ⟨a, dx, xs, rfl, h1, h2, h3, h4⟩ := hd
   refine ⟨a, dx, _, rfl, h2, fj hnm, rfl, F, [_], β1, t.fr, DenL.cons hd' DenL.nil, ?_⟩
   obtain ⟨r0, β2, e0, h0⟩ := r1
   refine ⟨r0, β2, e0, ?_⟩
   cases r0 with
   | ok rows => exact fun v H' t2 hv => h0 v H' t2 (cJ.pre t hv)
   | error C => exact h0
  ·exact (fail rfl r1).elim⟩
end
section
variable {δ : Dn} {β β1 β2 : Bg}
theorem rE {C : Addr} {m : Str} {mf : List D -> M (List (List D))} {fo : FD} {ns : List Str} {ds : List D} {r : Except Addr (List (List D))} (e : fo δ β = some (.ok (.obj C ns ds), β1)) (hm : m ∉ ns) (h : mf [.obj C ns ds] β1 = some (r, β2)) : iK C m mf fo δ β = some (r, β2) := by
 unfold iK
 rw [M.bind_ok e]
 simp only [hm, not_false_eq_true, and_self, if_true, h]
end
end L2.Pu
namespace L2.Pu
open PySem PySem.Spec PyProof PyProof.Rows
section
variable {X : Cx} {K : Frag}
end
section
variable {X : Cx} {K : Frag} {E : St -> XK} {o e : Expr} {apos cpos : Pos}
end
end L2.Pu
namespace L2.Pu
open PySem PySem.Spec PyProof.Rows
section
variable {prog : Program} {w : World} {A : Around} {E : Value -> Shared -> Prop} {s : Shared} {l : Addr} {xs : Array (Int × Tok)}
end
section
variable {X : Cx} {K : Frag}
end
section
variable {X : Cx} {E : St -> XK} {o e e1 e2 : Expr} {es : List Expr} {pos p apos : Pos} {x m : Str} {k n : Nat} {f C : Addr} {fd : FuncData} {ps ks ns : List Str} {kws : List Keyword}
end
end L2.Pu
namespace L2.Pu
open PySem PySem.W
section
variable {tb : String -> Option Builtin} {p : Program} {w : World} {n₀ : Nat} {ann : Option Value} {env : Env} {q : Pos}
theorem np (k : Nat) {n N : Nat} {s s' r : Shared} {b : List Stmt} {c : Code} {pos p' : Pos} (h : segRun tb p w n₀ ann 1 n s (piecesOf (b.take k) env c pos [topFrame q]) = some (.next, s', c, p'))
  (k' : topRun tb p w n₀ ann N s' (restOf (b.drop k) env c p' [topFrame q]) = some r) : topRun tb p w n₀ ann (n + N) s (restOf b env c pos [topFrame q]) = some r := by
 have := piece_app h k'
 rwa [List.take_append_drop] at this
theorem sK {N : Nat} {s r : Shared} {b : List Stmt} {c : Code} {pos : Pos} (e : b = []) (k : topRun tb p w n₀ ann N s ⟨doneF .next, c, pos, [topFrame q]⟩ = some r) : topRun tb p w n₀ ann N s (restOf b env c pos [topFrame q]) = some r := by
 subst e
 exact piece_nil k
end
end L2.Pu
namespace L2.Pu
open PySem PySem.Spec PyProof.Rows
section
variable {X : Cx} {E : St -> XK} {E0 : XK} {k : Nat} {f C : Addr} {fd : FuncData} {ps : List Str} {sp : Sp} {CX : CXT} {dvs : List V} {ds : List Value}
theorem oo {pins : List (Addr × Obj)} {σ : St} {H : Hp} {s : Shared} {Q : VK} {us : List Value} {vs : List V} (F : FnOk X.prog X.w X.K X.mg X.base CX k f fd ps sp) (hr : Room k X.A.in1) (hb : ay X.K fd ps ds) (hd : am dvs ds) (hx : aP CX X E)
  (I : Inv X pins σ H s) (r : am vs us) (h : sp (vs ++ dvs) H Q (E σ)) : wpAny (model X.prog X.w) X.A.in1 (call (.ref f) us) (EP X pins σ Q) X.xe s := by
 have r2 : am (vs ++ dvs) (us ++ ds) := r.append hd
 have hl : (us ++ ds).length = ps.length := by rw [← r2.length]; exact F.len _ _ _ _ h
 refine wpAny_call (codeAny_mono (F.run X.A.in1 X.stack s H ⟨us, []⟩ (us ++ ds) (vs ++ dvs) Q (E σ) hr I.env0.in1 (hb s us I.kIn hl) r2 h) fun r s' hq => ?_)
 cases r with
 | error e => exact hx pins σ H s e s' I hq
 | ok fl =>
  cases fl with
  | ret u => exact I.after hq
  | next => exact False.elim hq
  | brk => exact False.elim hq
  | cont => exact False.elim hq
def tL (C : Addr) (sp : Sp) (E0 : XK) : List V -> Hp -> VK -> Prop := fun xs H Q => ∃ l dx fs, xs = [.ref l] /\ H l = some (.ins C dx fs) /\ sp [.ref l] H (fun v H' => ∃ n, v = .int n /\ 0 <= n /\ n < 2 ^ 63 /\ Q (.int n) H') E0
theorem rq (hm : Meth X.K C "__len__" f) (G : FnOk X.prog X.w X.K X.mg X.base CX k f fd ps sp) (hr : Room (k + 1) X.A) (hb : ay X.K fd ps []) (hx : aP CX X (fun _ => E0)) : bt X (.builtin "len") (tL C sp E0) := by
 intro pins s σ H xs us Q I r h
 obtain ⟨l, dx, fs, rfl, hl, q⟩ := h
 obtain ⟨u, rfl, rx⟩ := eW r
 cases rx
 obtain ⟨mA, O, _⟩ := cm I.hok hl
 obtain ⟨od, J, _⟩ := O.look
 obtain ⟨m, F⟩ := I.fr
 refine PySem.W.len_K F I.ok.mod.kin J hm.at_ hm.fn (wpAny_mono (oo (us := [.ref l]) (vs := [.ref l]) G hr.in1 hb .nil hx I (.cons rfl .nil) q) (fun w s3 z => ?_) fun _ _ z => z)
 obtain ⟨v', H', I', r', n, rfl, h0, h1, q'⟩ := z
 obtain ⟨t, rfl⟩ := r'
 exact ⟨⟨h0, h1⟩, .int n, H', I'.tok _, ⟨_, rfl⟩, q'⟩
def pf (C : Addr) (sp : Sp) (E0 : XK) : List V -> Hp -> VK -> Prop := fun xs H Q => ∃ l dx fs, xs = [.ref l] /\ H l = some (.ins C dx fs) /\ sp [.ref l] H (fun v H' => ∃ x, v = .str x /\ Q (.str x) H') E0
theorem pW (hm : Meth X.K C "__repr__" f) (G : FnOk X.prog X.w X.K X.mg X.base CX k f fd ps sp) (hr : Room (k + 1) X.A) (hb : ay X.K fd ps []) (hx : aP CX X (fun _ => E0)) : bt X (.builtin "repr") (pf C sp E0) := by
 intro pins s σ H xs us Q I r h
 obtain ⟨l, dx, fs, rfl, hl, q⟩ := h
 obtain ⟨u, rfl, rx⟩ := eW r
 cases rx
 obtain ⟨mA, O, _⟩ := cm I.hok hl
 obtain ⟨od, J, _⟩ := O.look
 obtain ⟨m, F⟩ := I.fr
 refine PySem.W.repr_K (by have := hr.un; show X.A.units + 1 < cLine; omega) F I.ok.mod.kin J hm.at_ hm.fn (wpAny_mono (oo (us := [.ref l]) (vs := [.ref l]) G hr.in1 hb .nil hx I (.cons rfl .nil) q) (fun w s3 z => ?_) fun _ _ z => z)
 obtain ⟨v', H', I', r', x, rfl, q'⟩ := z
 obtain ⟨t, rfl⟩ := r'
 exact ⟨.str x, H', I', ⟨_, rfl⟩, q'⟩
theorem uy {pins : List (Addr × Obj)} {σ : St} {H : Hp} {s : Shared} {Q : VK} {us : List Value} {vs : List V} (F : FnOk X.prog X.w X.K X.mg X.base CX k f fd ps sp) (hr : Room k X.A.in1.in1) (hb : ay X.K fd ps ds) (hd : am dvs ds) (hx : aP CX X E)
  (I : Inv X pins σ H s) (r : am vs us) (h : sp (vs ++ dvs) H Q (E σ)) : wpAny (model X.prog X.w) X.A.in1.in1 (call (.ref f) us) (EP X pins σ Q) X.xe s := by
 have r2 : am (vs ++ dvs) (us ++ ds) := r.append hd
 have hl : (us ++ ds).length = ps.length := by rw [← r2.length]; exact F.len _ _ _ _ h
 refine wpAny_call (codeAny_mono (F.run X.A.in1.in1 X.stack s H ⟨us, []⟩ (us ++ ds) (vs ++ dvs) Q (E σ) hr I.env0.in1.in1 (hb s us I.kIn hl) r2 h) fun r s' hq => ?_)
 cases r with
 | error e => exact hx pins σ H s e s' I hq
 | ok fl =>
  cases fl with
  | ret u => exact I.after hq
  | next => exact False.elim hq
  | brk => exact False.elim hq
  | cont => exact False.elim hq
theorem rn (hm : Meth X.K C "__str__" f) (G : FnOk X.prog X.w X.K X.mg X.base CX k f fd ps sp) (hr : Room (k + 2) X.A) (hb : ay X.K fd ps []) (hx : aP CX X (fun _ => E0)) : bt X (.type "str") (pf C sp E0) := by
 intro pins s σ H xs us Q I r h
 obtain ⟨l, dx, fs, rfl, hl, q⟩ := h
 obtain ⟨u, rfl, rx⟩ := eW r
 cases rx
 obtain ⟨mA, O, _⟩ := cm I.hok hl
 obtain ⟨od, J, _⟩ := O.look
 refine PySem.W.kso_call (by have := hr.un; show X.A.units + 1 + 1 < cLine; omega) I.kIn J hm.at_ hm.fn (wpAny_mono (uy (us := [.ref l]) (vs := [.ref l]) G hr.in1.in1 hb .nil hx I (.cons rfl .nil) q) (fun w s3 z => ?_) fun _ _ z => z)
 obtain ⟨v', H', I', r', x, rfl, q'⟩ := z
 obtain ⟨t, rfl⟩ := r'
 exact ⟨.str x, H', I', ⟨_, rfl⟩, q'⟩
end
section
variable {X : Cx} {E0 : XK} {k : Nat} {f C : Addr} {fd : FuncData} {ps : List Str} {K : Frag} {e : Expr} {p pos : Pos}
def kx (C : Addr) (mf : List D -> M D) (fo : FD) : FD := fun δ => M.bind (fo δ) fun x => match x with
 | .obj C1 ns ds => if C1 = C then M.bind (mf [.obj C1 ns ds]) fun r => match r with
   | .int n => if 0 <= n /\ n < 2 ^ 63 then M.ret (.int n) else M.fail
   | _ => M.fail
  else M.fail
 | _ => M.fail
def gH (C : Addr) (mf : List D -> M D) (fo : FD) : FD := fun δ => M.bind (fo δ) fun x => match x with
 | .obj C1 ns ds => if C1 = C then M.bind (mf [.obj C1 ns ds]) fun r => match r with
   | .str n => M.ret (.str n)
   | _ => M.fail
  else M.fail
 | _ => M.fail
theorem run_fail {F : Fx} {E : St -> XK} {σ : St} {H : Hp} {Q : VK} {β : Bg} {mm : M D} (e : mm = M.fail) (r : run (Den K F) F E σ mm H Q β) : False := by
 obtain ⟨r, β', e', _⟩ := r
 rw [e] at e'; cases e'
theorem sA {mf : List D -> M D} {fo : FD} {σ : St} {H : Hp} {Q : VK} (h : tV K (kx C mf fo) (fun _ => E0) σ H Q) : tV K fo (fun _ => E0) σ H fun v H1 => tL C (spF K 1 mf) E0 [v] H1 Q := by
 obtain ⟨F, δ, β, fr, vk, h⟩ := h
 refine ⟨F, δ, β, fr, vk, (run.bind (R := Den K F) h).mono fun v H1 h_ => ex5 h_ fun d β1 t hd r1 => ?_⟩
 cases d with
 | obj C1 ns ds =>
  simp only at r1
  split at r1
  ·rename_i z
   subst z
   have h1 := hd
   unfold Den at h1
   obtain ⟨l, dx, ys, rfl, _, h3, _⟩ := h1
   refine ⟨l, dx, _, rfl, h3, rfl, F, [.obj C1 ns ds], β1, t.fr, DenL.cons hd DenL.nil, run.toE ((run.bind (R := Den K F) r1).mono fun v2 H2 h_ => ex5 h_ fun d2 β2 t2 hd2 r2 => ?_)⟩
   cases d2 with
   | int n =>
    simp only at r2
    split at r2
    ·rename_i w
     exact ⟨n, hd2, w.1, w.2, run.ret t2.fr r2 rfl⟩
    ·exact (run_fail rfl r2).elim
   | _ => exact (run_fail rfl r2).elim
  ·exact (run_fail rfl r1).elim
 | _ => exact (run_fail rfl r1).elim
theorem mE {mf : List D -> M D} {fo : FD} {σ : St} {H : Hp} {Q : VK} (h : tV K (gH C mf fo) (fun _ => E0) σ H Q) : tV K fo (fun _ => E0) σ H fun v H1 => pf C (spF K 1 mf) E0 [v] H1 Q := by
 obtain ⟨F, δ, β, fr, vk, h⟩ := h
 refine ⟨F, δ, β, fr, vk, (run.bind (R := Den K F) h).mono fun v H1 h_ => ex5 h_ fun d β1 t hd r1 => ?_⟩
 cases d with
 | obj C1 ns ds =>
  simp only at r1
  split at r1
  ·rename_i z
   subst z
   have h1 := hd
   unfold Den at h1
   obtain ⟨l, dx, ys, rfl, _, h3, _⟩ := h1
   refine ⟨l, dx, _, rfl, h3, rfl, F, [.obj C1 ns ds], β1, t.fr, DenL.cons hd DenL.nil, run.toE ((run.bind (R := Den K F) r1).mono fun v2 H2 h_ => ex5 h_ fun d2 β2 t2 hd2 r2 => ?_)⟩
   cases d2 with
   | str n => exact ⟨n, hd2, run.ret t2.fr r2 rfl⟩
   | _ => exact (run_fail rfl r2).elim
  ·exact (run_fail rfl r1).elim
 | _ => exact (run_fail rfl r1).elim
theorem vx {mf : List D -> M D} {fo : FD} (hm : Meth X.K C "__len__" f) (G : FnOk X.prog X.w X.K X.mg X.base (CXE X.prog X.w) k f fd ps (spF X.K 1 mf)) (hr : Room (k + 1) X.A) (hb : ay X.K fd ps []) (hx : aP (CXE X.prog X.w) X (fun _ => E0)) (hg : Gl X "len") (hmg : X.mg "len" = none)
  (ho : PE X e (tV X.K fo (fun _ => E0))) (he : starEach [e] X.env = (false, eval e X.env) :: starEach [] X.env := by rfl) : PE X (.Call (.Name "len" p) [e] [] pos) (tV X.K (kx C mf fo) (fun _ => E0)) :=
 (eK (rq hm G hr hb hx) hg hmg PySem.boot_len (ba ho bT he) (by decide) (by decide) he rfl).imp fun σ H Q h => sA h
theorem uk {mf : List D -> M D} {fo : FD} (hm : Meth X.K C "__repr__" f) (G : FnOk X.prog X.w X.K X.mg X.base (CXE X.prog X.w) k f fd ps (spF X.K 1 mf)) (hr : Room (k + 1) X.A) (hb : ay X.K fd ps []) (hx : aP (CXE X.prog X.w) X (fun _ => E0)) (hg : Gl X "repr") (hmg : X.mg "repr" = none)
  (ho : PE X e (tV X.K fo (fun _ => E0))) (he : starEach [e] X.env = (false, eval e X.env) :: starEach [] X.env := by rfl) : PE X (.Call (.Name "repr" p) [e] [] pos) (tV X.K (gH C mf fo) (fun _ => E0)) :=
 (eK (pW hm G hr hb hx) hg hmg PyProof.Rows.Boot.«repr» (ba ho bT he) (by decide) (by decide) he rfl).imp fun σ H Q h => mE h
theorem vv {mf : List D -> M D} {fo : FD} (hm : Meth X.K C "__str__" f) (G : FnOk X.prog X.w X.K X.mg X.base (CXE X.prog X.w) k f fd ps (spF X.K 1 mf)) (hr : Room (k + 2) X.A) (hb : ay X.K fd ps []) (hx : aP (CXE X.prog X.w) X (fun _ => E0)) (hg : Gl X "str") (hmg : X.mg "str" = none)
  (ho : PE X e (tV X.K fo (fun _ => E0))) (he : starEach [e] X.env = (false, eval e X.env) :: starEach [] X.env := by rfl) : PE X (.Call (.Name "str" p) [e] [] pos) (tV X.K (gH C mf fo) (fun _ => E0)) :=
 (h8 (rn hm G hr hb hx) hg hmg PyProof.Rows.Boot.«str» (ba ho bT he) (by decide) (by decide) he rfl).imp fun σ H Q h => mE h
def iA : List D -> Option D
 | [.int i] => if i.natAbs.log2 < 1920 then some (.str (toString i)) else none
 | _ => none
theorem qJ : cy K (fun xs H Q => ∃ i, xs = [.int i] /\ i.natAbs.log2 < 1920 /\ Q (.str (toString i)) H) iA := fun F H β Q ds d vs fr h e k => by
 unfold iA at e
 split at e
 ·rename_i i
  split at e
  ·rename_i q
   cases e
   obtain ⟨v, rfl, g⟩ := DenL.one h
   cases (show v = V.int i from g)
   exact ⟨i, rfl, q, k _ H (To.refl fr) rfl⟩
  ·cases e
 ·cases e
def iW : D -> D -> Option D
 | .str x, .str y => if x.length + y.length <= sizeLine then some (.str (x ++ y)) else none
 | _, _ => none
theorem qN : bd K (fun x y H Q => ∃ i j, x = .str i /\ y = .str j /\ i.length + j.length <= sizeLine /\ Q (.str (i ++ j)) H) iW := fun F H β Q d1 d2 d v1 v2 fr h1 h2 e k => by
 unfold iW at e
 split at e
 ·split at e
  ·rename_i q
   cases e
   exact ⟨_, _, h1, h2, q, k _ H (To.refl fr) rfl⟩
  ·cases e
 ·cases e
end
end L2.Pu
namespace L2.Pu
open PySem PySem.Spec PyProof PyProof.Rows
section
variable {X : Cx} {K : Frag} {E : St -> XK} {o e : Expr} {apos cpos : Pos}
theorem oa : ∀ {ts : List Str} {its : List Value}, am (ts.map V.str) its -> ∃ l : List (Str × Tok), strValues l = its /\ l.map (·.1) = ts
 | [], its, r => by cases r; exact ⟨[], rfl, rfl⟩
 | t :: ts, its, r => by
  cases r with
  | cons r1 r2 =>
   obtain ⟨tk, rfl⟩ := r1
   obtain ⟨l, rfl, rfl⟩ := oa r2
   exact ⟨(t, tk) :: l, rfl, rfl⟩
def x6 (K : Frag) : V -> List V -> Hp -> VK -> Prop := fun x vs H Q => ∃ (sep : Str) (p : Addr) (ts : List Str), x = .str sep /\ vs = [.ref p] /\ SqL K H p (ts.map V.str) /\ JoinOk sep ts = true /\ Q (.str (Txt.join sep ts)) H
theorem uS : MtR X "str.join" (x6 X.K) := by
 intro pins s σ H x vs v us Q I rx rv h
 obtain ⟨sep, p, ts, rfl, rfl, hq, hj, q⟩ := h
 obtain ⟨tk, rfl⟩ := rx
 obtain ⟨u, rfl, ru⟩ := rv.one
 cases ru
 obtain ⟨its, r, pl, hz⟩ := I.list hq
 obtain ⟨l, rfl, e⟩ := oa r
 exact SC.join pl.isList e hj fun t' k => ⟨.str _, H, I.kept (t' := k) fun _ _ z => z, ⟨_, rfl⟩, q⟩
def cV : List D -> Option (List Str)
 | [] => some []
 | .str b :: r => (cV r).map (b :: ·)
 | _ => none
theorem jG : ∀ bs : List Str, cV (bs.map D.str) = some bs
 | [] => rfl
 | b :: bs => by
  show (cV (bs.map D.str)).map (b :: ·) = _
  rw [jG bs]; rfl
theorem jH {F : Fx} {H : Hp} : ∀ {ds : List D} {xs : List V} {bs : List Str}, cV ds = some bs -> DenL K F H ds xs -> xs = bs.map V.str
 | [], xs, bs, e, h => by
  cases e
  cases h
  rfl
 | d :: ds, xs, bs, e, h => by
  obtain ⟨x, xr, rfl, h1, h2⟩ := h
  cases d <;> first
   | (rename_i b
      cases q : cV ds with
      | none => simp [cV, q] at e
      | some r =>
      simp [cV, q] at e
      subst e
      cases (show x = V.str b from h1)
      rw [jH q h2]
      rfl)
   | simp [cV] at e
def pI (s : Str) : List D -> Option D
 | [.lst ds] => (cV ds).bind fun ts => if JoinOk s ts = true then some (.str (Txt.join s ts)) else none
 | _ => none
def fA (f : FD) (g : FL) : FD := fun δ => M.bind (f δ) fun d => match d with
 | .str s => M.bind (g δ) fun as => M.ofO (pI s as)
 | _ => M.fail
theorem jB {f : FD} {g : FL} (ho : PE X o (tV X.K f E)) (ha : PA X [e] (tVA X.K g E))
  (hbase : attributeBase o "join" X.env (eval o X.env) = eval o X.env := by rfl)
  (hfew : ((backTo cpos (starEach [e] X.env)).all (fun x => !x.1) && (backToKw cpos (keywordEach [] X.env)).all (fun x => x.1.isSome)
   && decide ([e].length + ([] : List Keyword).length + (if ([] : List Keyword).isEmpty then 0 else 1) < 30)) = true := by rfl)
  (hline : (apos.endLine == cpos.line) = true := by rfl) (hs : starEach [e] X.env = (false, eval e X.env) :: starEach [] X.env := by rfl) (hplain : (backTo cpos (starEach [] X.env)).any (·.1) = false := by rfl) :
  PE X (.Call (.Attribute o "join" apos) [e] [] cpos) (tV X.K (fA f g) E) :=
 (me PySem.F.plainAttrs_str PySem.F.slot_str_join PySem.F.type_str_join uS ho ha hbase hfew hline hs hplain).imp fun σ H Q h_ => ex6 h_ fun F δ β fr vk h => ⟨F, δ, β, fr, vk, (run.bind (R := Den X.K F) h).mono fun v H1 h_ => ex5 h_ fun d β1 t hd r1 => by
  cases d <;> first | exact (run_fail (K := X.K) rfl r1).elim | skip
  rename_i x
  cases (show v = V.str x from hd)
  refine ⟨rfl, F, δ, β1, t.fr, vk.tr (t.tr fr), (run.bind (R := DenL X.K F) r1).mono fun vs H2 h_ => ex5 h_ fun as β2 t2 hds r2 => ?_⟩
  obtain ⟨z, ez, k⟩ := run.ofO r2
  unfold pI at ez
  split at ez
  ·rename_i ds
   cases q : cV ds with
   | none => rw [q] at ez; cases ez
   | some ts =>
    rw [q, Option.bind_some] at ez
    split at ez
    ·rename_i hj
     cases ez
     obtain ⟨w, rfl, hw⟩ := DenL.one hds
     obtain ⟨a, xs, rfl, sq, dl⟩ := Den.sqL hw
     rw [jH q dl] at sq
     exact ⟨x, a, ts, rfl, rfl, sq, hj, k _ H2 (To.refl t2.fr) rfl⟩
    ·cases ez
  ·cases ez⟩
def aR (nss : LI) : PyData := .list (nss.map fun ns => .list (ns.map PyData.int))
def okP (d : PyData) : Bool := d.showable && !d.hasDict && decide (d.depth <= 100) && decide (d.shown.length <= sizeLine)
def iX (K : Frag) (H : Hp) : List V -> LI -> Prop
 | [], [] => True
 | x :: xs, ns :: nss => (∃ b, x = .ref b /\ SqL K H b (ns.map V.int)) /\ iX K H xs nss
 | _, _ => False
theorem jR {h : Heap} : ∀ {ns : List Int} {its : List Value}, am (ns.map V.int) its -> ReadsAll h its (ns.map PyData.int) []
 | [], its, r => by cases r; exact .nil
 | n :: ns, its, r => by
  cases r with
  | cons r1 r2 =>
   obtain ⟨t, rfl⟩ := r1
   exact .cons (as := []) (bs := []) (.int n t) (jR r2)
theorem qm {pins : List (Addr × Obj)} {σ : St} {H : Hp} {s : Shared} {b : Addr} {ns : List Int} (I : Inv X pins σ H s) (h : SqL X.K H b (ns.map V.int)) : ∃ as, Reads s.heap (.ref b) (.list (ns.map PyData.int)) as := by
 obtain ⟨its, r, ⟨o, n, e, hc, hd, hs⟩, hz⟩ := I.list h
 exact ⟨_, .list e hc hs (jR r)⟩
theorem jQ {pins : List (Addr × Obj)} {σ : St} {H : Hp} {s : Shared} (I : Inv X pins σ H s) : ∀ {xs : List V} {nss : LI} {its : List Value}, iX X.K H xs nss -> am xs its -> ∃ as, ReadsAll s.heap its (nss.map fun ns => .list (ns.map PyData.int)) as
 | [], [], its, _, r => by cases r; exact ⟨_, .nil⟩
 | x :: xs, ns :: nss, its, h, r => by
  obtain ⟨⟨b, rfl, sq⟩, h2⟩ := h
  cases r with
  | cons r1 r2 =>
   cases r1
   obtain ⟨as, h3⟩ := qm I sq
   obtain ⟨bs, h4⟩ := jQ I h2 r2
   exact ⟨_, .cons h3 h4⟩
theorem jS {pins : List (Addr × Obj)} {σ : St} {H : Hp} {s : Shared} {a : Addr} {xs : List V} {nss : LI} (I : Inv X pins σ H s) (h : SqL X.K H a xs) (hr : iX X.K H xs nss) : ∃ as, Reads s.heap (.ref a) (aR nss) as := by
 obtain ⟨its, r, ⟨o, n, e, hc, hd, hs⟩, hz⟩ := I.list h
 obtain ⟨as, h3⟩ := jQ I hr r
 exact ⟨_, .list e hc hs h3⟩
theorem lH {d : PyData} (h : okP d = true) : d.showable = true /\ d.hasDict = false /\ d.depth <= 100 /\ d.shown.length <= sizeLine := by
 unfold okP at h
 simp only [Bool.and_eq_true, decide_eq_true_eq, Bool.not_eq_true'] at h
 exact ⟨h.1.1.1, h.1.1.2, h.1.2, h.2⟩
def tK (K : Frag) : List V -> Hp -> VK -> Prop := fun vs H Q => ∃ a xs nss, vs = [.ref a] /\ SqL K H a xs /\ iX K H xs nss /\ okP (aR nss) = true /\ Q (.str (aR nss).shown) H
theorem pX {k : Nat} (hr : Room k X.A) : bt X (.builtin "repr") (tK X.K) := by
 intro pins s σ H xs us Q I r h
 obtain ⟨a, ys, nss, rfl, sq, hrw, hok, q⟩ := h
 obtain ⟨u, rfl, rx⟩ := eW r
 cases rx
 obtain ⟨as, rd⟩ := jS I sq hrw
 obtain ⟨o1, o2, o3, o4⟩ := lH hok
 exact repr_of_reads' rd o1 (PyData.noDict_hsm o2) hr.gd (by have := hr.un; omega) (fun _ _ z => z) (fun h' u tk hk => ⟨.str _, H, I.kept fun b o e => hk b o e, ⟨_, rfl⟩, q⟩) o4
def bQ : List D -> Option (LI)
 | [] => some []
 | .lst ds :: r => (bP ds).bind fun ns => (bQ r).map (ns :: ·)
 | _ => none
theorem kl : ∀ nss : LI, bQ (nss.map fun ns => D.lst (ns.map D.int)) = some nss
 | [] => rfl
 | b :: bs => by
  show (bP (b.map D.int)).bind (fun ns => (bQ (bs.map fun ns => D.lst (ns.map D.int))).map (ns :: ·)) = _
  rw [kl bs, kj]; rfl
theorem lN {F : Fx} {H : Hp} : ∀ {ns : List Int} {xs : List V}, DenL K F H (ns.map D.int) xs -> xs = ns.map V.int
 | [], xs, h => h
 | n :: ns, xs, h => by
  obtain ⟨x, xr, rfl, h1, h2⟩ := h
  cases (show x = V.int n from h1)
  rw [lN h2]
  rfl
theorem gF {F : Fx} {H : Hp} : ∀ {ds : List D} {xs : List V} {nss : LI}, bQ ds = some nss -> DenL K F H ds xs -> iX K H xs nss
 | [], xs, nss, e, h => by
  cases e
  cases h
  exact trivial
 | d :: ds, xs, nss, e, h => by
  obtain ⟨x, xr, rfl, h1, h2⟩ := h
  cases d <;> first
   | (rename_i b
      unfold bQ at e
      cases q : bP b with
      | none => rw [q] at e; cases e
      | some ns =>
      rw [q, Option.bind_some] at e
      cases q2 : bQ ds with
      | none => rw [q2] at e; cases e
      | some r =>
       rw [q2] at e
       cases e
       obtain ⟨a, ys, rfl, sq, dl⟩ := Den.sqL h1
       rw [intsOf_eq q] at dl
       rw [lN dl] at sq
       exact ⟨⟨a, rfl, sq⟩, gF q2 h2⟩)
   | (unfold bQ at e; cases e)
def md : List D -> Option D
 | [.lst ds] => (bQ ds).bind fun nss => if okP (aR nss) = true then some (.str (aR nss).shown) else none
 | _ => none
theorem wE : cy K (tK K) md := fun F H β Q ds d vs fr h e k => by
 unfold md at e
 split at e
 ·rename_i ds
  cases q : bQ ds with
  | none => rw [q] at e; cases e
  | some nss =>
   rw [q, Option.bind_some] at e
   split at e
   ·rename_i hk
    cases e
    obtain ⟨v, rfl, g⟩ := DenL.one h
    obtain ⟨a, xs, rfl, r, dl⟩ := Den.sqL g
    exact ⟨a, xs, nss, rfl, r, gF q dl, hk, k _ H (To.refl fr) rfl⟩
   ·cases e
 ·cases e
theorem rb (a : Str) : Str.empty ++ a = a := by
 cases a
 show Str.mk (#[] ++ _) = _
 rw [Array.empty_append]
def tFs3 (K : Frag) (a b : Str) (te : TE) : TE := fun σ H Q => te σ H fun x H1 => ∃ l xs nss, x = .ref l /\ SqL K H1 l xs /\ iX K H1 xs nss /\ okP (aR nss) = true /\ a.length + (aR nss).shown.length + b.length <= sizeLine /\ Q (.str (a ++ (aR nss).shown ++ b)) H1
theorem wc {a b : Str} {j1 j3 : Nat} {p1 p2 p3 pos : Pos} {v : Expr} {te : TE} {k : Nat} (hr : Room k X.A) (hv : PE X v te) (hz : a.length <= sizeLine)
  (he : evalEach [.Constant (.str b) j3 p3] X.env = [eval (.Constant (.str b) j3 p3) X.env] := by rfl) :
  PE X (.JoinedStr [.Constant (.str a) j1 p1, .FormattedValue v (-1) none p2, .Constant (.str b) j3 p3] pos) (tFs3 X.K a b te) := by
 intro pins s σ H Q I h
 refine JoinedStr_many (joinParts_cons (Calls.Constant_str ?_))
 show (Str.empty ++ a).length <= sizeLine /\ wpAny (model X.prog X.w) X.A (joinParts (Str.empty ++ a) (eval (.FormattedValue v (-1) none p2) X.env :: evalEach [.Constant (.str b) j3 p3] X.env)) (EP X pins σ Q) X.xe { s with toks := s.toks + 1 }
 rw [rb]
 have key : wpAny (model X.prog X.w) X.A (joinParts a (eval (.FormattedValue v (-1) none p2) X.env :: evalEach [.Constant (.str b) j3 p3] X.env)) (EP X pins σ Q) X.xe { s with toks := s.toks + 1 } := by
  rw [he]
  refine joinParts_cons (FormattedValue_plain (thn (hv pins _ σ H _ (I.tok _) h) fun u s1 ⟨y, H1, I1, r, l, xs, nss, ey, sq, rs, ok, hl, q⟩ => ?_))
  subst ey
  cases r
  obtain ⟨as, rd⟩ := jS I1 sq rs
  obtain ⟨o1, o2, o3, o4⟩ := lH ok
  refine formatField_of_reads rd o1 (PyData.noDict_hsm o2) hr.gd (by have := hr.un; omega) (fun _ _ z => z) (fun h' u tk hk => ⟨?_, joinParts_cons (Calls.Constant_str ⟨?_, joinParts_nil ⟨.str _, H1, I1.kept fun b o e => hk b o e, ⟨_, rfl⟩, q⟩ ?_⟩)⟩) o4
  ·rw [strLen_append]; omega
  ·rw [strLen_append, strLen_append]; omega
  ·rw [strLen_append, strLen_append]; omega
 exact ⟨hz, key⟩
def sM (a b : Str) : D -> Option D
 | .lst ds => (bQ ds).bind fun nss => if okP (aR nss) = true /\ a.length + (aR nss).shown.length + b.length <= sizeLine then some (.str (a ++ (aR nss).shown ++ b)) else none
 | _ => none
theorem xT {a b : Str} {j1 j3 : Nat} {p1 p2 p3 pos : Pos} {v : Expr} {f : FD} {k : Nat} (hr : Room k X.A) (hv : PE X v (tV X.K f E)) (hz : a.length <= sizeLine)
  (he : evalEach [.Constant (.str b) j3 p3] X.env = [eval (.Constant (.str b) j3 p3) X.env] := by rfl) :
  PE X (.JoinedStr [.Constant (.str a) j1 p1, .FormattedValue v (-1) none p2, .Constant (.str b) j3 p3] pos) (tV X.K (f1 (sM a b) f) E) :=
 (wc hr hv hz he).imp fun σ H Q h_ => ex6 h_ fun F δ β fr vk h => ⟨F, δ, β, fr, vk, (run.bind (R := Den X.K F) h).mono fun v H1 h_ => ex5 h_ fun d β1 t hd r1 => by
  obtain ⟨z, ez, k⟩ := run.ofO r1
  unfold sM at ez
  split at ez
  ·rename_i ds
   cases q : bQ ds with
   | none => rw [q] at ez; cases ez
   | some nss =>
    rw [q, Option.bind_some] at ez
    split at ez
    ·rename_i hk
     cases ez
     obtain ⟨a, xs, rfl, r, dl⟩ := Den.sqL hd
     exact ⟨a, xs, nss, rfl, r, gF q dl, hk.1, hk.2, k _ H1 (To.refl t.fr) rfl⟩
    ·cases ez
  ·cases ez⟩
end
section
variable {P : Program} {w : World} {K : Frag} {mg : Str -> Option Value} {base : Heap}
def spO (K : Frag) (n : Nat) (m : List D -> M (List D)) : Sp := fun vs H Q E => vs.length = n /\ ∃ F ds β, Fr F H β /\ DenL K F H ds vs /\ run (bR K F H) F (fun _ => E) [] (m ds) H Q β
def kA (n : Nat) (f : FL) : List D -> M (List D) := fun ds => f (vw (stD n ds))
theorem qV {x qual : Str} {st : Stmt} {f : Addr} {fd : FuncData} {N ps : List Str} {k : Nat} (n m : Nat) (g : FL) (F : FunD K x qual st f fd) (S : FnScope N ps (ak st)) (hn' : ps.length = n) (hm' : N.length = m)
  (hbody : ∀ (cdv : Value) (A : Around) (outer : List Env) (s : Shared) (H : Hp) (E : XK), Room k (A.deeper (envOfC qual (ak st) s.heap.objs.size f cdv)) ->
   PSs (bG (CXE P w) P w K mg base N qual (ak st) f cdv A outer s H E) (br st) (o8 (tVO K g (fun _ => E)))) : FnOk P w K mg base (CXE P w) (k + 1) f fd ps (spO K n (kA m g)) := by
 subst hn' hm'
 refine F.okE S (fun vs H Q E h => h.1) fun cdv A outer s H vs Q E hr h => ?_
 obtain ⟨hl, F0, ds, β, fr, hd, r, β', e, h⟩ := h
 refine ⟨_, hbody cdv A outer s H E hr, ?_⟩
 obtain ⟨B, ok, hA, h1, hn⟩ := jI (N := N) fr hd
 have toF : ∀ {B' : Ow} {H' : Hp}, Stp B H B' H' -> Fr (FxB B' F0.bg) H' β' -> To F0 H H' β' /\ ∀ a, F0.A a -> B' a ≠ none := fun {B' H'} s fr' => by
  have hs : ∀ a, F0.A a -> B' a ≠ none := fun a ha => by
   rw [s.tg a (hA a ha)]
   rcases hA a ha with z | z <;> rw [z] <;> simp
  refine ⟨⟨fun a o ha n => s.kp a o ha ?_, fun a ha => fr'.occ a (hs a ha), fun b l e => fr.bgA b l e, fr'.bag⟩, hs⟩
  cases q : B a with
  | none => exact .inl rfl
  | some t =>
   have := hA a (hn a (by rw [q]; simp))
   rcases this with z | z
   ·rw [q] at z; exact .inr z
   ·obtain ⟨b, l, e, w⟩ := h1 a z
    obtain ⟨n1, n2⟩ := n b l e
    rcases w with w | w
    ·exact absurd w n1
    ·exact absurd w n2
 refine ⟨FxB B F0.bg, vw (stD N.length ds), β, ok.fr, ok.view, r, β', e, ?_⟩
 cases r with
 | ok d =>
  intro v H' t hv
  obtain ⟨ok2, s2⟩ := ok.to (F := FxB B F0.bg) rfl t
  obtain ⟨t1, hs⟩ := toF s2 ok2.fr
  obtain ⟨a, xs, rfl, n0, n1, dl⟩ := hv
  have tr : Tr ((FxB B F0.bg).but a) H' (F0.but a) H' := ⟨fun c hc _ z => hc (by
   rcases z with z | z
   ·exact .inl (hs c z)
   ·exact .inr z), fun _ _ _ h => h, rfl⟩
  exact h _ H' t1 ⟨a, xs, rfl, n0, n1, DenL.tr tr _ _ dl⟩
 | error C =>
  intro H' t
  obtain ⟨ok2, s2⟩ := ok.to (F := FxB B F0.bg) rfl t
  exact h H' (toF s2 ok2.fr).1
end
section
variable {X : Cx} {E : St -> XK} {o e : Expr} {es : List Expr} {pos p apos : Pos} {x m : Str} {k n : Nat} {f C : Addr} {fd : FuncData} {ps : List Str} {st : Stmt}
theorem bR.pre {K : Frag} {F : Fx} {H H1 H' : Hp} {β1 : Bg} {ds : List D} {v : V} (t : To F H H1 β1) (h : bR K F H1 H' ds v) : bR K F H H' ds v := by
 obtain ⟨a, xs, ev, n0, n1, dl⟩ := h
 exact ⟨a, xs, ev, t.none n0, n1, dl⟩
def gn (C : Addr) (m : Str) (mf : List D -> M (List D)) (fo : FD) : FL := fun δ => M.bind (fo δ) fun d => match d with
 | .obj C' ns _ => if C' = C /\ m ∉ ns then mf [d] else M.fail
 | _ => M.fail
theorem oE {mf : List D -> M (List D)} {fo : FD} {pl : Sem Bool} (c : Cls X.K C) (hm : Meth X.K C m f) (G : FnOk X.prog X.w X.K X.mg X.base (CXE X.prog X.w) k f fd ps (spO X.K 1 mf)) (hr : Room k X.A) (hb : ay X.K fd ps []) (hx : aP (CXE X.prog X.w) X E)
  (ho : PE X o (tV X.K fo E))
  (ht : eval (.Call (.Attribute o m apos) [] [] pos) X.env = (do
   let ov ← eval o X.env
   standAt apos.atName
   let (f, first) ← holding [ov] (getMethod ov m pl)
   callWith pos f first (backTo pos (starEach [] X.env)) (backToKw pos (keywordEach [] X.env))) := by rfl) :
  PE X (.Call (.Attribute o m apos) [] [] pos) (tVO X.K (gn C m mf fo) E) :=
 (jj (pl := pl) ho c hm G hr hb .nil hx ht).imp fun σ H Q h_ => ex6 h_ fun F δ β fr vk h => ⟨F, δ, β, fr, vk, (run.bind (R := Den X.K F) h).mono fun v H1 h_ => ex5 h_ fun d β1 t hd r1 => by
  have fail : ∀ {mm : M (List D)}, mm = M.fail -> run (bR X.K F H) F E σ mm H1 Q β1 -> False := fun {mm} e r => by
   obtain ⟨r, β', e', _⟩ := r
   rw [e] at e'; cases e'
  cases d <;> first | exact (fail rfl r1).elim | skip
  rename_i C' ns ds
  simp only at r1
  split at r1
  ·rename_i z
   obtain ⟨rfl, hnm⟩ := z
   have hd' := hd
   unfold Den at hd
   obtain ⟨a, dx, xs, rfl, h1, h2, h3, h4⟩ := hd
   refine ⟨a, dx, _, rfl, h2, fj hnm, rfl, F, [_], β1, t.fr, DenL.cons hd' DenL.nil, ?_⟩
   obtain ⟨r0, β2, e0, h0⟩ := r1
   refine ⟨r0, β2, e0, ?_⟩
   cases r0 with
   | ok rows => exact fun v H' t2 hv => h0 v H' t2 (bR.pre t hv)
   | error C => exact h0
  ·exact (fail rfl r1).elim⟩
theorem frU {F : Fx} {H : Hp} {β : Bg} {a : Addr} {u : HO} (fr : Fr F H β) (h : ¬ F.A a) : Fr F (upd H a u) β :=
 ⟨fun c hc => by rw [upd_ne (show c ≠ a from fun z => h (z ▸ hc))]; exact fr.occ c hc, fr.bgA, fun b l q => by
  obtain ⟨z1, z2, _⟩ := fr.bgA b l q
  rw [upd_ne (show b ≠ a from fun z => h (z ▸ z1)), upd_ne (show l ≠ a from fun z => h (z ▸ z2))]
  exact fr.bag b l q⟩
theorem toU {F : Fx} {H H1 : Hp} {β β1 : Bg} {a : Addr} {u : HO} (fr : Fr F H β) (t : To F H H1 β1) (h : H a = none) : To F H (upd H1 a u) β1 :=
 ⟨fun c o hc n => by rw [upd_ne (ne_of_none hc h)]; exact t.kp c o hc n, frU t.fr fun z => fr.occ a z h⟩
def kt (f : FL) (g : FL) : G := fun δ β => match f (vwA δ) β with
 | some (.ok ds, β1) => if ds.length < sizeLine then (match g (vwA δ) β1 with
   | some (.ok [_], β2) => some (.nx δ, β2)
   | some (.error C, β2) => some (.ex C δ, β2)
   | _ => none) else none
 | some (.error C, β1) => some (.ex C δ, β1)
 | none => none
theorem vL {f g : FL} (h : PS X st (iz (tBM X.K "list" iB (tVO X.K f E) (tVA X.K g E)))) : PS X st (tG X.K X.H₀ (kt f g) E) := h.imp fun D σ H h_ => by
 obtain ⟨B, bg, δ, β, o, β', ok, e, q⟩ := h_
 refine ⟨FxA B bg, vwA δ, β, ok.frA, ok.viewA, ?_⟩
 unfold kt at e
 split at e
 ·rename_i ds β1 e1
  split at e
  ·rename_i hz
   refine ⟨.ok ds, _, e1, fun v H1 t hv => ?_⟩
   obtain ⟨a, xs, rfl, n0, n1, dl⟩ := hv
   refine ⟨.inl ⟨rfl, xs, SqL.of n1⟩, FxA B bg, vwA δ, β1, t.fr, ok.viewA.tr (t.tr ok.frA), ?_⟩
   have nA : ¬ (FxA B bg).A a := fun z => ok.frA.occ a z n0
   split at e
   ·rename_i d β2 e2
    cases e
    refine ⟨.ok [d], _, e2, fun vs H2 t2 hd => ?_⟩
    obtain ⟨y, rfl, _⟩ := DenL.one hd
    have n2 : H2 a = some (.lst xs) := t2.kp a _ n1 fun b l z => by
     obtain ⟨z1, z2, _⟩ := ok.frA.bgA b l z
     exact ⟨fun w => nA (w ▸ z1), fun w => nA (w ▸ z2)⟩
    refine ⟨a, xs, y, rfl, rfl, n2, by rw [← dl.length]; exact hz, ?_⟩
    obtain ⟨ok2, s2⟩ := ok.to rfl (toU ok.frA (t.trans t2) n0 (u := .lst (xs ++ [y])))
    exact q _ B _ s2 ok2
   ·rename_i C β2 e2
    cases e
    refine ⟨.error C, _, e2, fun H2 t2 => ?_⟩
    obtain ⟨ok2, s2⟩ := ok.to rfl (t.trans t2)
    exact q _ B _ s2 ok2
   ·cases e
  ·cases e
 ·rename_i C β1 e1
  cases e
  refine ⟨.error C, _, e1, fun H' t => ?_⟩
  obtain ⟨ok2, s2⟩ := ok.to rfl t
  exact q _ B H' s2 ok2
 ·cases e
def kr (f : FL) : G := fun δ β => match f (vwA δ) β with
 | some (.ok _, β1) => some (.nx δ, β1)
 | some (.error C, β1) => some (.ex C δ, β1)
 | none => none
theorem vK {f : FL} (h : PS X st (iz (vG X.K "list" qr (tVO X.K f E)))) : PS X st (tG X.K X.H₀ (kr f) E) := h.imp fun D σ H h_ => by
 obtain ⟨B, bg, δ, β, o, β', ok, e, q⟩ := h_
 refine ⟨FxA B bg, vwA δ, β, ok.frA, ok.viewA, ?_⟩
 unfold kr at e
 split at e
 ·rename_i ds β1 e1
  cases e
  refine ⟨.ok ds, _, e1, fun v H1 t hv => ?_⟩
  obtain ⟨a, xs, rfl, n0, n1, dl⟩ := hv
  refine ⟨.inl ⟨rfl, xs, SqL.of n1⟩, a, xs, rfl, rfl, n1, ?_⟩
  obtain ⟨ok2, s2⟩ := ok.to rfl (toU ok.frA t n0 (u := .lst []))
  exact q _ B _ s2 ok2
 ·rename_i C β1 e1
  cases e
  refine ⟨.error C, _, e1, fun H' t => ?_⟩
  obtain ⟨ok2, s2⟩ := ok.to rfl t
  exact q _ B H' s2 ok2
 ·cases e
def kv (i : Nat) : G := fun δ β => match δ.getD i none with
 | some (.grd rows) => if rows.length < sizeLine then some (.nx (δ.set i none), β) else none
 | _ => none
theorem wu {K : Frag} {H₀ H : Hp} {B : Ow} {bg : Option (Addr × Addr)} {δ : Ds} {β : Bg} {σ : St} {i : Nat} (ok : SOk K H₀ B bg H δ β σ) : SOk K H₀ B bg H (δ.set i none) β σ :=
 { ok with
  len := by rw [List.length_set, ok.len]
  tell := fun j s e => by
   rw [List.getElem?_set] at e
   split at e
   ·split at e <;> cases e
   ·exact ok.tell j s e }
theorem nI {K : Frag} {F : Fx} {H : Hp} : ∀ rs : List Addr, DenL K F H (rs.map D.adr) (rs.map V.ref)
 | [] => DenL.nil
 | _ :: rs => DenL.cons rfl (nI rs)
theorem vP {i : Nat} (h : PS X st (iz (tBM X.K "list" iB (jf i) (tB (rL o9) o9)))) : PS X st (tG X.K X.H₀ (kv i) E) := h.imp fun D σ H h_ => by
 obtain ⟨B, bg, δ, β, o, β', ok, e, q⟩ := h_
 unfold kv at e
 split at e
 ·rename_i rows ec
  split at e
  ·rename_i hz
   cases e
   obtain ⟨v, h1, a, rs, rfl, e2, e3, nd, rl⟩ := ok.tell i _ (dr ec)
   refine ⟨_, h1, .inl ⟨rfl, _, SqL.of e3⟩, Nat.zero_le _, fun p hp => ?_⟩
   have hl : rs.length = rows.length := rl.len.symm
   have e3' : upd H p (.lst []) a = some (.lst (rs.map V.ref)) := by rw [upd_ne (ne_of_none e3 hp)]; exact e3
   obtain ⟨ok2, s2⟩ := ok.to rfl (toU ok.fr (To.refl ok.fr) hp (u := .lst []))
   obtain ⟨ok3, s3⟩ := ok2.writeOwn (ds := (rs ++ [p]).map Pu.D.adr) (xs := (rs ++ [p]).map V.ref) h1 e2 e3' (nI _)
   refine ⟨a, _, .ref p, rfl, rfl, e3', by rw [List.length_map, hl]; exact hz, ?_⟩
   have ok4 := wu (i := i) ok3
   rw [List.set_set] at ok4
   rw [List.map_append] at ok4 s3
   exact q _ _ _ (s2.trans s3) ok4
  ·cases e
 ·cases e
end
end L2.Pu
set_option maxHeartbeats 8000000
namespace L2.Pu
open PySem PySem.Spec PyProof.Rows
theorem pgN {X : Cx} (i : Nat) {x : Str} {pos : Pos} (hN : X.N.Nodup) (hi : X.N[i]? = some x := by rfl) (hx : Loc X.env.scope x := by first | exact Or.inl rfl | exact Or.inr rfl) (hf : X.fn x = true \/ X.env.scope.names.lookup x = some .local := by first | exact .inl rfl | exact .inr rfl | assumption) : PG X (.Name x pos) (cN i) := ox hN hi hx hf
theorem psS {X : Cx} (i : Nat) {x : Str} {e : Expr} {te : TE} {pos pos' : Pos} (hN : X.N.Nodup) (he : PE X e te) (hi : X.N[i]? = some x := by rfl) (hx : Loc X.env.scope x := by first | exact Or.inl rfl | exact Or.inr rfl) (hs : swapsWith e (some (.Name x pos')) pos.line X.env = pure false := by rfl) (hf : X.fn x = true \/ X.env.scope.names.lookup x = some .local := by first | exact .inl rfl | exact .inr rfl | assumption) : PS X (.Assign [.Name x pos'] e pos) (fG te (cN i)) := jU hN hi hx he hs hf
theorem fsc {N Q : List Str} {c : Scope} (a : c.kind = .function := by rfl) (b : c.isCoroutine = false := by rfl) (g : c.isGenerator = false := by rfl) (d : N.Nodup := by decide +kernel) (e : N.take Q.length = Q := by rfl) (f : ∀ x ∈ Q, c.names.lookup x = some .local \/ c.names.lookup x = some .cell := by decide +kernel) (h : ∀ y ∈ c.names, y.2 ≠ .free := by decide +kernel) : FnScope N Q c := ⟨a, b, g, d, e, f, h⟩
theorem aN0 (δ : Dn) (β : Bg) (r : List D) (β' : Bg) (h : af δ β = some (.ok r, β')) : r.length = 0 := sY h
end L2.Pu
namespace Law
open PySem L2 L2.Pu
def top (i : Nat) : Stmt := PySem.Challenge.pw_edgetally_k04_table_told.main.body.getD i (.Pass ⟨0, 0, 0, 0⟩)
abbrev hW : Stmt := top 8
abbrev gP : Stmt := top 9
abbrev oj : Stmt := top 13
abbrev mU : Stmt := top 14
abbrev mT : Stmt := top 15
abbrev jM : Stmt := top 16
abbrev i6 : Stmt := top 17
abbrev f6 : Stmt := top 18
abbrev jN : Stmt := top 19
abbrev om : Stmt := top 20
abbrev oi : Stmt := top 21
abbrev eG : Stmt := aq (top 11) 0
abbrev gR : Stmt := aq (top 11) 5
abbrev eF : Stmt := aq (top 11) 4
abbrev dW : Stmt := aq (top 11) 7
abbrev fc : Stmt := aq (top 11) 3
abbrev gQ : Stmt := aq (top 11) 8
abbrev e9 : Stmt := aq (top 11) 6
abbrev fe : Stmt := aq (top 11) 2
abbrev f7 : Stmt := aq (top 11) 1
abbrev jL : Stmt := top 22
abbrev g9 : Stmt := aq (top 2) 0
abbrev i4 : Stmt := aq (top 3) 0
set_option genSizeOf false in
set_option genInjectivity false in
structure Ad where
 C_EdgeError : Addr
 x_EdgeError : Addr
 y_EdgeError : FuncData
 C_BadTable : Addr
 x_BadTable : Addr
 y_BadTable : FuncData
 C_Table : Addr
 f_check_rows : Addr
 d_check_rows : FuncData
 f_rows_turned : Addr
 d_rows_turned : FuncData
 f_l_bag : Addr
 d_l_bag : FuncData
 f_l_pull : Addr
 d_l_pull : FuncData
 f_l_same : Addr
 d_l_same : FuncData
 f_l_turned : Addr
 d_l_turned : FuncData
 f_l_rowsums : Addr
 d_l_rowsums : FuncData
 f_l_columnsums : Addr
 d_l_columnsums : FuncData
 f_l_copied : Addr
 d_l_copied : FuncData
 f_l_any : Addr
 d_l_any : FuncData
 f_l_due : Addr
 d_l_due : FuncData
 f_Table___init__ : Addr
 d_Table___init__ : FuncData
 f_Table_cells : Addr
 d_Table_cells : FuncData
 f_Table___repr__ : Addr
 d_Table___repr__ : FuncData
 f_Table_columnsums : Addr
 d_Table_columnsums : FuncData
 f_Table___str__ : Addr
 d_Table___str__ : FuncData
 f_Table_total : Addr
 d_Table_total : FuncData
 f_Table_rowsums : Addr
 d_Table_rowsums : FuncData
 f_Table___len__ : Addr
 d_Table___len__ : FuncData
 f_Table___eq__ : Addr
 d_Table___eq__ : FuncData
 f_law : Addr
 d_law : FuncData
structure Fns (K : Frag) (mg : Str -> Option Value) (a : Ad) : Prop where
 n_ValueError : mg "ValueError" = none
 n_abs : mg "abs" = none
 n_any : mg "any" = none
 n_bool : mg "bool" = none
 n_int : mg "int" = none
 n_isinstance : mg "isinstance" = none
 n_len : mg "len" = none
 n_list : mg "list" = none
 n_min : mg "min" = none
 n_range : mg "range" = none
 n_repr : mg "repr" = none
 n_str : mg "str" = none
 n_sum : mg "sum" = none
 n_tuple : mg "tuple" = none
 n_zip : mg "zip" = none
 g_MOST : kE K mg "MOST" (.int 40)
 g_MOST_COLUMNS : kE K mg "MOST_COLUMNS" (.int 6)
 g_MOST_ROWS : kE K mg "MOST_ROWS" (.int 4)
 F_check_rows : FunD K "check_rows" "check_rows" hW a.f_check_rows a.d_check_rows
 m_check_rows : mg "check_rows" = some (.ref a.f_check_rows)
 b_check_rows : ay K a.d_check_rows ["rows"] []
 F_rows_turned : FunD K "rows_turned" "rows_turned" gP a.f_rows_turned a.d_rows_turned
 m_rows_turned : mg "rows_turned" = some (.ref a.f_rows_turned)
 b_rows_turned : ay K a.d_rows_turned ["rows"] []
 F_l_bag : FunD K "_law_bag" "_law_bag" oj a.f_l_bag a.d_l_bag
 m_l_bag : mg "_law_bag" = some (.ref a.f_l_bag)
 b_l_bag : ay K a.d_l_bag ["_law_script"] []
 F_l_pull : FunD K "_law_pull" "_law_pull" mU a.f_l_pull a.d_l_pull
 m_l_pull : mg "_law_pull" = some (.ref a.f_l_pull)
 b_l_pull : ay K a.d_l_pull ["_law_bag_here", "_law_lot"] []
 F_l_same : FunD K "_law_same" "_law_same" mT a.f_l_same a.d_l_same
 m_l_same : mg "_law_same" = some (.ref a.f_l_same)
 b_l_same : ay K a.d_l_same ["_law_found", "_law_due_here"] []
 F_l_turned : FunD K "_law_turned" "_law_turned" jM a.f_l_turned a.d_l_turned
 m_l_turned : mg "_law_turned" = some (.ref a.f_l_turned)
 b_l_turned : ay K a.d_l_turned ["_law_block"] []
 F_l_rowsums : FunD K "_law_rowsums" "_law_rowsums" i6 a.f_l_rowsums a.d_l_rowsums
 m_l_rowsums : mg "_law_rowsums" = some (.ref a.f_l_rowsums)
 b_l_rowsums : ay K a.d_l_rowsums ["_law_grid"] []
 F_l_columnsums : FunD K "_law_columnsums" "_law_columnsums" f6 a.f_l_columnsums a.d_l_columnsums
 m_l_columnsums : mg "_law_columnsums" = some (.ref a.f_l_columnsums)
 b_l_columnsums : ay K a.d_l_columnsums ["_law_grid"] []
 F_l_copied : FunD K "_law_copied" "_law_copied" jN a.f_l_copied a.d_l_copied
 m_l_copied : mg "_law_copied" = some (.ref a.f_l_copied)
 b_l_copied : ay K a.d_l_copied ["_law_block"] []
 F_l_any : FunD K "_law_any" "_law_any" om a.f_l_any a.d_l_any
 m_l_any : mg "_law_any" = some (.ref a.f_l_any)
 b_l_any : ay K a.d_l_any ["_law_bag_here"] []
 F_l_due : FunD K "_law_due" "_law_due" oi a.f_l_due a.d_l_due
 m_l_due : mg "_law_due" = some (.ref a.f_l_due)
 b_l_due : ay K a.d_l_due ["_law_table", "_law_block"] []
 F_Table___init__ : FunD K "__init__" "Table.__init__" eG a.f_Table___init__ a.d_Table___init__
 mk_Table : Mk K a.C_Table a.f_Table___init__
 b_Table___init__ : ay K a.d_Table___init__ ["self", "rows"] []
 F_Table_cells : FunD K "cells" "Table.cells" gR a.f_Table_cells a.d_Table_cells
 mt_Table_cells : Meth K a.C_Table "cells" a.f_Table_cells
 b_Table_cells : ay K a.d_Table_cells ["self"] []
 F_Table___repr__ : FunD K "__repr__" "Table.__repr__" eF a.f_Table___repr__ a.d_Table___repr__
 mt_Table___repr__ : Meth K a.C_Table "__repr__" a.f_Table___repr__
 b_Table___repr__ : ay K a.d_Table___repr__ ["self"] []
 F_Table_columnsums : FunD K "columnsums" "Table.columnsums" dW a.f_Table_columnsums a.d_Table_columnsums
 mt_Table_columnsums : Meth K a.C_Table "columnsums" a.f_Table_columnsums
 b_Table_columnsums : ay K a.d_Table_columnsums ["self"] []
 F_Table___str__ : FunD K "__str__" "Table.__str__" fc a.f_Table___str__ a.d_Table___str__
 mt_Table___str__ : Meth K a.C_Table "__str__" a.f_Table___str__
 b_Table___str__ : ay K a.d_Table___str__ ["self"] []
 F_Table_total : FunD K "total" "Table.total" gQ a.f_Table_total a.d_Table_total
 mt_Table_total : Meth K a.C_Table "total" a.f_Table_total
 b_Table_total : ay K a.d_Table_total ["self"] []
 F_Table_rowsums : FunD K "rowsums" "Table.rowsums" e9 a.f_Table_rowsums a.d_Table_rowsums
 mt_Table_rowsums : Meth K a.C_Table "rowsums" a.f_Table_rowsums
 b_Table_rowsums : ay K a.d_Table_rowsums ["self"] []
 F_Table___len__ : FunD K "__len__" "Table.__len__" fe a.f_Table___len__ a.d_Table___len__
 mt_Table___len__ : Meth K a.C_Table "__len__" a.f_Table___len__
 b_Table___len__ : ay K a.d_Table___len__ ["self"] []
 F_Table___eq__ : FunD K "__eq__" "Table.__eq__" f7 a.f_Table___eq__ a.d_Table___eq__
 mt_Table___eq__ : Meth K a.C_Table "__eq__" a.f_Table___eq__
 b_Table___eq__ : ay K a.d_Table___eq__ ["self", "other"] []
 cl_Table : Cls K a.C_Table
 m_Table : mg "Table" = some (.ref a.C_Table)
 ic_Table : IsC K a.C_Table
 sl_Table : subIn K (.type "list") (.ref a.C_Table) = some false
 na_Table_counts : dG K a.C_Table "counts"
 FX_EdgeError : FunD K "__init__" "EdgeError.__init__" g9 a.x_EdgeError a.y_EdgeError
 b_EdgeError : ay K a.y_EdgeError ["self", "word", "why"] []
 m_EdgeError : mg "EdgeError" = some (.ref a.C_EdgeError)
 FX_BadTable : FunD K "__init__" "BadTable.__init__" i4 a.x_BadTable a.y_BadTable
 b_BadTable : ay K a.y_BadTable ["self", "why"] []
 m_BadTable : mg "BadTable" = some (.ref a.C_BadTable)
 xm_BadTable : XMk K a.C_BadTable a.x_BadTable
 w_BadTable : findIn K (.ref a.C_BadTable) "word" = some none
 cE : ClsFn K a.C_EdgeError "__init__" a.x_EdgeError
section
variable (P : Program) (w : World) {K : Frag} {mg : Str -> Option Value} (base : Heap) {a : Ad}
def vI (K : Frag) : Sp := fun vs H Q _ => ∃ (x C : Addr) (wd y : V), vs = [.ref x, wd, y] /\ H x = some (cf C x none) /\ XC K C /\ findIn K (.ref C) "word" = some none /\ ∀ (d : Addr) (H' : Hp), H' x = some (cf C x (some d)) -> (∀ b o, H b = some o -> b ≠ x -> H' b = some o) -> Q .non H'
theorem l3 : FnScope ["self", "word", "why"] ["self", "word", "why"] (ak g9) := fsc
theorem uQ (N : Fns K mg a) : FnOk P w K mg base (CXE P w) 1 a.x_EdgeError a.y_EdgeError ["self", "word", "why"] (vI K) := by
 refine N.FX_EdgeError.ok l3 (fun vs H Q E h => ?_) (fun cdv A outer s H vs Q E hr h => ?_)
 ·obtain ⟨x, C, wd, y, rfl, _⟩ := h
  rfl
 ·obtain ⟨x, C, wd, y, rfl, hx, c, hf, k⟩ := h
  refine ⟨_, bu (dN (rZ rfl N.n_ValueError (ba (pv 0) (ba (pv 2) bT)))) (dn (rY (pv 0) (pv 1) rfl)), ?_⟩
  refine ⟨_, rfl, _, rfl, x, C, none, _, rfl, (by show 1 <= sizeLine; decide), hx, c, ?_⟩
  refine ⟨_, rfl, _, rfl, x, C, rfl, ai, c, hf, fun d hd hda => ?_⟩
  refine k d _ ai fun b o e hb => ?_
  have hdn : H d = none := by rw [upd_ne hda] at hd; exact hd
  rw [upd_ne hb, upd_ne (ne_of_none e hdn), upd_ne hb]
  exact e
theorem mR : FnScope ["self", "why"] ["self", "why"] (ak i4) := fsc
theorem m7 (N : Fns K mg a) : FnOk P w K mg base (CXE P w) 2 a.x_BadTable a.y_BadTable ["self", "why"] (tH a.C_BadTable 1) := by
 have GE := uQ P w base N
 refine N.FX_BadTable.ok mR (fun vs H Q E h => ?_) (fun cdv A outer s H vs Q E hr h => ?_)
 ·obtain ⟨x, rest, rfl, hl, _⟩ := h
  show rest.length + 1 = 2
  rw [hl]
 ·obtain ⟨x, rest, rfl, hl, hx, k⟩ := h
  obtain ⟨y, rfl⟩ : ∃ y, rest = [y] := List.length_eq_one_iff.mp hl
  refine ⟨_, dn (dN (pq N.cE GE hr rfl N.m_EdgeError N.b_EdgeError .nil fh (ba (pv 0) (ba qv (ba (pv 1) bT))))), ?_⟩
  exact ⟨_, rfl, _, rfl, x, a.C_BadTable, _, y, rfl, hx, N.xm_BadTable.xc, N.w_BadTable, fun d H' h1 h2 => k _ H' h1 h2⟩
theorem eZ : FnScope ["_law_bag_here", "_law_lot", "_law_cells", "_law_at", "_law_cell"] ["_law_bag_here", "_law_lot"] (ak mU) := fsc
theorem lF (N : Fns K mg a) : FnOk P w K mg base (CXE P w) 2 a.f_l_pull a.d_l_pull ["_law_bag_here", "_law_lot"] (spF K 2 cM) := by
 refine N.F_l_pull.ok (k := 1) eZ (fun vs H Q E h => h.1) (fun cdv A outer s H vs Q E hr h => ?_)
 obtain ⟨_, F, ds, β, fr, hd, r, β', e, k⟩ := h
 obtain ⟨lot, rfl, ok, h0, h1, rfl, rfl⟩ := qF e
 obtain ⟨v, w', rfl, d1, d2⟩ := DenL.two hd
 unfold Den at d1
 obtain ⟨b, l, ebg, rfl⟩ := d1
 cases d2.int
 obtain ⟨hb, hl⟩ := fr.bag b l ebg
 obtain ⟨ab, al, nbl⟩ := fr.bgA b l ebg
 obtain ⟨hk, hck, hc0, ek⟩ := ok.at
 obtain ⟨_, _, hcp, _⟩ := oq ok h0
 have len : ((β.cells.map V.int).length : Int) = (β.cells.length : Int) := by rw [List.length_map]
 have hat : atI (β.cells.map V.int) (β.pos : Int) = some (.int β.cell) := vg (by rw [List.getElem?_map, hck]; rfl)
 refine ⟨_, bu (jU (i := 2) eZ.nd rfl (Or.inl rfl) (cZ bJ (pv 0) aZ (fun _ _ => rfl)))
  (bu (jU (i := 3) eZ.nd rfl (Or.inl rfl) (bZ h9 (cZ bJ (pv 0) aZ (fun _ _ => rfl)) (eK aO (by rfl) N.n_len PySem.boot_len (ba (pv 2) bT))))
  (bu (jU (i := 4) eZ.nd rfl (Or.inl rfl) (cZ bJ (pv 2) (pv 3) (fun _ _ => rfl)))
  (bu (tP (ou yc (pv 4) (bZ wl aZ aZ) (j4 _))
   (bu (dY (bZ oA (pv 4) (pv 1)) (dZ (pv 2) (pv 3) cA)) (dn (aB (bZ h9 (pv 4) (pv 1))))) kO)
  (bu (dY (bZ jX (cZ bJ (pv 0) aZ (fun _ _ => rfl)) aZ) (dZ (pv 0) aZ cA))
  (bu (dY (bZ h9 (bZ wn (bZ jX (bZ jX (cZ bJ (pv 0) aZ (fun _ _ => rfl)) (bZ h9 (pv 4) aZ)) aZ) aZ) aZ) (dZ (pv 0) aZ cA))
  (dn (aB (bZ h9 (bZ oA (cZ bJ (pv 0) aZ (fun _ _ => rfl)) aZ) (pv 1))))))))), ?_⟩
 refine ⟨_, rfl, b, _, _, _, rfl, rfl, SqL.of hb, rfl, ?_⟩
 refine ⟨_, rfl, b, _, _, _, rfl, rfl, SqL.of hb, rfl, _, rfl, l, _, rfl, .inl (SqL.of hl), _, _, rfl, rfl, ?_, ?_⟩
 ·have := hk
  rw [len]
  omega
 refine ⟨_, rfl, _, rfl, l, _, _, _, rfl, rfl, SqL.of hl, by rw [len, ek]; exact hat, ?_⟩
 refine ⟨_, rfl, _, _, rfl, rfl, ⟨by decide, by decide, by decide⟩, _, _, rfl, rfl, _, rfl, ?_⟩
 have occ : ∀ {H' : Hp} {p : Addr} {o : HO}, (∀ c, F.A c -> H' c ≠ none) -> ∀ c, F.A c -> upd H' p o c ≠ none := fun {H' p o} f c hc z => by
  by_cases q : c = p
  ·subst q; rw [ai] at z; cases z
  ·rw [upd_ne q] at z; exact f c hc z
 refine ite2 (fun hbig => ?_) (fun hbig => ?_)
 ·have big : (10 : Int) ^ 18 <= β.cell := of_decide_eq_true hbig
  refine ⟨_, rfl, _, rfl, _, _, rfl, rfl, ⟨h0, h1⟩, _, rfl, _, rfl, l, _, _, β.pos, rfl, rfl, hl, ?_, ?_⟩
  ·rw [len, ek, List.length_map]
   exact dP hk
  refine ⟨_, rfl, _, rfl, _, _, rfl, rfl, h0, ?_⟩
  have e1 : ff β lot = β.cell % lot := if_pos big
  have e2 : gy β lot = ⟨β.cells.set β.pos (β.cell / lot), β.i, β.j⟩ := if_pos big
  rw [e1, e2] at k
  refine k _ _ ⟨fun c o hc n => by rw [upd_ne (n b l ebg).2]; exact hc, occ fr.occ, fr.bgA, fun b' l' e' => ?_⟩ rfl
  rw [ebg] at e'
  cases e'
  exact ⟨by rw [upd_ne nbl]; exact hb, by rw [ai, List.map_set]⟩
 ·have big : ¬ (10 : Int) ^ 18 <= β.cell := fun q => hbig (decide_eq_true q)
  refine ⟨_, rfl, b, _, _, _, rfl, rfl, SqL.of hb, rfl, _, _, rfl, rfl, _, rfl, b, _, _, 1, rfl, rfl, hb, rfl, ?_⟩
  have hb1 : (upd H b (.lst [.ref l, .int (β.i + 1), .int β.j])) b = some (.lst [.ref l, .int (β.i + 1), .int β.j]) := ai
  refine ⟨_, rfl, b, _, _, _, rfl, rfl, SqL.of hb1, rfl, _, rfl, _, _, rfl, rfl, (by show (0 : Int) < 2147483629; decide), _, _, rfl, rfl, _, _, rfl, rfl, _, _, rfl, rfl, .inr ⟨by decide, by decide⟩, _, _, rfl, rfl, (by show (0 : Int) < 2147483629; decide), _, rfl, b, _, _, 2, rfl, rfl, hb1, rfl, ?_⟩
  have hb2 : (upd (upd H b (.lst [.ref l, .int (β.i + 1), .int β.j])) b (.lst [.ref l, .int (β.i + 1), .int β.nxt])) b = some (.lst [.ref l, .int (β.i + 1), .int β.nxt]) := ai
  refine ⟨_, rfl, b, _, _, _, rfl, rfl, SqL.of hb2, rfl, _, _, rfl, rfl, ⟨by decide, by decide⟩, _, rfl, _, _, rfl, rfl, h0, ?_⟩
  have e1 : ff β lot = β.nxt / 64 % lot := if_neg big
  have e2 : gy β lot = ⟨β.cells, β.i + 1, β.nxt⟩ := if_neg big
  rw [e1, e2] at k
  refine k _ _ ⟨fun c o hc n => by rw [upd_ne (n b l ebg).1, upd_ne (n b l ebg).1]; exact hc, occ (occ fr.occ), fr.bgA, fun b' l' e' => ?_⟩ rfl
  rw [ebg] at e'
  cases e'
  exact ⟨hb2, by rw [upd_ne nbl.symm, upd_ne nbl.symm]; exact hl⟩
theorem rP : FnScope ["_law_script"] ["_law_script"] (ak oj) := fsc
theorem nd1 : (["_law_cell"] : List Str).Nodup := by decide +kernel
theorem sf (N : Fns K mg a) : FnOk P w K mg base (CXE P w) 1 a.f_l_bag a.d_l_bag ["_law_script"] (x3 K) := by
 refine N.F_l_bag.ok rP (fun vs H Q E h => ?_) (fun cdv A outer s H vs Q E hr h => ?_)
 ·obtain ⟨a, ns, rfl, _⟩ := h
  rfl
 ·obtain ⟨a, ns, rfl, hS, k⟩ := h
  refine ⟨_, dn (aB (f9 (ba (bZ wq (iC rfl (vars := ["_law_cell"]) (CmpScope.plain rfl (by decide +kernel) (by decide +kernel)) (uG (r8 ut (pv 0) uE (uD aZ)))
   (fun cl C fp s H => ⟨ox (i := 0) nd1 rfl (Or.inl rfl), mZ, fun D => aM rfl (eK sU (by rfl) N.n_abs PyProof.Rows.Boot.«abs» (ba (pv 0) bT)) rfl⟩)) (f9 (ba aZ bT))) (ba aZ (ba aZ bT))))), ?_⟩
  obtain ⟨ms, ems, lms⟩ := yq ns
  refine ⟨_, rfl, 63, rfl, a, _, rfl, hS, fun p hp => ?_⟩
  rw [ems]
  have s1 : bh H (upd H p (.lst (ms.map V.int))) := bh.upd hp
  refine ⟨p, rfl, ⟨_, SqL.of ai⟩, fun D hD => ?_⟩
  have nDp : D ≠ p := fun z => by subst z; rw [ai] at hD; cases hD
  refine pU (xs := ms.map V.int) (fun i σ H2 => ∃ cs : List Int, (∃ v, σ = [v]) /\ cs.length = i /\ (∀ c ∈ cs, 0 <= c) /\ H2 D = some (.lst (cs.map V.int)) /\ H2 p = some (.lst (ms.map V.int)) /\ bh H H2) ⟨[], ⟨_, rfl⟩, rfl, (fun _ h => nomatch h), ai, by rw [upd_ne nDp.symm, ai], s1.trans (bh.upd hD)⟩
   (fun i σ H2 _ ⟨_, _, _, _, _, e, _⟩ => SqL.of e) ?_ ?_
  ·rintro i x σ H2 hi ⟨cs, ⟨v, rfl⟩, hcl, hc0, hDc, hp2, s2⟩
   have hil : i < ms.length := by have := (List.getElem?_eq_some_iff.mp hi).1; rwa [List.length_map] at this
   obtain ⟨z, rfl⟩ : ∃ z, x = V.int z := by
    rw [List.getElem?_map] at hi
    cases e : ms[i]? with
    | none => rw [e] at hi; cases hi
    | some z => rw [e] at hi; exact ⟨z, (Option.some.inj hi).symm⟩
   unfold cN vD
   refine iteT ?_
   refine ⟨_, rfl, _, rfl, cs.map V.int, hDc, by rw [List.length_map]; exact lC (by omega), cs ++ [if z < 0 then -z else z], ⟨_, rfl⟩, by rw [List.length_append, hcl]; rfl, fun c hc => ?_, by rw [ai, List.map_append]; rfl, by rw [upd_ne nDp.symm]; exact hp2, fun b o e => ?_⟩
   ·rcases List.mem_append.mp hc with hc | hc
    ·exact hc0 c hc
    ·obtain rfl : c = _ := by simpa using hc
     split <;> omega
   ·rw [upd_ne (ne_of_none e (s1.free hD))]
    exact s2 b o e
  ·rintro σ H2 ⟨cs, ⟨v, rfl⟩, hcl, hc0, hDc, hp2, s2⟩
   rw [List.length_map] at hcl
   refine ⟨by decide, fun p2 hp2' => ⟨D, p2, _, _, rfl, rfl, by rw [upd_ne (ne_of_none hDc hp2')]; exact hDc, ai, by rw [List.length_map]; exact Nat.le_of_lt (lC (by simp; omega)), fun p3 hp3 => ⟨(by show 3 <= sizeLine; decide), fun p4 hp4 => ?_⟩⟩⟩
   have s3 : bh H2 (upd H2 p2 (.lst [V.int 1])) := bh.upd hp2'
   have s4 := s3.trans (bh.upd (o := .lst (cs.map V.int ++ [V.int 1])) hp3)
   have n34 : p3 ≠ p4 := fun z => by subst z; rw [ai] at hp4; cases hp4
   refine k p4 p3 _ ((s2.trans s4).free hp4) ((s2.trans s3).free hp3) ⟨cs ++ [1], 0, 0, ai, by rw [upd_ne n34, ai, List.map_append]; rfl, by simp, by rw [List.length_append]; simp; omega, fun c hc => ?_, by decide⟩ ((s2.trans s4).trans (bh.upd hp4))
   rcases List.mem_append.mp hc with hc | hc
   ·exact hc0 c hc
   ·obtain rfl : c = 1 := by simpa using hc
    decide
theorem gO : FnScope ["rows", "columns"] ["rows"] (ak hW) := fsc
noncomputable def eP (K : Frag) (a : Ad) : G :=
  ao (gIf (bq (fB (ck leD leD (fC (.int 1)) (aj bf (aa (ad 0) (af))) (fC (.int 4))))) (bB a.C_BadTable (aa (de (cx (fC (.int 4)) (cx (aj bf (aa (ad 0) (af))) (dS)))) (af))) (gNil))
  (ao (cq 1 (aj bf (aa (f2 ixD (ad 0) (fC (.int 0))) (af))))
  (ao (gIf (bq (fB (ck leD leD (fC (.int 1)) (ad 1) (fC (.int 6))))) (bB a.C_BadTable (aa (de (cx (fC (.int 6)) (cx (ad 1) (dS)))) (af))) (gNil))
  (ao (gIf (bF (aj lr (aa (aJ 1 [1] (aF (ad 0)) (tgC 0) (fun _ => M.ret true) (cEm (f2 (cn) (aj bf (aa (ad 0) (af))) (ad 1)))) (af)))) (bB a.C_BadTable (aa (fC (.str (Str.ofString "the rows are of unlike lengths"))) (af))) (gNil))
  (ao (gIf (bF (aj lr (aa (aJ 2 [] (aF (ad 0)) (tgC 0) (fun _ => M.ret true) (cNx (aF (ad 0)) (tgC 1) (fun _ => M.ret true) (cEm (f2 (ltD) (ad 1) (fC (.int 0)))))) (af)))) (bB a.C_BadTable (aa (fC (.str (Str.ofString "a count is below nought"))) (af))) (gNil))
  (gIf (fB (f2 (gtD) (aj bw (aa (aJ 1 [] (aF (ad 0)) (tgC 0) (fun _ => M.ret true) (cEm (aj bw (aa (ad 0) (af))))) (af))) (fC (.int 40)))) (bB a.C_BadTable (aa (de (cx (fC (.int 40)) (dS))) (af))) (gNil))))))
noncomputable def m_check_rows (K : Frag) (a : Ad) : List D -> M D := aN 2 (eP K a)
theorem l4 (N : Fns K mg a) : FnOk P w K mg base (CXE P w) 4 a.f_check_rows a.d_check_rows ["rows"] (spF K 1 (m_check_rows K a)) := by
 have X_BadTable := m7 P w base N
 unfold m_check_rows
 exact cF (k := 3) 1 2 (eP K a) N.F_check_rows gO rfl rfl fun cdv A outer s H E hr => ax (bY (dR (n6 mh mh pF pF (aI) (au aO c9 (by rfl) N.n_len PySem.boot_len (ac (ae 0 (pv 0)) (ag))) (fW N.g_MOST_ROWS))) (aC (fZ N.xm_BadTable.xc (ah aN0) (by decide) (eJ hr.hd (hZ N.xm_BadTable X_BadTable (hr.mono (by decide)) rfl N.m_BadTable N.b_BadTable .nil fh (ac (mC (c := ((Str.ofString "a table has 1 to ").length + (1921 + ((Str.ofString " rows, not ").length + (1921 + 0))))) (iH (kd (fW N.g_MOST_ROWS) (iH (kd (au aO c9 (by rfl) N.n_len PySem.boot_len (ac (ae 0 (pv 0)) (ag))) (pJ))))) (by decide +kernel)) (ag)))))) (bD))
   (ax (e8 (psS 1 gO.nd (au aO c9 (by rfl) N.n_len PySem.boot_len (ac (cz bc cD (ae 0 (pv 0)) (aI)) (ag)))))
   (ax (bY (dR (n6 mh mh pF pF (aI) (ae 1 (pv 1)) (fW N.g_MOST_COLUMNS))) (aC (fZ N.xm_BadTable.xc (ah aN0) (by decide) (eJ hr.hd (hZ N.xm_BadTable X_BadTable (hr.mono (by decide)) rfl N.m_BadTable N.b_BadTable .nil fh (ac (mC (c := ((Str.ofString "a table has 1 to ").length + (1921 + ((Str.ofString " columns, not ").length + (1921 + 0))))) (iH (kd (fW N.g_MOST_COLUMNS) (iH (kd (ae 1 (pv 1)) (pJ))))) (by decide +kernel)) (ag)))))) (bD))
   (ax (bY (dA (au (lT rfl) tU (by rfl) N.n_any PyProof.Rows.Boot.«any» (ac (bo rfl (CmpScope.ofB (Nc := ["counts", "columns"]) (vars := ["counts"]) (caps := [1]) rfl (by decide +kernel) (by rfl) (by rfl) (by rfl)) (bn (ae 0 (pv 0))) (fun cl C fp s H => ⟨(pgN 0 (show (["counts", "columns"] : List Str).Nodup by decide +kernel)), aV, fun D => aM rfl (gu (gb hr) iG (au aO c9 (by rfl) N.n_len PySem.boot_len (ac (ae 0 (pv 0)) (ag))) (ae 1 (pv 1))) rfl⟩) aE aL (fun D => aY)) (ag)))) (aC (fZ N.xm_BadTable.xc (ah aN0) (by decide) (eJ hr.hd (hZ N.xm_BadTable X_BadTable (hr.mono (by decide)) rfl N.m_BadTable N.b_BadTable .nil fh (ac (eY) (ag)))))) (bD))
   (ax (bY (dA (au (lT rfl) tU (by rfl) N.n_any PyProof.Rows.Boot.«any» (ac (bo rfl (CmpScope.ofB (Nc := ["counts", "count"]) (vars := ["counts", "count"]) (caps := []) rfl (by decide +kernel) (by rfl) (by rfl) (by rfl)) (bn (ae 0 (pv 0))) (fun cl C fp s H => ⟨(pgN 0 (show (["counts", "count"] : List Str).Nodup by decide +kernel)), aV, fun D => uL rfl rfl rfl (bn (ae 0 (pv 0))) (pgN 1 (show (["counts", "count"] : List Str).Nodup by decide +kernel)) (aV) (aM rfl (gu tQ wF (ae 1 (pv 1)) (aI)) rfl)⟩) aE aL (fun D => uZ aE aL (aY))) (ag)))) (aC (fZ N.xm_BadTable.xc (ah aN0) (by decide) (eJ hr.hd (hZ N.xm_BadTable X_BadTable (hr.mono (by decide)) rfl N.m_BadTable N.b_BadTable .nil fh (ac (eY) (ag)))))) (bD))
   (aC (bY (dB tR wH (au (bp rfl) cB (by rfl) N.n_sum PyProof.Rows.Boot.«sum» (ac (bo rfl (CmpScope.ofB (Nc := ["counts"]) (vars := ["counts"]) (caps := []) rfl (by decide +kernel) (by rfl) (by rfl) (by rfl)) (bn (ae 0 (pv 0))) (fun cl C fp s H => ⟨(pgN 0 (show (["counts"] : List Str).Nodup by decide +kernel)), aV, fun D => aM rfl (au (bp rfl) cB (by rfl) N.n_sum PyProof.Rows.Boot.«sum» (ac (ae 0 (pv 0)) (ag))) rfl⟩) aE aL (fun D => aY)) (ag))) (fW N.g_MOST)) (aC (fZ N.xm_BadTable.xc (ah aN0) (by decide) (eJ hr.hd (hZ N.xm_BadTable X_BadTable (hr.mono (by decide)) rfl N.m_BadTable N.b_BadTable .nil fh (ac (mC (c := ((Str.ofString "a table has at most ").length + (1921 + ((Str.ofString " things").length + 0)))) (iH (kd (fW N.g_MOST) (iH (pJ)))) (by decide +kernel)) (ag)))))) (bD)))))))
theorem kK : FnScope ["rows"] ["rows"] (ak gP) := fsc
noncomputable def gU (K : Frag) (a : Ad) : G :=
  aK (aJ 1 [0] (bM fJ (aa (aj bf (aa (f2 ixD (ad 0) (fC (.int 0))) (af))) (af))) (tgC 0) (fun _ => M.ret true) (cEm (aJ 1 [0] (aF (ad 1)) (tgC 0) (fun _ => M.ret true) (cEm (f2 ixD (ad 0) (ad 1))))))
noncomputable def m_rows_turned (K : Frag) (a : Ad) : List D -> M D := aN 1 (gU K a)
theorem gc (N : Fns K mg a) : FnOk P w K mg base (CXE P w) 2 a.f_rows_turned a.d_rows_turned ["rows"] (spF K 1 (m_rows_turned K a)) := by
 unfold m_rows_turned
 exact cF (k := 1) 1 1 (gU K a) N.F_rows_turned kK rfl rfl fun cdv A outer s H E hr => aC (aU (aB (bo rfl (CmpScope.ofB (Nc := ["column", "rows"]) (vars := ["column"]) (caps := [0]) rfl (by decide +kernel) (by rfl) (by rfl) (by rfl)) (eN (by rfl) N.n_range (ac (au aO c9 (by rfl) N.n_len PySem.boot_len (ac (cz bc cD (ae 0 (pv 0)) (aI)) (ag))) (ag))) (fun cl C fp s H => ⟨(pgN 0 (show (["column", "rows"] : List Str).Nodup by decide +kernel)), aV, fun D => aM rfl (bo rfl (CmpScope.ofB (Nc := ["cells", "column"]) (vars := ["cells"]) (caps := [0]) rfl (by decide +kernel) (by rfl) (by rfl) (by rfl)) (bn (ae 1 (pv 1))) (fun cl C fp s H => ⟨(pgN 0 (show (["cells", "column"] : List Str).Nodup by decide +kernel)), aV, fun D => aM rfl (cz bc cD (ae 0 (pv 0)) (ae 1 (pv 1))) rfl⟩) aE aL (fun D => aY)) rfl⟩) aE aL (fun D => aY))))
theorem qj : FnScope ["_law_found", "_law_due_here"] ["_law_found", "_law_due_here"] (ak mT) := fsc
noncomputable def jp (K : Frag) (a : Ad) (rec : List D -> M D) : G :=
  ao (gIf (bF (aj da (aa (ad 1) (aa (aj c5 (aa (fC (.ty "list")) (aa (fC (.ty "tuple")) (af)))) (af))))) (ao (gIf (cG (fB (f2 (cn) (aj bx (aa (ad 1) (aa (fC (.ty "list")) (af)))) (aj bx (aa (ad 0) (aa (fC (.ty "list")) (af)))))) (fB (f2 (cn) (aj bx (aa (ad 1) (aa (fC (.ty "tuple")) (af)))) (aj bx (aa (ad 0) (aa (fC (.ty "tuple")) (af))))))) (aK (fC (.bl false))) (gNil))
  (ao (gIf (fB (f2 (cn) (aj bf (aa (ad 0) (af))) (aj bf (aa (ad 1) (af))))) (aK (fC (.bl false))) (gNil))
  (aK (f2 (inD true) (fC (.bl false)) (aJ 2 [] (gA (aa (ad 0) (aa (ad 1) (af)))) (tgT (fF (tgC 0) (fF (tgC 1) je))) (fun _ => M.ret true) (cEm (aA rec (aa (ad 0) (aa (ad 1) (af)))))))))) (gNil))
  (ao (gIf (fB (f2 (d8) (ad 1) (fC .non))) (aK (f2 (d8) (ad 0) (fC .non))) (gNil))
  (ao (gIf (cG (fB (f2 (cn) (aj bx (aa (ad 1) (aa (fC (.ty "str")) (af)))) (aj bx (aa (ad 0) (aa (fC (.ty "str")) (af)))))) (fB (f2 (cn) (aj bx (aa (ad 1) (aa (fC (.ty "bool")) (af)))) (aj bx (aa (ad 0) (aa (fC (.ty "bool")) (af))))))) (aK (fC (.bl false))) (gNil))
  (aK (dj (aj da (aa (ad 0) (aa (aj c5 (aa (fC (.ty "int")) (aa (fC (.ty "str")) (af)))) (af)))) (f2 (fN) (ad 0) (ad 1))))))
noncomputable def m_l_same (K : Frag) (a : Ad) : Nat -> List D -> M D
 | 0 => fun _ => M.fail
 | n + 1 => aN 2 (jp K a (m_l_same K a n))
theorem jY (N : Fns K mg a) : ∀ n, FnOk P w K mg base (CXE P w) (n + 1) a.f_l_same a.d_l_same ["_law_found", "_law_due_here"] (spF K 2 (m_l_same K a n))
 | 0 => ⟨fun vs H Q E h => h.1, fun A outer s H args us vs Q E hr e0 hb r h => by
   obtain ⟨_, F, ds, β, _, _, rr, β1, e, _⟩ := h
   cases e⟩
 | n + 1 => by
  have GREC := jY N n
  unfold m_l_same
  exact cF (k := n + 1) 2 2 (jp K a (m_l_same K a n)) N.F_l_same qj rfl rfl fun cdv A outer s H E hr => ax (bY (dA (au kz qM (by rfl) N.n_isinstance PyProof.Rows.Boot.«isinstance» (ac (ae 1 (pv 1)) (ac (tq (ac (v_c (bI (v := .ty "list") (by rfl) N.n_list PyProof.Rows.Boot.«list» rfl) (fun _ _ => rfl)) (ac (v_c (bI (v := .ty "tuple") (by rfl) N.n_tuple PyProof.Rows.Boot.«tuple» rfl) (fun _ _ => rfl)) (ag)))) (ag))))) (ax (bY (g6 (mz (dB (gb hr) iG (au bV fm (by rfl) N.n_isinstance PyProof.Rows.Boot.«isinstance» (ac (ae 1 (pv 1)) (ac (v_c (bI (v := .ty "list") (by rfl) N.n_list PyProof.Rows.Boot.«list» rfl) (fun _ _ => rfl)) (ag)))) (au bV fm (by rfl) N.n_isinstance PyProof.Rows.Boot.«isinstance» (ac (ae 0 (pv 0)) (ac (v_c (bI (v := .ty "list") (by rfl) N.n_list PyProof.Rows.Boot.«list» rfl) (fun _ _ => rfl)) (ag))))) (jy (dB (gb hr) iG (au bV fm (by rfl) N.n_isinstance PyProof.Rows.Boot.«isinstance» (ac (ae 1 (pv 1)) (ac (v_c (bI (v := .ty "tuple") (by rfl) N.n_tuple PyProof.Rows.Boot.«tuple» rfl) (fun _ _ => rfl)) (ag)))) (au bV fm (by rfl) N.n_isinstance PyProof.Rows.Boot.«isinstance» (ac (ae 0 (pv 0)) (ac (v_c (bI (v := .ty "tuple") (by rfl) N.n_tuple PyProof.Rows.Boot.«tuple» rfl) (fun _ _ => rfl)) (ag)))))))) (aC (aU (aB (dI)))) (bD))
   (ax (bY (dB (gb hr) iG (au aO c9 (by rfl) N.n_len PySem.boot_len (ac (ae 0 (pv 0)) (ag))) (au aO c9 (by rfl) N.n_len PySem.boot_len (ac (ae 1 (pv 1)) (ag)))) (aC (aU (aB (dI)))) (bD))
   (aC (aU (aB (gu m4 (l_in (neg := true)) (dI) (bo rfl (CmpScope.ofB (Nc := ["_law_one", "_law_other"]) (vars := ["_law_one", "_law_other"]) (caps := []) rfl (by decide +kernel) (by rfl) (by rfl) (by rfl)) (yk (by rfl) N.n_zip (ac (ae 0 (pv 0)) (ac (ae 1 (pv 1)) (ag)))) (fun cl C fp s H => ⟨(v7 rfl (m3 (pgN 0 (show (["_law_one", "_law_other"] : List Str).Nodup by decide +kernel)) (m3 (pgN 1 (show (["_law_one", "_law_other"] : List Str).Nodup by decide +kernel)) uH))), aV, fun D => aM rfl (aG GREC (hr.mono (Nat.le_refl _)) (by rfl) N.m_l_same N.F_l_same.kp N.b_l_same fh (ac (ae 0 (pv 0)) (ac (ae 1 (pv 1)) (ag))) (ah (ah aN0))) rfl⟩) (wB (nh aE (nh aE uX)) (mH (mH rH))) (vJ (mQ aL (mQ aL uu))) (fun D => aY)))))))) (bD))
   (ax (bY (dB qx tT (ae 1 (pv 1)) (tu)) (aC (aU (aB (gu qx tT (ae 0 (pv 0)) (tu))))) (bD))
   (ax (bY (g6 (mz (dB (gb hr) iG (au bV fm (by rfl) N.n_isinstance PyProof.Rows.Boot.«isinstance» (ac (ae 1 (pv 1)) (ac (v_c (bI (v := .ty "str") (by rfl) N.n_str PyProof.Rows.Boot.«str» rfl) (fun _ _ => rfl)) (ag)))) (au bV fm (by rfl) N.n_isinstance PyProof.Rows.Boot.«isinstance» (ac (ae 0 (pv 0)) (ac (v_c (bI (v := .ty "str") (by rfl) N.n_str PyProof.Rows.Boot.«str» rfl) (fun _ _ => rfl)) (ag))))) (jy (dB (gb hr) iG (au bV fm (by rfl) N.n_isinstance PyProof.Rows.Boot.«isinstance» (ac (ae 1 (pv 1)) (ac (v_c (bI (v := .ty "bool") (by rfl) N.n_bool PyProof.Rows.Boot.«bool» rfl) (fun _ _ => rfl)) (ag)))) (au bV fm (by rfl) N.n_isinstance PyProof.Rows.Boot.«isinstance» (ac (ae 0 (pv 0)) (ac (v_c (bI (v := .ty "bool") (by rfl) N.n_bool PyProof.Rows.Boot.«bool» rfl) (fun _ _ => rfl)) (ag)))))))) (aC (aU (aB (dI)))) (bD))
   (aC (aU (aB (o5 (au kz qM (by rfl) N.n_isinstance PyProof.Rows.Boot.«isinstance» (ac (ae 0 (pv 0)) (ac (tq (ac (v_c (bI (v := .ty "int") (by rfl) N.n_int PyProof.Rows.Boot.«int» rfl) (fun _ _ => rfl)) (ac (v_c (bI (v := .ty "str") (by rfl) N.n_str PyProof.Rows.Boot.«str» rfl) (fun _ _ => rfl)) (ag)))) (ag)))) (oZ (gu (m5 hr) pG (ae 0 (pv 0)) (ae 1 (pv 1))))))))))
theorem lE (N : Fns K mg a) : FnOk P w K mg base (CXE P w) 7 a.f_l_same a.d_l_same ["_law_found", "_law_due_here"] (spF K 2 (m_l_same K a 5)) := (jY P w base N 5).mono (by decide)
theorem nS : FnScope ["_law_block"] ["_law_block"] (ak jM) := fsc
noncomputable def kn (K : Frag) (a : Ad) : G :=
  aK (aJ 1 [0] (bM fJ (aa (aj bf (aa (f2 ixD (ad 0) (fC (.int 0))) (af))) (af))) (tgC 0) (fun _ => M.ret true) (cEm (aJ 1 [0] (aF (ad 1)) (tgC 0) (fun _ => M.ret true) (cEm (f2 ixD (ad 0) (ad 1))))))
noncomputable def m_l_turned (K : Frag) (a : Ad) : List D -> M D := aN 1 (kn K a)
theorem nT (N : Fns K mg a) : FnOk P w K mg base (CXE P w) 2 a.f_l_turned a.d_l_turned ["_law_block"] (spF K 1 (m_l_turned K a)) := by
 unfold m_l_turned
 exact cF (k := 1) 1 1 (kn K a) N.F_l_turned nS rfl rfl fun cdv A outer s H E hr => aC (aU (aB (bo rfl (CmpScope.ofB (Nc := ["_law_to", "_law_block"]) (vars := ["_law_to"]) (caps := [0]) rfl (by decide +kernel) (by rfl) (by rfl) (by rfl)) (eN (by rfl) N.n_range (ac (au aO c9 (by rfl) N.n_len PySem.boot_len (ac (cz bc cD (ae 0 (pv 0)) (aI)) (ag))) (ag))) (fun cl C fp s H => ⟨(pgN 0 (show (["_law_to", "_law_block"] : List Str).Nodup by decide +kernel)), aV, fun D => aM rfl (bo rfl (CmpScope.ofB (Nc := ["_law_row", "_law_to"]) (vars := ["_law_row"]) (caps := [0]) rfl (by decide +kernel) (by rfl) (by rfl) (by rfl)) (bn (ae 1 (pv 1))) (fun cl C fp s H => ⟨(pgN 0 (show (["_law_row", "_law_to"] : List Str).Nodup by decide +kernel)), aV, fun D => aM rfl (cz bc cD (ae 0 (pv 0)) (ae 1 (pv 1))) rfl⟩) aE aL (fun D => aY)) rfl⟩) aE aL (fun D => aY))))
theorem mS : FnScope ["_law_grid"] ["_law_grid"] (ak i6) := fsc
noncomputable def jc (K : Frag) (a : Ad) : G :=
  aK (aJ 1 [] (aF (ad 0)) (tgC 0) (fun _ => M.ret true) (cEm (aj bw (aa (ad 0) (af)))))
noncomputable def m_l_rowsums (K : Frag) (a : Ad) : List D -> M D := aN 1 (jc K a)
theorem ia (N : Fns K mg a) : FnOk P w K mg base (CXE P w) 2 a.f_l_rowsums a.d_l_rowsums ["_law_grid"] (spF K 1 (m_l_rowsums K a)) := by
 unfold m_l_rowsums
 exact cF (k := 1) 1 1 (jc K a) N.F_l_rowsums mS rfl rfl fun cdv A outer s H E hr => aC (aU (aB (bo rfl (CmpScope.ofB (Nc := ["_law_row"]) (vars := ["_law_row"]) (caps := []) rfl (by decide +kernel) (by rfl) (by rfl) (by rfl)) (bn (ae 0 (pv 0))) (fun cl C fp s H => ⟨(pgN 0 (show (["_law_row"] : List Str).Nodup by decide +kernel)), aV, fun D => aM rfl (au (bp rfl) cB (by rfl) N.n_sum PyProof.Rows.Boot.«sum» (ac (ae 0 (pv 0)) (ag))) rfl⟩) aE aL (fun D => aY))))
theorem jJ : FnScope ["_law_grid"] ["_law_grid"] (ak f6) := fsc
noncomputable def gj (K : Frag) (a : Ad) : G :=
  aK (aJ 1 [] (aF (aA (m_l_turned K a) (aa (ad 0) (af)))) (tgC 0) (fun _ => M.ret true) (cEm (aj bw (aa (ad 0) (af)))))
noncomputable def m_l_columnsums (K : Frag) (a : Ad) : List D -> M D := aN 1 (gj K a)
theorem j0 (N : Fns K mg a) : FnOk P w K mg base (CXE P w) 3 a.f_l_columnsums a.d_l_columnsums ["_law_grid"] (spF K 1 (m_l_columnsums K a)) := by
 have G_l_turned := nT P w base N
 unfold m_l_columnsums
 exact cF (k := 2) 1 1 (gj K a) N.F_l_columnsums jJ rfl rfl fun cdv A outer s H E hr => aC (aU (aB (bo rfl (CmpScope.ofB (Nc := ["_law_column"]) (vars := ["_law_column"]) (caps := []) rfl (by decide +kernel) (by rfl) (by rfl) (by rfl)) (bn (aG G_l_turned (hr.mono (by decide)) (by rfl) N.m_l_turned N.F_l_turned.kp N.b_l_turned aw (ac (ae 0 (pv 0)) (ag)) (ah aN0))) (fun cl C fp s H => ⟨(pgN 0 (show (["_law_column"] : List Str).Nodup by decide +kernel)), aV, fun D => aM rfl (au (bp rfl) cB (by rfl) N.n_sum PyProof.Rows.Boot.«sum» (ac (ae 0 (pv 0)) (ag))) rfl⟩) aE aL (fun D => aY))))
theorem i5 : FnScope ["_law_block"] ["_law_block"] (ak jN) := fsc
noncomputable def kq (K : Frag) (a : Ad) : G :=
  aK (aJ 1 [] (aF (ad 0)) (tgC 0) (fun _ => M.ret true) (cEm (aj j9 (aa (ad 0) (af)))))
noncomputable def m_l_copied (K : Frag) (a : Ad) : List D -> M D := aN 1 (kq K a)
theorem nU (N : Fns K mg a) : FnOk P w K mg base (CXE P w) 2 a.f_l_copied a.d_l_copied ["_law_block"] (spF K 1 (m_l_copied K a)) := by
 unfold m_l_copied
 exact cF (k := 1) 1 1 (kq K a) N.F_l_copied i5 rfl rfl fun cdv A outer s H E hr => aC (aU (aB (bo rfl (CmpScope.ofB (Nc := ["_law_row"]) (vars := ["_law_row"]) (caps := []) rfl (by decide +kernel) (by rfl) (by rfl) (by rfl)) (bn (ae 0 (pv 0))) (fun cl C fp s H => ⟨(pgN 0 (show (["_law_row"] : List Str).Nodup by decide +kernel)), aV, fun D => aM rfl (gv cI qL (by rfl) N.n_list PyProof.Rows.Boot.«list» (ac (ae 0 (pv 0)) (ag))) rfl⟩) aE aL (fun D => aY))))
noncomputable def i9 (K : Frag) (a : Ad) : G :=
  gm (cj 1 [] (aF (ad 0)) (tgC 0) (fun _ => M.ret true) (fQ (fi ei (aa (ad 0) (af)))))
noncomputable def cX (K : Frag) (a : Ad) : List D -> M (List (List D)) := gN 1 (i9 K a)
theorem m8 (N : Fns K mg a) : FnOk P w K mg base (CXE P w) 2 a.f_l_copied a.d_l_copied ["_law_block"] (spG K 1 (cX K a)) := by
 unfold cX
 exact oJ (k := 1) 1 1 (i9 K a) N.F_l_copied i5 rfl rfl fun cdv A outer s H E hr => aC (oh (aB (nu rfl (CmpScope.ofB (Nc := ["_law_row"]) (vars := ["_law_row"]) (caps := []) rfl (by decide +kernel) (by rfl) (by rfl) (by rfl)) (bn (ae 0 (pv 0))) (fun cl C fp s H => ⟨(pgN 0 (show (["_law_row"] : List Str).Nodup by decide +kernel)), aV, fun D => aM rfl (jm cI kU (by rfl) N.n_list PyProof.Rows.Boot.«list» (ac (ae 0 (pv 0)) (ag))) rfl⟩) aE aL (fun D => iF))))
theorem bX : FnScope ["_law_bag_here", "_law_block", "_law_columns", "_law_left", "_law_utmost", "_law_grid", "_law_at", "_law_to"] ["_law_bag_here"] (ak om) := fsc
noncomputable def kZ (K : Frag) (a : Ad) : G :=
  ao (cq 1 (f2 iu (fC (.int 1)) (aA cM (aa (ad 0) (aa (fC (.int 4)) (af))))))
  (ao (cq 2 (f2 iu (fC (.int 1)) (aA cM (aa (ad 0) (aa (fC (.int 6)) (af))))))
  (ao (cq 3 (aA cM (aa (ad 0) (aa (fC (.int 41)) (af)))))
  (ao (cq 4 (f2 ixD (aj ef (aa (fC (.int 12)) (aa (fC (.int 12)) (aa (fC (.int 12)) (aa (fC (.int 12)) (aa (fC (.int 12)) (aa (fC (.int 40)) (af)))))))) (aA cM (aa (ad 0) (aa (fC (.int 6)) (af))))))
  (ao (gG 5 (cj 1 [2] (bM fJ (aa (ad 1) (af))) (tgC 0) (fun _ => M.ret true) (fQ (pz (aa (fC (.int 0)) (af)) (ad 1)))))
  (ao (jq (bM fJ (aa (ad 1) (af))) (sgN 6) (jq (bM fJ (aa (ad 2) (af))) (sgN 7) (ao (em 5 (ad 6) (ad 7) (aA cM (aa (ad 0) (aa (f2 iu (aj ng (aa (ad 3) (aa (ad 4) (af)))) (fC (.int 1))) (af)))))
  (db 3 (f2 pb (ad 3) (f2 ixD (f2 ixD (ad 5) (ad 6)) (ad 7)))))))
  (aK (ad 5)))))))
noncomputable def m_l_any (K : Frag) (a : Ad) : List D -> M D := aN 8 (kZ K a)
theorem si (N : Fns K mg a) : FnOk P w K mg base (CXE P w) 3 a.f_l_any a.d_l_any ["_law_bag_here"] (spF K 1 (m_l_any K a)) := by
 have G_l_pull := lF P w base N
 unfold m_l_any
 exact cF (k := 2) 1 8 (kZ K a) N.F_l_any bX rfl rfl fun cdv A outer s H E hr => ax (e8 (psS 1 bX.nd (d9 d4 kc (aI) (aG G_l_pull (hr.mono (by decide)) (by rfl) N.m_l_pull N.F_l_pull.kp N.b_l_pull aw (ac (ae 0 (pv 0)) (ac (aI) (ag))) (ah (ah aN0))))))
   (ax (e8 (psS 2 bX.nd (d9 d4 kc (aI) (aG G_l_pull (hr.mono (by decide)) (by rfl) N.m_l_pull N.F_l_pull.kp N.b_l_pull aw (ac (ae 0 (pv 0)) (ac (aI) (ag))) (ah (ah aN0))))))
   (ax (e8 (psS 3 bX.nd (aG G_l_pull (hr.mono (by decide)) (by rfl) N.m_l_pull N.F_l_pull.kp N.b_l_pull aw (ac (ae 0 (pv 0)) (ac (aI) (ag))) (ah (ah aN0)))))
   (ax (e8 (psS 4 bX.nd (cz bc cD (xS (ac (aI) (ac (aI) (ac (aI) (ac (aI) (ac (aI) (ac (aI) (ag)))))))) (aG G_l_pull (hr.mono (by decide)) (by rfl) N.m_l_pull N.F_l_pull.kp N.b_l_pull aw (ac (ae 0 (pv 0)) (ac (aI) (ag))) (ah (ah aN0))))))
   (ax (vN (i := 5) bX.nd rfl (by first | exact Or.inl rfl | exact Or.inr rfl) rfl (CmpScope.ofB (Nc := ["_law_at", "_law_columns"]) (vars := ["_law_at"]) (caps := [2]) rfl (by decide +kernel) (by rfl) (by rfl) (by rfl)) (eN (by rfl) N.n_range (ac (ae 1 (pv 1)) (ag))) (fun cl C fp s H => ⟨(pgN 0 (show (["_law_at", "_law_columns"] : List Str).Nodup by decide +kernel)), aV, fun D => aM rfl (ye (ac (aI) (ag)) (ae 1 (pv 1))) rfl⟩) aE aL (fun D => iF))
   (ax (pe kT (mY sd rfl (eN (by rfl) N.n_range (ac (ae 1 (pv 1)) (ag))) (pgN 6 bX.nd) (aC (pe kT (mY sd rfl (eN (by rfl) N.n_range (ac (ae 2 (pv 2)) (ag))) (pgN 7 bX.nd) (ax (hG (dY (aG G_l_pull (hr.mono (by decide)) (by rfl) N.m_l_pull N.F_l_pull.kp N.b_l_pull aw (ac (ae 0 (pv 0)) (ac (d9 d4 kc (au (rp rfl) yi (by rfl) N.n_min PyProof.Rows.Boot.«min» (ac (ae 3 (pv 3)) (ac (ae 4 (pv 4)) (ag)))) (aI)) (ag))) (ah (ah aN0))) (dZ (cZ bJ (pv 5) (ae 6 (pv 6)) (fun _ _ => rfl)) (ae 7 (pv 7)) cA)))
   (aC (qk (psS 3 bX.nd (d9 qw tS (ae 3 (pv 3)) (cz bc cD (cz bc cD (ae 5 (pv 5)) (ae 6 (pv 6))) (ae 7 (pv 7)))))))))))))
   (aC (aU (aB (ae 5 (pv 5))))))))))
theorem iY : FnScope ["self"] ["self"] (ak eF) := fsc
noncomputable def eQ (K : Frag) (a : Ad) : G :=
  aK (f1 (sM (Str.ofString "Table(") (Str.ofString ")")) (f1 (di a.C_Table "counts") (ad 0)))
noncomputable def cc (K : Frag) (a : Ad) : List D -> M D := aN 1 (eQ K a)
theorem i3 (N : Fns K mg a) : FnOk P w K mg base (CXE P w) 2 a.f_Table___repr__ a.d_Table___repr__ ["self"] (spF K 1 (cc K a)) := by
 unfold cc
 exact cF (k := 1) 1 1 (eQ K a) N.F_Table___repr__ iY rfl rfl fun cdv A outer s H E hr => aC (aU (aB (xT hr (dz N.cl_Table N.na_Table_counts (ae 0 (pv 0))) (by decide))))
theorem dH : FnScope ["self"] ["self"] (ak dW) := fsc
noncomputable def d5 (K : Frag) (a : Ad) : G :=
  aK (aJ 1 [] (aF (aA (m_rows_turned K a) (aa (f1 (di a.C_Table "counts") (ad 0)) (af)))) (tgC 0) (fun _ => M.ret true) (cEm (aj bw (aa (ad 0) (af)))))
noncomputable def bO (K : Frag) (a : Ad) : List D -> M D := aN 1 (d5 K a)
theorem gY (N : Fns K mg a) : FnOk P w K mg base (CXE P w) 3 a.f_Table_columnsums a.d_Table_columnsums ["self"] (spF K 1 (bO K a)) := by
 have G_rows_turned := gc P w base N
 unfold bO
 exact cF (k := 2) 1 1 (d5 K a) N.F_Table_columnsums dH rfl rfl fun cdv A outer s H E hr => aC (aU (aB (bo rfl (CmpScope.ofB (Nc := ["counts"]) (vars := ["counts"]) (caps := []) rfl (by decide +kernel) (by rfl) (by rfl) (by rfl)) (bn (aG G_rows_turned (hr.mono (by decide)) (by rfl) N.m_rows_turned N.F_rows_turned.kp N.b_rows_turned aw (ac (dz N.cl_Table N.na_Table_counts (ae 0 (pv 0))) (ag)) (ah aN0))) (fun cl C fp s H => ⟨(pgN 0 (show (["counts"] : List Str).Nodup by decide +kernel)), aV, fun D => aM rfl (au (bp rfl) cB (by rfl) N.n_sum PyProof.Rows.Boot.«sum» (ac (ae 0 (pv 0)) (ag))) rfl⟩) aE aL (fun D => aY))))
noncomputable def bi (K : Frag) (a : Ad) : List D -> M (List D) := kA 1 (d6 1 [] (aF (aA (m_rows_turned K a) (aa (f1 (di a.C_Table "counts") (ad 0)) (af)))) (tgC 0) (fun _ => M.ret true) (cEm (aj bw (aa (ad 0) (af)))))
theorem gz (N : Fns K mg a) : FnOk P w K mg base (CXE P w) 3 a.f_Table_columnsums a.d_Table_columnsums ["self"] (spO K 1 (bi K a)) := by
 have G_rows_turned := gc P w base N
 unfold bi
 exact qV (k := 2) 1 1 _ N.F_Table_columnsums dH rfl rfl fun cdv A outer s H E hr => dn (aB (qC rfl (CmpScope.ofB (Nc := ["counts"]) (vars := ["counts"]) (caps := []) rfl (by decide +kernel) (by rfl) (by rfl) (by rfl)) (bn (aG G_rows_turned (hr.mono (by decide)) (by rfl) N.m_rows_turned N.F_rows_turned.kp N.b_rows_turned aw (ac (dz N.cl_Table N.na_Table_counts (ae 0 (pv 0))) (ag)) (ah aN0))) (fun cl C fp s H => ⟨(pgN 0 (show (["counts"] : List Str).Nodup by decide +kernel)), aV, fun D => aM rfl (au (bp rfl) cB (by rfl) N.n_sum PyProof.Rows.Boot.«sum» (ac (ae 0 (pv 0)) (ag))) rfl⟩) aE aL (fun D => aY)))
theorem jh : FnScope ["self"] ["self"] (ak fc) := fsc
noncomputable def ft (K : Frag) (a : Ad) : G :=
  aK (fA (fC (.str (Str.ofString " / "))) (aa (aJ 1 [] (aF (f1 (di a.C_Table "counts") (ad 0))) (tgC 0) (fun _ => M.ret true) (cEm (fA (fC (.str (Str.ofString " "))) (aa (aJ 1 [] (aF (ad 0)) (tgC 0) (fun _ => M.ret true) (cEm (aj iA (aa (ad 0) (af))))) (af))))) (af)))
noncomputable def cu (K : Frag) (a : Ad) : List D -> M D := aN 1 (ft K a)
theorem jk (N : Fns K mg a) : FnOk P w K mg base (CXE P w) 2 a.f_Table___str__ a.d_Table___str__ ["self"] (spF K 1 (cu K a)) := by
 unfold cu
 exact cF (k := 1) 1 1 (ft K a) N.F_Table___str__ jh rfl rfl fun cdv A outer s H E hr => aC (aU (aB (jB (eY) (ac (bo rfl (CmpScope.ofB (Nc := ["counts"]) (vars := ["counts"]) (caps := []) rfl (by decide +kernel) (by rfl) (by rfl) (by rfl)) (bn (dz N.cl_Table N.na_Table_counts (ae 0 (pv 0)))) (fun cl C fp s H => ⟨(pgN 0 (show (["counts"] : List Str).Nodup by decide +kernel)), aV, fun D => aM rfl (jB (eY) (ac (bo rfl (CmpScope.ofB (Nc := ["count"]) (vars := ["count"]) (caps := []) rfl (by decide +kernel) (by rfl) (by rfl) (by rfl)) (bn (ae 0 (pv 0))) (fun cl C fp s H => ⟨(pgN 0 (show (["count"] : List Str).Nodup by decide +kernel)), aV, fun D => aM rfl (gv iq qJ (by rfl) N.n_str PyProof.Rows.Boot.«str» (ac (ae 0 (pv 0)) (ag))) rfl⟩) aE aL (fun D => aY)) (ag))) rfl⟩) aE aL (fun D => aY)) (ag)))))
theorem fY : FnScope ["self"] ["self"] (ak gR) := fsc
noncomputable def gX (K : Frag) (a : Ad) : G :=
  aK (aJ 1 [] (aF (f1 (di a.C_Table "counts") (ad 0))) (tgC 0) (fun _ => M.ret true) (cEm (aj j9 (aa (ad 0) (af)))))
noncomputable def c7 (K : Frag) (a : Ad) : List D -> M D := aN 1 (gX K a)
theorem kR (N : Fns K mg a) : FnOk P w K mg base (CXE P w) 2 a.f_Table_cells a.d_Table_cells ["self"] (spF K 1 (c7 K a)) := by
 unfold c7
 exact cF (k := 1) 1 1 (gX K a) N.F_Table_cells fY rfl rfl fun cdv A outer s H E hr => aC (aU (aB (bo rfl (CmpScope.ofB (Nc := ["counts"]) (vars := ["counts"]) (caps := []) rfl (by decide +kernel) (by rfl) (by rfl) (by rfl)) (bn (dz N.cl_Table N.na_Table_counts (ae 0 (pv 0)))) (fun cl C fp s H => ⟨(pgN 0 (show (["counts"] : List Str).Nodup by decide +kernel)), aV, fun D => aM rfl (gv cI qL (by rfl) N.n_list PyProof.Rows.Boot.«list» (ac (ae 0 (pv 0)) (ag))) rfl⟩) aE aL (fun D => aY))))
noncomputable def gi (K : Frag) (a : Ad) : G :=
  gm (cj 1 [] (aF (f1 (di a.C_Table "counts") (ad 0))) (tgC 0) (fun _ => M.ret true) (fQ (fi ei (aa (ad 0) (af)))))
noncomputable def cL (K : Frag) (a : Ad) : List D -> M (List (List D)) := gN 1 (gi K a)
theorem jZ (N : Fns K mg a) : FnOk P w K mg base (CXE P w) 2 a.f_Table_cells a.d_Table_cells ["self"] (spG K 1 (cL K a)) := by
 unfold cL
 exact oJ (k := 1) 1 1 (gi K a) N.F_Table_cells fY rfl rfl fun cdv A outer s H E hr => aC (oh (aB (nu rfl (CmpScope.ofB (Nc := ["counts"]) (vars := ["counts"]) (caps := []) rfl (by decide +kernel) (by rfl) (by rfl) (by rfl)) (bn (dz N.cl_Table N.na_Table_counts (ae 0 (pv 0)))) (fun cl C fp s H => ⟨(pgN 0 (show (["counts"] : List Str).Nodup by decide +kernel)), aV, fun D => aM rfl (jm cI kU (by rfl) N.n_list PyProof.Rows.Boot.«list» (ac (ae 0 (pv 0)) (ag))) rfl⟩) aE aL (fun D => iF))))
theorem eE : FnScope ["self"] ["self"] (ak e9) := fsc
noncomputable def fq (K : Frag) (a : Ad) : G :=
  aK (aJ 1 [] (aF (f1 (di a.C_Table "counts") (ad 0))) (tgC 0) (fun _ => M.ret true) (cEm (aj bw (aa (ad 0) (af)))))
noncomputable def bN (K : Frag) (a : Ad) : List D -> M D := aN 1 (fq K a)
theorem eL (N : Fns K mg a) : FnOk P w K mg base (CXE P w) 2 a.f_Table_rowsums a.d_Table_rowsums ["self"] (spF K 1 (bN K a)) := by
 unfold bN
 exact cF (k := 1) 1 1 (fq K a) N.F_Table_rowsums eE rfl rfl fun cdv A outer s H E hr => aC (aU (aB (bo rfl (CmpScope.ofB (Nc := ["counts"]) (vars := ["counts"]) (caps := []) rfl (by decide +kernel) (by rfl) (by rfl) (by rfl)) (bn (dz N.cl_Table N.na_Table_counts (ae 0 (pv 0)))) (fun cl C fp s H => ⟨(pgN 0 (show (["counts"] : List Str).Nodup by decide +kernel)), aV, fun D => aM rfl (au (bp rfl) cB (by rfl) N.n_sum PyProof.Rows.Boot.«sum» (ac (ae 0 (pv 0)) (ag))) rfl⟩) aE aL (fun D => aY))))
noncomputable def bz (K : Frag) (a : Ad) : List D -> M (List D) := kA 1 (d6 1 [] (aF (f1 (di a.C_Table "counts") (ad 0))) (tgC 0) (fun _ => M.ret true) (cEm (aj bw (aa (ad 0) (af)))))
theorem i0 (N : Fns K mg a) : FnOk P w K mg base (CXE P w) 2 a.f_Table_rowsums a.d_Table_rowsums ["self"] (spO K 1 (bz K a)) := by
 unfold bz
 exact qV (k := 1) 1 1 _ N.F_Table_rowsums eE rfl rfl fun cdv A outer s H E hr => dn (aB (qC rfl (CmpScope.ofB (Nc := ["counts"]) (vars := ["counts"]) (caps := []) rfl (by decide +kernel) (by rfl) (by rfl) (by rfl)) (bn (dz N.cl_Table N.na_Table_counts (ae 0 (pv 0)))) (fun cl C fp s H => ⟨(pgN 0 (show (["counts"] : List Str).Nodup by decide +kernel)), aV, fun D => aM rfl (au (bp rfl) cB (by rfl) N.n_sum PyProof.Rows.Boot.«sum» (ac (ae 0 (pv 0)) (ag))) rfl⟩) aE aL (fun D => aY)))
theorem kL : FnScope ["self"] ["self"] (ak gQ) := fsc
noncomputable def gW (K : Frag) (a : Ad) : G :=
  aK (aj bw (aa (en a.C_Table "rowsums" (bN K a) (ad 0) af []) (af)))
noncomputable def c6 (K : Frag) (a : Ad) : List D -> M D := aN 1 (gW K a)
theorem kQ (N : Fns K mg a) : FnOk P w K mg base (CXE P w) 3 a.f_Table_total a.d_Table_total ["self"] (spF K 1 (c6 K a)) := by
 have G_Table_rowsums := eL P w base N
 unfold c6
 exact cF (k := 2) 1 1 (gW K a) N.F_Table_total kL rfl rfl fun cdv A outer s H E hr => aC (aU (aB (au (bp rfl) cB (by rfl) N.n_sum PyProof.Rows.Boot.«sum» (ac (fV N.cl_Table N.mt_Table_rowsums G_Table_rowsums (hr.mono (by decide)) (cS.nil N.b_Table_rowsums) aw (ae 0 (pv 0)) rfl) (ag)))))
theorem ji : FnScope ["self"] ["self"] (ak fe) := fsc
noncomputable def fu (K : Frag) (a : Ad) : G :=
  aK (aj bf (aa (f1 (di a.C_Table "counts") (ad 0)) (af)))
noncomputable def cw (K : Frag) (a : Ad) : List D -> M D := aN 1 (fu K a)
theorem jl (N : Fns K mg a) : FnOk P w K mg base (CXE P w) 2 a.f_Table___len__ a.d_Table___len__ ["self"] (spF K 1 (cw K a)) := by
 unfold cw
 exact cF (k := 1) 1 1 (fu K a) N.F_Table___len__ ji rfl rfl fun cdv A outer s H E hr => aC (aU (aB (au aO c9 (by rfl) N.n_len PySem.boot_len (ac (dz N.cl_Table N.na_Table_counts (ae 0 (pv 0))) (ag)))))
theorem jg : FnScope ["_law_table", "_law_block", "_law_lines", "_law_row"] ["_law_table", "_law_block"] (ak oi) := fsc
noncomputable def kY (K : Frag) (a : Ad) : G :=
  ao (gIf (cG (bq (bF (aA (m_l_same K a 5) (aa (en a.C_Table "cells" (c7 K a) (ad 0) af []) (aa (ad 1) (af)))))) (bq (bF (aA (m_l_same K a 5) (aa (en a.C_Table "total" (c6 K a) (ad 0) af []) (aa (aj bw (aa (aA (m_l_rowsums K a) (aa (ad 1) (af))) (af))) (af))))))) (aK (fC (.bl false))) (gNil))
  (ao (gIf (cG (bq (bF (aA (m_l_same K a 5) (aa (en a.C_Table "rowsums" (bN K a) (ad 0) af []) (aa (aA (m_l_rowsums K a) (aa (ad 1) (af))) (af)))))) (bq (bF (aA (m_l_same K a 5) (aa (kx a.C_Table (cw K a) (ad 0)) (aa (aj bf (aa (ad 1) (af))) (af))))))) (aK (fC (.bl false))) (gNil))
  (ao (gIf (bq (bF (aA (m_l_same K a 5) (aa (en a.C_Table "columnsums" (bO K a) (ad 0) af []) (aa (aA (m_l_columnsums K a) (aa (ad 1) (af))) (af)))))) (aK (fC (.bl false))) (gNil))
  (ao (ny 2 (af))
  (ao (jq (aF (ad 1)) (sgN 3) (nB 2 (aa (fA (fC (.str (Str.ofString " "))) (aa (aJ 1 [] (aF (ad 3)) (tgC 0) (fun _ => M.ret true) (cEm (aj iA (aa (ad 0) (af))))) (af))) (af))))
  (ao (gIf (bq (bF (aA (m_l_same K a 5) (aa (gH a.C_Table (cu K a) (ad 0)) (aa (fA (fC (.str (Str.ofString " / "))) (aa (ad 2) (af))) (af)))))) (aK (fC (.bl false))) (gNil))
  (aK (aA (m_l_same K a 5) (aa (gH a.C_Table (cc K a) (ad 0)) (aa (f2 iW (f2 iW (fC (.str (Str.ofString "Table("))) (aj md (aa (ad 1) (af)))) (fC (.str (Str.ofString ")")))) (af))))))))))
noncomputable def m_l_due (K : Frag) (a : Ad) : List D -> M D := aN 4 (kY K a)
theorem se (N : Fns K mg a) : FnOk P w K mg base (CXE P w) 8 a.f_l_due a.d_l_due ["_law_table", "_law_block"] (spF K 2 (m_l_due K a)) := by
 have G_Table_cells := kR P w base N
 have G_l_same := lE P w base N
 have G_l_rowsums := ia P w base N
 have G_Table_total := kQ P w base N
 have G_Table_rowsums := eL P w base N
 have G_Table___len__ := jl P w base N
 have G_l_columnsums := j0 P w base N
 have G_Table_columnsums := gY P w base N
 have G_Table___str__ := jk P w base N
 have G_Table___repr__ := i3 P w base N
 unfold m_l_due
 exact cF (k := 7) 2 4 (kY K a) N.F_l_due jg rfl rfl fun cdv A outer s H E hr => ax (bY (g6 (mz (dR (dA (aG G_l_same (hr.mono (by decide)) (by rfl) N.m_l_same N.F_l_same.kp N.b_l_same aw (ac (fV N.cl_Table N.mt_Table_cells G_Table_cells (hr.mono (by decide)) (cS.nil N.b_Table_cells) aw (ae 0 (pv 0)) rfl) (ac (ae 1 (pv 1)) (ag))) (ah (ah aN0))))) (jy (dR (dA (aG G_l_same (hr.mono (by decide)) (by rfl) N.m_l_same N.F_l_same.kp N.b_l_same aw (ac (fV N.cl_Table N.mt_Table_total G_Table_total (hr.mono (by decide)) (cS.nil N.b_Table_total) aw (ae 0 (pv 0)) rfl) (ac (au (bp rfl) cB (by rfl) N.n_sum PyProof.Rows.Boot.«sum» (ac (aG G_l_rowsums (hr.mono (by decide)) (by rfl) N.m_l_rowsums N.F_l_rowsums.kp N.b_l_rowsums aw (ac (ae 1 (pv 1)) (ag)) (ah aN0)) (ag))) (ag))) (ah (ah aN0)))))))) (aC (aU (aB (dI)))) (bD))
   (ax (bY (g6 (mz (dR (dA (aG G_l_same (hr.mono (by decide)) (by rfl) N.m_l_same N.F_l_same.kp N.b_l_same aw (ac (fV N.cl_Table N.mt_Table_rowsums G_Table_rowsums (hr.mono (by decide)) (cS.nil N.b_Table_rowsums) aw (ae 0 (pv 0)) rfl) (ac (aG G_l_rowsums (hr.mono (by decide)) (by rfl) N.m_l_rowsums N.F_l_rowsums.kp N.b_l_rowsums aw (ac (ae 1 (pv 1)) (ag)) (ah aN0)) (ag))) (ah (ah aN0))))) (jy (dR (dA (aG G_l_same (hr.mono (by decide)) (by rfl) N.m_l_same N.F_l_same.kp N.b_l_same aw (ac (vx N.mt_Table___len__ G_Table___len__ (hr.mono (by decide)) N.b_Table___len__ aw (by rfl) N.n_len (ae 0 (pv 0))) (ac (au aO c9 (by rfl) N.n_len PySem.boot_len (ac (ae 1 (pv 1)) (ag))) (ag))) (ah (ah aN0)))))))) (aC (aU (aB (dI)))) (bD))
   (ax (bY (dR (dA (aG G_l_same (hr.mono (by decide)) (by rfl) N.m_l_same N.F_l_same.kp N.b_l_same aw (ac (fV N.cl_Table N.mt_Table_columnsums G_Table_columnsums (hr.mono (by decide)) (cS.nil N.b_Table_columnsums) aw (ae 0 (pv 0)) rfl) (ac (aG G_l_columnsums (hr.mono (by decide)) (by rfl) N.m_l_columnsums N.F_l_columnsums.kp N.b_l_columnsums aw (ac (ae 1 (pv 1)) (ag)) (ah aN0)) (ag))) (ah (ah aN0))))) (aC (aU (aB (dI)))) (bD))
   (ax (x4 (psS 2 jg.nd (f9 (ag))))
   (ax (pe kT (mY sd rfl (bn (ae 1 (pv 1))) (pgN 3 jg.nd) (aC (x5 (dN (me PySem.F.plainAttrs_list PySem.F.slot_list_append PySem.F.type_list_append ig (pv 2) (ac (jB (eY) (ac (bo rfl (CmpScope.ofB (Nc := ["_law_count"]) (vars := ["_law_count"]) (caps := []) rfl (by decide +kernel) (by rfl) (by rfl) (by rfl)) (bn (ae 3 (pv 3))) (fun cl C fp s H => ⟨(pgN 0 (show (["_law_count"] : List Str).Nodup by decide +kernel)), aV, fun D => aM rfl (gv iq qJ (by rfl) N.n_str PyProof.Rows.Boot.«str» (ac (ae 0 (pv 0)) (ag))) rfl⟩) aE aL (fun D => aY)) (ag))) (ag))))))))
   (ax (bY (dR (dA (aG G_l_same (hr.mono (by decide)) (by rfl) N.m_l_same N.F_l_same.kp N.b_l_same aw (ac (vv N.mt_Table___str__ G_Table___str__ (hr.mono (by decide)) N.b_Table___str__ aw (by rfl) N.n_str (ae 0 (pv 0))) (ac (jB (eY) (ac (ae 2 (pv 2)) (ag))) (ag))) (ah (ah aN0))))) (aC (aU (aB (dI)))) (bD))
   (aC (aU (aB (aG G_l_same (hr.mono (by decide)) (by rfl) N.m_l_same N.F_l_same.kp N.b_l_same aw (ac (uk N.mt_Table___repr__ G_Table___repr__ (hr.mono (by decide)) N.b_Table___repr__ aw (by rfl) N.n_repr (ae 0 (pv 0))) (ac (d9 jW qN (d9 jW qN (eY) (au (pX hr) wE (by rfl) N.n_repr PyProof.Rows.Boot.«repr» (ac (ae 1 (pv 1)) (ag)))) (eY)) (ag))) (ah (ah aN0)))))))))))
theorem iZ : FnScope ["self", "rows"] ["self", "rows"] (ak eG) := fsc
noncomputable def jo (K : Frag) (a : Ad) : IP :=
  gC (dD (aA (m_check_rows K a) (aa (ad 1) (af))))
  (kh (fGN (cj 1 [] (aF (ad 1)) (tgC 0) (fun _ => M.ret true) (fQ (fi ei (aa (ad 0) (af))))))
  (t5))
noncomputable def cb (K : Frag) (a : Ad) : List D -> M (List D) := iJ 2 (jo K a)
theorem qy (N : Fns K mg a) : FnOk P w K mg base (CXE P w) 5 a.f_Table___init__ a.d_Table___init__ ["self", "rows"] (pc K a.C_Table ["counts"] 1 (cb K a)) := by
 have G_check_rows := l4 P w base N
 unfold cb
 exact sN (k := 4) 1 2 (jo K a) N.F_Table___init__ iZ rfl rfl fun cdv A outer s H E hr => wQ (vO (dN (aG G_check_rows (hr.mono (by decide)) (by rfl) N.m_check_rows N.F_check_rows.kp N.b_check_rows aw (ac (ae 1 (pv 1)) (ag)) (ah aN0))))
   (wR N.cl_Table N.na_Table_counts (by decide) (by decide) (vY (pv 0) (wx (nu rfl (CmpScope.ofB (Nc := ["counts"]) (vars := ["counts"]) (caps := []) rfl (by decide +kernel) (by rfl) (by rfl) (by rfl)) (bn (ae 1 (pv 1))) (fun cl C fp s H => ⟨(pgN 0 (show (["counts"] : List Str).Nodup by decide +kernel)), aV, fun D => aM rfl (jm cI kU (by rfl) N.n_list PyProof.Rows.Boot.«list» (ac (ae 0 (pv 0)) (ag))) rfl⟩) aE aL (fun D => iF))) rfl)
   (wS))
theorem jK : FnScope ["self", "other"] ["self", "other"] (ak f7) := fsc
noncomputable def gl (K : Frag) (a : Ad) : G :=
  aK (dj (aj (mn K a.C_Table) (aa (ad 1) (aa (fC (.adr a.C_Table)) af))) (f2 (fN) (f1 (di a.C_Table "counts") (ad 0)) (f1 (di a.C_Table "counts") (ad 1))))
noncomputable def bb (K : Frag) (a : Ad) : List D -> M D := aN 2 (gl K a)
theorem j2 (N : Fns K mg a) : FnOk P w K mg base (CXE P w) 2 a.f_Table___eq__ a.d_Table___eq__ ["self", "other"] (spF K 2 (bb K a)) := by
 unfold bb
 exact cF (k := 1) 2 2 (gl K a) N.F_Table___eq__ jK rfl rfl fun cdv A outer s H E hr => aC (aU (aB (o5 (au rz (wG N.ic_Table) (by rfl) N.n_isinstance PyProof.Rows.Boot.«isinstance» (ac (ae 1 (pv 1)) (ac (xU (by rfl) N.m_Table) ag))) (oZ (gu (m5 hr) pG (dz N.cl_Table N.na_Table_counts (ae 0 (pv 0))) (dz N.cl_Table N.na_Table_counts (ae 1 (pv 1))))))))
theorem cW : FnScope ["_law_script", "_law_bag_here", "_law_block", "_law_handed", "_law_table", "_law_told", "_law_other", "_law_at", "_law_to", "_law_alike"] ["_law_script"] (ak jL) := fsc
noncomputable def km (K : Frag) (a : Ad) : G :=
  ao (cq 2 (aA (m_l_any K a) (aa (ad 1) (af))))
  (ao (gG 3 (im (cX K a) (aa (ad 2) (af))))
  (ao (ku 4 (dE a.C_Table ["counts"] (cb K a) (aa (ad 3) (af)) []))
  (ao (em 3 (fC (.int 0)) (fC (.int 0)) (f2 iu (f2 ixD (f2 ixD (ad 3) (fC (.int 0))) (fC (.int 0))) (fC (.int 1))))
  (ao (kv 3)
  (ao (gIf (bq (bF (aA (m_l_due K a) (aa (ad 4) (aa (ad 2) (af)))))) (aK (fC (.bl false))) (gNil))
  (ao (gG 5 (iK a.C_Table "cells" (cL K a) (ad 4)))
  (ao (em 5 (f1 eM (fC (.int 1))) (f1 eM (fC (.int 1))) (f2 iu (f2 ixD (f2 ixD (ad 5) (f1 eM (fC (.int 1)))) (f1 eM (fC (.int 1)))) (fC (.int 1))))
  (ao (kt (gn a.C_Table "rowsums" (bz K a) (ad 4)) (aa (fC (.int 3)) (af)))
  (ao (kr (gn a.C_Table "columnsums" (bi K a) (ad 4)))
  (ao (gIf (bq (bF (aA (m_l_due K a) (aa (ad 4) (aa (ad 2) (af)))))) (aK (fC (.bl false))) (gNil))
  (ao (gG 6 (im (cX K a) (aa (ad 2) (af))))
  (ao (cq 7 (aA cM (aa (ad 1) (aa (aj bf (aa (ad 2) (af))) (af)))))
  (ao (cq 8 (aA cM (aa (ad 1) (aa (aj bf (aa (f2 ixD (ad 2) (fC (.int 0))) (af))) (af)))))
  (ao (gIf (fB (f2 (gtD) (f2 ixD (f2 ixD (ad 6) (ad 7)) (ad 8)) (fC (.int 0)))) (em 6 (ad 7) (ad 8) (f2 pb (f2 ixD (f2 ixD (ad 6) (ad 7)) (ad 8)) (fC (.int 1)))) (gIf (fB (f2 (ltD) (aj bw (aa (aA (m_l_rowsums K a) (aa (ad 2) (af))) (af))) (fC (.int 40)))) (em 6 (ad 7) (ad 8) (fC (.int 1))) (gNil)))
  (ao (gIf (cG (fB (f2 (mj) (gJ a.C_Table (bb K a) (ad 4) (dE a.C_Table ["counts"] (cb K a) (aa (aA (m_l_copied K a) (aa (ad 2) (af))) (af)) [])) (fC (.bl true)))) (fB (f2 (mj) (gJ a.C_Table (bb K a) (ad 4) (aA (m_l_copied K a) (aa (ad 2) (af)))) (fC (.bl false))))) (aK (fC (.bl false))) (gNil))
  (ao (db 9 (f2 (fN) (ad 6) (ad 2)))
  (aK (dj (aA (m_l_same K a 5) (aa (gJ a.C_Table (bb K a) (ad 4) (dE a.C_Table ["counts"] (cb K a) (aa (ad 6) (af)) [])) (aa (ad 9) (af)))) (aA (m_l_same K a 5) (aa (gJ a.C_Table (bb K a) (dE a.C_Table ["counts"] (cb K a) (aa (ad 6) (af)) []) (ad 4)) (aa (ad 9) (af))))))))))))))))))))))
theorem wt {f : Addr} {fd : FuncData} (F : FunD K "law" "law" jL f fd) (N : Fns K mg a) (T : ∀ β : Bg, β.ok -> ∃ β', km K a [none, some (.sh .bag), none, none, none, none, none, none, none, none] β = some (.rt (.bl true), β')) :
  FnOk P w K mg base (CXE P w) 9 f fd ["_law_script"] (tF K) := by
 have G_l_bag := sf P w base N
 have G_l_any := si P w base N
 have GG_l_copied := m8 P w base N
 have GI_Table := qy P w base N
 have G_l_due := se P w base N
 have GG_Table_cells := jZ P w base N
 have GO_Table_rowsums := i0 P w base N
 have GO_Table_columnsums := gz P w base N
 have G_l_pull := lF P w base N
 have G_l_rowsums := ia P w base N
 have G_l_copied := nU P w base N
 have G_Table___eq__ := j2 P w base N
 have G_l_same := lE P w base N
 refine F.okE (k := 8) cW (fun vs H Q E h => ?_) (fun cdv A outer s H vs Q E hr h => ?_)
 ·obtain ⟨a, ns, rfl, _⟩ := h
  rfl
 ·obtain ⟨a1, ns, rfl, hS, hlen, k⟩ := h
  have rest : PSs (bG (CXE P w) P w K mg base ["_law_script", "_law_bag_here", "_law_block", "_law_handed", "_law_table", "_law_told", "_law_other", "_law_at", "_law_to", "_law_alike"] "law" (ak jL) f cdv A outer s H E) (br jL).tail (tG K H (km K a) (fun _ => E)) := ax (e8 (psS 2 cW.nd (aG G_l_any (hr.mono (by decide)) (by rfl) N.m_l_any N.F_l_any.kp N.b_l_any aw (ac (ae 1 (pv 1)) (ag)) (ah aN0))))
   (ax (ma (psS 3 cW.nd (qT GG_l_copied (hr.mono (by decide)) (by rfl) N.m_l_copied N.F_l_copied.kp N.b_l_copied aw (ac (ae 2 (pv 2)) (ag)) (ah aN0))))
   (ax (vM (psS 4 cW.nd (j6 N.mk_Table GI_Table (hr.mono (by decide)) (by rfl) N.m_Table (cS.nil N.b_Table___init__) aw (ac (ae 3 (pv 3)) (ag)) (fun δ β r β' h => by rw [(ah aN0) δ β r β' h]; rfl))))
   (ax (hG (dY (d9 d4 kc (cz bc cD (cz bc cD (ae 3 (pv 3)) (aI)) (aI)) (aI)) (dZ (cZ bJ (pv 3) (aI) (fun _ _ => rfl)) (aI) cA)))
   (ax (vP (dN (me PySem.F.plainAttrs_list PySem.F.slot_list_append PySem.F.type_list_append ig (pv 3) (ba (f9 bT) bT))))
   (ax (bY (dR (dA (aG G_l_due (hr.mono (by decide)) (by rfl) N.m_l_due N.F_l_due.kp N.b_l_due aw (ac (ae 4 (pv 4)) (ac (ae 2 (pv 2)) (ag))) (ah (ah aN0))))) (aC (aU (aB (dI)))) (bD))
   (ax (ma (psS 5 cW.nd (u8 N.cl_Table N.mt_Table_cells GG_Table_cells (hr.mono (by decide)) N.b_Table_cells aw (ae 4 (pv 4)))))
   (ax (hG (dY (d9 d4 kc (cz bc cD (cz bc cD (ae 5 (pv 5)) (oY jC ml (aI))) (oY jC ml (aI))) (aI)) (dZ (cZ bJ (pv 5) (oY jC ml (aI)) (fun _ _ => rfl)) (oY jC ml (aI)) cA)))
   (ax (vL (dN (me PySem.F.plainAttrs_list PySem.F.slot_list_append PySem.F.type_list_append ig (oE N.cl_Table N.mt_Table_rowsums GO_Table_rowsums (hr.mono (by decide)) N.b_Table_rowsums aw (ae 4 (pv 4))) (ac (aI) (ag)))))
   (ax (vK (dN (wg PySem.F.plainAttrs_list PySem.F.slot_list_clear PySem.F.type_list_clear so (oE N.cl_Table N.mt_Table_columnsums GO_Table_columnsums (hr.mono (by decide)) N.b_Table_columnsums aw (ae 4 (pv 4))))))
   (ax (bY (dR (dA (aG G_l_due (hr.mono (by decide)) (by rfl) N.m_l_due N.F_l_due.kp N.b_l_due aw (ac (ae 4 (pv 4)) (ac (ae 2 (pv 2)) (ag))) (ah (ah aN0))))) (aC (aU (aB (dI)))) (bD))
   (ax (ma (psS 6 cW.nd (qT GG_l_copied (hr.mono (by decide)) (by rfl) N.m_l_copied N.F_l_copied.kp N.b_l_copied aw (ac (ae 2 (pv 2)) (ag)) (ah aN0))))
   (ax (e8 (psS 7 cW.nd (aG G_l_pull (hr.mono (by decide)) (by rfl) N.m_l_pull N.F_l_pull.kp N.b_l_pull aw (ac (ae 1 (pv 1)) (ac (au aO c9 (by rfl) N.n_len PySem.boot_len (ac (ae 2 (pv 2)) (ag))) (ag))) (ah (ah aN0)))))
   (ax (e8 (psS 8 cW.nd (aG G_l_pull (hr.mono (by decide)) (by rfl) N.m_l_pull N.F_l_pull.kp N.b_l_pull aw (ac (ae 1 (pv 1)) (ac (au aO c9 (by rfl) N.n_len PySem.boot_len (ac (cz bc cD (ae 2 (pv 2)) (aI)) (ag))) (ag))) (ah (ah aN0)))))
   (ax (bY (dB tR wH (cz bc cD (cz bc cD (ae 6 (pv 6)) (ae 7 (pv 7))) (ae 8 (pv 8))) (aI)) (aC (hG (dY (d9 qw tS (cz bc cD (cz bc cD (ae 6 (pv 6)) (ae 7 (pv 7))) (ae 8 (pv 8))) (aI)) (dZ (cZ bJ (pv 6) (ae 7 (pv 7)) (fun _ _ => rfl)) (ae 8 (pv 8)) cA)))) (aC (bY (dB tQ wF (au (bp rfl) cB (by rfl) N.n_sum PyProof.Rows.Boot.«sum» (ac (aG G_l_rowsums (hr.mono (by decide)) (by rfl) N.m_l_rowsums N.F_l_rowsums.kp N.b_l_rowsums aw (ac (ae 2 (pv 2)) (ag)) (ah aN0)) (ag))) (aI)) (aC (hG (dY (aI) (dZ (cZ bJ (pv 6) (ae 7 (pv 7)) (fun _ _ => rfl)) (ae 8 (pv 8)) cA)))) (bD))))
   (ax (bY (g6 (mz (dB oz qK (l8 N.mt_Table___eq__ G_Table___eq__ (hr.mono (by decide)) N.b_Table___eq__ aw N.sl_Table (ae 4 (pv 4)) (o0 (j6 N.mk_Table GI_Table (hr.mono (by decide)) (by rfl) N.m_Table (cS.nil N.b_Table___init__) aw (ac (aG G_l_copied (hr.mono (by decide)) (by rfl) N.m_l_copied N.F_l_copied.kp N.b_l_copied aw (ac (ae 2 (pv 2)) (ag)) (ah aN0)) (ag)) (fun δ β r β' h => by rw [(ah aN0) δ β r β' h]; rfl)))) (dI)) (jy (dB oz qK (l8 N.mt_Table___eq__ G_Table___eq__ (hr.mono (by decide)) N.b_Table___eq__ aw N.sl_Table (ae 4 (pv 4)) (aG G_l_copied (hr.mono (by decide)) (by rfl) N.m_l_copied N.F_l_copied.kp N.b_l_copied aw (ac (ae 2 (pv 2)) (ag)) (ah aN0))) (dI))))) (aC (aU (aB (dI)))) (bD))
   (ax (qk (psS 9 cW.nd (gu (m5 hr) pG (ae 6 (pv 6)) (ae 2 (pv 2)))))
   (aC (aU (aB (o5 (aG G_l_same (hr.mono (by decide)) (by rfl) N.m_l_same N.F_l_same.kp N.b_l_same aw (ac (l8 N.mt_Table___eq__ G_Table___eq__ (hr.mono (by decide)) N.b_Table___eq__ aw N.sl_Table (ae 4 (pv 4)) (o0 (j6 N.mk_Table GI_Table (hr.mono (by decide)) (by rfl) N.m_Table (cS.nil N.b_Table___init__) aw (ac (ae 6 (pv 6)) (ag)) (fun δ β r β' h => by rw [(ah aN0) δ β r β' h]; rfl)))) (ac (ae 9 (pv 9)) (ag))) (ah (ah aN0))) (oZ (aG G_l_same (hr.mono (by decide)) (by rfl) N.m_l_same N.F_l_same.kp N.b_l_same aw (ac (l8 N.mt_Table___eq__ G_Table___eq__ (hr.mono (by decide)) N.b_Table___eq__ aw N.sl_Table (o0 (j6 N.mk_Table GI_Table (hr.mono (by decide)) (by rfl) N.m_Table (cS.nil N.b_Table___init__) aw (ac (ae 6 (pv 6)) (ag)) (fun δ β r β' h => by rw [(ah aN0) δ β r β' h]; rfl))) (ae 4 (pv 4))) (ac (ae 9 (pv 9)) (ag))) (ah (ah aN0))))))))))))))))))))))))
  refine ⟨_, bu (rest := (br jL).tail) (psS 1 cW.nd (kP G_l_bag (hr.mono (by decide)) rfl N.m_l_bag N.F_l_bag.kp N.b_l_bag .nil fh (ba (pv 0) bT))) rest, ?_⟩
  refine ⟨_, rfl, a1, ns, rfl, hS, fun b l H1 hb1 hl1 B1 s1 => ?_⟩
  obtain ⟨β, ok, sok⟩ := ve (K := K) (a := a1) (n := ["_law_script", "_law_bag_here", "_law_block", "_law_handed", "_law_table", "_law_told", "_law_other", "_law_at", "_law_to", "_law_alike"].length - 2) s1 hb1 hl1 B1
  obtain ⟨β', e⟩ := T β ok
  exact ⟨_, _, _, β, _, β', sok, e, fun v B' H' s fr hv => by cases hv.bl; exact k H'⟩
end
section
variable {K : Frag} {a : Ad}
abbrev sX (r c l u : Int) (g : List (List D)) (s6 s7 : Option Sl) : Ds := [some (.sh .bag), some (.sh (.int r)), some (.sh (.int c)), some (.sh (.int l)), some (.sh (.int u)), some (.grd g), s6, s7]
def xJ (r c : Nat) (u : Int) (s6 : Option Sl) (δ : Ds) (β : Bg) : Prop := β.ok /\ ∃ (rows : LI) (l : Int) (s7 : Option Sl), δ = sX r c l u (gI rows) s6 s7 /\ Shp r c rows /\ (∀ row ∈ rows, ∀ x ∈ row, 0 <= x) /\ 0 <= l /\ tot rows + l <= 40
theorem vh {β : Bg} (ok : β.ok) : ∃ (rows : LI) (r c : Nat) (β' : Bg), m_l_any K a [.bag] β = some (.ok (ar rows), β') /\ Tab r c rows /\ β'.ok := by
 suffices h : ∃ g β', m_l_any K a [.bag] β = some (g, β') /\ (∃ (rows : LI) (r c : Nat), g = .ok (ar rows) /\ Tab r c rows /\ β'.ok) by
  obtain ⟨g, β', e, rows, r, c, rfl, h1, h2⟩ := h
  exact ⟨rows, r, c, β', e, h1, h2⟩
 refine rA ?_
 unfold kZ
 obtain ⟨r0, β1, p1, a0, a1, ok1⟩ := dM ok (lot := 4) (by decide) (by decide)
 refine eV (d := .int (1 + r0)) (β1 := β1) (x_2 rfl (aQ rfl p1) rfl) ?_
 obtain ⟨c0, β2, p2, b0, b1, ok2⟩ := dM ok1 (lot := 6) (by decide) (by decide)
 refine eV (d := .int (1 + c0)) (β1 := β2) (x_2 rfl (aQ rfl p2) rfl) ?_
 obtain ⟨l0, β3, p3, d0, d1, ok3⟩ := dM ok2 (lot := 41) (by decide) (by decide)
 refine eV (d := .int l0) (β1 := β3) (aQ rfl p3) ?_
 obtain ⟨u0, β4, p4, e0, e1, ok4⟩ := dM ok3 (lot := 6) (by decide) (by decide)
 have hu : ∃ u : Int, ixD (.lst [.int 12, .int 12, .int 12, .int 12, .int 12, .int 40]) (.int u0) = some (.int u) /\ 0 <= u /\ u <= 40 := by
  obtain rfl | rfl | rfl | rfl | rfl | rfl : u0 = 0 \/ u0 = 1 \/ u0 = 2 \/ u0 = 3 \/ u0 = 4 \/ u0 = 5 := by omega
  ·exact ⟨12, rfl, by decide, by decide⟩
  ·exact ⟨12, rfl, by decide, by decide⟩
  ·exact ⟨12, rfl, by decide, by decide⟩
  ·exact ⟨12, rfl, by decide, by decide⟩
  ·exact ⟨12, rfl, by decide, by decide⟩
  ·exact ⟨40, rfl, by decide, by decide⟩
 obtain ⟨u, hu, u0', u1'⟩ := hu
 refine eV (d := .int u) (β1 := β4) (x_2 (aS rfl rfl) (aQ rfl p4) hu) ?_
 obtain ⟨r, hr⟩ : ∃ r : Nat, (r : Int) = 1 + r0 := ⟨(1 + r0).toNat, by omega⟩
 obtain ⟨c, hc⟩ : ∃ c : Nat, (c : Int) = 1 + c0 := ⟨(1 + c0).toNat, by omega⟩
 rw [← hr, ← hc]
 refine l7 (rows := (List.range r).map fun _ => List.replicate c (D.int 0)) (β1 := β4) (io (List.range r) (fun i => D.int (0 + (i : Int))) _ (iw (ds := ci 0 r) rfl (rg1 (by omega) (by omega))) (fun x _ => ⟨_, rfl, yf (x := .int 0) (c := c) rfl rfl (by omega)⟩) (bE (by rw [List.length_range]; omega))) ?_ ?_
 ·rw [List.all_eq_true]
  intro x hx
  obtain ⟨_, _, rfl⟩ := List.mem_map.mp hx
  rw [← List.map_replicate (f := D.int)]
  exact ib _
 have hg : (List.range r).map (fun _ => List.replicate c (D.int 0)) = gI (List.replicate r (List.replicate c 0)) := by
  show _ = List.map _ _
  rw [List.map_replicate, List.map_const', List.map_replicate, List.length_range]
 rw [hg]
 refine oX (ds := ci 0 r) (β1 := β4) (iw rfl (rg1 (by omega) (by omega))) (fun _ δ β => ∃ s6, xJ r c u s6 δ β) ⟨none, ok4, List.replicate r (List.replicate c 0), l0, none, rfl, ⟨by simp, fun row h => ?_⟩, fun row h x hx => ?_, d0, ?_⟩ ?_ ?_
 ·rw [(List.mem_replicate.mp h).2]; simp
 ·rw [(List.mem_replicate.mp h).2] at hx
  rw [(List.mem_replicate.mp hx).2]; exact Int.le_refl _
 ·have : tot (List.replicate r (List.replicate c 0)) = 0 := by
   unfold tot
   rw [List.map_replicate]
   have z : ∀ n : Nat, (List.replicate n (0 : Int)).sum = 0 := fun n => by
    induction n with
    | zero => rfl
    | succ n ih => rw [List.replicate_succ, List.sum_cons, ih]; rfl
   rw [z, z]
  omega
 ·rintro i d δ β' hd ⟨s6, okA, rows, l, s7, rfl, sh, nn, hl, ht⟩
  obtain ⟨hi, rfl⟩ := tI hd
  refine ⟨sX r c l u (gI rows) (some (.sh (.int i))) s7, rfl, aT ?_⟩
  refine oX (ds := ci 0 c) (β1 := β') (iw rfl (rg1 (by omega) (by omega))) (fun _ => xJ r c u (some (.sh (.int i)))) ⟨okA, rows, l, s7, rfl, sh, nn, hl, ht⟩ ?_ (fun δ β h => jA ⟨_, h⟩)
  rintro j d δ β2 hd ⟨okB, rows, l, s7, rfl, sh, nn, hl, ht⟩
  obtain ⟨hj, rfl⟩ := tI hd
  refine ⟨sX r c l u (gI rows) (some (.sh (.int i))) (some (.sh (.int j))), rfl, ?_⟩
  obtain ⟨v, β5, p5, v0, v1, ok5⟩ := dM okB (lot := min l u + 1) (by omega) (by omega)
  obtain ⟨row, hrow, lrow⟩ := sh.at hi
  obtain ⟨x, hx⟩ := kB (l := row) (i := j) (by omega)
  refine jz (d := .int v) (β1 := β5) (β2 := β5) (β3 := β5) (rows := gI rows) (ds := row.map D.int) (ka := i) (kb := j) (ja := i) (jb := j) (aQ (as := [.bag, .int (min l u + 1)]) (β1 := β2) ?_ p5) rfl rfl rfl ?_ ?_ ?_ rfl ?_
  ·refine az rfl (az (x_2 (x := .int (min l u)) (aS (as := [.int l, .int u]) rfl ?_) rfl rfl) rfl)
   show ng [.int l, .int u] = some (.int (min l u))
   unfold ng
   simp only
   congr 2
   split <;> omega
  ·rw [List.length_map, sh.1]; exact nk (by omega) (by omega)
  ·rw [List.getElem?_map, hrow]; rfl
  ·rw [List.length_map, lrow]; exact nk (by omega) (by omega)
  have hset : (gI rows).set i ((row.map D.int).set j (.int v)) = gI (rows.set i (row.set j v)) := by
   show _ = List.map _ _
   rw [List.map_set, List.map_set]
  rw [hset]
  have hl' : v <= l := by omega
  refine aT (p9 (d := .int (l - v)) (β1 := β5) ?_ (jA ⟨ok5, rows.set i (row.set j v), l - v, _, rfl, sh.set hrow, qD nn hrow v0, by omega, ?_⟩) rfl)
  ·refine x_2 (y := .int v) rfl (x_2 (x := .lst ((row.set j v).map D.int)) (x_2 rfl rfl ?_) rfl ?_) rfl
   ·refine il (by omega) ?_
    rw [List.getElem?_map, List.getElem?_map, Int.toNat_natCast, List.getElem?_set, if_pos rfl, if_pos (by rw [sh.1]; omega)]; rfl
   ·refine il (by omega) ?_
    rw [List.getElem?_map, Int.toNat_natCast, List.getElem?_set, if_pos rfl, if_pos (by rw [lrow]; omega)]; rfl
  ·have := n5 (v := v) hrow hx
   have := nn row (List.mem_of_getElem? hrow) x (List.mem_of_getElem? hx)
   omega
 ·rintro δ β' ⟨s6, okA, rows, l, s7, rfl, sh, nn, hl, ht⟩
  exact aT (bL rfl ⟨rows, r, c, rfl, ⟨sh, nn, by omega, by omega, by omega, by omega, by omega⟩, okA⟩)
end
section
variable {K : Frag} {a : Ad} {β : Bg}
theorem lO {rows : List (List D)} (h : rows.length <= 1000) : m_l_copied K a [lG rows] β = some (.ok (lG rows), β) :=
 bv (aT (bL (cg rows D.lst D.lst rfl (fun x _ => ⟨_, rfl, rfl⟩) (bE h)) ⟨rfl, rfl⟩))
theorem ky {rows : List (List D)} (h : rows.length <= 1000) : cX K a [lG rows] β = some (.ok rows, β) := by
 have e := io (nv := 1) (caps := []) (it := aF (ad 0)) (tg := tgC 0) (f := fi ei (aa (ad 0) (af))) (δ := [some (lG rows)]) (β := β) rows D.lst (fun x => x) rfl (fun x _ => ⟨_, rfl, rfl⟩) (bE h)
 rw [List.map_id'] at e
 exact oQ (aT (nZ e ⟨rfl, rfl⟩))
theorem uA {rows : LI} (hl : rows.length <= 30) (hw : ∀ row ∈ rows, row.length <= 30) : m_check_rows K a [ar rows] β = some (if ee rows = true then .ok .non else .error a.C_BadTable, β) := by
 refine bv ?_
 unfold eP
 have hm : (gI rows).map D.lst = rows.map fun row => D.lst (row.map D.int) := by rw [List.map_map]; rfl
 refine g0 (c := !(decide ((1 : Int) <= (rows.length : Int)) && decide ((rows.length : Int) <= 4))) (β1 := β) (jx (x_B (nX rfl (aS rfl (ij (r := rows.length) (by rw [List.length_map]))) rfl))) ?_
 cases q1 : (decide ((1 : Int) <= (rows.length : Int)) && decide ((rows.length : Int) <= 4)) with
 | false =>
  rw [Bool.not_false, if_pos rfl]
  refine fU (az (my (mx rfl (by decide) (by decide) (mx (aS rfl (ij (r := rows.length) (by rw [List.length_map]))) (by omega) (by omega) rfl))) rfl) ⟨rfl, ?_⟩
  rw [if_neg]
  intro z
  have t := dX z
  have := t.r0
  have := t.r1
  simp only [Bool.and_eq_false_iff, decide_eq_false_iff_not] at q1
  omega
 | true =>
 rw [Bool.not_true, if_neg Bool.false_ne_true]
 refine cr ?_
 simp only [Bool.and_eq_true, decide_eq_true_eq] at q1
 obtain ⟨row0, rest, rfl⟩ : ∃ x xs, rows = x :: xs := by
  cases rows with
  | nil => simp at q1
  | cons x xs => exact ⟨x, xs, rfl⟩
 have hw0 := hw row0 List.mem_cons_self
 refine eV (d := .int (row0.length : Int)) (β1 := β) (aS (az (x := .lst (row0.map D.int)) (x_2 rfl rfl ix0) rfl) (ge (by rw [List.length_map]))) ?_
 refine g0 (c := !(decide ((1 : Int) <= (row0.length : Int)) && decide ((row0.length : Int) <= 6))) (β1 := β) (jx (x_B (nX rfl rfl rfl))) ?_
 cases q2 : (decide ((1 : Int) <= (row0.length : Int)) && decide ((row0.length : Int) <= 6)) with
 | false =>
  rw [Bool.not_false, if_pos rfl]
  refine fU (az (my (mx rfl (by decide) (by decide) (mx rfl (by omega) (by omega) rfl))) rfl) ⟨rfl, ?_⟩
  rw [if_neg]
  intro z
  have t := dX z
  have c0 := t.c0
  have c1 := t.c1
  simp only [List.headD_cons] at c0 c1
  simp only [Bool.and_eq_false_iff, decide_eq_false_iff_not] at q2
  omega
 | true =>
 rw [Bool.not_true, if_neg Bool.false_ne_true]
 refine cr ?_
 simp only [Bool.and_eq_true, decide_eq_true_eq] at q2
 have e1 : aJ 1 [1] (aF (ad 0)) (tgC 0) (fun _ => M.ret true) (cEm (f2 (cn) (aj bf (aa (ad 0) (af))) (ad 1))) [some (ar (row0 :: rest)), some (.int (row0.length : Int))] β = some (.ok (.lst ((row0 :: rest).map fun row => D.bl (!decide ((row.length : Int) = (row0.length : Int))))), β) :=
  cg (nv := 1) (caps := [1]) (row0 :: rest) (fun row => D.lst (row.map D.int)) _ (by show some (Except.ok ((gI (row0 :: rest)).map D.lst), β) = _; rw [hm]) (fun row _ => ⟨_, rfl, x_2 (aS rfl (ge (r := row.length) (by rw [List.length_map]))) rfl ne_int⟩) (bE (by omega))
 refine g0 (c := (row0 :: rest).any fun row => !decide ((row.length : Int) = (row0.length : Int))) (β1 := β) (jw (aS (az e1 rfl) (any_map _ _)) rfl) ?_
 cases q3 : ((row0 :: rest).any fun row => !decide ((row.length : Int) = (row0.length : Int))) with
 | true =>
  rw [if_pos rfl]
  refine fU rfl ⟨rfl, ?_⟩
  rw [if_neg]
  intro z
  have t := (dX z).shp
  rw [List.any_eq_true] at q3
  obtain ⟨row, hr, q⟩ := q3
  have := t.2 row hr
  simp only [List.headD_cons] at this
  simp [this] at q
 | false =>
 rw [if_neg Bool.false_ne_true]
 refine cr ?_
 have e2 : aJ 2 [] (aF (ad 0)) (tgC 0) (fun _ => M.ret true) (cNx (aF (ad 0)) (tgC 1) (fun _ => M.ret true) (cEm (f2 (ltD) (ad 1) (fC (.int 0))))) [some (ar (row0 :: rest)), some (.int (row0.length : Int))] β = some (.ok (.lst ((row0 :: rest).flatMap fun row => row.map fun x => D.bl (decide (x < 0)))), β) := by
  refine vc (nv := 2) (caps := []) (row0 :: rest) (fun row => D.lst (row.map D.int)) _ (by show some (Except.ok ((gI (row0 :: rest)).map D.lst), β) = _; rw [hm]) (fun row _ => ⟨_, rfl, ww row D.int _ rfl (fun x _ => ⟨_, rfl, rfl⟩)⟩) (bE ?_)
  have := qW (f := fun row : List Int => row.map fun x => D.bl (decide (x < 0))) (n := 30) (l := row0 :: rest) fun x hx => by rw [List.length_map]; exact hw x hx
  omega
 refine g0 (c := (row0 :: rest).any fun row => row.any fun x => decide (x < 0)) (β1 := β) (jw (aS (az e2 rfl) (xG _ _ _)) rfl) ?_
 cases q4 : ((row0 :: rest).any fun row => row.any fun x => decide (x < 0)) with
 | true =>
  rw [if_pos rfl]
  refine fU rfl ⟨rfl, ?_⟩
  rw [if_neg]
  intro z
  have t := (dX z).nn
  simp only [List.any_eq_true, decide_eq_true_eq] at q4
  obtain ⟨row, hr, x, hx, q⟩ := q4
  have := t row hr x hx
  omega
 | false =>
 rw [if_neg Bool.false_ne_true]
 refine cr (aT ?_)
 have e3 : aJ 1 [] (aF (ad 0)) (tgC 0) (fun _ => M.ret true) (cEm (aj bw (aa (ad 0) (af)))) [some (ar (row0 :: rest)), some (.int (row0.length : Int))] β = some (.ok (.lst ((row0 :: rest).map fun row => D.int row.sum)), β) :=
  cg (nv := 1) (caps := []) (row0 :: rest) (fun row => D.lst (row.map D.int)) _ (by show some (Except.ok ((gI (row0 :: rest)).map D.lst), β) = _; rw [hm]) (fun row _ => ⟨_, rfl, aS rfl (dL row)⟩) (bE (by omega))
 have e4 : bw [.lst ((row0 :: rest).map fun row => D.int row.sum)] = some (.int (tot (row0 :: rest))) := by
  have := dL ((row0 :: rest).map List.sum)
  rw [List.map_map] at this
  exact this
 refine g0 (c := decide (40 < tot (row0 :: rest))) (β1 := β) (x_B (x_2 (aS (az e3 rfl) e4) rfl gt_int)) ?_
 by_cases q5 : 40 < tot (row0 :: rest)
 ·rw [if_pos (by simpa using q5)]
  refine fU (az (my (mx rfl (by decide) (by decide) rfl)) rfl) ⟨rfl, ?_⟩
  rw [if_neg]
  intro z
  have t := (dX z).tot
  omega
 ·rw [if_neg (by simpa using q5)]
  refine cr (jA ⟨rfl, ?_⟩)
  rw [if_pos]
  refine lz (r := (row0 :: rest).length) (c := row0.length) ⟨⟨rfl, fun row hr => ?_⟩, fun row hr x hx => ?_, by omega, by omega, by omega, by omega, by omega⟩
  ·rw [List.any_eq_false] at q3
   have := q3 row hr
   simp only [Bool.not_eq_true', decide_eq_false_iff_not, Decidable.not_not] at this
   omega
  ·rw [List.any_eq_false] at q4
   have h := q4 row hr
   simp only [List.any_eq_true, decide_eq_true_eq, not_exists, not_and] at h
   have := h x hx
   omega
theorem qU {r c : Nat} {rows : LI} (h : Shp r c rows) : (gI rows).length = r := by rw [List.length_map, h.1]
theorem vA {r c : Nat} {rows : LI} (sh : Shp r c rows) (r0 : 1 <= r) (r1 : r <= 30) (c1 : c <= 30) {δ : Dn} (hδ : δ.getD 0 none = some (ar rows)) : aJ 1 [0] (bM fJ (aa (aj bf (aa (f2 ixD (ad 0) (fC (.int 0))) (af))) (af))) (tgC 0) (fun _ => M.ret true) (cEm (aJ 1 [0] (aF (ad 1)) (tgC 0) (fun _ => M.ret true) (cEm (f2 ixD (ad 0) (ad 1))))) δ β = some (.ok (ar (tp c rows)), β) := by
 obtain ⟨row0, hrow0, lrow0⟩ := sh.at (i := 0) (by omega)
 have hr0 : (gI rows)[0]? = some (row0.map D.int) := by rw [List.getElem?_map, hrow0]; rfl
 have el : aj bf (aa (f2 ixD (ad 0) (fC (.int 0))) (af)) δ β = some (.ok (.int (c : Int)), β) := aS (az (x := .lst (row0.map D.int)) (x_2 (x := ar rows) (xM hδ) rfl (ke hr0)) rfl) (ge (by rw [List.length_map, lrow0]))
 have e := cg (nv := 1) (caps := [0]) (it := bM fJ (aa (aj bf (aa (f2 ixD (ad 0) (fC (.int 0))) (af))) (af))) (tg := tgC 0) (f := aJ 1 [0] (aF (ad 1)) (tgC 0) (fun _ => M.ret true) (cEm (f2 ixD (ad 0) (ad 1)))) (δ := δ) (β := β) (List.range c) (fun i => D.int (0 + (i : Int))) (fun j => D.lst (rows.map fun row => D.int (row.getD j 0))) (iw (ds := ci 0 c) (az el rfl) (rg1 (by omega) (by omega))) ?_ (bE (by rw [List.length_range]; omega))
 ·rw [e]
  unfold tp tpA
  show _ = some (Except.ok (D.lst (List.map D.lst (List.map _ (List.map _ _)))), β)
  rw [List.map_map, List.map_map]
  congr 4
  refine List.map_congr_left fun j _ => ?_
  show _ = D.lst ((rows.map fun row => row.getD j 0).map D.int)
  rw [List.map_map]; rfl
 ·intro j hj
  have hjc := List.mem_range.mp hj
  have hcs : cSt 1 [0] δ = [none, some (ar rows)] := by
   unfold cSt
   simp only [List.map_cons, List.map_nil, hδ]; rfl
  refine ⟨[some (.int (0 + (j : Int))), some (ar rows)], by rw [hcs]; rfl, ?_⟩
  have hm : (gI rows).map D.lst = rows.map fun row => D.lst (row.map D.int) := by rw [List.map_map]; rfl
  refine cg (nv := 1) (caps := [0]) rows (fun row => D.lst (row.map D.int)) _ (by show some (Except.ok ((gI rows).map D.lst), β) = _; rw [hm]) (fun row hr => ⟨_, rfl, x_2 (x := .lst (row.map D.int)) (y := .int (0 + (j : Int))) rfl rfl ?_⟩) (bE (by rw [sh.1]; omega))
  have hl := sh.2 row hr
  obtain ⟨x, hx⟩ := kB (l := row) (i := j) (by omega)
  rw [Int.zero_add]
  refine iI ?_
  rw [List.getElem?_map, hx, List.getD_eq_getElem?_getD, hx]; rfl
theorem lv {r c : Nat} {rows : LI} (sh : Shp r c rows) (r0 : 1 <= r) (r1 : r <= 30) (c1 : c <= 30) : m_rows_turned K a [ar rows] β = some (.ok (ar (tp c rows)), β) :=
 bv (aT (bL (vA sh r0 r1 c1 rfl) ⟨rfl, rfl⟩))
theorem pE {r c : Nat} {rows : LI} (sh : Shp r c rows) (r0 : 1 <= r) (r1 : r <= 30) (c1 : c <= 30) : m_l_turned K a [ar rows] β = some (.ok (ar (tp c rows)), β) :=
 bv (aT (bL (vA sh r0 r1 c1 rfl) ⟨rfl, rfl⟩))
abbrev iL (xs : List Int) : D := .lst (xs.map D.int)
theorem jF {rows : LI} (h : rows.length <= 1000) {f : FD} {δ : Dn} (e : f δ β = some (.ok (ar rows), β)) : aJ 1 [] (aF f) (tgC 0) (fun _ => M.ret true) (cEm (aj bw (aa (ad 0) (af)))) δ β = some (.ok (iL (rows.map List.sum)), β) := by
 have hm : (gI rows).map D.lst = rows.map fun row => D.lst (row.map D.int) := by rw [List.map_map]; rfl
 have := cg (nv := 1) (caps := []) (it := aF f) (tg := tgC 0) (f := aj bw (aa (ad 0) (af))) (δ := δ) (β := β) rows (fun row => D.lst (row.map D.int)) (fun row => D.int row.sum) (by rw [← hm]; exact fS e rfl) (fun row _ => ⟨_, rfl, aS rfl (dL row)⟩) (bE h)
 rw [this]
 show _ = some (Except.ok (D.lst ((rows.map List.sum).map D.int)), β)
 rw [List.map_map]; rfl
theorem gx {rows : LI} (h : rows.length <= 1000) : m_l_rowsums K a [ar rows] β = some (.ok (iL (rows.map List.sum)), β) :=
 bv (aT (bL (jF h rfl) ⟨rfl, rfl⟩))
theorem l6 {r c : Nat} {rows : LI} (sh : Shp r c rows) (r0 : 1 <= r) (r1 : r <= 30) (c1 : c <= 30) : m_l_columnsums K a [ar rows] β = some (.ok (iL ((tp c rows).map List.sum)), β) :=
 bv (aT (bL (jF (by rw [(ix (d := (0 : Int)) (c := c) sh.1).1]; omega) (aQ rfl (pE sh r0 r1 c1))) ⟨rfl, rfl⟩))
theorem ux (n : Nat) : m_l_same K a n = c8 n := by
 induction n with
 | zero => rfl
 | succ n ih =>
  show aN 2 (jp K a (m_l_same K a n)) = aN 2 (fw (c8 n))
  rw [ih]; rfl
theorem l9 {d : D} (h : okD 4 d) : m_l_same K a 5 [d, d] β = some (.ok (.bl true), β) := by
 rw [ux]
 exact kM 4 d β h
theorem iD (n : Nat) (i : Int) : okD n (.int i) := by cases n <;> trivial
theorem qA (n : Nat) (i : Bool) : okD n (.bl i) := by cases n <;> trivial
theorem oC (n : Nat) (i : Str) : okD n (.str i) := by cases n <;> trivial
theorem wv {n : Nat} {rows : List (List D)} (h1 : rows.length <= 1000) (h2 : ∀ row ∈ rows, row.length <= 1000 /\ ∀ x ∈ row, okD n x) : okD (n + 2) (lG rows) := ⟨bE (by rw [List.length_map]; exact h1), fun x hx => by
 obtain ⟨row, hr, rfl⟩ := List.mem_map.mp hx
 exact ⟨bE (h2 row hr).1, (h2 row hr).2⟩⟩
abbrev bW (a : Ad) (rows : LI) : D := .obj a.C_Table ["counts"] [ar rows]
theorem sw {rows : LI} (h : rows.length <= 1000) {f : FD} {δ : Dn} (e : f δ β = some (.ok (ar rows), β)) : aJ 1 [] (aF f) (tgC 0) (fun _ => M.ret true) (cEm (aj j9 (aa (ad 0) (af)))) δ β = some (.ok (ar rows), β) :=
 cg (gI rows) D.lst D.lst (fS e rfl) (fun x _ => ⟨_, rfl, rfl⟩) (bE (by rw [List.length_map]; exact h))
theorem oG {rows : LI} (h : rows.length <= 1000) {f : FD} {δ : Dn} (e : f δ β = some (.ok (ar rows), β)) : cj 1 [] (aF f) (tgC 0) (fun _ => M.ret true) (fQ (fi ei (aa (ad 0) (af)))) δ β = some (.ok (gI rows), β) := by
 have e := io (nv := 1) (caps := []) (it := aF f) (tg := tgC 0) (f := fi ei (aa (ad 0) (af))) (δ := δ) (β := β) (gI rows) D.lst (fun x => x) (fS e rfl) (fun x _ => ⟨_, rfl, rfl⟩) (bE (by rw [List.length_map]; exact h))
 rw [List.map_id'] at e
 exact e
theorem uW {rows : LI} (h : rows.length <= 1000) {f : FD} {δ : Dn} (e : f δ β = some (.ok (ar rows), β)) : fGN (cj 1 [] (aF f) (tgC 0) (fun _ => M.ret true) (fQ (fi ei (aa (ad 0) (af))))) δ β = some (.ok (ar rows), β) := by
 unfold fGN
 rw [M.bind_ok (oG h e)]
 unfold pM
 rw [j5, if_pos rfl]; rfl
theorem uT {rows : LI} (hl : rows.length <= 30) (hw : ∀ row ∈ rows, row.length <= 30) : cb K a [ar rows] β = some (if ee rows = true then .ok [ar rows] else .error a.C_BadTable, β) := by
 refine sI fun x => ?_
 have e := uA (K := K) (a := a) (β := β) hl hw
 unfold jo
 cases q : ee rows with
 | true =>
  rw [q, if_pos rfl] at e
  rw [if_pos rfl]
  refine wO (δ := [some (.sh (.adr x)), some (.sh (ar rows))]) (δ1 := [some (.sh (.adr x)), some (.sh (ar rows))]) (β1 := β) (x := x) ?_ rfl rfl (wP (d := ar rows) (β1 := β) (uW (by omega) rfl) rfl)
  unfold dD
  rw [aQ (az rfl rfl) e]
 | false =>
  rw [q, if_neg Bool.false_ne_true] at e
  rw [if_neg Bool.false_ne_true]
  refine u6 (δ := [some (.sh (.adr x)), some (.sh (ar rows))]) (δ1 := [some (.sh (.adr x)), some (.sh (ar rows))]) ?_
  unfold dD
  rw [aQ (az rfl rfl) e]
theorem wA {rows : LI} (hl : rows.length <= 30) (hw : ∀ row ∈ rows, row.length <= 30) {g : FL} {δ : Dn} {β0 : Bg} (e : g δ β0 = some (.ok [ar rows], β)) : dE a.C_Table ["counts"] (cb K a) g [] δ β0 = some (if ee rows = true then .ok (bW a rows) else .error a.C_BadTable, β) := by
 have m := uT (K := K) (a := a) (β := β) hl hw
 cases q : ee rows with
 | true =>
  rw [q, if_pos rfl] at m
  rw [if_pos rfl]
  exact vi e (by rw [List.append_nil, m])
 | false =>
  rw [q, if_neg Bool.false_ne_true] at m
  rw [if_neg Bool.false_ne_true]
  exact ug e (by rw [List.append_nil, m])
theorem j7 {r c : Nat} {rows : LI} (t : Tab r c rows) {g : FL} {δ : Dn} {β0 : Bg} (e : g δ β0 = some (.ok [ar rows], β)) : dE a.C_Table ["counts"] (cb K a) g [] δ β0 = some (.ok (bW a rows), β) := by
 have := wA (K := K) (a := a) (by rw [t.shp.1]; have := t.r1; omega) (fun row hr => by rw [t.shp.2 row hr]; have := t.c1; omega) e
 rw [lz t, if_pos rfl] at this
 exact this
theorem sT {rows : LI} (h : rows.length <= 1000) : c7 K a [bW a rows] β = some (.ok (ar rows), β) :=
 bv (aT (bL (sw h (dy rfl rfl)) ⟨rfl, rfl⟩))
theorem rj {rows : LI} (h : rows.length <= 1000) : cL K a [bW a rows] β = some (.ok (gI rows), β) :=
 oQ (aT (nZ (oG h (dy rfl rfl)) ⟨rfl, rfl⟩))
noncomputable def cT (n : Int) : Str := toString n
noncomputable def rT (row : List Int) : Str := Txt.join (Str.ofString " ") (row.map cT)
noncomputable def gT (rows : LI) : Str := Txt.join (Str.ofString " / ") (rows.map rT)
theorem nN {n : Int} (h0 : 0 <= n) (h1 : n <= 40) : (cT n).length <= 1921 := PyProof.Rows.int_text_len_1921 (fk (by omega) (by omega))
theorem fX {B : Nat} : ∀ {ts : List Str}, (∀ t ∈ ts, t.length <= B) -> (ts.map (·.length)).sum <= ts.length * B
 | [], _ => Nat.zero_le _
 | t :: ts, h => by
  have h1 := h t List.mem_cons_self
  have h2 := fX fun s hs => h s (List.mem_cons_of_mem t hs)
  rw [List.map_cons, List.sum_cons, List.length_cons, Nat.succ_mul]
  omega
theorem lJ {sep : Str} {ts : List Str} {B : Nat} (hb : ∀ t ∈ ts, t.length <= B) (hz : ts.length * B + ts.length * sep.length <= 1000000) : JoinOk sep ts = true := by
 unfold JoinOk
 rw [StrLaws.joinTotal]
 have h1 := fX hb
 have : ¬ ((ts.map (·.length)).sum + ts.length * sep.length > sizeLine) := by
  have : sizeLine = 16777216 := rfl
  omega
 unfold Builtin.Str.tooLong
 rw [decide_eq_false this]; rfl
theorem sE {sep : Str} {ts : List Str} {B : Nat} (hb : ∀ t ∈ ts, t.length <= B) : (Txt.join sep ts).length <= ts.length * B + ts.length * sep.length := by
 have h1 := fX hb
 have h2 := StrLaws.join_length_le sep ts
 have e : Txt.join sep ts = Str.join sep ts := StrLaws.glued_eq_join sep ts
 rw [e]
 omega
theorem mw {f : FD} {g : FL} {δ : Dn} {β1 β2 : Bg} {s : Str} {ts : List Str} (e1 : f δ β = some (.ok (.str s), β1)) (e2 : g δ β1 = some (.ok [.lst (ts.map D.str)], β2)) (h : JoinOk s ts = true) : fA f g δ β = some (.ok (.str (Txt.join s ts)), β2) := by
 unfold fA
 rw [M.bind_ok e1]
 simp only
 rw [M.bind_ok e2]
 unfold pI
 simp only [jG, Option.bind_some, h, if_true]; rfl
abbrev Sml (row : List Int) : Prop := row.length <= 6 /\ ∀ x ∈ row, 0 <= x /\ x <= 40
theorem vU {row : List Int} (h : Sml row) : (rT row).length <= 20000 := by
 have := sE (sep := Str.ofString " ") (ts := row.map cT) (B := 1921) fun t ht => by
  obtain ⟨n, hn, rfl⟩ := List.mem_map.mp ht
  exact nN (h.2 n hn).1 (h.2 n hn).2
 have e : (Str.ofString " ").length = 1 := rfl
 rw [List.length_map, e] at this
 have := h.1
 show (Txt.join (Str.ofString " ") (row.map cT)).length <= _
 omega
theorem mV {row : List Int} (h : Sml row) {f : FD} {δ : Dn} (e : f δ β = some (.ok (.lst (row.map D.int)), β)) : fA (fC (.str (Str.ofString " "))) (aa (aJ 1 [] (aF f) (tgC 0) (fun _ => M.ret true) (cEm (aj iA (aa (ad 0) (af))))) (af)) δ β = some (.ok (.str (rT row)), β) := by
 have hl := h.1
 have e2 := cg (nv := 1) (caps := []) (it := aF f) (tg := tgC 0) (f := aj iA (aa (ad 0) (af))) (δ := δ) (β := β) row D.int (fun n => D.str (cT n)) (fS e rfl) (fun n hn => ⟨_, rfl, aS rfl (by
  show (if n.natAbs.log2 < 1920 then some (D.str (Str.ofString (toString n))) else none) = _
  rw [if_pos (fk (by have := (h.2 n hn).1; omega) (by have := (h.2 n hn).2; omega))]; rfl)⟩) (bE (by omega))
 refine mw (ts := row.map cT) (β1 := β) rfl (az (by rw [e2, List.map_map]; rfl) rfl) (lJ (B := 1921) (fun t ht => ?_) ?_)
 ·obtain ⟨n, hn, rfl⟩ := List.mem_map.mp ht
  exact nN (h.2 n hn).1 (h.2 n hn).2
 ·have e : (Str.ofString " ").length = 1 := rfl
  rw [List.length_map, e]
  omega
theorem tX {rows : LI} (hl : rows.length <= 4) (h : ∀ row ∈ rows, Sml row) : JoinOk (Str.ofString " / ") (rows.map rT) = true := lJ (B := 20000) (fun t ht => by
  obtain ⟨row, hr, rfl⟩ := List.mem_map.mp ht
  exact vU (h row hr)) (by
  have e : (Str.ofString " / ").length = 3 := rfl
  rw [List.length_map, e]
  omega)
theorem vH {rows : LI} (hl : rows.length <= 4) (h : ∀ row ∈ rows, Sml row) : cu K a [bW a rows] β = some (.ok (.str (gT rows)), β) := by
 refine bv (aT (bL (d := .str (gT rows)) (β1 := β) ?_ ⟨rfl, rfl⟩))
 have hm : (gI rows).map D.lst = rows.map fun row => D.lst (row.map D.int) := by rw [List.map_map]; rfl
 refine mw (ts := rows.map rT) (β1 := β) rfl (az (x := .lst ((rows.map rT).map D.str)) (β1 := β) ?_ rfl) (tX hl h)
 rw [List.map_map]
 exact cg (nv := 1) (caps := []) rows (fun row => D.lst (row.map D.int)) (fun row => D.str (rT row)) (by rw [← hm]; exact fS (x := ar rows) (dy rfl rfl) rfl) (fun row hr => ⟨_, rfl, mV (h row hr) rfl⟩) (bE (by omega))
theorem eD : ∀ l : List PyData, PyData.shownAll l = l.map PyData.shown
 | [] => by simp only [PyData.shownAll, List.map_nil]
 | d :: l => by simp only [PyData.shownAll, List.map_cons, eD l]
theorem fP {k : Nat} : ∀ {l : List PyData}, (∀ d ∈ l, d.depth <= k) -> PyData.depthAll l <= k
 | [], _ => by simp only [PyData.depthAll]; omega
 | d :: l, h => by
  have h1 := h d List.mem_cons_self
  have h2 := fP fun e he => h e (List.mem_cons_of_mem d he)
  simp only [PyData.depthAll]
  omega
theorem ie : ∀ {l : List PyData}, (∀ d ∈ l, d.hasDict = false) -> PyData.hasDictAll l = false
 | [], _ => by simp only [PyData.hasDictAll]
 | d :: l, h => by
  simp only [PyData.hasDictAll, h d List.mem_cons_self, ie fun e he => h e (List.mem_cons_of_mem d he), Bool.or_self]
theorem kH : ∀ {l : List PyData}, (∀ d ∈ l, d.showable = true) -> PyData.showableAll l = true
 | [], _ => by simp only [PyData.showableAll]
 | d :: l, h => by
  simp only [PyData.showableAll, h d List.mem_cons_self, kH fun e he => h e (List.mem_cons_of_mem d he), Bool.and_self]
theorem ql {row : List Int} (h : Sml row) : (PyData.list (row.map PyData.int)).shown.length <= 20000 := by
 have e : (PyData.list (row.map PyData.int)).shown = listText (row.map cT) := by
  simp only [PyData.shown]
  rw [eD, List.map_map]
  congr 1
 rw [e]
 have h1 := listText_len_le (row.map cT)
 have h2 := fX (B := 1921) (ts := row.map cT) fun t ht => by
  obtain ⟨n, hn, rfl⟩ := List.mem_map.mp ht
  exact nN (h.2 n hn).1 (h.2 n hn).2
 rw [List.length_map] at h1 h2
 have := h.1
 omega
theorem gE {rows : LI} (hl : rows.length <= 4) (h : ∀ row ∈ rows, Sml row) : (aR rows).shown.length <= 100000 := by
 have e : (aR rows).shown = listText ((rows.map fun ns => PyData.list (ns.map PyData.int)).map PyData.shown) := by
  unfold aR
  simp only [PyData.shown]
  rw [eD]
 rw [e]
 have h1 := listText_len_le ((rows.map fun ns => PyData.list (ns.map PyData.int)).map PyData.shown)
 have h2 := fX (B := 20000) (ts := (rows.map fun ns => PyData.list (ns.map PyData.int)).map PyData.shown) fun t ht => by
  obtain ⟨d, hd, rfl⟩ := List.mem_map.mp ht
  obtain ⟨row, hr, rfl⟩ := List.mem_map.mp hd
  exact ql (h row hr)
 rw [List.length_map, List.length_map] at h1 h2
 omega
theorem m9 {rows : LI} (hl : rows.length <= 4) (h : ∀ row ∈ rows, Sml row) : okP (aR rows) = true := by
 have h1 := gE hl h
 have hd : (aR rows).depth <= 2 := by
  unfold aR
  simp only [PyData.depth]
  have : PyData.depthAll (rows.map fun ns => PyData.list (ns.map PyData.int)) <= 1 := fP fun d hd => by
   obtain ⟨row, hr, rfl⟩ := List.mem_map.mp hd
   simp only [PyData.depth]
   have : PyData.depthAll (row.map PyData.int) <= 0 := fP fun d hd => by
    obtain ⟨n, hn, rfl⟩ := List.mem_map.mp hd
    simp only [PyData.depth]; omega
   omega
  omega
 have hn : (aR rows).hasDict = false := by
  unfold aR
  simp only [PyData.hasDict]
  refine ie fun d hd => ?_
  obtain ⟨row, hr, rfl⟩ := List.mem_map.mp hd
  simp only [PyData.hasDict]
  refine ie fun d hd => ?_
  obtain ⟨n, hn, rfl⟩ := List.mem_map.mp hd
  simp only [PyData.hasDict]
 have hs : (aR rows).showable = true := by
  unfold aR
  simp only [PyData.showable]
  refine kH fun d hd => ?_
  obtain ⟨row, hr, rfl⟩ := List.mem_map.mp hd
  simp only [PyData.showable]
  refine kH fun d hd => ?_
  obtain ⟨n, hn, rfl⟩ := List.mem_map.mp hd
  simp only [PyData.showable, decide_eq_true_eq]
  exact fk (by have := ((h row hr).2 n hn).1; omega) (by have := ((h row hr).2 n hn).2; omega)
 unfold okP
 rw [hs, hn, decide_eq_true (show (aR rows).depth <= 100 by omega), decide_eq_true (show (aR rows).shown.length <= sizeLine from Nat.le_trans h1 (by decide))]; rfl
theorem nq (rows : LI) : bQ ((gI rows).map D.lst) = some rows := by
 rw [List.map_map]
 exact kl rows
noncomputable def pT (rows : LI) : Str := Str.ofString "Table(" ++ (aR rows).shown ++ Str.ofString ")"
theorem uB {rows : LI} (hl : rows.length <= 4) (h : ∀ row ∈ rows, Sml row) : cc K a [bW a rows] β = some (.ok (.str (pT rows)), β) := by
 refine bv (aT (bL (d := .str (pT rows)) (β1 := β) (x_1 (x := ar rows) (dy rfl rfl) ?_) ⟨rfl, rfl⟩))
 have h1 := gE hl h
 show (bQ ((gI rows).map D.lst)).bind _ = _
 rw [nq, Option.bind_some, if_pos ⟨m9 hl h, by
  have e1 : (Str.ofString "Table(").length = 6 := rfl
  have e2 : (Str.ofString ")").length = 1 := rfl
  have : sizeLine = 16777216 := rfl
  rw [e1, e2]
  omega⟩]; rfl
theorem uU {rows : LI} (hl : rows.length <= 4) (h : ∀ row ∈ rows, Sml row) {f : FD} {δ : Dn} (e : f δ β = some (.ok (ar rows), β)) : f2 iW (f2 iW (fC (.str (Str.ofString "Table("))) (aj md (aa f (af)))) (fC (.str (Str.ofString ")"))) δ β = some (.ok (.str (pT rows)), β) := by
 have h1 := gE hl h
 have e1 : (Str.ofString "Table(").length = 6 := rfl
 have e2 : (Str.ofString ")").length = 1 := rfl
 have sz : sizeLine = 16777216 := rfl
 refine x_2 (x := .str (Str.ofString "Table(" ++ (aR rows).shown)) (x_2 (x := .str (Str.ofString "Table(")) (y := .str (aR rows).shown) rfl (aS (az e rfl) ?_) ?_) rfl ?_
 ·show (bQ ((gI rows).map D.lst)).bind _ = _
  rw [nq, Option.bind_some, if_pos (m9 hl h)]
 ·have q : (Str.ofString "Table(").length + (aR rows).shown.length <= sizeLine := by rw [e1]; omega
  exact if_pos q
 ·have q : (Str.ofString "Table(" ++ (aR rows).shown).length + (Str.ofString ")").length <= sizeLine := by rw [PySem.strLen_append, e1, e2]; omega
  exact if_pos q
theorem sj {r c : Nat} {rows : LI} (h : Shp r c rows) (hr : r <= 1000) (hc : c <= 1000) : okD 4 (ar rows) := wv (n := 2) (by rw [qU h]; exact hr) fun row hx => by
 obtain ⟨x, hx', rfl⟩ := List.mem_map.mp hx
 refine ⟨by rw [List.length_map, h.2 x hx']; exact hc, fun z hz => ?_⟩
 obtain ⟨i, _, rfl⟩ := List.mem_map.mp hz
 exact iD _ _
theorem qz {xs : List Int} (h : xs.length <= 1000) : okD 4 (iL xs) := ⟨bE (by rw [List.length_map]; exact h), fun x hx => by
 obtain ⟨i, _, rfl⟩ := List.mem_map.mp hx
 exact iD _ _⟩
theorem sm {f g : FD} {δ : Dn} {d : D} (e1 : f δ β = some (.ok d, β)) (e2 : g δ β = some (.ok d, β)) (h : okD 4 d) : bq (bF (aA (m_l_same K a 5) (aa f (aa g (af))))) δ β = some (.ok false, β) :=
 jx (c := true) (jw (x := .bl true) (aQ (as := [d, d]) (az e1 (az e2 rfl)) (l9 h)) rfl)
theorem vj {C : Addr} {mf : List D -> M D} {fo : FD} {δ : Dn} {β1 β2 : Bg} {ns : List Str} {ds : List D} {n : Int} (e : fo δ β = some (.ok (.obj C ns ds), β1)) (h : mf [.obj C ns ds] β1 = some (.ok (.int n), β2)) (h0 : 0 <= n) (h1 : n < 2 ^ 63) : kx C mf fo δ β = some (.ok (.int n), β2) := by
 unfold kx
 rw [M.bind_ok e]
 simp only [if_true]
 rw [M.bind_ok h]
 simp only [h0, h1, and_self, if_true]; rfl
theorem p8 {C : Addr} {mf : List D -> M D} {fo : FD} {δ : Dn} {β1 β2 : Bg} {ns : List Str} {ds : List D} {x : Str} (e : fo δ β = some (.ok (.obj C ns ds), β1)) (h : mf [.obj C ns ds] β1 = some (.ok (.str x), β2)) : gH C mf fo δ β = some (.ok (.str x), β2) := by
 unfold gH
 rw [M.bind_ok e]
 simp only [if_true]
 rw [M.bind_ok h]; rfl
theorem mF {rows : LI} (h : rows.length <= 1000) : bN K a [bW a rows] β = some (.ok (iL (rows.map List.sum)), β) :=
 bv (aT (bL (jF h (dy rfl rfl)) ⟨rfl, rfl⟩))
theorem rJ {r c : Nat} {rows : LI} (sh : Shp r c rows) (r0 : 1 <= r) (r1 : r <= 30) (c1 : c <= 30) : bO K a [bW a rows] β = some (.ok (iL ((tp c rows).map List.sum)), β) :=
 bv (aT (bL (jF (by rw [(ix (d := (0 : Int)) (c := c) sh.1).1]; omega) (aQ (az (dy rfl rfl) rfl) (lv sh r0 r1 c1))) ⟨rfl, rfl⟩))
theorem rG {rows : LI} (h : rows.length <= 1000) : c6 K a [bW a rows] β = some (.ok (.int (rows.map List.sum).sum), β) :=
 bv (aT (bL (aS (az (gZ rfl rfl (mF h)) rfl) (dL _)) ⟨rfl, rfl⟩))
theorem um {r : Nat} {rows : LI} (h : rows.length = r) : cw K a [bW a rows] β = some (.ok (.int (r : Int)), β) :=
 bv (aT (bL (aS (az (x := ar rows) (dy rfl rfl) rfl) (ij (by rw [List.length_map, h]))) ⟨rfl, rfl⟩))
theorem uq {r c : Nat} {rows : LI} (t : Tab r c rows) : ∀ row ∈ rows, Sml row := fun row hr => ⟨by rw [t.shp.2 row hr]; exact t.c1, fun x hx => ⟨t.nn row hr x hx, Int.le_trans (wD t.nn row hr x hx) t.tot⟩⟩
theorem rc {r c : Nat} {rows : LI} (t : Tab r c rows) : m_l_due K a [bW a rows, ar rows] β = some (.ok (.bl true), β) := by
 refine bv ?_
 have r0 := t.r0
 have r1 := t.r1
 have c0 := t.c0
 have c1 := t.c1
 have hl : rows.length = r := t.shp.1
 have sml := uq t
 unfold kY
 refine gt (β1 := β) (oV (sm (d := ar rows) (gZ rfl rfl (sT (by omega))) rfl (sj t.shp (by omega) (by omega))) (sm (d := .int (rows.map List.sum).sum) (gZ rfl rfl (rG (by omega))) (aS (az (aQ rfl (gx (by omega))) rfl) (dL _)) (iD _ _))) (cr ?_)
 refine gt (β1 := β) (oV (sm (d := iL (rows.map List.sum)) (gZ rfl rfl (mF (by omega))) (aQ rfl (gx (by omega))) (qz (by rw [List.length_map]; omega))) (sm (d := .int (r : Int)) (vj rfl (um hl) (by omega) (by omega)) (aS rfl (ij (by rw [List.length_map, hl]))) (iD _ _))) (cr ?_)
 refine gt (β1 := β) (sm (d := iL ((tp c rows).map List.sum)) (gZ rfl rfl (rJ t.shp (by omega) (by omega) (by omega))) (aQ rfl (l6 t.shp (by omega) (by omega) (by omega))) (qz (by rw [List.length_map, (ix (d := (0 : Int)) (c := c) t.shp.1).1]; omega))) (cr ?_)
 refine xN (ds := []) (β1 := β) rfl (Nat.zero_le _) ?_
 refine oX (ds := (gI rows).map D.lst) (β1 := β) rfl (fun i δ β' => β = β' /\ ∃ s3, δ = [some (.sh (bW a rows)), some (.sh (ar rows)), some (.own ((rows.take i).map fun row => D.str (rT row))), s3]) ⟨rfl, none, rfl⟩ ?_ ?_
 ·rintro i d δ _ hd ⟨rfl, s3, rfl⟩
  rw [List.map_map, List.getElem?_map] at hd
  cases hrow : rows[i]? with
  | none => rw [hrow] at hd; cases hd
  | some row =>
   rw [hrow] at hd
   cases hd
   refine ⟨_, rfl, aT (xP (cs := (rows.take i).map fun row => D.str (rT row)) (d := .str (rT row)) (β1 := β) rfl (az (mV (sml row (List.mem_of_getElem? hrow)) rfl) rfl) ?_ (jA ⟨rfl, some (.sh (.lst (row.map D.int))), ?_⟩))⟩
   ·rw [List.length_map, List.length_take]
    have : sizeLine = 16777216 := rfl
    omega
   ·rw [List.take_add_one, hrow, List.map_append]; rfl
 ·rintro δ _ ⟨rfl, s3, rfl⟩
  rw [show ((gI rows).map D.lst).length = rows.length by rw [List.length_map, List.length_map], List.take_length]
  refine gt (β1 := β) (sm (d := .str (gT rows)) (p8 rfl (vH (by omega) sml)) (mw (ts := rows.map rT) (β1 := β) rfl (az (x := .lst ((rows.map rT).map D.str)) (by rw [List.map_map]; rfl) rfl) (tX (by omega) sml)) (oC _ _)) (cr ?_)
  exact aT (bL (aQ (as := [.str (pT rows), .str (pT rows)]) (az (p8 rfl (uB (by omega) sml)) (az (uU (by omega) sml rfl) rfl)) (l9 (oC _ _))) ⟨rfl, rfl⟩)
end
section
variable {K : Frag} {a : Ad}
theorem lx : ∀ xs : List Int, toPs (xs.map D.int) = some (xs.map PyData.int)
 | [] => rfl
 | x :: xs => by
  rw [List.map_cons]
  unfold toPs
  rw [lx xs]; rfl
theorem vB (xs : List Int) : toP (iL xs) = some (.list (xs.map PyData.int)) := by
 unfold toP
 rw [lx]; rfl
theorem nE : ∀ xs ys : List Int, PyData.eqvAll (xs.map .int) (ys.map .int) = decide (xs = ys)
 | [], [] => by simp [PyData.eqvAll]
 | [], y :: ys => by simp [PyData.eqvAll]
 | x :: xs, [] => by simp [PyData.eqvAll]
 | x :: xs, y :: ys => by
  rw [Bool.eq_iff_iff]
  simp [PyData.eqvAll, PyData.eqv, nE xs ys]
theorem ly : ∀ rows : LI, toPs ((gI rows).map D.lst) = some (rows.map fun ns => .list (ns.map PyData.int))
 | [] => rfl
 | x :: xs => by
  show toPs (iL x :: (gI xs).map D.lst) = _
  unfold toPs
  rw [ly xs, vB]; rfl
theorem mG (rows : LI) : toP (ar rows) = some (aR rows) := by
 unfold toP
 rw [ly]; rfl
theorem nF : ∀ xs ys : LI, PyData.eqvAll (xs.map fun ns => .list (ns.map PyData.int)) (ys.map fun ns => .list (ns.map PyData.int)) = decide (xs = ys)
 | [], [] => by simp [PyData.eqvAll]
 | [], y :: ys => by simp [PyData.eqvAll]
 | x :: xs, [] => by simp [PyData.eqvAll]
 | x :: xs, y :: ys => by
  rw [Bool.eq_iff_iff]
  simp [PyData.eqvAll, PyData.eqv, nF xs ys, nE]
theorem ow (rows : LI) : plD 2 (ar rows) := fun x hx => by
 obtain ⟨y, hy, rfl⟩ := List.mem_map.mp hx
 obtain ⟨row, hr, rfl⟩ := List.mem_map.mp hy
 intro z hz
 obtain ⟨i, _, rfl⟩ := List.mem_map.mp hz
 trivial
theorem nG {xs ys : LI} : fN (ar xs) (ar ys) = some (.bl (decide (xs = ys))) := by
 have h1 := nL 2 (ow xs) (by decide)
 have h2 := nL 2 (ow ys) (by decide)
 unfold pQ at h1 h2
 rw [mG] at h1 h2
 show (gM (ar xs) (ar ys)).map D.bl = _
 unfold gM
 simp only [mG, h1, h2, Bool.and_self, if_true, Option.map_some]
 unfold aR PyData.eqv
 rw [nF]
theorem mJ {β : Bg} {xs ys : LI} : bb K a [bW a xs, bW a ys] β = some (.ok (.bl (decide (xs = ys))), β) :=
 bv (aT (bL (nW (aS rfl sG) (x_2 (dy rfl rfl) (dy rfl rfl) nG)) ⟨rfl, rfl⟩))
theorem uo (hK : kitOne K (.type "list") (.ref a.C_Table) = some false) {β : Bg} {xs : LI} {ds : List D} : bb K a [bW a xs, .lst ds] β = some (.ok (.bl false), β) :=
 bv (aT (bL (ue (aS rfl (by
  show (kitOne K (.type "list") (.ref a.C_Table)).map D.bl = _
  rw [hK]; rfl))) ⟨rfl, rfl⟩))
theorem vq {h : G} {i : Nat} {f : FD} {δ : Ds} {β β1 : Bg} {d : D} {Q : Out -> Bg -> Prop} (e : f (vwA δ) β = some (.ok d, β1)) (k : Gw h (δ.set i (some (.sh d))) β1 Q) : Gw (ao (ku i f) h) δ β Q := cK (by unfold ku; rw [e]) k
theorem vt {h : G} {i : Nat} {δ : Ds} {β : Bg} {rows : List (List D)} {Q : Out -> Bg -> Prop} (eg : δ.getD i none = some (.grd rows)) (hl : rows.length < sizeLine) (k : Gw h (δ.set i none) β Q) : Gw (ao (kv i) h) δ β Q := cK (by unfold kv; simp only [eg, hl, if_true]) k
theorem vo {h : G} {f g : FL} {δ : Ds} {β β1 β2 : Bg} {ds : List D} {d : D} {Q : Out -> Bg -> Prop} (e : f (vwA δ) β = some (.ok ds, β1)) (hl : ds.length < sizeLine) (e2 : g (vwA δ) β1 = some (.ok [d], β2)) (k : Gw h δ β2 Q) : Gw (ao (kt f g) h) δ β Q := cK (by unfold kt; simp only [e, hl, e2, if_true]) k
theorem vn {h : G} {f : FL} {δ : Ds} {β β1 : Bg} {ds : List D} {Q : Out -> Bg -> Prop} (e : f (vwA δ) β = some (.ok ds, β1)) (k : Gw h δ β1 Q) : Gw (ao (kr f) h) δ β Q := cK (by unfold kr; simp only [e]) k
theorem mv {C : Addr} {m : Str} {mf : List D -> M (List D)} {fo : FD} {δ : Dn} {β β1 β2 : Bg} {ns : List Str} {ds : List D} {r : Except Addr (List D)} (e : fo δ β = some (.ok (.obj C ns ds), β1)) (hm : m ∉ ns) (h : mf [.obj C ns ds] β1 = some (r, β2)) : gn C m mf fo δ β = some (r, β2) := by
 unfold gn
 rw [M.bind_ok e]
 simp only [hm, not_false_eq_true, and_self, if_true, h]
theorem n9 {β : Bg} {rows : LI} (h : rows.length <= 1000) {f : FD} {δ : Dn} (e : f δ β = some (.ok (ar rows), β)) : d6 1 [] (aF f) (tgC 0) (fun _ => M.ret true) (cEm (aj bw (aa (ad 0) (af)))) δ β = some (.ok (rows.map fun row => D.int row.sum), β) := by
 have hm : (gI rows).map D.lst = rows.map fun row => D.lst (row.map D.int) := by rw [List.map_map]; rfl
 exact rh (nv := 1) (caps := []) (it := aF f) (tg := tgC 0) (f := aj bw (aa (ad 0) (af))) (δ := δ) (β := β) rows (fun row => D.lst (row.map D.int)) (fun row => D.int row.sum) (by rw [← hm]; exact fS e rfl) (fun row _ => ⟨_, rfl, aS rfl (dL row)⟩) (bE h)
theorem wy {β : Bg} {rows : LI} (h : rows.length <= 1000) : bz K a [bW a rows] β = some (.ok (rows.map fun row => D.int row.sum), β) := by
 unfold bz kA
 exact n9 h (dy (C := a.C_Table) (ns := ["counts"]) (fs := [ar rows]) (β1 := β) rfl rfl)
theorem wz {β : Bg} {r c : Nat} {rows : LI} (sh : Shp r c rows) (r0 : 1 <= r) (r1 : r <= 30) (c1 : c <= 30) : bi K a [bW a rows] β = some (.ok ((tp c rows).map fun row => D.int row.sum), β) := by
 unfold bi kA
 exact n9 (by rw [(ix (d := (0 : Int)) (c := c) sh.1).1]; omega) (aQ (az (dy (C := a.C_Table) (ns := ["counts"]) (fs := [ar rows]) (β1 := β) rfl rfl) rfl) (lv sh r0 r1 c1))
abbrev pp (rows : LI) (i j : Nat) (row : List Int) (v : Int) : LI := rows.set i (row.set j v)
theorem nz {rows : LI} {i j : Nat} {row : List Int} {v : Int} : (gI rows).set i ((row.map D.int).set j (.int v)) = gI (pp rows i j row v) := by
 show _ = List.map _ _
 rw [List.map_set, List.map_set]
theorem nj {n : Nat} (h : 1 <= n) : ixN n (-1) = some (n - 1) := by
 unfold ixN
 rw [if_neg (by decide)]
 first | (rw [if_pos (by omega)]; congr 1; omega) | (simp; omega)
theorem tY {xs : List D} {d : D} (h : xs[xs.length - 1]? = some d) : ixD (.lst xs) (.int (-1)) = some d := by
 have hl := (List.getElem?_eq_some_iff.mp h).1
 show atI xs (-1) = some d
 unfold atI
 rw [nj (by omega)]
 exact h
abbrev lS (a : Ad) (rows : LI) (s5 s6 s7 s8 s9 : Option Sl) : Ds := [none, some (.sh .bag), some (.sh (ar rows)), none, some (.sh (bW a rows)), s5, s6, s7, s8, s9]
theorem sB (hK : kitOne K (.type "list") (.ref a.C_Table) = some false) (β : Bg) (ok : β.ok) : ∃ β', km K a [none, some (.sh .bag), none, none, none, none, none, none, none, none] β = some (.rt (.bl true), β') := by
 suffices main : Gw (km K a) [none, some (.sh .bag), none, none, none, none, none, none, none, none] β (fun o _ => o = .rt (.bl true)) by
  obtain ⟨o, β', e, rfl⟩ := main
  exact ⟨β', e⟩
 unfold km
 obtain ⟨rows, r, c, β1, e1, T, ok1⟩ := vh (K := K) (a := a) ok
 have r0 := T.r0
 have r1 := T.r1
 have c0 := T.c0
 have c1 := T.c1
 have hl : rows.length = r := T.shp.1
 have hg : (gI rows).length = r := qU T.shp
 have sz : sizeLine = 16777216 := rfl
 refine eV (d := ar rows) (β1 := β1) (aQ rfl e1) ?_
 refine l7 (rows := gI rows) (β1 := β1) (nY rfl (ky (by omega))) (j5 rows) ?_
 refine vq (d := bW a rows) (β1 := β1) (j7 T (g := aa (ad 3) (af)) rfl) ?_
 obtain ⟨row0, hrow0, lrow0⟩ := T.shp.at (i := 0) (by omega)
 obtain ⟨x0, hx0⟩ := kB (l := row0) (i := 0) (by omega)
 have hr0 : (gI rows)[0]? = some (row0.map D.int) := by rw [List.getElem?_map, hrow0]; rfl
 refine jz (d := .int (x0 + 1)) (β1 := β1) (β2 := β1) (β3 := β1) (rows := gI rows) (ds := row0.map D.int) (ka := 0) (kb := 0) (ja := 0) (jb := 0) (x_2 (x_2 (x_2 (x := ar rows) rfl rfl (ke (k := 0) hr0)) rfl (iI (k := 0) (by rw [List.getElem?_map, hx0]; rfl))) rfl rfl) rfl rfl rfl (dP (k := 0) (by omega)) hr0 (dP (k := 0) (by rw [List.length_map]; omega)) rfl ?_
 refine vt (rows := (gI rows).set 0 ((row0.map D.int).set 0 (.int (x0 + 1)))) rfl (by rw [List.length_set, hg]; omega) ?_
 refine gt (β1 := β1) (jx (c := true) (jw (x := .bl true) (aQ rfl (rc T)) rfl)) (cr ?_)
 refine l7 (rows := gI rows) (β1 := β1) (rE rfl (by decide) (rj (by omega))) (j5 rows) ?_
 obtain ⟨rowL, hrowL, lrowL⟩ := T.shp.at (i := r - 1) (by omega)
 obtain ⟨xL, hxL⟩ := kB (l := rowL) (i := c - 1) (by omega)
 have hrL : (gI rows)[r - 1]? = some (rowL.map D.int) := by rw [List.getElem?_map, hrowL]; rfl
 have i1 : ixD (ar rows) (.int (-1)) = some (.lst (rowL.map D.int)) := tY (by rw [List.length_map, hg, List.getElem?_map, hrL]; rfl)
 have i2 : ixD (.lst (rowL.map D.int)) (.int (-1)) = some (.int xL) := tY (by rw [List.length_map, lrowL, List.getElem?_map, hxL]; rfl)
 refine jz (d := .int (xL + 1)) (β1 := β1) (β2 := β1) (β3 := β1) (rows := gI rows) (ds := rowL.map D.int) (ka := -1) (kb := -1) (ja := r - 1) (jb := c - 1) (x_2 (x_2 (x_2 (x := ar rows) rfl rfl i1) rfl i2) rfl rfl) rfl rfl rfl (by rw [hg]; exact nj (by omega)) hrL (by rw [List.length_map, lrowL]; exact nj (by omega)) rfl ?_
 rw [nz]
 refine vo (ds := rows.map fun row => D.int row.sum) (d := .int 3) (β1 := β1) (β2 := β1) (mv rfl (by decide) (wy (by omega))) (by rw [List.length_map]; omega) rfl ?_
 refine vn (ds := (tp c rows).map fun row => D.int row.sum) (β1 := β1) (mv rfl (by decide) (wz T.shp (by omega) (by omega) (by omega))) ?_
 refine gt (β1 := β1) (jx (c := true) (jw (x := .bl true) (aQ rfl (rc T)) rfl)) (cr ?_)
 refine l7 (rows := gI rows) (β1 := β1) (nY rfl (ky (by omega))) (j5 rows) ?_
 obtain ⟨v, β2, p2, v0, v1, ok2⟩ := dM ok1 (lot := (r : Int)) (by omega) (by omega)
 obtain ⟨u, β3, p3, u0, u1, ok3⟩ := dM ok2 (lot := (c : Int)) (by omega) (by omega)
 obtain ⟨i, rfl⟩ : ∃ i : Nat, v = (i : Int) := ⟨v.toNat, by omega⟩
 obtain ⟨j, rfl⟩ : ∃ j : Nat, u = (j : Int) := ⟨u.toNat, by omega⟩
 refine eV (d := .int (i : Int)) (β1 := β2) (aQ (az rfl (az (aS rfl (ij (r := r) hg)) rfl)) p2) ?_
 refine eV (d := .int (j : Int)) (β1 := β3) (aQ (az rfl (az (aS (az (x := .lst (row0.map D.int)) (x_2 rfl rfl (ke (k := 0) hr0)) rfl) (ge (r := c) (by rw [List.length_map, lrow0]))) rfl)) p3) ?_
 obtain ⟨row, hrow, lrow⟩ := T.shp.at (i := i) (by omega)
 obtain ⟨x, hx⟩ := kB (l := row) (i := j) (by omega)
 have hr : (gI rows)[i]? = some (row.map D.int) := by rw [List.getElem?_map, hrow]; rfl
 have nx : 0 <= x := T.nn row (List.mem_of_getElem? hrow) x (List.mem_of_getElem? hx)
 refine xO (fun δ β => β3 = β /\ ∃ (oth : LI) (s5 : Option Sl), Tab r c oth /\ δ = lS a rows s5 (some (.grd (gI oth))) (some (.sh (.int (i : Int)))) (some (.sh (.int (j : Int)))) none) ?_ ?_
 ·have put : ∀ {val : Int}, 0 <= val -> tot rows - x + val <= 40 -> Tab r c (pp rows i j row val) := fun {val} h1 h2 => ⟨T.shp.set hrow, qD T.nn hrow h1, by rw [n5 hrow hx]; exact h2, r0, r1, c0, c1⟩
  have tt := T.tot
  refine aT (g0 (c := decide (0 < x)) (β1 := β3) (x_B (x_2 (x := .int x) (x_2 (x := .lst (row.map D.int)) (x_2 (x := ar rows) rfl rfl (ke hr)) rfl (iI (by rw [List.getElem?_map, hx]; rfl))) rfl gt_int)) ?_)
  by_cases q : 0 < x
  ·rw [if_pos (decide_eq_true q)]
   refine jz (d := .int (x - 1)) (β1 := β3) (β2 := β3) (β3 := β3) (rows := gI rows) (ds := row.map D.int) (ka := i) (kb := j) (ja := i) (jb := j) (x_2 (x_2 (x_2 (x := ar rows) rfl rfl (ke hr)) rfl (iI (by rw [List.getElem?_map, hx]; rfl))) rfl rfl) rfl rfl rfl (dP (by omega)) hr (dP (by rw [List.length_map, lrow]; omega)) rfl (mB ?_)
   rw [nz (i := i) (j := j) (row := row) (v := x - 1)]
   exact ⟨rfl, pp rows i j row (x - 1), _, put (by omega) (by omega), rfl⟩
  ·rw [if_neg (by simpa using q)]
   refine g0 (c := decide (tot rows < 40)) (β1 := β3) (x_B (x_2 (aS (az (aQ rfl (gx (by omega))) rfl) (dL _)) rfl lt_int)) ?_
   by_cases q2 : tot rows < 40
   ·rw [if_pos (decide_eq_true q2)]
    refine jz (d := .int 1) (β1 := β3) (β2 := β3) (β3 := β3) (rows := gI rows) (ds := row.map D.int) (ka := i) (kb := j) (ja := i) (jb := j) rfl rfl rfl rfl (dP (by omega)) hr (dP (by rw [List.length_map, lrow]; omega)) rfl (mB ?_)
    rw [nz (i := i) (j := j) (row := row) (v := 1)]
    exact ⟨rfl, pp rows i j row 1, _, put (by omega) (by omega), rfl⟩
   ·rw [if_neg (by simpa using q2)]
    exact cr (mB ⟨rfl, rows, _, T, rfl⟩)
 rintro δ _ ⟨rfl, oth, s5, TO, rfl⟩
 refine gt (β1 := β3) (oV (x_B (c := false) (x_2 (x := .bl true) (oW (β2 := β3) rfl (j7 T (g := aa (aA (m_l_copied K a) (aa (ad 2) (af))) (af)) (az (aQ rfl (lO (by omega))) rfl)) (by rw [mJ, decide_eq_true rfl])) rfl rfl)) (x_B (c := false) (x_2 (x := .bl false) (vm (β2 := β3) rfl (aQ rfl (lO (by omega))) (uo hK)) rfl rfl))) (cr ?_)
 refine p9 (d := .bl (decide (oth = rows))) (β1 := β3) (x_2 (x := ar oth) (y := ar rows) rfl rfl nG) ?_
 have sy : decide (rows = oth) = decide (oth = rows) := decide_eq_decide.mpr ⟨Eq.symm, Eq.symm⟩
 refine aT (bL (nW (aQ (as := [.bl (decide (oth = rows)), .bl (decide (oth = rows))]) (az (oW (β2 := β3) rfl (j7 TO (g := aa (ad 6) (af)) rfl) (by rw [mJ, sy])) rfl) (l9 (qA _ _))) (aQ (as := [.bl (decide (oth = rows)), .bl (decide (oth = rows))]) (az (oW (β2 := β3) (j7 TO (g := aa (ad 6) (af)) rfl) rfl mJ) rfl) (l9 (qA _ _)))) rfl)
end
abbrev E (P : Params) (n : String) (t : Nat) (v : Value) : DictEntry := ⟨PyData.keyHash P (Str.ofString n), .str (Str.ofString n) t, v⟩
abbrev FN (x q : Str) (s : Stmt) (dV kV doc pm : Value) (an : Option Addr) (cd ct : Value) : FuncData := PySem.W.fnOf x q (gq s) (br s) (ak s) dV kV doc pm an cd ct
abbrev fO (f : FuncData) : Obj := ⟨.type "function", none, .func f, #[]⟩
abbrev tO (l : List Value) : Obj := ⟨.type "tuple", none, .seq l.toArray 0, #[]⟩
abbrev cO (l : List Value) : Obj := ⟨.type "code", none, .fields l.toArray, #[]⟩
abbrev eB (P : Params) (n : String) (t : Nat) : DictEntry := E P n t (.builtin n)
abbrev eT (P : Params) (n : String) (t : Nat) : DictEntry := E P n t (.type n)
abbrev eR (P : Params) (n : String) (t r : Nat) : DictEntry := E P n t (.ref r)
abbrev nO (l : List Value) : Obj := ⟨.none, none, .fields l.toArray, #[]⟩
abbrev fB (x q : Str) (s : Stmt) : Obj := ⟨.none, none, .func ⟨x, q, gq s, .stmts (br s), ak s, 0, [], .none, .none, .none, .none, none, .none, .none, 0⟩, #[]⟩
abbrev cC (n q : Str) (t l a po ko fl r : Nat) (b : Bool) (tx r2 : Nat) (x y z w : Value) (u l2 v : Nat) : Obj := cO [.str n t, .str q (t + 1), .str "/claim/cut.py" (t + 2), .int l 0, .int a 0, .int po 0, .int ko 0, .int fl 0, .ref r, .bool b, .int tx 0, .ref r2, x, y, z, w, .int u 0, .int l2 0, .str "/claim/cut.py" v]
abbrev fL (x q : Str) (i c : Nat) : Obj := fO (FN x q (top i) .none .none .none (.str "law_edgetally_k04_table_told" 393) none (.ref c) .none)
section
variable (P : Params)
def b0 : Obj := ⟨(.type "dict"), none, (.dict #[(E P "__name__" 1 (.str "builtins" 160)), (E P "__doc__" 2 (.builtin "builtins.__doc__:str#opaque")), (E P "__package__" 3 (.builtin "builtins.__package__:str#opaque")), (E P "__loader__" 4 (.builtin "builtins.__loader__:shared#opaque")), (E P "__spec__" 5 (.builtin "builtins.__spec__#opaque")), (eB P "__build_class__" 6), (eB P "__import__" 7), (eB P "abs" 8), (eB P "all" 9), (eB P "any" 10), (eB P "ascii" 11), (eB P "bin" 12), (eB P "breakpoint" 13), (eB P "callable" 14), (eB P "chr" 15), (eB P "compile" 16), (eB P "delattr" 17), (eB P "dir" 18), (eB P "divmod" 19), (eB P "eval" 20), (eB P "exec" 21), (eB P "format" 22), (eB P "getattr" 23), (eB P "globals" 24), (eB P "hasattr" 25), (eB P "hash" 26), (eB P "hex" 27), (eB P "id" 28), (eB P "input" 29), (eB P "isinstance" 30), (eB P "issubclass" 31), (eB P "iter" 32), (eB P "aiter" 33), (eB P "len" 34), (eB P "locals" 35), (eB P "max" 36), (eB P "min" 37), (eB P "next" 38), (eB P "anext" 39), (eB P "oct" 40), (eB P "ord" 41), (eB P "pow" 42), (eB P "print" 43), (eB P "repr" 44), (eB P "round" 45), (eB P "setattr" 46), (eB P "sorted" 47), (eB P "sum" 48), (eB P "vars" 49), (E P "None" 50 .none), (E P "Ellipsis" 51 .ellipsis), (E P "NotImplemented" 52 .notImplemented), (E P "False" 53 (.bool false)), (E P "True" 54 (.bool true)), (eT P "bool" 55), (eT P "memoryview" 56), (eT P "bytearray" 57), (eT P "bytes" 58), (eT P "classmethod" 59), (eT P "complex" 60), (eT P "dict" 61), (eT P "enumerate" 62), (eT P "filter" 63), (eT P "float" 64), (eT P "frozenset" 65), (eT P "property" 66), (eT P "int" 67), (eT P "list" 68), (eT P "map" 69), (eT P "object" 70), (eT P "range" 71), (eT P "reversed" 72), (eT P "set" 73), (eT P "slice" 74), (eT P "staticmethod" 75), (eT P "str" 76), (eT P "super" 77), (eT P "tuple" 78), (eT P "type" 79), (eT P "zip" 80), (E P "__debug__" 81 (.bool true)), (eT P "BaseException" 82), (eT P "BaseExceptionGroup" 83), (eT P "Exception" 84), (eT P "GeneratorExit" 85), (eT P "KeyboardInterrupt" 86), (eT P "SystemExit" 87), (eT P "ArithmeticError" 88), (eT P "AssertionError" 89), (eT P "AttributeError" 90), (eT P "BufferError" 91), (eT P "EOFError" 92), (eT P "ImportError" 93), (eT P "LookupError" 94), (eT P "MemoryError" 95), (eT P "NameError" 96), (eT P "OSError" 97), (eT P "ReferenceError" 98), (eT P "RuntimeError" 99), (eT P "StopAsyncIteration" 100), (eT P "StopIteration" 101), (eT P "SyntaxError" 102), (eT P "SystemError" 103), (eT P "TypeError" 104), (eT P "ValueError" 105), (eT P "Warning" 106), (eT P "FloatingPointError" 107), (eT P "OverflowError" 108), (eT P "ZeroDivisionError" 109), (eT P "BytesWarning" 110), (eT P "DeprecationWarning" 111), (eT P "EncodingWarning" 112), (eT P "FutureWarning" 113), (eT P "ImportWarning" 114), (eT P "PendingDeprecationWarning" 115), (eT P "ResourceWarning" 116), (eT P "RuntimeWarning" 117), (eT P "SyntaxWarning" 118), (eT P "UnicodeWarning" 119), (eT P "UserWarning" 120), (eT P "BlockingIOError" 121), (eT P "ChildProcessError" 122), (eT P "ConnectionError" 123), (eT P "FileExistsError" 124), (eT P "FileNotFoundError" 125), (eT P "InterruptedError" 126), (eT P "IsADirectoryError" 127), (eT P "NotADirectoryError" 128), (eT P "PermissionError" 129), (eT P "ProcessLookupError" 130), (eT P "TimeoutError" 131), (eT P "IndentationError" 132), (eT P "_IncompleteInputError" 133), (eT P "IndexError" 134), (eT P "KeyError" 135), (eT P "ModuleNotFoundError" 136), (eT P "NotImplementedError" 137), (eT P "PythonFinalizationError" 138), (eT P "RecursionError" 139), (eT P "UnboundLocalError" 140), (eT P "UnicodeError" 141), (eT P "BrokenPipeError" 142), (eT P "ConnectionAbortedError" 143), (eT P "ConnectionRefusedError" 144), (eT P "ConnectionResetError" 145), (eT P "TabError" 146), (eT P "UnicodeDecodeError" 147), (eT P "UnicodeEncodeError" 148), (eT P "UnicodeTranslateError" 149), (eT P "ExceptionGroup" 150), (E P "EnvironmentError" 151 (.type "OSError")), (E P "IOError" 152 (.type "OSError")), (eB P "open" 153), (E P "quit" 154 (.builtin "builtins.quit#opaque")), (E P "exit" 155 (.builtin "builtins.exit#opaque")), (E P "copyright" 156 (.builtin "builtins.copyright#opaque")), (E P "credits" 157 (.builtin "builtins.credits#opaque")), (E P "license" 158 (.builtin "builtins.license#opaque")), (E P "help" 159 (.builtin "builtins.help#opaque"))] 159), #[]⟩
def b1 : Obj := ⟨(.type "dict"), none, (.dict #[(eR P "builtins" 162 4), (eR P "__main__" 163 5)] 2), #[]⟩
def b2 : Obj := ⟨.none, none, (.dict #[] 0), #[]⟩
def b3 : Obj := ⟨(.type "dict"), none, (.dict #[(E P "__name__" 165 (.str "law_edgetally_k04_table_told" 393)), (E P "__doc__" 166 .none), (E P "__package__" 167 .none), (E P "__loader__" 168 (.builtin "__main__.__loader__#opaque")), (E P "__spec__" 169 .none), (eR P "__annotations__" 170 6), (eR P "__builtins__" 171 4), (E P "__file__" 173 (.str "/claim/cut.py" 172)), (E P "__cached__" 174 .none), (eR P "_wall" 193 21), (eR P "EdgeError" 223 38), (eR P "BadTable" 248 59), (E P "MOST" 252 (.int 40 251)), (E P "MOST_ROWS" 254 (.int 4 253)), (E P "MOST_COLUMNS" 256 (.int 6 255)), (eR P "check_rows" 262 66), (eR P "rows_turned" 268 71), (eR P "Table" 392 165), (eR P "_law_bag" 400 174), (eR P "_law_pull" 411 181), (eR P "_law_same" 417 186), (eR P "_law_turned" 423 191), (eR P "_law_rowsums" 429 196), (eR P "_law_columnsums" 435 201), (eR P "_law_copied" 441 206), (eR P "_law_any" 447 211), (eR P "_law_due" 453 216), (eR P "law" 469 223)] 28), #[]⟩
def b4 : Obj := ⟨(.type "module"), (some 0), .plain, #[]⟩
def b5 : Obj := ⟨(.type "module"), (some 3), .plain, #[]⟩
def b6 : Obj := ⟨(.type "dict"), none, (.dict #[] 0), #[]⟩
def b7 : Obj := tO []
def b8 : Obj := nO []
def b9 : Obj := cC "<module>" "<module>" 176 1 0 0 0 0 7 false 175 8 .none .none .none .none 179 1 180
def b10 : Obj := ⟨(.type "frame"), none, .plain, #[(some (.ref 9)), (some (.ref 3)), (some (.ref 3)), none, (some (.str "__main__" 164)), none, (some (.ref 0))]⟩
def b12 : Obj := nO [(.int 1 0), (.int 0 0), (.ref 20), (.int 5 0), (.int 0 0), (.ref 27), (.int 10 0), (.int 0 0), (.ref 47), (.int 18 0), (.int 0 0), (.ref 65), (.int 30 0), (.int 0 0), (.ref 70), (.int 33 0), (.int 0 0), (.ref 77), (.int 75 0), (.int 0 0), (.ref 173), (.int 77 0), (.int 0 0), (.ref 180), (.int 87 0), (.int 0 0), (.ref 185), (.int 99 0), (.int 0 0), (.ref 190), (.int 101 0), (.int 0 0), (.ref 195), (.int 103 0), (.int 0 0), (.ref 200), (.int 105 0), (.int 0 0), (.ref 205), (.int 107 0), (.int 0 0), (.ref 210), (.int 118 0), (.int 0 0), (.ref 215), (.int 131 0), (.int 0 0), (.ref 222)]
def b13 : Obj := cC "<module>" "<module>" 182 1 0 0 0 0 11 false 181 12 .none .none .none .none 185 1 186
def b14 : Obj := ⟨(.type "frame"), none, .plain, #[(some (.ref 13)), (some (.ref 3)), (some (.ref 3)), none, (some (.str "__main__" 164)), none, (some (.ref 0))]⟩
def b17 : Obj := tO [(.str "k" 190)]
def b19 : Obj := fB "_wall" "_wall" (top 0)
def b20 : Obj := cC "_wall" "_wall" 187 1 1 0 0 3 15 true 181 16 .none (.ref 17) (.ref 18) (.ref 19) 191 1 192
def b21 : Obj := fO (FN "_wall" "_wall" (top 0) .none .none .none (.str "__main__" 164) none (.ref 20) .none)
def b22 : Obj := tO [(.type "ValueError")]
def b23 : Obj := ⟨(.type "builtin_function_or_method"), none, (.fields #[(.builtin "type.__prepare__"), (.type "type")]), #[]⟩
def b24 : Obj := ⟨(.type "dict"), none, (.dict #[(E P "__module__" 203 (.str "edgetally.errors" 194)), (E P "__qualname__" 205 (.str "EdgeError" 204)), (E P "__firstlineno__" 207 (.int 5 206)), (eR P "__init__" 216 35), (eR P "__static_attributes__" 218 36)] 5), #[]⟩
def b26 : Obj := nO [(.int 7 0), (.int 4 0), (.ref 34)]
def b27 : Obj := cC "EdgeError" "EdgeError" 198 5 0 0 0 0 25 false 181 26 .none .none .none .none 201 5 202
def b28 : Obj := ⟨(.type "frame"), none, .plain, #[(some (.ref 27)), (some (.ref 3)), (some (.ref 24)), none, (some (.str "edgetally.errors" 194)), none, (some (.ref 0))]⟩
def b31 : Obj := tO [(.str "self" 211), (.str "word" 212), (.str "why" 213)]
def b33 : Obj := fB "__init__" "EdgeError.__init__" (aq (top 2) 0)
def b34 : Obj := cC "__init__" "EdgeError.__init__" 208 7 3 0 0 3 29 true 181 30 .none (.ref 31) (.ref 32) (.ref 33) 214 7 215
def b35 : Obj := fO (FN "__init__" "EdgeError.__init__" (aq (top 2) 0) .none .none .none (.str "edgetally.errors" 194) none (.ref 34) .none)
def b36 : Obj := tO [(.str "word" 217)]
def b37 : Obj := ⟨(.type "dict"), none, (.dict #[(E P "__module__" 203 (.str "edgetally.errors" 194)), (E P "__firstlineno__" 207 (.int 5 206)), (eR P "__init__" 216 35), (eR P "__static_attributes__" 218 36), (eR P "__weakref__" 220 39), (E P "__doc__" 221 .none)] 3), #[]⟩
def b38 : Obj := ⟨(.type "type"), none, (.cls ⟨"EdgeError", [(.type "ValueError")], [(.ref 38), (.type "ValueError"), (.type "Exception"), (.type "BaseException"), (.type "object")], 37, "EdgeError", true, [], [(.ref 59)], false, none, false⟩), #[(some (.ref 22)), none, (some (.str "EdgeError" 196)), (some (.str "EdgeError" 204)), (some (.builtin "ValueError.__new__")), (some (.bool true))]⟩
def b39 : Obj := ⟨(.type "getset_descriptor"), none, (.fields #[(.str "__weakref__" 219), (.ref 38), (.builtin "ExceptionGroup.__weakref__"), .none]), #[]⟩
def b40 : Obj := ⟨(.type "super"), none, (.fields #[(.ref 38), (.ref 38), (.ref 38)]), #[]⟩
def b41 : Obj := ⟨(.type "builtin_function_or_method"), none, (.fields #[(.builtin "object.__init_subclass__"), (.ref 38)]), #[]⟩
def b42 : Obj := tO [(.ref 38)]
def b44 : Obj := ⟨(.type "dict"), none, (.dict #[(E P "__module__" 231 (.str "edgetally.errors" 194)), (E P "__qualname__" 233 (.str "BadTable" 232)), (E P "__firstlineno__" 235 (.int 10 234)), (eR P "__init__" 244 56), (eR P "__static_attributes__" 245 57)] 5), #[]⟩
def b46 : Obj := nO [(.int 12 0), (.int 4 0), (.ref 55)]
def b47 : Obj := cC "BadTable" "BadTable" 226 10 0 0 0 0 45 false 181 46 .none .none .none .none 229 10 230
def b48 : Obj := ⟨(.type "frame"), none, .plain, #[(some (.ref 47)), (some (.ref 3)), (some (.ref 44)), none, (some (.str "edgetally.errors" 194)), none, (some (.ref 0))]⟩
def b49 : Obj := tO [(.str "these rows are no table's" 236)]
def b52 : Obj := tO [(.str "self" 240), (.str "why" 241)]
def b54 : Obj := fB "__init__" "BadTable.__init__" (aq (top 3) 0)
def b55 : Obj := cC "__init__" "BadTable.__init__" 237 12 2 0 0 3 50 true 181 51 .none (.ref 52) (.ref 53) (.ref 54) 242 12 243
def b56 : Obj := fO (FN "__init__" "BadTable.__init__" (aq (top 3) 0) (.ref 49) .none .none (.str "edgetally.errors" 194) none (.ref 55) .none)
def b58 : Obj := ⟨(.type "dict"), none, (.dict #[(E P "__module__" 231 (.str "edgetally.errors" 194)), (E P "__firstlineno__" 235 (.int 10 234)), (eR P "__init__" 244 56), (eR P "__static_attributes__" 245 57), (E P "__doc__" 246 .none)] 2), #[]⟩
def b59 : Obj := ⟨(.type "type"), none, (.cls ⟨"BadTable", [(.ref 38)], [(.ref 59), (.ref 38), (.type "ValueError"), (.type "Exception"), (.type "BaseException"), (.type "object")], 58, "BadTable", true, [], [], false, none, false⟩), #[(some (.ref 42)), none, (some (.str "BadTable" 224)), (some (.str "BadTable" 232)), (some (.builtin "ValueError.__new__")), (some (.bool true))]⟩
def b60 : Obj := ⟨(.type "super"), none, (.fields #[(.ref 59), (.ref 59), (.ref 59)]), #[]⟩
def b61 : Obj := ⟨(.type "builtin_function_or_method"), none, (.fields #[(.builtin "object.__init_subclass__"), (.ref 59)]), #[]⟩
def b64 : Obj := fB "check_rows" "check_rows" (top 8)
def b65 : Obj := cC "check_rows" "check_rows" 257 18 1 0 0 3 62 true 181 63 .none .none .none (.ref 64) 260 18 261
def b66 : Obj := fO (FN "check_rows" "check_rows" (top 8) .none .none .none (.str "edgetally.bounds" 249) none (.ref 65) .none)
def b69 : Obj := fB "rows_turned" "rows_turned" (top 9)
def b70 : Obj := cC "rows_turned" "rows_turned" 263 30 1 0 0 3 67 true 181 68 .none .none .none (.ref 69) 266 30 267
def b71 : Obj := fO (FN "rows_turned" "rows_turned" (top 9) .none .none .none (.str "edgetally.bounds" 249) none (.ref 70) .none)
def b74 : Obj := ⟨(.type "dict"), none, (.dict #[(E P "__module__" 278 (.str "edgetally.table" 269)), (E P "__qualname__" 280 (.str "Table" 279)), (E P "__firstlineno__" 282 (.int 33 281)), (eR P "__init__" 288 83), (eR P "__eq__" 296 90), (eR P "__len__" 303 97), (eR P "__str__" 309 102), (eR P "__repr__" 316 109), (eR P "cells" 322 114), (eR P "rowsums" 328 119), (eR P "columnsums" 334 124), (eR P "total" 341 131), (eR P "turned" 348 138), (eR P "joined" 359 146), (eR P "parted" 370 154), (eR P "more" 382 162), (eR P "__static_attributes__" 384 163)] 17), #[]⟩
def b76 : Obj := nO [(.int 35 0), (.int 4 0), (.ref 82), (.int 39 0), (.int 4 0), (.ref 89), (.int 42 0), (.int 4 0), (.ref 96), (.int 45 0), (.int 4 0), (.ref 101), (.int 48 0), (.int 4 0), (.ref 108), (.int 51 0), (.int 4 0), (.ref 113), (.int 54 0), (.int 4 0), (.ref 118), (.int 57 0), (.int 4 0), (.ref 123), (.int 60 0), (.int 4 0), (.ref 130), (.int 63 0), (.int 4 0), (.ref 137), (.int 66 0), (.int 4 0), (.ref 145), (.int 69 0), (.int 4 0), (.ref 153), (.int 72 0), (.int 4 0), (.ref 161)]
def b77 : Obj := cC "Table" "Table" 273 33 0 0 0 0 75 false 181 76 .none .none .none .none 276 33 277
def b78 : Obj := ⟨(.type "frame"), none, .plain, #[(some (.ref 77)), (some (.ref 3)), (some (.ref 74)), none, (some (.str "edgetally.table" 269)), none, (some (.ref 0))]⟩
def b81 : Obj := fB "__init__" "Table.__init__" (aq (top 11) 0)
def b82 : Obj := cC "__init__" "Table.__init__" 283 35 2 0 0 3 79 true 181 80 .none .none .none (.ref 81) 286 35 287
def b83 : Obj := fO (FN "__init__" "Table.__init__" (aq (top 11) 0) .none .none .none (.str "edgetally.table" 269) none (.ref 82) .none)
def b86 : Obj := tO [(.str "self" 292), (.str "other" 293)]
def b88 : Obj := fB "__eq__" "Table.__eq__" (aq (top 11) 1)
def b89 : Obj := cC "__eq__" "Table.__eq__" 289 39 2 0 0 3 84 true 181 85 .none (.ref 86) (.ref 87) (.ref 88) 294 39 295
def b90 : Obj := fO (FN "__eq__" "Table.__eq__" (aq (top 11) 1) .none .none .none (.str "edgetally.table" 269) none (.ref 89) .none)
def b93 : Obj := tO [(.str "self" 300)]
def b95 : Obj := fB "__len__" "Table.__len__" (aq (top 11) 2)
def b96 : Obj := cC "__len__" "Table.__len__" 297 42 1 0 0 3 91 true 181 92 .none (.ref 93) (.ref 94) (.ref 95) 301 42 302
def b97 : Obj := fO (FN "__len__" "Table.__len__" (aq (top 11) 2) .none .none .none (.str "edgetally.table" 269) none (.ref 96) .none)
def b100 : Obj := fB "__str__" "Table.__str__" (aq (top 11) 3)
def xF : Obj := cC "__str__" "Table.__str__" 304 45 1 0 0 3 98 true 181 99 .none .none .none (.ref 100) 307 45 308
def xE : Obj := fO (FN "__str__" "Table.__str__" (aq (top 11) 3) .none .none .none (.str "edgetally.table" 269) none (.ref 101) .none)
def b105 : Obj := tO [(.str "self" 313)]
def b107 : Obj := fB "__repr__" "Table.__repr__" (aq (top 11) 4)
def xD : Obj := cC "__repr__" "Table.__repr__" 310 48 1 0 0 3 103 true 181 104 .none (.ref 105) (.ref 106) (.ref 107) 314 48 315
def xC : Obj := fO (FN "__repr__" "Table.__repr__" (aq (top 11) 4) .none .none .none (.str "edgetally.table" 269) none (.ref 108) .none)
def b112 : Obj := fB "cells" "Table.cells" (aq (top 11) 5)
def xB : Obj := cC "cells" "Table.cells" 317 51 1 0 0 3 110 true 181 111 .none .none .none (.ref 112) 320 51 321
def xA : Obj := fO (FN "cells" "Table.cells" (aq (top 11) 5) .none .none .none (.str "edgetally.table" 269) none (.ref 113) .none)
def b117 : Obj := fB "rowsums" "Table.rowsums" (aq (top 11) 6)
def xz : Obj := cC "rowsums" "Table.rowsums" 323 54 1 0 0 3 115 true 181 116 .none .none .none (.ref 117) 326 54 327
def xy : Obj := fO (FN "rowsums" "Table.rowsums" (aq (top 11) 6) .none .none .none (.str "edgetally.table" 269) none (.ref 118) .none)
def b122 : Obj := fB "columnsums" "Table.columnsums" (aq (top 11) 7)
def xx : Obj := cC "columnsums" "Table.columnsums" 329 57 1 0 0 3 120 true 181 121 .none .none .none (.ref 122) 332 57 333
def xw : Obj := fO (FN "columnsums" "Table.columnsums" (aq (top 11) 7) .none .none .none (.str "edgetally.table" 269) none (.ref 123) .none)
def b127 : Obj := tO [(.str "self" 338)]
def b129 : Obj := fB "total" "Table.total" (aq (top 11) 8)
def xv : Obj := cC "total" "Table.total" 335 60 1 0 0 3 125 true 181 126 .none (.ref 127) (.ref 128) (.ref 129) 339 60 340
def xu : Obj := fO (FN "total" "Table.total" (aq (top 11) 8) .none .none .none (.str "edgetally.table" 269) none (.ref 130) .none)
def b134 : Obj := tO [(.str "self" 345)]
def b136 : Obj := fB "turned" "Table.turned" (aq (top 11) 9)
def b137 : Obj := cC "turned" "Table.turned" 342 63 1 0 0 3 132 true 181 133 .none (.ref 134) (.ref 135) (.ref 136) 346 63 347
def b138 : Obj := fO (FN "turned" "Table.turned" (aq (top 11) 9) .none .none .none (.str "edgetally.table" 269) none (.ref 137) .none)
def b139 : Obj := ⟨(.type "dict"), none, (.dict #[(E P "rows" 349 (.bool true))] 1), #[]⟩
def b142 : Obj := tO [(.str "self" 353), (.str "one" 354), (.str "other" 355), (.str "rows" 356)]
def b144 : Obj := fB "joined" "Table.joined" (aq (top 11) 10)
def b145 : Obj := cC "joined" "Table.joined" 350 66 3 0 1 3 140 true 181 141 .none (.ref 142) (.ref 143) (.ref 144) 357 66 358
def b146 : Obj := fO (FN "joined" "Table.joined" (aq (top 11) 10) .none (.ref 139) .none (.str "edgetally.table" 269) none (.ref 145) .none)
def b147 : Obj := ⟨(.type "dict"), none, (.dict #[(E P "rows" 360 (.bool true))] 1), #[]⟩
def b150 : Obj := tO [(.str "self" 364), (.str "one" 365), (.str "taken" 366), (.str "rows" 367)]
def b152 : Obj := fB "parted" "Table.parted" (aq (top 11) 11)
def b153 : Obj := cC "parted" "Table.parted" 361 69 3 0 1 3 148 true 181 149 .none (.ref 150) (.ref 151) (.ref 152) 368 69 369
def b154 : Obj := fO (FN "parted" "Table.parted" (aq (top 11) 11) .none (.ref 147) .none (.str "edgetally.table" 269) none (.ref 153) .none)
def b155 : Obj := ⟨(.type "dict"), none, (.dict #[(E P "many" 372 (.int 1 371))] 1), #[]⟩
def b158 : Obj := tO [(.str "self" 376), (.str "row" 377), (.str "column" 378), (.str "many" 379)]
def b160 : Obj := fB "more" "Table.more" (aq (top 11) 12)
def b161 : Obj := cC "more" "Table.more" 373 72 3 0 1 3 156 true 181 157 .none (.ref 158) (.ref 159) (.ref 160) 380 72 381
def b162 : Obj := fO (FN "more" "Table.more" (aq (top 11) 12) .none (.ref 155) .none (.str "edgetally.table" 269) none (.ref 161) .none)
def b163 : Obj := tO [(.str "counts" 383)]
def xt : Obj := ⟨(.type "dict"), none, (.dict #[(E P "__module__" 278 (.str "edgetally.table" 269)), (E P "__firstlineno__" 282 (.int 33 281)), (eR P "__init__" 288 83), (eR P "__eq__" 296 90), (eR P "__len__" 303 97), (eR P "__str__" 309 102), (eR P "__repr__" 316 109), (eR P "cells" 322 114), (eR P "rowsums" 328 119), (eR P "columnsums" 334 124), (eR P "total" 341 131), (eR P "turned" 348 138), (eR P "joined" 359 146), (eR P "parted" 370 154), (eR P "more" 382 162), (eR P "__static_attributes__" 384 163), (eR P "__dict__" 386 166), (eR P "__weakref__" 388 167), (E P "__doc__" 389 .none), (E P "__hash__" 390 .none)] 5), #[]⟩
def xq : Obj := ⟨(.type "type"), none, (.cls ⟨"Table", [(.type "object")], [(.ref 165), (.type "object")], 164, "Table", true, [], [], false, none, false⟩), #[none, none, (some (.str "Table" 271)), (some (.str "Table" 279)), (some (.builtin "object.__new__")), (some (.bool true))]⟩
def b166 : Obj := ⟨(.type "getset_descriptor"), none, (.fields #[(.str "__dict__" 385), (.ref 165), (.builtin "function.__dict__"), (.builtin "function.__dict__#set")]), #[]⟩
def b167 : Obj := ⟨(.type "getset_descriptor"), none, (.fields #[(.str "__weakref__" 387), (.ref 165), (.builtin "ExceptionGroup.__weakref__"), .none]), #[]⟩
def b168 : Obj := ⟨(.type "super"), none, (.fields #[(.ref 165), (.ref 165), (.ref 165)]), #[]⟩
def b169 : Obj := ⟨(.type "builtin_function_or_method"), none, (.fields #[(.builtin "object.__init_subclass__"), (.ref 165)]), #[]⟩
def b172 : Obj := fB "_law_bag" "_law_bag" (top 13)
def xp : Obj := cC "_law_bag" "_law_bag" 395 75 1 0 0 3 170 true 181 171 .none .none .none (.ref 172) 398 75 399
def xo : Obj := fL "_law_bag" "_law_bag" 13 173
def b177 : Obj := tO [(.str "_law_bag_here" 404), (.str "_law_lot" 405), (.str "_law_cells" 406), (.str "_law_at" 407), (.str "_law_cell" 408)]
def b179 : Obj := fB "_law_pull" "_law_pull" (top 14)
def xm : Obj := cC "_law_pull" "_law_pull" 401 77 2 0 0 3 175 true 181 176 .none (.ref 177) (.ref 178) (.ref 179) 409 77 410
def xl : Obj := fL "_law_pull" "_law_pull" 14 180
def b184 : Obj := fB "_law_same" "_law_same" (top 15)
def xk : Obj := cC "_law_same" "_law_same" 412 87 2 0 0 3 182 true 181 183 .none .none .none (.ref 184) 415 87 416
def xj : Obj := fL "_law_same" "_law_same" 15 185
def b189 : Obj := fB "_law_turned" "_law_turned" (top 16)
def xi : Obj := cC "_law_turned" "_law_turned" 418 99 1 0 0 3 187 true 181 188 .none .none .none (.ref 189) 421 99 422
def xh : Obj := fL "_law_turned" "_law_turned" 16 190
def b194 : Obj := fB "_law_rowsums" "_law_rowsums" (top 17)
def xg : Obj := cC "_law_rowsums" "_law_rowsums" 424 101 1 0 0 3 192 true 181 193 .none .none .none (.ref 194) 427 101 428
def xf : Obj := fL "_law_rowsums" "_law_rowsums" 17 195
def b199 : Obj := fB "_law_columnsums" "_law_columnsums" (top 18)
def xb : Obj := cC "_law_columnsums" "_law_columnsums" 430 103 1 0 0 3 197 true 181 198 .none .none .none (.ref 199) 433 103 434
def xa : Obj := fL "_law_columnsums" "_law_columnsums" 18 200
def b204 : Obj := fB "_law_copied" "_law_copied" (top 19)
def w9 : Obj := cC "_law_copied" "_law_copied" 436 105 1 0 0 3 202 true 181 203 .none .none .none (.ref 204) 439 105 440
def w8 : Obj := fL "_law_copied" "_law_copied" 19 205
def b209 : Obj := fB "_law_any" "_law_any" (top 20)
def w6 : Obj := cC "_law_any" "_law_any" 442 107 1 0 0 3 207 true 181 208 .none .none .none (.ref 209) 445 107 446
def w5 : Obj := fL "_law_any" "_law_any" 20 210
def b214 : Obj := fB "_law_due" "_law_due" (top 21)
def w4 : Obj := cC "_law_due" "_law_due" 448 118 2 0 0 3 212 true 181 213 .none .none .none (.ref 214) 451 118 452
def wZ : Obj := fL "_law_due" "_law_due" 21 215
def b219 : Obj := tO [(.str "_law_script" 457), (.str "_law_bag_here" 458), (.str "_law_block" 459), (.str "_law_handed" 460), (.str "_law_table" 461), (.str "_law_told" 462), (.str "_law_other" 463), (.str "_law_at" 464), (.str "_law_to" 465), (.str "_law_alike" 466)]
def b221 : Obj := fB "law" "law" (top 22)
def wY : Obj := cC "law" "law" 454 131 1 0 0 3 217 true 181 218 .none (.ref 219) (.ref 220) (.ref 221) 467 131 468
def wX : Obj := fL "law" "law" 22 222
def h0_3 : Obj := ⟨(.type "dict"), none, (.dict #[(E P "__name__" 165 (.str "__main__" 164)), (E P "__doc__" 166 .none), (E P "__package__" 167 .none), (E P "__loader__" 168 (.builtin "__main__.__loader__#opaque")), (E P "__spec__" 169 .none), (eR P "__annotations__" 170 6), (eR P "__builtins__" 171 4), (E P "__file__" 173 (.str "/claim/cut.py" 172)), (E P "__cached__" 174 .none)] 9), #[]⟩
def yo : Obj := nO []
def h1_3 : Obj := ⟨(.type "dict"), none, (.dict #[(E P "__name__" 165 (.str "__main__" 164)), (E P "__doc__" 166 .none), (E P "__package__" 167 .none), (E P "__loader__" 168 (.builtin "__main__.__loader__#opaque")), (E P "__spec__" 169 .none), (eR P "__annotations__" 170 6), (eR P "__builtins__" 171 4), (E P "__file__" 173 (.str "/claim/cut.py" 172)), (E P "__cached__" 174 .none)] 9), #[]⟩
def yj : Obj := nO [(.int 1 0), (.int 0 0), (.ref 20), (.int 5 0), (.int 0 0), (.ref 27), (.int 10 0), (.int 0 0), (.ref 47), (.int 18 0), (.int 0 0), (.ref 65), (.int 30 0), (.int 0 0), (.ref 70)]
def k1_3 : Obj := ⟨(.type "dict"), none, (.dict #[(E P "__name__" 165 (.str "edgetally.table" 269)), (E P "__doc__" 166 .none), (E P "__package__" 167 .none), (E P "__loader__" 168 (.builtin "__main__.__loader__#opaque")), (E P "__spec__" 169 .none), (eR P "__annotations__" 170 6), (eR P "__builtins__" 171 4), (E P "__file__" 173 (.str "/claim/cut.py" 172)), (E P "__cached__" 174 .none), (eR P "_wall" 193 21), (eR P "EdgeError" 223 38), (eR P "BadTable" 248 59), (E P "MOST" 252 (.int 40 251)), (E P "MOST_ROWS" 254 (.int 4 253)), (E P "MOST_COLUMNS" 256 (.int 6 255)), (eR P "check_rows" 262 66), (eR P "rows_turned" 268 71)] 17), #[]⟩
def h0H : Heap := ⟨⟨[b0 P, b1 P, b2, h0_3 P, b4, b5, b6, b7, b8, b9, b10]⟩, {}⟩
def h1H : Heap := ⟨⟨[b0 P, b1 P, b2, h1_3 P, b4, b5, b6, b7, b8, b9, b10, b7, yo, b13, b14]⟩, {}⟩
def k1H : Heap := ⟨⟨[b0 P, b1 P, b2, k1_3 P, b4, b5, b6, b7, b8, b9, b10, b7, yj, b13, b14, b7, b8, b17, b7, b19, b20, b21, b22, b23, b24 P, b7, b26, b27, b28, b7, b8, b31, b7, b33, b34, b35, b36, b37 P, b38, b39, b40, b41, b42, b23, b44 P, b7, b46, b47, b48, b49, b7, b8, b52, b7, b54, b55, b56, b7, b58 P, b59, b60, b61, b7, b8, b64, b65, b66, b7, b8, b69, b70, b71]⟩, {}⟩
def k2H : Heap := ⟨⟨[b0 P, b1 P, b2, b3 P, b4, b5, b6, b7, b8, b9, b10, b7, b12, b13, b14, b7, b8, b17, b7, b19, b20, b21, b22, b23, b24 P, b7, b26, b27, b28, b7, b8, b31, b7, b33, b34, b35, b36, b37 P, b38, b39, b40, b41, b42, b23, b44 P, b7, b46, b47, b48, b49, b7, b8, b52, b7, b54, b55, b56, b7, b58 P, b59, b60, b61, b7, b8, b64, b65, b66, b7, b8, b69, b70, b71, b7, b23, b74 P, b7, b76, b77, b78, b7, b8, b81, b82, b83, b7, b8, b86, b7, b88, b89, b90, b7, b8, b93, b7, b95, b96, b97, b7, b8, b100, xF, xE, b7, b8, b105, b7, b107, xD, xC, b7, b8, b112, xB, xA, b7, b8, b117, xz, xy, b7, b8, b122, xx, xw, b7, b8, b127, b7, b129, xv, xu, b7, b8, b134, b7, b136, b137, b138, b139 P, b7, b8, b142, b7, b144, b145, b146, b147 P, b7, b8, b150, b7, b152, b153, b154, b155 P, b7, b8, b158, b7, b160, b161, b162, b163, xt P, xq, b166, b167, b168, b169, b7, b8, b172, xp, xo, b7, b8, b177, b7, b179, xm, xl, b7, b8, b184, xk, xj, b7, b8, b189, xi, xh, b7, b8, b194, xg, xf, b7, b8, b199, xb, xa, b7, b8, b204, w9, w8, b7, b8, b209, w6, w5, b7, b8, b214, w4, wZ, b7, b8, b219, b7, b221, wY, wX]⟩, {}⟩
end
noncomputable def KH : Params -> Frag := fun P =>
[(2, b2), (3, b3 P), (34, b34), (35, b35), (37, b37 P), (38, b38), (49, b49), (55, b55), (56, b56), (58, b58 P), (59, b59), (65, b65), (66, b66), (70, b70), (71, b71), (82, b82), (83, b83), (89, b89), (90, b90), (96, b96), (97, b97), (101, xF), (102, xE), (108, xD), (109, xC), (113, xB), (114, xA), (118, xz), (119, xy), (123, xx), (124, xw), (130, xv), (131, xu), (164, xt P), (165, xq), (173, xp), (174, xo), (180, xm), (181, xl), (185, xk), (186, xj), (190, xi), (191, xh), (195, xg), (196, xf), (200, xb), (201, xa), (205, w9), (206, w8), (210, w6), (211, w5), (215, w4), (216, wZ), (222, wY), (223, wX)]
def aH : List Addr := [2, 3, 34, 35, 37, 38, 49, 55, 56, 58, 59, 65, 66, 70, 71, 82, 83, 89, 90, 96, 97, 101, 102, 108, 109, 113, 114, 118, 119, 123, 124, 130, 131, 164, 165, 173, 174, 180, 181, 185, 186, 190, 191, 195, 196, 200, 201, 205, 206, 210, 211, 215, 216, 222, 223]
theorem eH : ∀ P, aH = (KH P).map (·.1) := fun _ => by kernel_rfl
def qH : Program := { PySem.Challenge.pw_edgetally_k04_table_told with main := { PySem.Challenge.pw_edgetally_k04_table_told.main with body := [top 0, top 2, top 3, top 5, top 6, top 7, top 8, top 9, top 11, top 13, top 14, top 15, top 16, top 17, top 18, top 19, top 20, top 21, top 22] } }
abbrev lvH : List (Str × PySem.W.WData) := []
abbrev loH : List Str := ["BadTable", "Table"]
noncomputable abbrev hkH := PySem.W.kHook KH aH eH
def xtH (s : Shared) : Bool := PySem.W.xlAt qH lvH s && PySem.W.recOk (PySem.W.RowW.records (PySem.W.OpenRow.toRowW (PySem.W.OpenLaw.row PySem.Challenge.rw_edgetally_k04_table_told))) s
abbrev pH : Program := PySem.W.RowW.prog (PySem.W.OpenRow.toRowW (PySem.W.OpenLaw.row PySem.Challenge.rw_edgetally_k04_table_told))
def bdH : List Stmt := PySem.W.behindTheImports pH
def evH : Env := { scope := pH.main.scope, locals := mainNs, globals := mainNs, cells := [], code := (.ref 13), frame := (some 14) }
def cH : Code := .body bdH evH
abbrev tpH : List Frame := [PySem.W.topFrame ⟨0, 0, 0, 0⟩]
theorem opH (w : World) : (PySem.W.fencedOpening PySem.treeTable pH w 3122).map (fun s => (s.heap, s.gens, s.drawn, s.toks)) = some (h0H w.params, #[], {}, 181) := by kernel_rfl
theorem szH (w : World) : ((h0H w.params).isNs mainGlobals && (#[] : Array GenState).size == 0, (h0H w.params).objs.size, (h0H w.params).nsMap mainGlobals "__annotations__") = (true, 11, (some (.ref 6))) := by kernel_rfl
theorem r1H (w : World) (os : OsState) : PySem.W.topGo PySem.treeTable pH w 11 (some (.ref 6)) 12 ⟨h0H w.params, #[], {}, 181, os⟩ (PySem.W.topStub pH) = some (⟨h1H w.params, #[], {}, 187, os⟩, ⟨denote PySem.treeTable (.body bdH evH), cH, ⟨0, 0, 0, 0⟩, tpH⟩) := by kernel_rfl
theorem r2H (w : World) (os : OsState) : PySem.W.segRun PySem.treeTable pH w 11 (some (.ref 6)) 1 1 ⟨h1H w.params, #[], {}, 187, os⟩ (PySem.W.blockOf bdH evH cH ⟨0, 0, 0, 0⟩ tpH) = some (.next, ⟨h1H w.params, #[], {}, 187, os⟩, cH, ⟨0, 0, 0, 0⟩) := by kernel_rfl
theorem c1H (w : World) (os : OsState) : PySem.W.segRun PySem.treeTable pH w 11 (some (.ref 6)) 1 601 ⟨h1H w.params, #[], {}, 187, os⟩ (PySem.W.piecesOf (bdH.take 11) evH cH ⟨0, 0, 0, 0⟩ tpH) = some (.next, ⟨k1H w.params, #[], {}, 271, os⟩, cH, ⟨32, 0, 32, 8⟩) := by kernel_rfl
theorem c2H (w : World) (os : OsState) : PySem.W.segRun PySem.treeTable pH w 11 (some (.ref 6)) 1 899 ⟨k1H w.params, #[], {}, 271, os⟩ (PySem.W.piecesOf ((bdH.drop 11).take 12) evH cH ⟨32, 0, 32, 8⟩ tpH) = some (.next, ⟨k2H w.params, #[], {}, 470, os⟩, cH, ⟨131, 0, 156, 124⟩) := by kernel_rfl
theorem e0H : ((bdH.drop 11).drop 12) = [] := by kernel_rfl
theorem r9H (w : World) (os : OsState) : PySem.W.topRun PySem.treeTable pH w 11 (some (.ref 6)) 2 ⟨k2H w.params, #[], {}, 470, os⟩ ⟨PySem.W.doneF .next, cH, ⟨131, 0, 156, 124⟩, tpH⟩ = some ⟨k2H w.params, #[], {}, 470, os⟩ := by kernel_rfl
theorem rnH (w : World) (os : OsState) : PySem.W.topRun PySem.treeTable pH w 11 (some (.ref 6)) (12 + (1 + (601 + (899 + 2)))) ⟨h0H w.params, #[], {}, 181, os⟩ (PySem.W.topStub pH) = some ⟨k2H w.params, #[], {}, 470, os⟩ := PySem.W.go_top (r1H w os) (PySem.W.piece_block (r2H w os) (np 11 (c1H w os) (np 12 (c2H w os) (sK e0H (r9H w os)))))
theorem hlH : PySem.W.LeftO pH qH loH xtH (PySem.W.Hook.obs hkH) (PySem.W.Hook.val hkH) 3122 := PySem.W.LeftO.of_pieces (H₀ := h0H) (H₁ := k2H) opH szH rnH (by decide +kernel) fun w => by kernel_rfl
theorem wsH : PySem.W.OpenLaw.wellSaid PySem.Challenge.rw_edgetally_k04_table_told = true := by decide +kernel
theorem okH : (PySem.W.chainsOk qH && PySem.W.opensWell (PySem.W.RowW.prog (PySem.W.OpenRow.toRowW (PySem.W.OpenLaw.row PySem.Challenge.rw_edgetally_k04_table_told))) && (PySem.W.frees (PySem.W.OpenRow.toRowW (PySem.W.OpenLaw.row PySem.Challenge.rw_edgetally_k04_table_told)) && (PySem.W.RowW.within (PySem.W.OpenRow.toRowW (PySem.W.OpenLaw.row PySem.Challenge.rw_edgetally_k04_table_told))).isEmpty)) = true := by decide +kernel
abbrev adH : Ad := { C_EdgeError := 38, x_EdgeError := 35, y_EdgeError := FN "__init__" "EdgeError.__init__" (aq (top 2) 0) .none .none .none (.str "edgetally.errors" 194) none (.ref 34) .none, C_BadTable := 59, x_BadTable := 56, y_BadTable := FN "__init__" "BadTable.__init__" (aq (top 3) 0) (.ref 49) .none .none (.str "edgetally.errors" 194) none (.ref 55) .none, C_Table := 165, f_check_rows := 66, d_check_rows := FN "check_rows" "check_rows" (top 8) .none .none .none (.str "edgetally.bounds" 249) none (.ref 65) .none, f_rows_turned := 71, d_rows_turned := FN "rows_turned" "rows_turned" (top 9) .none .none .none (.str "edgetally.bounds" 249) none (.ref 70) .none, f_l_bag := 174, d_l_bag := FN "_law_bag" "_law_bag" (top 13) .none .none .none (.str "law_edgetally_k04_table_told" 393) none (.ref 173) .none, f_l_pull := 181, d_l_pull := FN "_law_pull" "_law_pull" (top 14) .none .none .none (.str "law_edgetally_k04_table_told" 393) none (.ref 180) .none, f_l_same := 186, d_l_same := FN "_law_same" "_law_same" (top 15) .none .none .none (.str "law_edgetally_k04_table_told" 393) none (.ref 185) .none, f_l_turned := 191, d_l_turned := FN "_law_turned" "_law_turned" (top 16) .none .none .none (.str "law_edgetally_k04_table_told" 393) none (.ref 190) .none, f_l_rowsums := 196, d_l_rowsums := FN "_law_rowsums" "_law_rowsums" (top 17) .none .none .none (.str "law_edgetally_k04_table_told" 393) none (.ref 195) .none, f_l_columnsums := 201, d_l_columnsums := FN "_law_columnsums" "_law_columnsums" (top 18) .none .none .none (.str "law_edgetally_k04_table_told" 393) none (.ref 200) .none, f_l_copied := 206, d_l_copied := FN "_law_copied" "_law_copied" (top 19) .none .none .none (.str "law_edgetally_k04_table_told" 393) none (.ref 205) .none, f_l_any := 211, d_l_any := FN "_law_any" "_law_any" (top 20) .none .none .none (.str "law_edgetally_k04_table_told" 393) none (.ref 210) .none, f_l_due := 216, d_l_due := FN "_law_due" "_law_due" (top 21) .none .none .none (.str "law_edgetally_k04_table_told" 393) none (.ref 215) .none, f_Table___init__ := 83, d_Table___init__ := FN "__init__" "Table.__init__" (aq (top 11) 0) .none .none .none (.str "edgetally.table" 269) none (.ref 82) .none, f_Table_cells := 114, d_Table_cells := FN "cells" "Table.cells" (aq (top 11) 5) .none .none .none (.str "edgetally.table" 269) none (.ref 113) .none, f_Table___repr__ := 109, d_Table___repr__ := FN "__repr__" "Table.__repr__" (aq (top 11) 4) .none .none .none (.str "edgetally.table" 269) none (.ref 108) .none, f_Table_columnsums := 124, d_Table_columnsums := FN "columnsums" "Table.columnsums" (aq (top 11) 7) .none .none .none (.str "edgetally.table" 269) none (.ref 123) .none, f_Table___str__ := 102, d_Table___str__ := FN "__str__" "Table.__str__" (aq (top 11) 3) .none .none .none (.str "edgetally.table" 269) none (.ref 101) .none, f_Table_total := 131, d_Table_total := FN "total" "Table.total" (aq (top 11) 8) .none .none .none (.str "edgetally.table" 269) none (.ref 130) .none, f_Table_rowsums := 119, d_Table_rowsums := FN "rowsums" "Table.rowsums" (aq (top 11) 6) .none .none .none (.str "edgetally.table" 269) none (.ref 118) .none, f_Table___len__ := 97, d_Table___len__ := FN "__len__" "Table.__len__" (aq (top 11) 2) .none .none .none (.str "edgetally.table" 269) none (.ref 96) .none, f_Table___eq__ := 90, d_Table___eq__ := FN "__eq__" "Table.__eq__" (aq (top 11) 1) .none .none .none (.str "edgetally.table" 269) none (.ref 89) .none, f_law := 223, d_law := FN "law" "law" (top 22) .none .none .none (.str "law_edgetally_k04_table_told" 393) none (.ref 222) .none }
section
variable {P : Params} {h : Heap} {mg : Str -> Option Value}
theorem fH {x q : Str} {s : Stmt} {f : Addr} {dV kV dc pm cd ct : Value} {an : Option Addr} (l : (KH P).lookup f = some (fO (FN x q s dV kV dc pm an cd ct)) := by kernel_rfl) (c : PySem.W.codeIn (KH P) cd q = true := by kernel_rfl) (k : keepIn (KH P) (.ref f) = true := by kernel_rfl) : FunD (KH P) x q s f (FN x q s dV kV dc pm an cd ct) := u9 l c k
theorem mO (X : (KH P).In h) (G : h.Ns mainGlobals mg) {n : Str} {v : Value} (e : PySem.W.nsIn (KH P) mainGlobals n = some (some v) := by kernel_rfl) : mg n = some v := mg_of X G e
theorem mN (X : (KH P).In h) (G : h.Ns mainGlobals mg) {n : Str} (e : PySem.W.nsIn (KH P) mainGlobals n = some none := by kernel_rfl) : mg n = none := PySem.W.mg_none_of X G e
theorem nH (X : (KH P).In h) (G : h.Ns mainGlobals mg) : Fns (KH P) mg adH where
 n_ValueError := mN X G
 n_abs := mN X G
 n_any := mN X G
 n_bool := mN X G
 n_int := mN X G
 n_isinstance := mN X G
 n_len := mN X G
 n_list := mN X G
 n_min := mN X G
 n_range := mN X G
 n_repr := mN X G
 n_str := mN X G
 n_sum := mN X G
 n_tuple := mN X G
 n_zip := mN X G
 g_MOST := nJ (u := (.int 40 251)) (mO X G) kF
 g_MOST_COLUMNS := nJ (u := (.int 6 255)) (mO X G) kF
 g_MOST_ROWS := nJ (u := (.int 4 253)) (mO X G) kF
 F_check_rows := fH
 m_check_rows := mO X G
 b_check_rows := .all fun us hl => by obtain ⟨_, rfl⟩ := lU1 hl; rfl
 F_rows_turned := fH
 m_rows_turned := mO X G
 b_rows_turned := .all fun us hl => by obtain ⟨_, rfl⟩ := lU1 hl; rfl
 F_l_bag := fH
 m_l_bag := mO X G
 b_l_bag := .all fun us hl => by obtain ⟨_, rfl⟩ := lU1 hl; rfl
 F_l_pull := fH
 m_l_pull := mO X G
 b_l_pull := .all fun us hl => by obtain ⟨_, _, rfl⟩ := lU2 hl; rfl
 F_l_same := fH
 m_l_same := mO X G
 b_l_same := .all fun us hl => by obtain ⟨_, _, rfl⟩ := lU2 hl; rfl
 F_l_turned := fH
 m_l_turned := mO X G
 b_l_turned := .all fun us hl => by obtain ⟨_, rfl⟩ := lU1 hl; rfl
 F_l_rowsums := fH
 m_l_rowsums := mO X G
 b_l_rowsums := .all fun us hl => by obtain ⟨_, rfl⟩ := lU1 hl; rfl
 F_l_columnsums := fH
 m_l_columnsums := mO X G
 b_l_columnsums := .all fun us hl => by obtain ⟨_, rfl⟩ := lU1 hl; rfl
 F_l_copied := fH
 m_l_copied := mO X G
 b_l_copied := .all fun us hl => by obtain ⟨_, rfl⟩ := lU1 hl; rfl
 F_l_any := fH
 m_l_any := mO X G
 b_l_any := .all fun us hl => by obtain ⟨_, rfl⟩ := lU1 hl; rfl
 F_l_due := fH
 m_l_due := mO X G
 b_l_due := .all fun us hl => by obtain ⟨_, _, rfl⟩ := lU2 hl; rfl
 F_Table___init__ := fH
 mk_Table := ⟨by kernel_rfl, by kernel_rfl, by kernel_rfl, by kernel_rfl⟩
 b_Table___init__ := .all fun us hl => by obtain ⟨_, _, rfl⟩ := lU2 hl; rfl
 F_Table_cells := fH
 mt_Table_cells := ⟨by kernel_rfl, by kernel_rfl, by kernel_rfl⟩
 b_Table_cells := .all fun us hl => by obtain ⟨_, rfl⟩ := lU1 hl; rfl
 F_Table___repr__ := fH
 mt_Table___repr__ := ⟨by kernel_rfl, by kernel_rfl, by kernel_rfl⟩
 b_Table___repr__ := .all fun us hl => by obtain ⟨_, rfl⟩ := lU1 hl; rfl
 F_Table_columnsums := fH
 mt_Table_columnsums := ⟨by kernel_rfl, by kernel_rfl, by kernel_rfl⟩
 b_Table_columnsums := .all fun us hl => by obtain ⟨_, rfl⟩ := lU1 hl; rfl
 F_Table___str__ := fH
 mt_Table___str__ := ⟨by kernel_rfl, by kernel_rfl, by kernel_rfl⟩
 b_Table___str__ := .all fun us hl => by obtain ⟨_, rfl⟩ := lU1 hl; rfl
 F_Table_total := fH
 mt_Table_total := ⟨by kernel_rfl, by kernel_rfl, by kernel_rfl⟩
 b_Table_total := .all fun us hl => by obtain ⟨_, rfl⟩ := lU1 hl; rfl
 F_Table_rowsums := fH
 mt_Table_rowsums := ⟨by kernel_rfl, by kernel_rfl, by kernel_rfl⟩
 b_Table_rowsums := .all fun us hl => by obtain ⟨_, rfl⟩ := lU1 hl; rfl
 F_Table___len__ := fH
 mt_Table___len__ := ⟨by kernel_rfl, by kernel_rfl, by kernel_rfl⟩
 b_Table___len__ := .all fun us hl => by obtain ⟨_, rfl⟩ := lU1 hl; rfl
 F_Table___eq__ := fH
 mt_Table___eq__ := ⟨by kernel_rfl, by kernel_rfl, by kernel_rfl⟩
 b_Table___eq__ := .all fun us hl => by obtain ⟨_, _, rfl⟩ := lU2 hl; rfl
 cl_Table := ⟨by kernel_rfl, by kernel_rfl, by kernel_rfl, by kernel_rfl⟩
 m_Table := mO X G
 ic_Table := ⟨⟨by kernel_rfl, by kernel_rfl, by kernel_rfl, by kernel_rfl⟩, by kernel_rfl, by kernel_rfl, by kernel_rfl, by kernel_rfl⟩
 sl_Table := by kernel_rfl
 na_Table_counts := show findIn (KH P) _ _ = _ by kernel_rfl
 FX_EdgeError := fH
 b_EdgeError := .all fun us hl => by obtain ⟨_, _, _, rfl⟩ := lU3 hl; rfl
 m_EdgeError := mO X G
 FX_BadTable := fH
 b_BadTable := fun s us KX hl => by rw [List.append_nil] at hl; obtain ⟨_, _, rfl⟩ := lU2 hl; exact BindsTo.of_defaults (T := 49) rfl (KX _ _ (show (KH P).lookup 49 = some (tO [(.str "these rows are no table's" 236)]) by kernel_rfl)) rfl rfl rfl
 m_BadTable := mO X G
 xm_BadTable := ⟨xK (N := 58) (nm := "BadTable") (q := "BadTable") (bs := [(.ref 38)]) (bm := [(.ref 38), (.type "ValueError"), (.type "Exception"), (.type "BaseException"), (.type "object")]) (hdct := true) (sn := []) (sub := []) (ab := false) (col := none) (dd := none) (k0 := (some (.ref 42))) (k1 := none) (k2 := (some (.str "BadTable" 224))) (k3 := (some (.str "BadTable" 232))) (k5 := (some (.bool true))) (cd := ⟨"BadTable", [(.ref 38)], [(.ref 59), (.ref 38), (.type "ValueError"), (.type "Exception"), (.type "BaseException"), (.type "object")], 58, "BadTable", true, [], [], false, none, false⟩) (by kernel_rfl) (by kernel_rfl) (by kernel_rfl) (by kernel_rfl), by kernel_rfl, by kernel_rfl, by kernel_rfl⟩
 w_BadTable := by kernel_rfl
 cE := ⟨by kernel_rfl, by kernel_rfl, by kernel_rfl, by kernel_rfl⟩
end
theorem wlkH : PySem.W.WalkO qH loH (PySem.W.XL qH lvH) (PySem.W.Hook.says hkH) (PySem.W.OpenRow.toRowW (PySem.W.OpenLaw.row PySem.Challenge.rw_edgetally_k04_table_told)) (Option.get (PySem.W.defOf qH "law") rfl).1 [] (fun f vs => PySem.call f vs) :=
 L2.walk_of (n := 63) (k := 9) (x := "_law_script") (CX := fun w => CXE _ w) (sp := fun w => tF (KH w.params)) rfl (by decide) rfl ⟨rfl, by decide, by decide, rfl⟩ (fun w h Y => PySem.W.kIn_of Y) (fun w mg fa h KX G hmg => by
  have e := hmg.symm.trans (mg_of KX G (v := .ref 223) (by kernel_rfl))
  cases e
  exact ⟨FN "law" "law" (top 22) .none .none .none (.str "law_edgetally_k04_table_told" 393) none (.ref 222) .none, fun s v => .of_eq rfl, fun base _ _ => wt _ _ _ (a := adH) (fH (by kernel_rfl) (by kernel_rfl) (by kernel_rfl)) (nH KX G) fun β ok => sB (K := KH w.params) (a := adH) (by kernel_rfl) β ok⟩) (fun _ _ a ns hl _ hS => ⟨a, ns, rfl, hS, hl, fun _ => rfl⟩) fun _ _ _ _ _ h => by obtain ⟨x, C, H', _, fl⟩ := h; exact fl.wish
end Law
open PySem PySem.W PyProof.Rows
set_option maxHeartbeats 0 in
theorem PySem.Challenge.cw_edgetally_k04_table_told_holds : PySem.Challenge.rw_edgetally_k04_table_told.Holds := by
 w_on
 refine holds_law Law.wsH fun said => ?_
 refine holds_open (q := Law.qH) (loose := Law.loH) (Xt := Law.xtH) (XP := XL Law.qH Law.lvH) (Yf := Hook.obs Law.hkH) (Ya := Hook.val Law.hkH) (YP := Hook.says Law.hkH) (N := 3122) Law.hlH (Hook.of Law.hkH) (Hook.keeps Law.hkH) (fun s e => xl_of s (Bool.and_eq_true_iff.mp e).1) XL.keeps (by rfl) (by rfl) (by rfl) (fun s e => recFacts_of (Bool.and_eq_true_iff.mp e).2) (by rfl) said Law.okH ⟨rfl, rfl, rfl, rfl, rfl, by decide +kernel⟩ ?hw ?hc
 case hw => w_witness2
 exact Law.wlkH
