/- Slices of whatever elements, as they lie in memory: one that is read, one of the call's own; append; a block that is written into; which blocks a call may have turned. For any program. No condition. -/
import Derived.WalkKit
import Derived.ProofKit
import Derived.Outline
import Derived.WalkLawsBesides
import Derived.WalkSpells
import Derived.OwnWalk
import Derived.Below
import Derived.Maps.AppendAt
import Derived.Laws.AppendOwnNone
import Derived.Laws.OwnMore
import Derived.Deep.AppendLies
import Derived.Deep.QuietTactic
import Derived.BigQuiet
import Derived.Lib.Hide
set_option linter.unusedVariables false
set_option linter.unusedSimpArgs false
set_option linter.unusedVariables false
set_option linter.unusedSimpArgs false
namespace Go.Proofs.Ytfjnbjpenibpkaa.Kd
open Go.RowKit

/-! ### Which blocks have turned -/
/-- w is a, later: of a's blocks only some in S may have turned -/
structure But (S : Nat → Prop) (a w : World) : Prop where
  os : w.os = a.os
  tape : w.tape = a.tape
  output : w.output = a.output
  size : a.heap.size ≤ w.heap.size
  block : ∀ k, k < a.heap.size → ¬ S k → w.heap[k]? = a.heap[k]?
section
variable {S T : Nat → Prop} {a w w' : World}
theorem But.refl (S : Nat → Prop) (a : World) : But S a a := ⟨rfl, rfl, rfl, Nat.le_refl _, fun _ _ _ => rfl⟩
theorem But.trans (h : But S a w) (k : But T w w') (hT : ∀ i, i < a.heap.size → T i → S i) : But S a w' :=
  ⟨k.os.trans h.os, k.tape.trans h.tape, k.output.trans h.output, Nat.le_trans h.size k.size, fun i hi hn => (k.block i (Nat.lt_of_lt_of_le hi h.size) (fun ht => hn (hT i hi ht))).trans (h.block i hi hn)⟩
theorem But.mono (h : But S a w) (hS : ∀ i, i < a.heap.size → S i → T i) : But T a w := ⟨h.os, h.tape, h.output, h.size, fun i hi hn => h.block i hi (fun hs => hn (hS i hi hs))⟩
theorem But.of_below (h : Below a.heap.size a w) (S : Nat → Prop) : But S a w := ⟨h.os, h.tape, h.output, h.size, fun i hi _ => h.block i hi⟩
theorem But.of_grown {row : Option Nat} (h : a.grownBy w row) (hr : ∀ g, row = some g → g < a.heap.size → S g) : But S a w := ⟨h.os, h.tape, h.output, h.size, fun i hi hn => h.block i hi (fun e => hn (hr i e.symm hi))⟩
theorem But.drewN (h : But S a w) (n : Nat) : But S a (w.drewN n) := ⟨h.os, h.tape, h.output, h.size, h.block⟩
theorem But.drew (h : But S a w) : But S a w.drew := ⟨h.os, h.tape, h.output, h.size, h.block⟩
theorem But.alloc (h : But S a w) (o : Obj) : But S a (w.alloc o) :=
  ⟨h.os, h.tape, h.output, Nat.le_trans h.size (by simp), fun i hi hn => (Below.heap_alloc w o i (Nat.lt_of_lt_of_le hi h.size)).trans (h.block i hi hn)⟩
theorem But.setCell (h : But S a w) {p : Addr} (hp : p.block < a.heap.size → S p.block) (u : Value) : But S a (w.setCell p u) :=
  ⟨h.os, h.tape, h.output, by simpa [World.setCell] using h.size, fun i hi hn => (Below.heap_setCell w p u i (by rintro rfl; exact hn (hp hi))).trans (h.block i hi hn)⟩
theorem But.to_below {B : Nat} (h : But S a w) (hS : ∀ i, i < a.heap.size → S i → B ≤ i) (hB : B ≤ a.heap.size) : Below B a w :=
  ⟨h.os, h.tape, h.output, h.size, fun i hi => h.block i (by omega) (fun hs => by have := hS i (by omega) hs; omega)⟩
theorem Below_drewN {B : Nat} (h : Below B a w) (n : Nat) : Below B a (w.drewN n) := ⟨h.os, h.tape, h.output, h.size, h.block⟩
end
theorem heap_lt {w : World} {g : Nat} {o : Obj} (h : w.heap[g]? = some o) : g < w.heap.size := by
  rcases Nat.lt_or_ge g w.heap.size with hlt | hge
  · exact hlt
  · rw [Array.getElem?_eq_none hge] at h; cases h
theorem heap_ne {w : World} {g g' : Nat} {t t' : TypeId} {c c' : Array Value} {f f' : Nat × Nat} (h : w.heap[g]? = some (.cells c t f)) (h' : w.heap[g']? = some (.cells c' t' f')) (hne : t ≠ t') : g ≠ g' := by
  rintro rfl
  rw [h] at h'
  injection h' with h'
  injection h' with _ ht
  exact hne ht
theorem heap_up {w : World} {o x : Obj} {g : Nat} (h : w.heap[g]? = some x) : (w.alloc o).heap[g]? = some x := (Below.heap_alloc w o g (heap_lt h)).trans h
theorem heap_set {w : World} {g : Nat} {cur : Array Value} {t : TypeId} {fr : Nat × Nat} (h : w.heap[g]? = some (.cells cur t fr)) (o : Nat) (u : Value) : (w.setCell ⟨g, o, none⟩ u).heap[g]? = some (.cells (cur.setIfInBounds o u) t fr) := by
  simp [World.setCell, Array.getElem?_modify, h]
theorem heap_setCells (g : Nat) : ∀ (vs : List Value) (o : Nat) (w : World) (cur : Array Value) (t : TypeId) (fr : Nat × Nat), w.heap[g]? = some (.cells cur t fr) →
    ∃ cur', (w.setCells g o vs).heap[g]? = some (.cells cur' t fr) ∧ cur'.size = cur.size ∧ ∀ k, k < cur.size → cur'[k]? = if o ≤ k ∧ k < o + vs.length then vs[k - o]? else cur[k]?
  | [], o, w, cur, t, fr, h => ⟨cur, h, rfl, fun k _ => by rw [if_neg (by simp only [List.length_nil]; omega)]⟩
  | v :: r, o, w, cur, t, fr, h => by
    obtain ⟨cur', h1, h2, h3⟩ := heap_setCells g r (o + 1) _ _ _ _ (heap_set h o v)
    refine ⟨cur', h1, by rw [h2, Array.size_setIfInBounds], fun k hk => ?_⟩
    rw [h3 k (by rw [Array.size_setIfInBounds]; exact hk), List.length_cons]
    by_cases e : k = o
    · subst e
      rw [if_neg (by omega), if_pos (by omega), Nat.sub_self, Array.getElem?_setIfInBounds_self_of_lt hk]
      rfl
    · by_cases hr : o + 1 ≤ k ∧ k < o + 1 + r.length
      · rw [if_pos hr, if_pos (by omega), show k - o = k - (o + 1) + 1 by omega, List.getElem?_cons_succ]
      · rw [if_neg hr, if_neg (by omega), Array.getElem?_setIfInBounds_ne (Ne.symm e)]
theorem heap_setCells_far (g : Nat) {k : Nat} (hk : k ≠ g) : ∀ (vs : List Value) (o : Nat) (w : World), (w.setCells g o vs).heap[k]? = w.heap[k]?
  | [], _, _ => rfl
  | v :: r, o, w => by rw [World.setCells, heap_setCells_far g hk r, Below.heap_setCell w _ _ _ hk]
theorem setCells_same (g : Nat) : ∀ (vs : List Value) (o : Nat) (w : World), (w.setCells g o vs).os = w.os ∧ (w.setCells g o vs).tape = w.tape ∧ (w.setCells g o vs).output = w.output ∧ (w.setCells g o vs).heap.size = w.heap.size
  | [], _, _ => ⟨rfl, rfl, rfl, rfl⟩
  | v :: r, o, w => by
    obtain ⟨h1, h2, h3, h4⟩ := setCells_same g r (o + 1) (w.setCell ⟨g, o, none⟩ v)
    exact ⟨h1, h2, h3, h4.trans (by simp [World.setCell])⟩
theorem But.setCells {S : Nat → Prop} {a w : World} {g : Nat} (h : But S a w) (hg : g < a.heap.size → S g) (o : Nat) (vs : List Value) : But S a (w.setCells g o vs) := by
  obtain ⟨h1, h2, h3, h4⟩ := setCells_same g vs o w
  refine ⟨h1.trans h.os, h2.trans h.tape, h3.trans h.output, by rw [h4]; exact h.size, fun i hi hn => ?_⟩
  rw [heap_setCells_far g (by rintro rfl; exact hn (hg hi))]
  exact h.block i hi hn

/-! ### Elements of a kind -/
/-- a slice's type and its element's: how many cells an element has, and which -/
structure Kind (P : Program) (α : Type) where
  t : TypeId
  e : TypeId
  size : Nat
  bytes : Nat
  z : Value
  cs : α → List Value
  ht : P.underlying t = some (.slice e)
  info : ∃ i, P.info? e = some i ∧ i.zero = some z ∧ i.size = size ∧ i.bytes = bytes
  hzs : z.cells.size = size
  hpos : 0 < size
  hbb : bytes ≤ 256
  len : ∀ a, (cs a).length = size
  one : ∀ a, ∀ u ∈ cs a, u.oneCell' = true

section
variable {P : Program} {α : Type} (K : Kind P α)
def Kind.cells (l : List α) : List Value := l.flatMap K.cs
theorem Kind.cells_len (l : List α) : (K.cells l).length = l.length * K.size := by
  induction l with
  | nil => simp [Kind.cells]
  | cons a l ih =>
    simp only [Kind.cells, List.flatMap_cons, List.length_append, List.length_cons] at ih ⊢
    rw [ih, K.len, Nat.succ_mul, Nat.add_comm]
theorem Kind.cells_append (l m : List α) : K.cells (l ++ m) = K.cells l ++ K.cells m := by simp [Kind.cells]
theorem Kind.cells_take (l : List α) (k : Nat) : K.cells (l.take k) = (K.cells l).take (k * K.size) := by
  rcases Nat.lt_or_ge k l.length with h | h
  · have e : K.cells l = K.cells (l.take k) ++ K.cells (l.drop k) := by rw [← Kind.cells_append, List.take_append_drop]
    have hl : (K.cells (l.take k)).length = k * K.size := by rw [Kind.cells_len, List.length_take, Nat.min_eq_left (by omega)]
    rw [e, ← hl, List.take_left]
  · rw [List.take_of_length_le h, List.take_of_length_le]
    rw [Kind.cells_len]
    exact Nat.mul_le_mul_right _ h
theorem Kind.cells_drop (l : List α) (k : Nat) : K.cells (l.drop k) = (K.cells l).drop (k * K.size) := by
  rcases Nat.lt_or_ge k l.length with h | h
  · have e : K.cells l = K.cells (l.take k) ++ K.cells (l.drop k) := by rw [← Kind.cells_append, List.take_append_drop]
    have hl : (K.cells (l.take k)).length = k * K.size := by rw [Kind.cells_len, List.length_take, Nat.min_eq_left (by omega)]
    rw [e, ← hl, List.drop_left]
  · rw [List.drop_eq_nil_of_le h, List.drop_eq_nil_of_le]
    · rfl
    · rw [Kind.cells_len]
      exact Nat.mul_le_mul_right _ h
theorem Kind.cells_at (l : List α) (k : Nat) (h : k < l.length) (j : Nat) (hj : j < K.size) : (K.cells l)[k * K.size + j]? = (K.cs l[k])[j]? := by
  have e : K.cells (l.drop k) = K.cs l[k] ++ K.cells (l.drop (k + 1)) := by
    show (l.drop k).flatMap K.cs = K.cs l[k] ++ (l.drop (k + 1)).flatMap K.cs
    rw [List.drop_eq_getElem_cons h, List.flatMap_cons]
  have := congrArg (fun x => x[j]?) e
  simp only [Kind.cells_drop, List.getElem?_drop] at this
  rw [this, List.getElem?_append_left (by rw [K.len]; exact hj)]
theorem Kind.cells_one (l : List α) : ∀ u ∈ K.cells l, u.oneCell' = true := by
  intro u hu
  obtain ⟨a, _, ha⟩ := List.mem_flatMap.1 hu
  exact K.one a u ha

/-! ### A slice that is read -/
/-- the slice at A holds l, below block B -/
def Kind.Holds (w : World) (B : Nat) (A : Option Addr) (l : List α) : Prop :=
  ∀ j u, (K.cells l)[j]? = some u → ∃ b o, A = some ⟨b, o, none⟩ ∧ b < B ∧ w.cell? ⟨b, o + j, none⟩ = some u
variable {K} {w w' : World} {B : Nat} {A : Option Addr} {l : List α}
theorem Kind.Holds.keep (h : K.Holds w B A l) (hk : ∀ b, (∃ o, A = some ⟨b, o, none⟩) → b < B → w'.heap[b]? = w.heap[b]?) : K.Holds w' B A l := by
  intro j u hj
  obtain ⟨b, o, rfl, hb, hc⟩ := h j u hj
  exact ⟨b, o, rfl, hb, (World.cell?_of_block (hk b ⟨o, rfl⟩ hb)).trans hc⟩
theorem Kind.Holds.below {C : Nat} (h : K.Holds w B A l) (hb : Below C w w') (hBC : B ≤ C) : K.Holds w' B A l := h.keep fun b _ hlt => hb.block b (by omega)
theorem Kind.Holds.more {B' : Nat} (h : K.Holds w B A l) (hB : B ≤ B') : K.Holds w B' A l := by
  intro j u hj
  obtain ⟨b, o, hA, hb, hc⟩ := h j u hj
  exact ⟨b, o, hA, by omega, hc⟩
theorem Kind.Holds.on (h : K.Holds w w.heap.size A l) (hb : Below w.heap.size w w') : K.Holds w' w'.heap.size A l := (h.below hb (Nat.le_refl _)).more hb.size
theorem Kind.Holds.drewN (h : K.Holds w B A l) (n : Nat) : K.Holds (w.drewN n) B A l := h
theorem Kind.Holds.drew (h : K.Holds w B A l) : K.Holds w.drew B A l := h
theorem Kind.Holds.nil (w : World) (B : Nat) (A : Option Addr) : K.Holds w B A [] := fun j u hj => by simp [Kind.cells] at hj
theorem Kind.Holds.at (h : K.Holds w B A l) {k : Nat} (hk : k < l.length) : ∃ b o, A = some ⟨b, o, none⟩ ∧ b < B ∧ ∀ j u, (K.cs l[k])[j]? = some u → w.cell? ⟨b, o + (k * K.size + j), none⟩ = some u := by
  have key : ∀ j u, (K.cs l[k])[j]? = some u → (K.cells l)[k * K.size + j]? = some u := fun j u hj => by
    have := (List.getElem?_eq_some_iff.1 hj).1
    rw [K.len] at this
    rw [K.cells_at l k hk j this, hj]
  obtain ⟨u0, h0⟩ : ∃ u, (K.cs l[k])[0]? = some u := ⟨(K.cs l[k])[0]'(by rw [K.len]; exact K.hpos), List.getElem?_eq_getElem _⟩
  obtain ⟨b, o, rfl, hb, _⟩ := h _ _ (key 0 u0 h0)
  refine ⟨b, o, rfl, hb, fun j u hj => ?_⟩
  obtain ⟨b', o', hA, _, hc⟩ := h _ _ (key j u hj)
  injection hA with hA
  injection hA with e1 e2
  subst e1; subst e2
  exact hc
theorem Kind.Holds.take (h : K.Holds w B A l) (n : Nat) : K.Holds w B A (l.take n) := by
  intro j u hj
  rw [K.cells_take, List.getElem?_take] at hj
  split at hj
  · exact h j u hj
  · cases hj
theorem Kind.Holds.drop {b o : Nat} (h : K.Holds w B (some ⟨b, o, none⟩) l) (k : Nat) : K.Holds w B (some ⟨b, o + k * K.size, none⟩) (l.drop k) := by
  intro j u hj
  rw [K.cells_drop, List.getElem?_drop] at hj
  obtain ⟨b', o', hA, hb, hc⟩ := h _ _ hj
  injection hA with hA
  injection hA with e1 e2
  subst e1; subst e2
  exact ⟨b, _, rfl, hb, by rw [Nat.add_assoc]; exact hc⟩
/-- a block that is known: it holds what its cells are -/
theorem Kind.Holds.lit {g : Nat} {t : TypeId} {fr : Nat × Nat} {c : Array Value} (h : w.heap[g]? = some (.cells c t fr)) (hc : c.toList = K.cells l) : K.Holds w (g + 1) (some ⟨g, 0, none⟩) l := by
  intro j u hj
  refine ⟨g, 0, rfl, by omega, ?_⟩
  rw [Nat.zero_add, cell_of_row w g j c t fr h, ← Array.getElem?_toList, hc]
  exact hj

/-! ### A slice of the call's own -/
variable {v : Value}
def Kind.Own (K : Kind P α) (w : World) (B : Nat) (v : Value) (l : List α) : Prop := w.ownsRow B K.e K.size v l.length (K.cells l)
theorem Kind.Own.nil (K : Kind P α) (w : World) (B : Nat) : K.Own w B (.slice none 0 0) [] := World.ownsRow_nil w B K.e K.size
/-- 'T{}' -/
theorem Kind.Own.made (K : Kind P α) (w : World) (B : Nat) (hB : B ≤ w.heap.size) : K.Own (w.alloc (.cells #[] K.e)) B (.slice (some ⟨w.heap.size, 0, none⟩) 0 0) [] :=
  World.ownsRow_made (size := K.size) w #[] 0 hB (by simp [maxLen]) (by simp)
theorem Kind.Own.lt (h : K.Own w B v l) {g : Nat} (hg : v.ownBlock = some g) : B ≤ g ∧ g < w.heap.size := World.ownsRow.lt h g hg
theorem Kind.Own.ty (h : K.Own w B v l) {g : Nat} (hg : v.ownBlock = some g) : ∃ cur, w.heap[g]? = some (.cells cur K.e (0, 0)) := by
  rcases h.2 with ⟨rfl, _⟩ | ⟨g', cap, cur, rfl, _, hh, _⟩
  · cases hg
  · have : g' = g := by simpa [Value.ownBlock] using hg
    subst this
    exact ⟨cur, hh⟩
theorem Kind.Own.keep (h : K.Own w B v l) (hk : ∀ g, v.ownBlock = some g → w'.heap[g]? = w.heap[g]?) : K.Own w' B v l := by
  obtain ⟨h1, h2⟩ := h
  refine ⟨h1, ?_⟩
  rcases h2 with h2 | ⟨g, cap, cur, hv, hg, hh, r⟩
  · exact .inl h2
  · subst hv
    exact .inr ⟨g, cap, cur, rfl, hg, (hk g rfl).trans hh, r⟩
theorem Kind.Own.but {S : Nat → Prop} (h : K.Own w B v l) (hb : But S w w') (hS : ∀ g, v.ownBlock = some g → ¬ S g) : K.Own w' B v l :=
  h.keep fun g hg => hb.block g (h.lt hg).2 (hS g hg)
theorem Kind.Own.below {C : Nat} (h : K.Own w B v l) (hb : Below C w w') (hC : w.heap.size ≤ C) : K.Own w' B v l := h.keep fun g hg => hb.block g (by have := (h.lt hg).2; omega)
theorem Kind.Own.grown {row : Option Nat} (h : K.Own w B v l) (hg : w.grownBy w' row) (hr : ∀ g, v.ownBlock = some g → row ≠ some g) : K.Own w' B v l := h.keep fun g e => hg.block g (h.lt e).2 (fun c => hr g e c.symm)
theorem Kind.Own.alloc (h : K.Own w B v l) (o : Obj) : K.Own (w.alloc o) B v l := World.ownsRow.alloc h o
theorem Kind.Own.drewN (h : K.Own w B v l) (n : Nat) : K.Own (w.drewN n) B v l := h
theorem Kind.Own.drew (h : K.Own w B v l) : K.Own w.drew B v l := h
theorem Kind.Own.base_le {B' : Nat} (h : K.Own w B v l) (hb : B' ≤ B) : K.Own w B' v l := by
  obtain ⟨h1, h2⟩ := h
  refine ⟨h1, ?_⟩
  rcases h2 with h2 | ⟨g, cap, cur, hv, hg, r⟩
  · exact .inl h2
  · exact .inr ⟨g, cap, cur, hv, by omega, r⟩
/-- as it stands: nil, or a block's head -/
theorem Kind.Own.form (h : K.Own w B v l) : (v = .slice none 0 0 ∧ l = []) ∨ ∃ g c cur, v = .slice (some ⟨g, 0, none⟩) l.length c ∧ v.ownBlock = some g ∧ B ≤ g ∧ g < w.heap.size ∧ w.heap[g]? = some (.cells cur K.e (0, 0)) ∧ l.length ≤ c ∧ c ≤ maxLen ∧ cur.size = c * K.size ∧ cur.toList.take (l.length * K.size) = K.cells l := by
  rcases h.2 with ⟨rfl, hn⟩ | ⟨g, cap, cur, rfl, hg, hh, r1, r2, r3, r4⟩
  · exact .inl ⟨rfl, List.eq_nil_of_length_eq_zero hn⟩
  · exact .inr ⟨g, cap, cur, rfl, rfl, hg, heap_lt hh, hh, r1, r2, r3, r4⟩
theorem Kind.own_mk {g c n : Nat} {cur : Array Value} (hl : l.length = n) (hg : B ≤ g) (hh : w.heap[g]? = some (.cells cur K.e (0, 0))) (h1 : n ≤ c) (h2 : c ≤ maxLen) (h3 : cur.size = c * K.size) (h4 : cur.toList.take (n * K.size) = K.cells l) : K.Own w B (.slice (some ⟨g, 0, none⟩) n c) l := by
  subst hl
  exact ⟨K.cells_len l, .inr ⟨g, c, cur, rfl, hg, hh, h1, h2, h3, h4⟩⟩
/-- a slice of one's own, as a slice that is read -/
theorem Kind.Own.slice (h : K.Own w B v l) : ∃ A n c, v = .slice A n c ∧ l.length = n ∧ n ≤ c ∧ c ≤ maxLen ∧ (A = Option.none → c = 0) ∧ K.Holds w w.heap.size A l := by
  rcases h.form with ⟨rfl, rfl⟩ | ⟨g, c, cur, rfl, _, _, hlt, hh, hnc, hcm, hcs, ht⟩
  · exact ⟨Option.none, 0, 0, rfl, rfl, by omega, by unfold maxLen; omega, fun _ => rfl, Kind.Holds.nil _ _ _⟩
  · refine ⟨_, l.length, c, rfl, rfl, hnc, hcm, fun e => (by cases e), fun j u hj => ⟨g, 0, rfl, hlt, ?_⟩⟩
    rw [Nat.zero_add, cell_of_row w g j _ _ _ hh, ← Array.getElem?_toList]
    rw [← ht, List.getElem?_take] at hj
    split at hj
    · exact hj
    · cases hj
/-- two slices of the call's own that don't share a block -/
def Apart (v u : Value) : Prop := ∀ g, v.ownBlock = some g → u.ownBlock ≠ some g
theorem Apart.symm {v u : Value} (h : Apart v u) : Apart u v := fun g hg e => h g e hg
theorem Kind.Own.ne_ {β : Type} {J : Kind P β} {m : List β} {u : Value} {B' : Nat} (h : K.Own w B v l) (h' : J.Own w B' u m) (hne : K.e ≠ J.e) : Apart v u := fun g hg e => by
  obtain ⟨c, h1⟩ := h.ty hg
  obtain ⟨d, h2⟩ := h'.ty e
  exact heap_ne h1 h2 hne rfl
theorem Kind.Own.fresh {β : Type} {J : Kind P β} {m : List β} {u : Value} {B' : Nat} (h : K.Own w B v l) (h' : J.Own w' B' u m) (hB : w.heap.size ≤ B') : Apart v u := fun g hg e => by
  have := (h.lt hg).2
  have := (h'.lt e).1
  omega
/-- a cell of one's own is stored: the list that its cells make is another -/
theorem Kind.Own.set_ {g n c o : Nat} {m : List α} {u : Value} (h : K.Own w B (.slice (some ⟨g, 0, none⟩) n c) l) (hl : l.length = n) (hm : m.length = l.length) (hc : K.cells m = (K.cells l).set o u) : K.Own (w.setCell ⟨g, o, none⟩ u) B (.slice (some ⟨g, 0, none⟩) n c) m := by
  rcases h.form with ⟨hv, _⟩ | ⟨g', c', cur, hv, _, hg, hlt, hh, h1, h2, h3, h4⟩
  · cases hv
  · injection hv with e1 e2 e3
    injection e1 with e1
    injection e1 with e1
    subst e1; subst e3
    refine Kind.own_mk (by omega) hg (heap_set hh o u) (by omega) h2 (by rw [Array.size_setIfInBounds, h3]) ?_
    rw [Array.toList_setIfInBounds, List.take_set, ← hl, h4, hc]

/-! ### append -/
theorem Kind.run_app (ty : TypeId) {n c : Nat} {m : List α} (hown : K.Own w B v l) {C : Nat} (hn : m.length = n) (hc : A = none → c = 0) (hm : K.Holds w C A m)
    (hl : l.length + n ≤ 1000000000) (hbase : B ≤ w.heap.size) :
    ∃ v' w', (Builtin.append_ #[K.t, K.t] ty #[v, .slice A n c]).run P w = .ok v' w' ∧ K.Own w' B v' (l ++ m) ∧ w.grownBy w' v.ownBlock ∧ (v'.ownBlock = v.ownBlock ∨ v'.ownBlock = some w.heap.size) := by
  obtain ⟨i0, hi, hz0, hz1, hz2⟩ := K.info
  have hb := K.hbb
  subst hn
  cases A with
  | none =>
    have hm0 : m = [] := by
      cases m with
      | nil => rfl
      | cons b r =>
        obtain ⟨_, _, hA, _⟩ := hm.at (k := 0) (by simp)
        cases hA
    subst hm0
    rw [hc rfl]
    exact ⟨v, w, run_append_owned_none (P := P) (w := w) B K.t ty K.e i0 K.size K.ht hi v _ _ hown, by simpa using hown, World.grownBy.refl _ _, .inl rfl⟩
  | some ad =>
    obtain ⟨v', w', hr, h2, h3, _, h5⟩ := run_append_own_at (P := P) w B K.t ty K.e i0 K.z K.size K.bytes K.ht hi hz0 hz1 hz2 K.hzs K.hpos v l.length (K.cells l) hown ad m.length c (K.cells m) (K.cells_len m) (fun j u hj => by
      obtain ⟨b, o, hA, _, hcell⟩ := hm j u hj
      injection hA with hA
      subst hA
      have hadd : (⟨b, o, Option.none⟩ : Addr).add j = ⟨b, o + j, Option.none⟩ := by
        unfold Addr.add
        split
        · rename_i e; subst e; rfl
        · rfl
      rw [hadd]
      exact hcell) (K.cells_one m) (by unfold maxLen; omega) (by have := Nat.mul_le_mul (Nat.le_of_lt_succ (Nat.lt_succ_of_le hl)) hb; omega) hbase
    refine ⟨v', w', hr, ?_, h3, h5⟩
    unfold Kind.Own
    rw [List.length_append, K.cells_append]
    exact h2
theorem Kind.wp_app_ {o : Oper} {a : Act} {Kk : Act → World → Prop} {Q : Exit → Act → World → Prop} (s x : Operand)
    (ho : o.op = .call { callee := .builtin .append, args := #[s, x], argTypes := #[K.t, K.t] })
    {n c : Nat} {m : List α} {C : Nat} (hs : a.eval s = v) (hown : K.Own w B v l) (hx : a.eval x = .slice A n c) (hn : m.length = n) (hc : A = none → c = 0) (hm : K.Holds w C A m)
    (hl : l.length + n ≤ 1000000000) (hbase : B ≤ w.heap.size)
    (h : ∀ v' w', K.Own w' B v' (l ++ m) → w.grownBy w' v.ownBlock → (v'.ownBlock = v.ownBlock ∨ v'.ownBlock = some w.heap.size) → Kk (a.put o.dst v') w') : o.wp P a w Kk Q := by
  obtain ⟨v', w', hr, h2, h3, h4⟩ := K.run_app o.type hown hn hc hm hl hbase
  unfold Oper.wp execOp
  simp only [ho, resolve, invoke, builtin, Sem.run_bind, Sem.run_pure, Result.andThen_ok, List.map_toArray, List.map_cons, List.map_nil, hs, hx, hr]
  exact h v' w' h2 h3 h4
/-- append onto a slice of one's own, whatever is appended: in a plain region -/
theorem Kind.wp_app (K : Kind P α) {ops : Array Oper} {rest : List Oper} {o : Oper} {a : Act} {Q : Exit → Act → World → Prop} (hgd : o.guard = none) (s x : Operand)
    (ho : o.op = .call { callee := .builtin .append, args := #[s, x], argTypes := #[K.t, K.t] })
    {n c : Nat} {m : List α} {C : Nat} (hs : a.eval s = v) (hown : K.Own w B v l) (hx : a.eval x = .slice A n c) (hn : m.length = n) (hc : A = none → c = 0) (hm : K.Holds w C A m)
    (hl : l.length + n ≤ 1000000000) (hbase : B ≤ w.heap.size)
    (h : ∀ v' w', K.Own w' B v' (l ++ m) → w.grownBy w' v.ownBlock → (v'.ownBlock = v.ownBlock ∨ v'.ownBlock = some w.heap.size) → wpList P ops Q rest (a.put o.dst v') w') : wpList P ops Q (o :: rest) a w :=
  wpList_plain hgd fun _ hK => K.wp_app_ s x ho hs hown hx hn hc hm hl hbase fun v' w' h2 h3 h4 => hK _ _ (h v' w' h2 h3 h4)
/-- the same at a step of a region that draws its order -/
theorem Kind.step_app (K : Kind P α) {ops : Array Oper} {o : Oper} {a : Act} {Kk : Act → World → Prop} {Q : Exit → Act → World → Prop} {E : Prop} (hgd : o.guard = none) (s x : Operand)
    (ho : o.op = .call { callee := .builtin .append, args := #[s, x], argTypes := #[K.t, K.t] })
    {n c : Nat} {m : List α} {C : Nat} (hs : a.eval s = v) (hown : K.Own w B v l) (hx : a.eval x = .slice A n c) (hn : m.length = n) (hc : A = none → c = 0) (hm : K.Holds w C A m)
    (hl : l.length + n ≤ 1000000000) (hbase : B ≤ w.heap.size)
    (h : ∀ v' w', K.Own w' B v' (l ++ m) → w.grownBy w' v.ownBlock → (v'.ownBlock = v.ownBlock ∨ v'.ownBlock = some w.heap.size) → Kk (a.put o.dst v') w') :
    if Region.wanted o (yielded ops a.tmps) = true then Oper.wp P o a w Kk Q else E := by
  have hw : Region.wanted o (yielded ops a.tmps) = true := by simp [Region.wanted, hgd]
  rw [if_pos hw]
  exact K.wp_app_ s x ho hs hown hx hn hc hm hl hbase h
end
end Go.Proofs.Ytfjnbjpenibpkaa.Kd
