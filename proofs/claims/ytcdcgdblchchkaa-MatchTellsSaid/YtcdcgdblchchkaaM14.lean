/- slices.Index, slices.Delete of one integer, slices.Clone of integers and of attributes, dom.without. -/
import Derived.Deep.RegionHeld3
import Derived.Laws.OwnMore
import Derived.Test.YtcdcgdblchchkaaM6
import Derived.Test.YtcdcgdblchchkaaM10
import Derived.Test.YtcdcgdblchchkaaM12
import Derived.Test.YtcdcgdblchchkaaM13
set_option linter.unusedVariables false
set_option linter.unusedSimpArgs false
set_option linter.unusedVariables false
set_option linter.unusedSimpArgs false
namespace Go.Proofs.Ytcdcgdblchchkaa.P5
open Go.RowKit Kd P4

/-! ### Index -/
def idxA : List Int → Int → Nat
  | [], _ => 0
  | a :: r, t => if t = a then 0 else idxA r t + 1
theorem idxA_le (l : List Int) (t : Int) : idxA l t ≤ l.length := by
  induction l with
  | nil => simp [idxA]
  | cons a r ih => simp only [idxA, List.length_cons]; split <;> omega
theorem idxA_of : ∀ {l : List Int} {t : Int} {k : Nat} (hk : k < l.length), l[k] = t → (∀ j (h : j < l.length), j < k → l[j] ≠ t) → idxA l t = k
  | [], _, _, hk, _, _ => absurd hk (by simp)
  | a :: r, t, 0, _, h, _ => by simp only [List.getElem_cons_zero] at h; simp [idxA, h]
  | a :: r, t, k + 1, hk, h, hj => by
    have h0 := hj 0 (by simp) (by omega)
    simp only [List.getElem_cons_zero] at h0
    rw [idxA, if_neg (fun e => h0 e.symm), idxA_of (k := k) (by simpa using hk) (by simpa using h) (fun j h1 h2 => by have := hj (j + 1) (by simpa using h1) (by omega); rwa [List.getElem_cons_succ] at this)]
theorem idxA_lt {l : List Int} {t : Int} (h : t ∈ l) : idxA l t < l.length := by
  induction l with
  | nil => simp at h
  | cons a r ih =>
    simp only [idxA, List.length_cons]
    split
    · omega
    · rename_i e
      have := ih ((List.mem_cons.1 h).resolve_left e)
      omega
theorem cell_int {w : World} {B : Nat} {A : Option Addr} {l : List Int} (h : kI.Holds w B A l) {k : Nat} (hk : k < l.length) : ∃ b o, A = some ⟨b, o, none⟩ ∧ b < B ∧ w.cell? ⟨b, o + k, none⟩ = some (.int .i64 l[k]) := by
  obtain ⟨b, o, hA, hb, hc⟩ := h.at hk
  refine ⟨b, o, hA, hb, ?_⟩
  have := hc 0 _ rfl
  rw [show k * kI.size + 0 = k from Nat.mul_one k] at this
  exact this

/-! ### Delete -/
theorem clearInt (w : World) (ty : TypeId) (b o c : Nat) (hc : (w.cell? ⟨b, o, none⟩).isSome = true) (hf : w.frozen? ⟨b, o, none⟩ = false) :
    (Builtin.clear_ #[32] ty #[.slice (some ⟨b, o, none⟩) 1 c]).run Try.prog w = .ok (.tuple #[]) (w.setCells b o [.int .i64 0]) := by
  have hst := run_storeCells_cells (P := Try.prog) b o [.int .i64 0] 0 w (by intro j hj; simp at hj; subst hj; simpa using hc) (by intro j hj; simp at hj; subst hj; simpa using hf) (by simp [Value.oneCell'])
  simp only [Nat.add_zero] at hst
  have hz : (Builtin.zeroCells (Value.int .i64 0).cells 1).toList = [.int .i64 0] := by
    simp [Builtin.zeroCells, Value.cells, Array.range]
  simp [Builtin.clear_, run_underlying Try.underlying32, hz, hst]

theorem erase_less : ∀ {l : List Int} {t : Int}, l.Nodup → t ∈ l → l.eraseIdx (idxA l t) = less t l
  | [], _, _, h => absurd h (by simp)
  | a :: r, t, hn, h => by
    obtain ⟨h1, h2⟩ := List.nodup_cons.1 hn
    by_cases e : t = a
    · subst e
      simp only [idxA, if_true, List.eraseIdx_cons_zero, less]
      rw [List.filter_cons]
      simp only [ne_eq, not_true_eq_false, decide_false, Bool.false_eq_true, if_false]
      exact (List.filter_eq_self.2 (fun c hc => by simp; rintro rfl; exact h1 hc)).symm
    · have ih := erase_less h2 ((List.mem_cons.1 h).resolve_left e)
      rw [idxA, if_neg e, List.eraseIdx_cons_succ, ih]
      simp only [less]
      rw [List.filter_cons]
      simp [Ne.symm e]

/-! ### without -/
def Without (w : World) (B : Nat) (v : Value) (l : List Int) (t : Int) (e : Ending) (w' : World) : Prop :=
  ∃ A n c, e = .returned (.slice A n c) ∧ kI.Own w' B (.slice A n c) (less t l) ∧ But (fun k => v.ownBlock = some k) w w' ∧ (Value.slice A n c).ownBlock = v.ownBlock
/-! ### Clone -/
def Cloned {α : Type} (K : Kind Try.prog α) (w : World) (l : List α) (e : Ending) (w' : World) : Prop := ∃ A n c, e = .returned (.slice A n c) ∧ K.Own w' w.heap.size (.slice A n c) l ∧ Below w.heap.size w w'
end Go.Proofs.Ytcdcgdblchchkaa.P5

/- What placketref11.tells, begin, ahead, attr, wrong and Check answer. No condition but those stated. -/
set_option linter.unusedVariables false
set_option linter.unusedSimpArgs false
namespace Go.Proofs.Ytcdcgdblchchkaa.P13
open Go.RowKit Kd P4 P5 P11 P12

theorem own_cut {P : Program} {α : Type} {K : Kind P α} {w : World} {B : Nat} {A : Option Addr} {n c k : Nat} {l : List α} (h : K.Own w B (.slice A n c) l) (hk : k ≤ l.length) : K.Own w B (.slice A k c) (l.take k) := by
  rcases h.form with ⟨hv, hl⟩ | ⟨g, c', cur, hv, _, hg, hlt, hh, hnc, hcm, hcs, ht⟩
  · injection hv with e1 e2 e3
    subst e1; subst e2; subst e3; subst hl
    obtain rfl : k = 0 := by simpa using hk
    rw [List.take_nil]
    exact h
  · injection hv with e1 e2 e3
    subst e1; subst e2; subst e3
    refine Kind.own_mk (by simp; omega) hg hh (by omega) hcm hcs ?_
    rw [Kind.cells_take, ← ht, List.take_take, Nat.min_eq_left (Nat.mul_le_mul_right _ hk)]
theorem ownI_is {w : World} {D : Nat} {A : Option Addr} {n c : Nat} {l : List Int} (h : kI.Own w D (.slice A n c) l) : l.length = n ∧ n ≤ c ∧ c ≤ maxLen ∧ (A = none → c = 0) ∧ kI.Holds w w.heap.size A l := by
  obtain ⟨A', n', c', hv, e1, e2, e3, e4, e5⟩ := h.slice
  injection hv with h1 h2 h3
  subst h1; subst h2; subst h3
  exact ⟨e1, e2, e3, e4, e5⟩
/-! ### begin -/
def BgRel (w : World) (l : List In) (k : Nat) (s6 s7 : Value) (wr : World) : Prop := ∃ (i : Nat) (A' : Option Addr) (n' c' : Nat), i ≤ k ∧ s7 = .int .i64 i ∧ s6 = .slice A' n' c' ∧ Hid (kI.Own wr w.heap.size (.slice A' n' c') (opensK l i)) ∧ Hid (Below w.heap.size w wr)
end Go.Proofs.Ytcdcgdblchchkaa.P13

/- What placketref11.end answers, of what is wanted in a program. No condition but those stated. -/
set_option linter.unusedVariables false
set_option linter.unusedSimpArgs false
namespace Go.Proofs.Ytcdcgdblchchkaa.P14
open Go.RowKit Kd P4 P5 P11 P12 P13

theorem at_pre {pre X l : List In} (he : l = pre ++ X) {i : Nat} (h : pre.length + i < l.length) (h' : i < X.length) : l[pre.length + i] = X[i] := by
  subst he
  rw [List.getElem_append_right (by omega)]
  congr 1
  omega
theorem ds_step {l : List In} {m : Nat} (h : m < l.length) : ds (l.take (m + 1)) = ds (l.take m) + deltaO l[m].op := by
  rw [List.take_add_one, List.getElem?_eq_getElem h, ds_append]
  simp [ds]
end Go.Proofs.Ytcdcgdblchchkaa.P14

/- Old nodes and Booleans as they lie in memory; an element of a row of one's own set; a row made. No condition. -/
set_option linter.unusedVariables false
set_option linter.unusedSimpArgs false
namespace Go.Proofs.Ytcdcgdblchchkaa.P16
open Go.RowKit Kd P4 P5 P11 P12 P13 P14

theorem infoO : (Try.prog.info? 30).map (fun i => (i.zero, i.size, i.bytes)) = some (some (.agg #[.string ⟨#[]⟩, .string ⟨#[]⟩]), 2, 32) := by kernel_rfl
theorem infoU : (Try.prog.info? 31).map (fun i => (i.zero, i.size, i.bytes)) = some (some (.agg #[.string ⟨#[]⟩, .string ⟨#[]⟩]), 2, 32) := by kernel_rfl
theorem infoBo : (Try.prog.info? 4).map (fun i => (i.zero, i.size, i.bytes)) = some (some (.bool false), 1, 1) := by kernel_rfl
def Ol.cells (o : Ol) : List Value := [.string o.tag, .string o.key]
/-- the program's -/
def kO : Kind Try.prog Ol where
  t := 22
  e := 30
  size := 2
  bytes := 32
  z := .agg #[.string ⟨#[]⟩, .string ⟨#[]⟩]
  cs := Ol.cells
  ht := Try.underlying22
  info := info_ex infoO
  hzs := rfl
  hpos := by decide
  hbb := by decide
  len := fun _ => rfl
  one := fun a u hu => by simp [Ol.cells] at hu; rcases hu with rfl | rfl <;> rfl
/-- the document's -/
def kU : Kind Try.prog Ol where
  t := 28
  e := 31
  size := 2
  bytes := 32
  z := .agg #[.string ⟨#[]⟩, .string ⟨#[]⟩]
  cs := Ol.cells
  ht := Try.underlying28
  info := info_ex infoU
  hzs := rfl
  hpos := by decide
  hbb := by decide
  len := fun _ => rfl
  one := fun a u hu => by simp [Ol.cells] at hu; rcases hu with rfl | rfl <;> rfl
def kBo : Kind Try.prog Bool where
  t := 54
  e := 4
  size := 1
  bytes := 1
  z := .bool false
  cs := fun c => [.bool c]
  ht := Try.underlying54
  info := info_ex infoBo
  hzs := rfl
  hpos := by decide
  hbb := by decide
  len := fun _ => rfl
  one := fun a u hu => by simp at hu; subst hu; rfl
theorem cell_of_u {w : World} {B : Nat} {A : Option Addr} {l : List Ol} (h : kU.Holds w B A l) {k : Nat} (hk : k < l.length) :
    ∃ b o, A = some ⟨b, o, none⟩ ∧ b < B ∧ w.cell? ⟨b, o + k * 2, none⟩ = some (.string l[k].tag) ∧ w.cell? ⟨b, o + k * 2 + 1, none⟩ = some (.string l[k].key) := by
  obtain ⟨b, o, rfl, hb, hc⟩ := h.at hk
  exact ⟨b, o, rfl, hb, hc 0 _ rfl, hc 1 _ rfl⟩
theorem cell_of_o {w : World} {B : Nat} {A : Option Addr} {l : List Ol} (h : kO.Holds w B A l) {k : Nat} (hk : k < l.length) :
    ∃ b o, A = some ⟨b, o, none⟩ ∧ b < B ∧ w.cell? ⟨b, o + k * 2, none⟩ = some (.string l[k].tag) ∧ w.cell? ⟨b, o + k * 2 + 1, none⟩ = some (.string l[k].key) := by
  obtain ⟨b, o, rfl, hb, hc⟩ := h.at hk
  exact ⟨b, o, rfl, hb, hc 0 _ rfl, hc 1 _ rfl⟩
theorem own_setK {P : Program} {α : Type} {K : Kind P α} {w : World} {B g n c : Nat} {l : List α} (h : K.Own w B (.slice (some ⟨g, 0, none⟩) n c) l) {k : Nat} (hk : k < l.length) (a : α) :
    K.Own (w.setCells g (k * K.size) (K.cs a)) B (.slice (some ⟨g, 0, none⟩) n c) (l.set k a) := by
  rcases h.form with ⟨hv, _⟩ | ⟨g', c', cur, hv, _, hBg, hlt, hh, hnc, hcm, hcs, ht⟩
  · cases hv
  injection hv with e1 e2 e3
  injection e1 with e1
  injection e1 with e1
  subst e1; subst e2; subst e3
  obtain ⟨cur', h1, h2, h3⟩ := heap_setCells g (K.cs a) (k * K.size) w cur _ _ hh
  have hmul : l.length * K.size ≤ c * K.size := Nat.mul_le_mul_right _ hnc
  have hkm : (k + 1) * K.size ≤ l.length * K.size := Nat.mul_le_mul_right _ hk
  have hkm2 : (k + 1) * K.size = k * K.size + K.size := by rw [Nat.add_mul, Nat.one_mul]
  refine Kind.own_mk (by simp) hBg h1 hnc hcm (by rw [h2]; exact hcs) ?_
  apply List.ext_getElem?
  intro i
  have hpos := K.hpos
  rw [List.getElem?_take]
  by_cases hi : i < l.length * K.size
  · rw [if_pos hi, Array.getElem?_toList, h3 i (by omega), K.len]
    have hdm : i / K.size * K.size + i % K.size = i := by rw [Nat.mul_comm]; exact Nat.div_add_mod i K.size
    have hmod : i % K.size < K.size := Nat.mod_lt _ hpos
    have hdiv : i / K.size < l.length := by rw [Nat.div_lt_iff_lt_mul hpos]; exact hi
    have hat := K.cells_at (l.set k a) (i / K.size) (by simpa using hdiv) (i % K.size) hmod
    rw [hdm] at hat
    rw [hat, List.getElem_set]
    by_cases hik : k = i / K.size
    · subst hik
      rw [if_pos rfl, if_pos ⟨by omega, by omega⟩]
      congr 1
      omega
    · rw [if_neg hik]
      have hat2 := K.cells_at l (i / K.size) hdiv (i % K.size) hmod
      rw [hdm] at hat2
      rw [← hat2, ← ht, List.getElem?_take, if_pos hi, if_neg ?_, Array.getElem?_toList]
      rintro ⟨h5, h6⟩
      apply hik
      have h7 : k ≤ i / K.size := by rw [Nat.le_div_iff_mul_le hpos]; exact h5
      have h8 : i / K.size < k + 1 := by rw [Nat.div_lt_iff_lt_mul hpos]; omega
      omega
  · rw [if_neg hi, List.getElem?_eq_none]
    rw [Kind.cells_len, List.length_set]
    omega
/-- an element of a row of one's own: its cell, and that it may be set -/
theorem own_bool {w : World} {B g n c : Nat} {l : List Bool} (h : kBo.Own w B (.slice (some ⟨g, 0, none⟩) n c) l) {k : Nat} (hk : k < l.length) :
    w.cell? ⟨g, k, none⟩ = some (.bool l[k]) ∧ w.frozen? ⟨g, k, none⟩ = false ∧ ∀ b, kBo.Own (w.setCell ⟨g, k, none⟩ (.bool b)) B (.slice (some ⟨g, 0, none⟩) n c) (l.set k b) := by
  refine ⟨?_, ?_, fun b => ?_⟩
  · obtain ⟨A', n', c', hv, _, _, _, _, e5⟩ := h.slice
    injection hv with h1 h2 h3
    subst h1; subst h2; subst h3
    obtain ⟨b, o, hA, _, hc⟩ := e5.at hk
    injection hA with hA
    injection hA with e1 e2 _
    subst e1; subst e2
    have := hc 0 _ rfl
    simpa [kBo] using this
  · rcases h.form with ⟨hv, _⟩ | ⟨g', c', cur, hv, _, _, _, hh, _⟩
    · cases hv
    injection hv with e1
    injection e1 with e1
    injection e1 with e1
    subst e1
    simp [World.frozen?, hh]
  · have := own_setK h hk b
    have e : k * kBo.size = k := Nat.mul_one k
    rw [e] at this
    exact this
theorem set_but (w : World) (g k : Nat) (u : Value) : But (fun i => i = g) w (w.setCell ⟨g, k, none⟩ u) := But.setCell (S := fun i => i = g) (p := ⟨g, k, none⟩) (But.refl _ _) (fun _ => rfl) u
theorem cells_rep : ∀ M : Nat, kBo.cells (List.replicate M false) = List.replicate M (.bool false)
  | 0 => rfl
  | M + 1 => by
    have h := cells_rep M
    simp only [Kind.cells, List.replicate_succ, List.flatMap_cons] at h ⊢
    rw [h]
    rfl
theorem make_bools (W : World) (B M : Nat) (hB : B ≤ W.heap.size) (hM : M ≤ 100000) :
    ∃ w', (Instr.makeSlice 54 (.int .i64 (M : Int)) (.int .i64 (M : Int))).run Try.prog W = .ok (.slice (some ⟨W.heap.size, 0, none⟩) M M) w' ∧
      kBo.Own w' B (.slice (some ⟨W.heap.size, 0, none⟩) M M) (List.replicate M false) ∧ W.grownBy w' none := by
  obtain ⟨i0, hi, hz0, hz1, hz2⟩ := kBo.info
  have hb : kBo.bytes = 1 := rfl
  obtain ⟨w', h1, h2, h3⟩ := run_make_full (P := Try.prog) W B 54 4 i0 kBo.z kBo.size Try.underlying54 hi hz0 hz1 .i64 .i64 M (by rw [hz2, hb]; omega) (by unfold maxLen; omega) hB
  refine ⟨w', h1, ?_, h3⟩
  have e : (madeCells kBo.z.cells (M * kBo.size)).toList = kBo.cells (List.replicate M false) := by
    have e1 : M * kBo.size = M := Nat.mul_one M
    have e2 : kBo.z.cells = #[.bool false] := rfl
    rw [e1, e2, toList_madeCells_one, cells_rep]
  rw [e] at h2
  show w'.ownsRow B kBo.e kBo.size _ (List.replicate M false).length _
  rw [List.length_replicate]
  exact h2
/-- a row of one's own that grows stays apart of another -/
theorem apart_grows {w : World} {v u v' : Value} {o : Obj} {B : Nat} {l : List Int} (ha : Apart v u) (hu : kI.Own w B u l) (hat : v'.ownBlock = v.ownBlock ∨ v'.ownBlock = some (w.alloc o).heap.size) : Apart v' u := by
  intro g hg e
  rcases hat with h | h
  · exact ha g (h ▸ hg) e
  · rw [h] at hg
    injection hg with hg
    have := (hu.lt e).2
    simp at hg
    omega
end Go.Proofs.Ytcdcgdblchchkaa.P16

/- A slice of old nodes, opened out of an argument. No condition. -/
set_option linter.unusedVariables false
set_option linter.unusedSimpArgs false
namespace Go.Proofs.Ytcdcgdblchchkaa.P16
open Go.RowKit Go.ChangeShapes Go.WideShapes Go.Deep Kd P4 P11

theorem cellsO : Try.prog.cellsOf 30 = 2 := by kernel_rfl
set_option maxRecDepth 100000 in
theorem open_olds {H : Type} {enc : TypeId × Value → H} {w : World} {v : Value} {d : DataW H} {p : List MemPlace} {base : Nat}
    (hv : Value.okWide Try.prog w .any base 22 v) (h : DataW.Trod enc Try.prog w 0 (fun _ => true) true 22 v d p) :
    ∃ A n c l, v = .slice A n c ∧ l.length = n ∧ n ≤ c ∧ c ≤ maxLen ∧ (∀ a ∈ l, a.tag.size ≤ maxLen ∧ a.key.size ≤ maxLen) ∧ kO.Holds w w.heap.size A l := by
  refine kO.open_ (base := base) (⟨⟨#[]⟩, ⟨#[]⟩⟩ : Ol) (fun a => a.tag.size ≤ maxLen ∧ a.key.size ≤ maxLen) cellsO (fun fuel cs x hx hlen => ?_) hv h
  obtain ⟨xs, k, hk, hxy, _, hxl, hg⟩ := DataW.trod_struct Try.underlying30 hx
  match cs, hlen with
  | [v0, v1], _ =>
    have g0 := hg 0 _ rfl
    have g1 := hg 1 _ rfl
    simp [P11.cellsS] at g0 g1
    have x0 : xs[0]? = some (xs[0]'(by rw [hxl]; decide)) := List.getElem?_eq_getElem _
    have x1 : xs[1]? = some (xs[1]'(by rw [hxl]; decide)) := List.getElem?_eq_getElem _
    rw [x0] at g0
    rw [x1] at g1
    obtain ⟨s0, hs0, _, hz0⟩ := DataW.trod_string Try.underlying9 g0
    obtain ⟨s1, hs1, _, hz1⟩ := DataW.trod_string Try.underlying9 g1
    injection hs0 with hs0 _
    injection hs1 with hs1 _
    subst hs0; subst hs1
    exact ⟨⟨s0, s1⟩, rfl, hz0, hz1⟩
end Go.Proofs.Ytcdcgdblchchkaa.P16
