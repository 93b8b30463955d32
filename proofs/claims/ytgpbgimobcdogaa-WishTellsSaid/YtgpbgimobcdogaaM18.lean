/- slices.Index, slices.Delete of one integer, slices.Clone of integers and of attributes, dom.without. -/
import Derived.Deep.RegionHeld3
import Derived.Test.YtgpbgimobcdogaaM9
import Derived.Test.YtgpbgimobcdogaaM14
import Derived.Test.YtgpbgimobcdogaaM17
set_option linter.unusedVariables false
set_option linter.unusedSimpArgs false
set_option linter.unusedVariables false
set_option linter.unusedSimpArgs false
namespace Go.Proofs.Ytgpbgimobcdogaa.P5
open Go.RowKit Kd P4

/-! ### Index -/
def idxA : List Int → Int → Nat
  | [], _ => 0
  | a :: r, t => if t = a then 0 else idxA r t + 1
theorem idxA_le (l : List Int) (t : Int) : idxA l t ≤ l.length := by
  induction l with
  | nil => simp [idxA]
  | cons a r ih => simp only [idxA, List.length_cons]; split <;> omega
theorem idxA_of : ∀ {l : List Int} {t : Int} {k : Nat} (hk : k < l.length), l[k] = t → (∀ j (h : j < l.length), j < k → l[j] ≠ t) → idxA l t = k
  | [], _, _, hk, _, _ => absurd hk (by simp)
  | a :: r, t, 0, _, h, _ => by simp only [List.getElem_cons_zero] at h; simp [idxA, h]
  | a :: r, t, k + 1, hk, h, hj => by
    have h0 := hj 0 (by simp) (by omega)
    simp only [List.getElem_cons_zero] at h0
    rw [idxA, if_neg (fun e => h0 e.symm), idxA_of (k := k) (by simpa using hk) (by simpa using h) (fun j h1 h2 => by have := hj (j + 1) (by simpa using h1) (by omega); rwa [List.getElem_cons_succ] at this)]
theorem idxA_lt {l : List Int} {t : Int} (h : t ∈ l) : idxA l t < l.length := by
  induction l with
  | nil => simp at h
  | cons a r ih =>
    simp only [idxA, List.length_cons]
    split
    · omega
    · rename_i e
      have := ih ((List.mem_cons.1 h).resolve_left e)
      omega
theorem cell_int {w : World} {B : Nat} {A : Option Addr} {l : List Int} (h : kI.Holds w B A l) {k : Nat} (hk : k < l.length) : ∃ b o, A = some ⟨b, o, none⟩ ∧ b < B ∧ w.cell? ⟨b, o + k, none⟩ = some (.int .i64 l[k]) := by
  obtain ⟨b, o, hA, hb, hc⟩ := h.at hk
  refine ⟨b, o, hA, hb, ?_⟩
  have := hc 0 _ rfl
  rw [show k * kI.size + 0 = k from Nat.mul_one k] at this
  exact this

/-! ### Delete -/
theorem clearInt (w : World) (ty : TypeId) (b o c : Nat) (hc : (w.cell? ⟨b, o, none⟩).isSome = true) (hf : w.frozen? ⟨b, o, none⟩ = false) :
    (Builtin.clear_ #[77] ty #[.slice (some ⟨b, o, none⟩) 1 c]).run Try.prog w = .ok (.tuple #[]) (w.setCells b o [.int .i64 0]) := by
  have hst := run_storeCells_cells (P := Try.prog) b o [.int .i64 0] 0 w (by intro j hj; simp at hj; subst hj; simpa using hc) (by intro j hj; simp at hj; subst hj; simpa using hf) (by simp [Value.oneCell'])
  simp only [Nat.add_zero] at hst
  have hz : (Builtin.zeroCells (Value.int .i64 0).cells 1).toList = [.int .i64 0] := by
    simp [Builtin.zeroCells, Value.cells, Array.range]
  simp [Builtin.clear_, run_underlying Try.underlying77, hz, hst]

theorem erase_less : ∀ {l : List Int} {t : Int}, l.Nodup → t ∈ l → l.eraseIdx (idxA l t) = less t l
  | [], _, _, h => absurd h (by simp)
  | a :: r, t, hn, h => by
    obtain ⟨h1, h2⟩ := List.nodup_cons.1 hn
    by_cases e : t = a
    · subst e
      simp only [idxA, if_true, List.eraseIdx_cons_zero, less]
      rw [List.filter_cons]
      simp only [ne_eq, not_true_eq_false, decide_false, Bool.false_eq_true, if_false]
      exact (List.filter_eq_self.2 (fun c hc => by simp; rintro rfl; exact h1 hc)).symm
    · have ih := erase_less h2 ((List.mem_cons.1 h).resolve_left e)
      rw [idxA, if_neg e, List.eraseIdx_cons_succ, ih]
      simp only [less]
      rw [List.filter_cons]
      simp [Ne.symm e]

/-! ### without -/
def Without (w : World) (B : Nat) (v : Value) (l : List Int) (t : Int) (e : Ending) (w' : World) : Prop :=
  ∃ A n c, e = .returned (.slice A n c) ∧ kI.Own w' B (.slice A n c) (less t l) ∧ But (fun k => v.ownBlock = some k) w w' ∧ (Value.slice A n c).ownBlock = v.ownBlock
/-! ### Clone -/
def Cloned {α : Type} (K : Kind Try.prog α) (w : World) (l : List α) (e : Ending) (w' : World) : Prop := ∃ A n c, e = .returned (.slice A n c) ∧ K.Own w' w.heap.size (.slice A n c) l ∧ Below w.heap.size w w'
end Go.Proofs.Ytgpbgimobcdogaa.P5

/- What placketref11.tells, begin, ahead, attr, wrong and Check answer. No condition but those stated. -/
set_option linter.unusedVariables false
set_option linter.unusedSimpArgs false
namespace Go.Proofs.Ytgpbgimobcdogaa.P13
open Go.RowKit Kd P4 P5 P11 P12

theorem own_cut {P : Program} {α : Type} {K : Kind P α} {w : World} {B : Nat} {A : Option Addr} {n c k : Nat} {l : List α} (h : K.Own w B (.slice A n c) l) (hk : k ≤ l.length) : K.Own w B (.slice A k c) (l.take k) := by
  rcases h.form with ⟨hv, hl⟩ | ⟨g, c', cur, hv, _, hg, hlt, hh, hnc, hcm, hcs, ht⟩
  · injection hv with e1 e2 e3
    subst e1; subst e2; subst e3; subst hl
    obtain rfl : k = 0 := by simpa using hk
    rw [List.take_nil]
    exact h
  · injection hv with e1 e2 e3
    subst e1; subst e2; subst e3
    refine Kind.own_mk (by simp; omega) hg hh (by omega) hcm hcs ?_
    rw [Kind.cells_take, ← ht, List.take_take, Nat.min_eq_left (Nat.mul_le_mul_right _ hk)]
theorem ownI_is {w : World} {D : Nat} {A : Option Addr} {n c : Nat} {l : List Int} (h : kI.Own w D (.slice A n c) l) : l.length = n ∧ n ≤ c ∧ c ≤ maxLen ∧ (A = none → c = 0) ∧ kI.Holds w w.heap.size A l := by
  obtain ⟨A', n', c', hv, e1, e2, e3, e4, e5⟩ := h.slice
  injection hv with h1 h2 h3
  subst h1; subst h2; subst h3
  exact ⟨e1, e2, e3, e4, e5⟩
theorem tellsO_any (op : Int) (w : World) : Calls Try.prog 22 #[.int .i64 op] w fun e w' => e = .returned (.bool (tellsO op)) ∧ w = w' := by
  by_cases h5 : op = 5
  · subst h5
    go_enter Try.func22, Try.ntmps22
    go_wp2_with fail
    go_ret
    exact ⟨rfl, rfl⟩
  by_cases h6 : op = 6
  · subst h6
    go_enter Try.func22, Try.ntmps22
    go_wp2_with fail
    go_ret
    exact ⟨rfl, rfl⟩
  have e : tellsO op = false := by simp [tellsO, h5, h6]
  rw [e]
  have q5 := int_ne h5
  have q6 := int_ne h6
  go_enter Try.func22, Try.ntmps22
  go_wp2_with fail
  go_ret
  exact ⟨rfl, rfl⟩
/-! ### begin -/
def BgRel (w : World) (l : List In) (k : Nat) (s6 s7 : Value) (wr : World) : Prop := ∃ (i : Nat) (A' : Option Addr) (n' c' : Nat), i ≤ k ∧ s7 = .int .i64 i ∧ s6 = .slice A' n' c' ∧ Hid (kI.Own wr w.heap.size (.slice A' n' c') (opensK l i)) ∧ Hid (Below w.heap.size w wr)
set_option maxRecDepth 100000 in
set_option maxHeartbeats 4000000 in
theorem begin_any (l : List In) (A : Option Addr) (n c k : Nat) (w : World) (hh : kX.Holds w w.heap.size A l) (hn : l.length = n) (hk : k ≤ n) (hl : n ≤ 1000) :
    Calls Try.prog 21 #[.slice A n c, .int .i64 k] w fun e w' => e = .returned (.tuple #[.int .i64 (beginP l k).1, .int .i64 ((beginP l k).2 : Nat)]) ∧ Below w.heap.size w w' := by
  have KH := Lib.hid hh
  have KL := Lib.hid hn
  have ST : Hid (BgRel w l k (.slice none 0 0) (.int .i64 0) w) := Lib.hid ⟨0, none, 0, 0, by omega, rfl, rfl, Lib.hid (Kind.Own.nil kI w _), Lib.hid (Below.refl _ _)⟩
  clear hh hn
  go_enter Try.func21, Try.ntmps21
  go_wp2_with fail
  go_loopw [6, 7] (fun s6 s7 wr => BgRel w l k s6 s7 wr) (fun _ s7 _ => k - (intOf s7).toNat)
  case atStart => exact ST.out
  case round =>
    obtain ⟨i, A', n', c', hi, rfl, rfl, HO, HB⟩ := hrel
    clear ST
    have hol := opensK_len l i
    have OI := ownI_is HO.out
    have OL := Lib.hid OI.1
    have hnc' := OI.2.1
    have hcm' := OI.2.2.1
    unfold maxLen at hcm'
    have hn' : n' ≤ i := by have := OI.1; omega
    clear OI hol
    by_cases hik : i < k
    · have hil : i < l.length := by have := KL.out; omega
      obtain ⟨b, o, rfl, hb, g0', g1', g2'⟩ := cell_of_ins KH.out hil
      have G : Hid (∀ wz, Below w.heap.size w wz → wz.cell? ⟨b, o + i * 3, none⟩ = some (.int .i64 l[i].op)) := Lib.hid (fun wz h => (h.cell hb).trans g0')
      have g0 := G.out wr HB.out
      have SN : Hid (opensK l (i + 1) = stepB i (opensK l i) l[i]) := Lib.hid (opensK_step hil)
      clear g0' g1' g2'
      generalize l[i] = d at g0 G SN
      obtain ⟨op, a, bb⟩ := d
      simp only at g0 G
      have hB0 := HB.out.size
      by_cases h1 : op = 1
      · subst h1
        have SN2 : Hid (opensK l (i + 1) = opensK l i ++ [(i : Int) + 1]) := Lib.hid (by rw [SN.out, stepB, if_pos rfl])
        have LD : Hid (kI.Holds (wr.alloc (.cells #[.int .i64 ((i : Int) + 1)] 3)) (wr.heap.size + 1) (some ⟨wr.heap.size, 0, none⟩) [(i : Int) + 1]) := Lib.hid (Kind.Holds.lit (heap_alloc_new wr _) rfl)
        go_upto_region 7 with (at_builtin; refine kI.wp_app rfl _ _ rfl (v := .slice A' n' c') (l := opensK l i) (m := [(i : Int) + 1]) (B := w.heap.size) rfl (HO.out.alloc _) rfl rfl (fun e => by cases e) LD.out (by have := OL.out; omega) (by simp; omega) ?_; intro v' w4 hown' hgrow hat; obtain ⟨A4, n4, c4, rfl, e1, e2, e3, e4, e5⟩ := hown'.slice; have B4 : Hid (Below w.heap.size w w4) := Lib.hid ((HB.out.alloc hB0 _).grown hgrow (by simp; omega) (fun k hk => (HO.out.lt hk).1)); have O4 := Lib.hid hown'; clear hown' hgrow hat e1 e2 e3 e4 e5)
        clear LD g0
        have g0 := G.out w4 B4.out
        go_wp2_with fail
        go_roundw
        case rel => exact ⟨i + 1, A4, n4, c4, by omega, by go_num, rfl, Lib.hid (by rw [SN2.out]; exact O4.out), B4⟩
        case measure => simp [intOf]; omega
      · have q1 := int_ne h1
        by_cases h2 : op = 2
        · subst h2
          have SN2 : Hid (opensK l (i + 1) = (opensK l i).dropLast) := Lib.hid (by rw [SN.out, stepB, if_neg (show ¬ ((2 : Int) = 1) by decide), if_pos rfl])
          by_cases h0 : 0 < n'
          · have O5 : Hid (kI.Own wr w.heap.size (.slice A' (n' - 1) c') (opensK l (i + 1))) := Lib.hid (by
              rw [SN2.out, List.dropLast_eq_take, OL.out]
              exact own_cut HO.out (by have := OL.out; omega))
            obtain ⟨m, rfl⟩ : ∃ m, n' = m + 1 := ⟨n' - 1, by omega⟩
            rw [Nat.add_sub_cancel] at O5
            have i1 : ((m + 1 : Nat) : Int) - 1 = (m : Int) := by omega
            have i2 : (m : Int) ≤ (c' : Int) := by omega
            go_wp2_with fail
            go_roundw
            case rel => exact ⟨i + 1, A', m, c', by omega, by go_num, by first | rfl | (congr 1), O5, HB⟩
            case measure => simp [intOf]; omega
          · obtain rfl : n' = 0 := by omega
            have hz : opensK l i = [] := List.eq_nil_of_length_eq_zero OL.out
            have SN3 : Hid (opensK l (i + 1) = opensK l i) := Lib.hid (by rw [SN2.out, hz]; rfl)
            clear hz
            go_wp2_with fail
            go_roundw
            case rel => exact ⟨i + 1, A', 0, c', by omega, by go_num, rfl, Lib.hid (by rw [SN3.out]; exact HO.out), HB⟩
            case measure => simp [intOf]; omega
        · have q2 := int_ne h2
          have SN2 : Hid (opensK l (i + 1) = opensK l i) := Lib.hid (by rw [SN.out, stepB, if_neg h1, if_neg h2])
          go_wp2_with fail
          go_roundw
          case rel => exact ⟨i + 1, A', n', c', by omega, by go_num, rfl, Lib.hid (by rw [SN2.out]; exact HO.out), HB⟩
          case measure => simp [intOf]; omega
    · obtain rfl : i = k := by omega
      by_cases h0 : n' = 0
      · subst h0
        have E := Lib.hid (beginP_none OL.out)
        go_wp2_with fail
        go_ret2
        exact ⟨by rw [E.out]; rfl, HB.out⟩
      · obtain ⟨m, rfl⟩ : ∃ m, n' = m + 1 := ⟨n' - 1, by omega⟩
        have hml : m < (opensK l i).length := by have := OL.out; omega
        have E := Lib.hid (beginP_some hml OL.out)
        obtain ⟨gb, go, rfl, _, g0⟩ := cell_int (ownI_is HO.out).2.2.2.2 hml
        generalize (opensK l i)[m] = pv at g0 E
        have q0 : (((m + 1 : Nat) : Int) == 0) = false := by simp; omega
        have i1 : ((m + 1 : Nat) : Int) - 1 = (m : Int) := by omega
        go_wp2_with fail
        go_ret2
        exact ⟨by rw [E.out]; rfl, HB.out⟩
end Go.Proofs.Ytgpbgimobcdogaa.P13
