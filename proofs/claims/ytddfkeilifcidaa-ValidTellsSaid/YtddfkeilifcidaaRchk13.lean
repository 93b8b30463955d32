/- What placketref11.tells, begin, ahead, attr, wrong and Check answer. No condition but those stated. -/
import Derived.Test.YtddfkeilifcidaaPlain13
import Derived.Test.YtddfkeilifcidaaSame12
import Derived.Test.YtddfkeilifcidaaInt5
import Derived.Deep.RegionHeld3
set_option linter.unusedVariables false
set_option linter.unusedSimpArgs false
namespace Go.Proofs.Ytddfkeilifcidaa.P13
open Go.RowKit Kd P4 P5 P11 P12

theorem own_cut {P : Program} {α : Type} {K : Kind P α} {w : World} {B : Nat} {A : Option Addr} {n c k : Nat} {l : List α} (h : K.Own w B (.slice A n c) l) (hk : k ≤ l.length) : K.Own w B (.slice A k c) (l.take k) := by
  rcases h.form with ⟨hv, hl⟩ | ⟨g, c', cur, hv, _, hg, hlt, hh, hnc, hcm, hcs, ht⟩
  · injection hv with e1 e2 e3
    subst e1; subst e2; subst e3; subst hl
    obtain rfl : k = 0 := by simpa using hk
    rw [List.take_nil]
    exact h
  · injection hv with e1 e2 e3
    subst e1; subst e2; subst e3
    refine Kind.own_mk (by simp; omega) hg hh (by omega) hcm hcs ?_
    rw [Kind.cells_take, ← ht, List.take_take, Nat.min_eq_left (Nat.mul_le_mul_right _ hk)]
theorem ownI_is {w : World} {D : Nat} {A : Option Addr} {n c : Nat} {l : List Int} (h : kI.Own w D (.slice A n c) l) : l.length = n ∧ n ≤ c ∧ c ≤ maxLen ∧ (A = none → c = 0) ∧ kI.Holds w w.heap.size A l := by
  obtain ⟨A', n', c', hv, e1, e2, e3, e4, e5⟩ := h.slice
  injection hv with h1 h2 h3
  subst h1; subst h2; subst h3
  exact ⟨e1, e2, e3, e4, e5⟩
theorem tellsO_any (op : Int) (w : World) : Calls Try.prog 23 #[.int .i64 op] w fun e w' => e = .returned (.bool (tellsO op)) ∧ w = w' := by
  by_cases h5 : op = 5
  · subst h5
    go_enter Try.func23, Try.ntmps23
    go_wp2_with fail
    go_ret
    exact ⟨rfl, rfl⟩
  by_cases h6 : op = 6
  · subst h6
    go_enter Try.func23, Try.ntmps23
    go_wp2_with fail
    go_ret
    exact ⟨rfl, rfl⟩
  have e : tellsO op = false := by simp [tellsO, h5, h6]
  rw [e]
  have q5 := int_ne h5
  have q6 := int_ne h6
  go_enter Try.func23, Try.ntmps23
  go_wp2_with fail
  go_ret
  exact ⟨rfl, rfl⟩
/-! ### begin -/
def BgRel (w : World) (l : List In) (k : Nat) (s6 s7 : Value) (wr : World) : Prop := ∃ (i : Nat) (A' : Option Addr) (n' c' : Nat), i ≤ k ∧ s7 = .int .i64 i ∧ s6 = .slice A' n' c' ∧ Hid (kI.Own wr w.heap.size (.slice A' n' c') (opensK l i)) ∧ Hid (Below w.heap.size w wr)
set_option maxRecDepth 100000 in
set_option maxHeartbeats 4000000 in
theorem begin_any (l : List In) (A : Option Addr) (n c k : Nat) (w : World) (hh : kX.Holds w w.heap.size A l) (hn : l.length = n) (hk : k ≤ n) (hl : n ≤ 1000) :
    Calls Try.prog 14 #[.slice A n c, .int .i64 k] w fun e w' => e = .returned (.tuple #[.int .i64 (beginP l k).1, .int .i64 ((beginP l k).2 : Nat)]) ∧ Below w.heap.size w w' := by
  have KH := Lib.hid hh
  have KL := Lib.hid hn
  have ST : Hid (BgRel w l k (.slice none 0 0) (.int .i64 0) w) := Lib.hid ⟨0, none, 0, 0, by omega, rfl, rfl, Lib.hid (Kind.Own.nil kI w _), Lib.hid (Below.refl _ _)⟩
  clear hh hn
  go_enter Try.func14, Try.ntmps14
  go_wp2_with fail
  go_loopw [6, 7] (fun s6 s7 wr => BgRel w l k s6 s7 wr) (fun _ s7 _ => k - (intOf s7).toNat)
  case atStart => exact ST.out
  case round =>
    obtain ⟨i, A', n', c', hi, rfl, rfl, HO, HB⟩ := hrel
    clear ST
    have hol := opensK_len l i
    have OI := ownI_is HO.out
    have OL := Lib.hid OI.1
    have hnc' := OI.2.1
    have hcm' := OI.2.2.1
    unfold maxLen at hcm'
    have hn' : n' ≤ i := by have := OI.1; omega
    clear OI hol
    by_cases hik : i < k
    · have hil : i < l.length := by have := KL.out; omega
      obtain ⟨b, o, rfl, hb, g0', g1', g2'⟩ := cell_of_ins KH.out hil
      have G : Hid (∀ wz, Below w.heap.size w wz → wz.cell? ⟨b, o + i * 3, none⟩ = some (.int .i64 l[i].op)) := Lib.hid (fun wz h => (h.cell hb).trans g0')
      have g0 := G.out wr HB.out
      have SN : Hid (opensK l (i + 1) = stepB i (opensK l i) l[i]) := Lib.hid (opensK_step hil)
      clear g0' g1' g2'
      generalize l[i] = d at g0 G SN
      obtain ⟨op, a, bb⟩ := d
      simp only at g0 G
      have hB0 := HB.out.size
      by_cases h1 : op = 1
      · subst h1
        have SN2 : Hid (opensK l (i + 1) = opensK l i ++ [(i : Int) + 1]) := Lib.hid (by rw [SN.out, stepB, if_pos rfl])
        have LD : Hid (kI.Holds (wr.alloc (.cells #[.int .i64 ((i : Int) + 1)] 3)) (wr.heap.size + 1) (some ⟨wr.heap.size, 0, none⟩) [(i : Int) + 1]) := Lib.hid (Kind.Holds.lit (heap_alloc_new wr _) rfl)
        go_upto_region 7 with (at_builtin; refine kI.wp_app rfl _ _ rfl (v := .slice A' n' c') (l := opensK l i) (m := [(i : Int) + 1]) (B := w.heap.size) rfl (HO.out.alloc _) rfl rfl (fun e => by cases e) LD.out (by have := OL.out; omega) (by simp; omega) ?_; intro v' w4 hown' hgrow hat; obtain ⟨A4, n4, c4, rfl, e1, e2, e3, e4, e5⟩ := hown'.slice; have B4 : Hid (Below w.heap.size w w4) := Lib.hid ((HB.out.alloc hB0 _).grown hgrow (by simp; omega) (fun k hk => (HO.out.lt hk).1)); have O4 := Lib.hid hown'; clear hown' hgrow hat e1 e2 e3 e4 e5)
        clear LD g0
        have g0 := G.out w4 B4.out
        go_wp2_with fail
        go_roundw
        case rel => exact ⟨i + 1, A4, n4, c4, by omega, by go_num, rfl, Lib.hid (by rw [SN2.out]; exact O4.out), B4⟩
        case measure => simp [intOf]; omega
      · have q1 := int_ne h1
        by_cases h2 : op = 2
        · subst h2
          have SN2 : Hid (opensK l (i + 1) = (opensK l i).dropLast) := Lib.hid (by rw [SN.out, stepB, if_neg (show ¬ ((2 : Int) = 1) by decide), if_pos rfl])
          by_cases h0 : 0 < n'
          · have O5 : Hid (kI.Own wr w.heap.size (.slice A' (n' - 1) c') (opensK l (i + 1))) := Lib.hid (by
              rw [SN2.out, List.dropLast_eq_take, OL.out]
              exact own_cut HO.out (by have := OL.out; omega))
            obtain ⟨m, rfl⟩ : ∃ m, n' = m + 1 := ⟨n' - 1, by omega⟩
            rw [Nat.add_sub_cancel] at O5
            have i1 : ((m + 1 : Nat) : Int) - 1 = (m : Int) := by omega
            have i2 : (m : Int) ≤ (c' : Int) := by omega
            go_wp2_with fail
            go_roundw
            case rel => exact ⟨i + 1, A', m, c', by omega, by go_num, by first | rfl | (congr 1), O5, HB⟩
            case measure => simp [intOf]; omega
          · obtain rfl : n' = 0 := by omega
            have hz : opensK l i = [] := List.eq_nil_of_length_eq_zero OL.out
            have SN3 : Hid (opensK l (i + 1) = opensK l i) := Lib.hid (by rw [SN2.out, hz]; rfl)
            clear hz
            go_wp2_with fail
            go_roundw
            case rel => exact ⟨i + 1, A', 0, c', by omega, by go_num, rfl, Lib.hid (by rw [SN3.out]; exact HO.out), HB⟩
            case measure => simp [intOf]; omega
        · have q2 := int_ne h2
          have SN2 : Hid (opensK l (i + 1) = opensK l i) := Lib.hid (by rw [SN.out, stepB, if_neg h1, if_neg h2])
          go_wp2_with fail
          go_roundw
          case rel => exact ⟨i + 1, A', n', c', by omega, by go_num, rfl, Lib.hid (by rw [SN2.out]; exact HO.out), HB⟩
          case measure => simp [intOf]; omega
    · obtain rfl : i = k := by omega
      by_cases h0 : n' = 0
      · subst h0
        have E := Lib.hid (beginP_none OL.out)
        go_wp2_with fail
        go_ret2
        exact ⟨by rw [E.out]; rfl, HB.out⟩
      · obtain ⟨m, rfl⟩ : ∃ m, n' = m + 1 := ⟨n' - 1, by omega⟩
        have hml : m < (opensK l i).length := by have := OL.out; omega
        have E := Lib.hid (beginP_some hml OL.out)
        obtain ⟨gb, go, rfl, _, g0⟩ := cell_int (ownI_is HO.out).2.2.2.2 hml
        generalize (opensK l i)[m] = pv at g0 E
        have q0 : (((m + 1 : Nat) : Int) == 0) = false := by simp; omega
        have i1 : ((m + 1 : Nat) : Int) - 1 = (m : Int) := by omega
        go_wp2_with fail
        go_ret2
        exact ⟨by rw [E.out]; rfl, HB.out⟩
end Go.Proofs.Ytddfkeilifcidaa.P13
