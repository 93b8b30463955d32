/- What each call of layer 1 and of its reference answers, for every string. -/
import Derived.Test.YtddfkeilifcidaaChecked
import Derived.Test.YtddfkeilifcidaaPlain1
import Derived.WalkKit
import Derived.ProofKit
import Derived.Outline
import Derived.WalkLawsBesides
import Derived.WalkSpells
import Derived.Lib.Hide
set_option linter.unusedVariables false
set_option linter.unusedSimpArgs false
namespace Go.Proofs.Ytddfkeilifcidaa.P1
open Go.RowKit

theorem letter_any (c : UInt8) (w : World) : Calls Try.prog 33 #[.int .u8 (c.toNat : Int)] w fun e w' => e = .returned (.bool (letB c)) ∧ w = w' := by
  go_enter Try.func33, Try.ntmps33
  go_wp2_with fail
  all_goals (go_ret; exact ⟨ret_bool (by first | (rw [letB_no (by omega)]) | exact letB_mk (by omega)), rfl⟩)
theorem rletter_any (c : UInt8) (w : World) : Calls Try.prog 36 #[.int .u8 (c.toNat : Int)] w fun e w' => e = .returned (.bool (letB c)) ∧ w = w' := by
  go_enter Try.func36, Try.ntmps36
  go_wp2_with fail
  all_goals (go_ret; exact ⟨ret_bool (by first | (rw [letB_no (by omega)]) | exact letB_mk (by omega)), rfl⟩)
theorem digit_any (c : UInt8) (w : World) : Calls Try.prog 34 #[.int .u8 (c.toNat : Int)] w fun e w' => e = .returned (.bool (digB c)) ∧ w = w' := by
  go_enter Try.func34, Try.ntmps34
  go_wp2_with fail
  all_goals (go_ret; exact ⟨ret_bool (by first | (rw [digB_no (by omega)]) | (unfold digB; simp; omega)), rfl⟩)

theorem may_any (s : ByteArray) (w : World) (hs : s.size ≤ maxLen) : Calls Try.prog 26 #[.string s] w fun e w' => e = .returned (.bool (nameB s.data.toList)) ∧ w = w' := by
  unfold maxLen at hs
  by_cases h0 : s.size = 0
  · have hE : s.toList = [] := toList_nil h0
    have hE2 : s.toList.isEmpty = true := by rw [hE]; rfl
    go_enter Try.func26, Try.ntmps26
    go_wp2_with fail
    go_ret
    exact ⟨ret_bool (nameB_empty h0).symm, rfl⟩
  · have h1 : 0 < s.size := by omega
    have hE2 : s.toList.isEmpty = false := toList_cons h1
    have hE3 : ¬ s.toList = [] := by intro e; rw [e] at hE2; cases hE2
    clear h0
    by_cases h12 : 12 < s.size
    · go_enter Try.func26, Try.ntmps26
      go_wp2_with fail
      go_ret
      exact ⟨ret_bool (nameB_long h12).symm, rfl⟩
    · go_enter Try.func26, Try.ntmps26
      go_wp2_with fail
      refine (letter_any _ _).mono ?_
      rintro e w' ⟨rfl, rfl⟩
      cases hl : letB s[0]
      · go_wp2_with fail
        go_ret
        exact ⟨ret_bool (nameB_head h1 hl).symm, rfl⟩
      · have HL := Lib.hid hl
        go_wp2_with fail
        clear hl
        go_loop [3] (fun i => ∃ k : Nat, 1 ≤ k ∧ k ≤ s.size ∧ i = .int .i64 k ∧ InTo s k) (fun i => s.size - (intOf i).toNat)
        case atStart => exact ⟨1, by omega, by omega, rfl, InTo.one s⟩
        case round =>
          obtain ⟨k, hk1, hk, rfl, hin⟩ := hrel
          have HIN := Lib.hid hin
          clear hin
          by_cases hlt : k < s.size
          · go_wp2_with (first | (go_at_call 33; refine (letter_any _ _).mono ?_; rintro e w' ⟨rfl, rfl⟩) | (go_at_call 34; refine (digit_any _ _).mono ?_; rintro e w' ⟨rfl, rfl⟩))
            all_goals first | (go_ret; exact ⟨ret_bool (nameB_bad hk1 hlt (inB_no ‹_› ‹_› ‹_›)).symm, rfl⟩) | skip
            all_goals
              go_round
              case rel => exact ⟨k + 1, by omega, by omega, by go_num, HIN.out.next hlt (by first | exact inB_let ‹_› | exact inB_dig ‹_› | exact inB_dash ‹_›)⟩
              case measure => simp [intOf]; omega
          · obtain rfl : k = s.size := by omega
            go_wp2_with fail
            go_ret
            exact ⟨ret_bool (nameB_ok h1 (by omega) HL.out HIN.out).symm, rfl⟩

theorem rname_any (s : ByteArray) (w : World) (hs : s.size ≤ maxLen) : Calls Try.prog 30 #[.string s] w fun e w' => e = .returned (.bool (nameB s.data.toList)) ∧ w = w' := by
  unfold maxLen at hs
  by_cases h0 : s.size < 1
  · go_enter Try.func30, Try.ntmps30
    go_wp2_with fail
    go_ret
    exact ⟨ret_bool (nameB_empty (by omega)).symm, rfl⟩
  · have h1 : 0 < s.size := by omega
    clear h0
    by_cases h12 : 12 < s.size
    · go_enter Try.func30, Try.ntmps30
      go_wp2_with fail
      go_ret
      exact ⟨ret_bool (nameB_long h12).symm, rfl⟩
    · go_enter Try.func30, Try.ntmps30
      go_wp2_with fail
      go_loop [3] (fun i => ∃ k : Nat, 0 ≤ k ∧ k ≤ s.size ∧ i = .int .i64 k ∧ InTo s k ∧ (0 < k → letB s[0] = true)) (fun i => s.size - (intOf i).toNat)
      case atStart => exact ⟨0, by omega, by omega, rfl, fun _ _ _ h => absurd h (by omega), fun h => absurd h (by omega)⟩
      case round =>
        obtain ⟨k, hk1, hk, rfl, hin, hl0⟩ := hrel
        have HIN := Lib.hid hin
        have HL := Lib.hid hl0
        clear hin hl0
        by_cases hlt : k < s.size
        · by_cases hk0 : k = 0
          · subst hk0
            go_wp2_with (go_at_call 36; refine (rletter_any _ _).mono ?_; rintro e w' ⟨rfl, rfl⟩)
            all_goals first | (go_ret; exact ⟨ret_bool (nameB_head h1 (Bool.eq_false_iff.mpr ‹_›)).symm, rfl⟩) | skip
            go_round
            case rel => exact ⟨1, by omega, by omega, rfl, InTo.one s, fun _ => ‹_›⟩
            case measure => simp [intOf]; omega
          · have hk1 : 1 ≤ k := by omega
            have hk2 : ((k : Int) == 0) = false := by simpa using hk0
            clear hk0
            by_cases hd1 : (s[k].toNat : Int) < 48
            · cases hd3 : ((s[k].toNat : Int) != 45)
              all_goals
                go_wp2_with (go_at_call 36; refine (rletter_any _ _).mono ?_; rintro e w' ⟨rfl, rfl⟩)
                all_goals first | (go_ret; exact ⟨ret_bool (nameB_bad hk1 hlt (inB_no' ‹_› (by omega) hd3)).symm, rfl⟩) | skip
                all_goals
                  go_round
                  case rel => exact ⟨k + 1, by omega, by omega, by go_num, HIN.out.next hlt (by first | exact inB_let ‹_› | exact inB_dash ‹_›), fun _ => HL.out hk1⟩
                  case measure => simp [intOf]; omega
            · have hd1' : 48 ≤ (s[k].toNat : Int) := by omega
              by_cases hd2 : 57 < (s[k].toNat : Int)
              · have hd3 : ((s[k].toNat : Int) != 45) = true := by simp; omega
                go_wp2_with (go_at_call 36; refine (rletter_any _ _).mono ?_; rintro e w' ⟨rfl, rfl⟩)
                all_goals first | (go_ret; exact ⟨ret_bool (nameB_bad hk1 hlt (inB_no' ‹_› (by omega) hd3)).symm, rfl⟩) | skip
                all_goals
                  go_round
                  case rel => exact ⟨k + 1, by omega, by omega, by go_num, HIN.out.next hlt (inB_let ‹_›), fun _ => HL.out hk1⟩
                  case measure => simp [intOf]; omega
              · go_wp2_with (go_at_call 36; refine (rletter_any _ _).mono ?_; rintro e w' ⟨rfl, rfl⟩)
                all_goals
                  go_round
                  case rel => exact ⟨k + 1, by omega, by omega, by go_num, HIN.out.next hlt (inB_dig' hd1' (by omega)), fun _ => HL.out hk1⟩
                  case measure => simp [intOf]; omega
        · obtain rfl : k = s.size := by omega
          go_wp2_with fail
          go_ret
          exact ⟨ret_bool (nameB_ok h1 (by omega) (HL.out h1) HIN.out).symm, rfl⟩

theorem text_any (s : ByteArray) (w : World) (hs : s.size ≤ maxLen) : Calls Try.prog 28 #[.string s] w fun e w' => e = .returned (.bool (textB s.data.toList)) ∧ w = w' := by
  unfold maxLen at hs
  by_cases h60 : 60 < s.size
  · go_enter Try.func28, Try.ntmps28
    go_wp2_with fail
    go_ret
    exact ⟨ret_bool (textB_long h60).symm, rfl⟩
  · go_enter Try.func28, Try.ntmps28
    go_wp2_with fail
    go_loop [3] (fun i => ∃ k : Nat, 0 ≤ k ∧ k ≤ s.size ∧ i = .int .i64 k ∧ OkTo s k) (fun i => s.size - (intOf i).toNat)
    case atStart => exact ⟨0, by omega, by omega, rfl, OkTo.zero s⟩
    case round =>
      obtain ⟨k, hk1, hk, rfl, hin⟩ := hrel
      have HIN := Lib.hid hin
      clear hin
      by_cases hlt : k < s.size
      · by_cases hb : (s[k].toNat : Int) < 32
        · go_wp2_with fail
          go_ret
          exact ⟨ret_bool (textB_bad hlt (.inl hb)).symm, rfl⟩
        · have hb1 : 32 ≤ (s[k].toNat : Int) := by omega
          by_cases hb2 : 126 < (s[k].toNat : Int)
          · go_wp2_with fail
            go_ret
            exact ⟨ret_bool (textB_bad hlt (.inr hb2)).symm, rfl⟩
          · go_wp2_with fail
            go_round
            case rel => exact ⟨k + 1, by omega, by omega, by go_num, HIN.out.next hlt hb1 (by omega)⟩
            case measure => simp [intOf]; omega
      · obtain rfl : k = s.size := by omega
        go_wp2_with fail
        go_ret
        exact ⟨ret_bool (textB_ok (by omega) HIN.out).symm, rfl⟩

theorem rtext_any (s : ByteArray) (w : World) (hs : s.size ≤ maxLen) : Calls Try.prog 32 #[.string s] w fun e w' => e = .returned (.bool (textB s.data.toList)) ∧ w = w' := by
  unfold maxLen at hs
  go_enter Try.func32, Try.ntmps32
  go_wp2_with fail
  go_loop [3] (fun i => ∃ k : Nat, 0 ≤ k ∧ k ≤ s.size ∧ i = .int .i64 k ∧ OkTo s k) (fun i => s.size - (intOf i).toNat)
  case atStart => exact ⟨0, by omega, by omega, rfl, OkTo.zero s⟩
  case round =>
    obtain ⟨k, hk1, hk, rfl, hin⟩ := hrel
    have HIN := Lib.hid hin
    clear hin
    by_cases hlt : k < s.size
    · by_cases hb : (s[k].toNat : Int) < 32
      · go_wp2_with fail
        go_ret
        exact ⟨ret_bool (textB_bad hlt (.inl hb)).symm, rfl⟩
      · have hb1 : 32 ≤ (s[k].toNat : Int) := by omega
        by_cases hb2 : 126 < (s[k].toNat : Int)
        · go_wp2_with fail
          go_ret
          exact ⟨ret_bool (textB_bad hlt (.inr hb2)).symm, rfl⟩
        · go_wp2_with fail
          go_round
          case rel => exact ⟨k + 1, by omega, by omega, by go_num, HIN.out.next hlt hb1 (by omega)⟩
          case measure => simp [intOf]; omega
    · obtain rfl : k = s.size := by omega
      go_wp2_with fail
      go_ret
      exact ⟨ret_bool (by rw [textB_all HIN.out]; exact decide_eq_decide.mpr (by omega)), rfl⟩
end Go.Proofs.Ytddfkeilifcidaa.P1
