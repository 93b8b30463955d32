/- The walks of the two laws of layer 1: each answers true, for every string. -/
import Derived.Test.YtlfgkmocjdlgjaaName
namespace Go.Proofs.Ytlfgkmocjdlgjaa.P1
open Go.RowKit

theorem up_any (w : World) : Calls Try.prog 5 #[] w fun e w' => e = .returned (.bool true) ∧ w = w' := by
  have n1 : nameB [97, 49] = true := by decide
  have n2 : nameB [49, 97] = false := by decide
  have n3 : nameB [] = false := by decide
  have n4 : textB [] = true := by decide
  have n5 : voidB [98, 114] = true := by decide
  go_enter Try.func5, Try.ntmps5
  go_wp2_with fail
  refine (may_any _ _ (by decide)).mono ?_
  rintro e w' ⟨rfl, rfl⟩
  go_wp2_with fail
  refine (may_any _ _ (by decide)).mono ?_
  rintro e w' ⟨rfl, rfl⟩
  go_wp2_with fail
  refine (may_any _ _ (by decide)).mono ?_
  rintro e w' ⟨rfl, rfl⟩
  go_wp2_with fail
  refine (text_any _ _ (by decide)).mono ?_
  rintro e w' ⟨rfl, rfl⟩
  go_wp2_with fail
  refine (void_any _ _).mono ?_
  rintro e w' ⟨rfl, rfl⟩
  go_wp2_with fail
  go_ret
  exact ⟨rfl, rfl⟩

theorem tells_any (s : ByteArray) (w : World) (hs : s.size ≤ maxLen) : Calls Try.prog 3 #[.string s] w fun e w' => e = .returned (.bool true) ∧ w = w' := by
  by_cases hb : 1000 < s.size
  · go_enter Try.func3, Try.ntmps3
    go_wp2_with (go_at_call 5; refine (up_any _).mono ?_; rintro e w' ⟨rfl, rfl⟩)
    go_ret
    exact ⟨rfl, rfl⟩
  · go_enter Try.func3, Try.ntmps3
    go_wp2_with (first | (go_at_call 5; refine (up_any _).mono ?_; rintro e w' ⟨rfl, rfl⟩) | (go_at_call 6; refine (may_any _ _ hs).mono ?_; rintro e w' ⟨rfl, rfl⟩) | (go_at_call 7; refine (rname_any _ _ hs).mono ?_; rintro e w' ⟨rfl, rfl⟩) | (go_at_call 8; refine (text_any _ _ hs).mono ?_; rintro e w' ⟨rfl, rfl⟩) | (go_at_call 9; refine (rtext_any _ _ hs).mono ?_; rintro e w' ⟨rfl, rfl⟩) | (go_at_call 10; refine (void_any _ _).mono ?_; rintro e w' ⟨rfl, rfl⟩) | (go_at_call 11; refine (rvoid_any _ _).mono ?_; rintro e w' ⟨rfl, rfl⟩))
    go_ret
    exact ⟨rfl, rfl⟩

theorem may_at (s : ByteArray) (w : World) {b : Bool} (hs : s.size ≤ maxLen) (h : nameB s.data.toList = b) : Calls Try.prog 6 #[.string s] w fun e w' => e = .returned (.bool b) ∧ w = w' := by
  rw [← h]; exact may_any s w hs
theorem text_at (s : ByteArray) (w : World) {b : Bool} (hs : s.size ≤ maxLen) (h : textB s.data.toList = b) : Calls Try.prog 8 #[.string s] w fun e w' => e = .returned (.bool b) ∧ w = w' := by
  rw [← h]; exact text_any s w hs
theorem size_append (a b : ByteArray) (h : a.size ≤ 12) (hb : b.size ≤ 12) : (a ++ b).size ≤ maxLen := by
  rw [ByteArray.size_append]; unfold maxLen; omega
theorem add_in {s : ByteArray} {c : UInt8} {b : Bool} (h : nameB s.data.toList = true) (hc : inB c = true) (hb : decide (s.size < 12) = b) : nameB (s ++ ⟨#[c]⟩).data.toList = b := by
  rw [data_append, nameB_snoc h hc, ← hb]; simp
theorem add_out {s : ByteArray} {c : UInt8} (h : nameB s.data.toList = true) (hc : inB c = false) : nameB (s ++ ⟨#[c]⟩).data.toList = false := by
  rw [data_append, nameB_snoc_no h hc]
theorem add_ahead {s : ByteArray} {c : UInt8} (hc : letB c = false) : nameB (⟨#[c]⟩ ++ s).data.toList = false := by
  rw [data_append]; simp [nameB, hc]
theorem cut_size (s : ByteArray) (k : Nat) (h : s.size ≤ 12) : (s.extract 0 k).size ≤ maxLen := by
  rw [ByteArray.size_extract]; unfold maxLen; omega
theorem cut_in {s : ByteArray} {k : Nat} (h : nameB s.data.toList = true) (hk : 0 < k) : nameB (s.extract 0 k).data.toList = true := by
  have e : (s.extract 0 k).data.toList = s.data.toList.take k := by simp
  rw [e]; exact nameB_take h hk
theorem grows_yes (s : ByteArray) (w : World) (b : Bool) (hs : s.size ≤ 12) (hlt : decide ((s.size : Int) < 12) = b) (hlt2 : decide (s.size < 12) = b) (hn0 : nameB s.data.toList = true) : Calls Try.prog 4 #[.string s] w fun e w' => e = .returned (.bool true) ∧ w = w' := by
  have hm : s.size ≤ maxLen := by unfold maxLen; omega
  have hn := Lib.hid hn0
  have hb := Lib.hid hlt2
  clear hn0 hlt2
  go_enter Try.func4, Try.ntmps4
  go_wp2_with (go_at_call 5; refine (up_any _).mono ?_; rintro e w' ⟨rfl, rfl⟩)
  refine (may_at _ _ hm hn.out).mono ?_
  rintro e w' ⟨rfl, rfl⟩
  go_wp2_with fail
  refine (text_at _ _ hm (nameB_text hn.out)).mono ?_
  rintro e w' ⟨rfl, rfl⟩
  go_wp2_with fail
  refine (may_at _ _ (size_append _ _ hs (by decide)) (add_in hn.out (by decide) hb.out)).mono ?_
  rintro e w' ⟨rfl, rfl⟩
  go_wp2_with fail
  refine (may_at _ _ (size_append _ _ hs (by decide)) (add_in hn.out (by decide) hb.out)).mono ?_
  rintro e w' ⟨rfl, rfl⟩
  go_wp2_with fail
  refine (may_at _ _ (size_append _ _ hs (by decide)) (add_out hn.out (by decide))).mono ?_
  rintro e w' ⟨rfl, rfl⟩
  go_wp2_with fail
  refine (may_at _ _ (size_append _ _ (by decide) hs) (add_ahead (by decide))).mono ?_
  rintro e w' ⟨rfl, rfl⟩
  go_wp2_with fail
  go_loop [5] (fun i => ∃ k : Nat, 0 ≤ k ∧ k ≤ s.size + 1 ∧ i = .int .i64 k) (fun i => s.size + 1 - (intOf i).toNat)
  case atStart => exact ⟨0, by omega, by omega, rfl⟩
  case round =>
    obtain ⟨k, hk1, hk, rfl⟩ := hrel
    by_cases hlt : k ≤ s.size
    · by_cases hk0 : k = 0
      · subst hk0
        go_wp2_with fail
        refine (may_at ByteArray.empty _ (b := false) (by decide) (by decide)).mono ?_
        rintro e w' ⟨rfl, rfl⟩
        go_wp2_with fail
        go_round
        case rel => exact ⟨1, by omega, by omega, rfl⟩
        case measure => simp [intOf]
      · have hk2 : 0 < k := by omega
        go_wp2_with fail
        refine (may_at _ _ (cut_size s k hs) (cut_in hn.out hk2)).mono ?_
        rintro e w' ⟨rfl, rfl⟩
        go_wp2_with fail
        go_round
        case rel => exact ⟨k + 1, by omega, by omega, by go_num⟩
        case measure => simp [intOf]; omega
    · go_wp2_with fail
      go_ret
      exact ⟨rfl, rfl⟩

theorem grows_any (s : ByteArray) (w : World) (hs : s.size ≤ maxLen) : Calls Try.prog 4 #[.string s] w fun e w' => e = .returned (.bool true) ∧ w = w' := by
  cases hn : nameB s.data.toList
  · go_enter Try.func4, Try.ntmps4
    go_wp2_with (first | (go_at_call 5; refine (up_any _).mono ?_; rintro e w' ⟨rfl, rfl⟩) | (go_at_call 6; refine (may_any _ _ hs).mono ?_; rintro e w' ⟨rfl, rfl⟩))
    go_ret
    exact ⟨rfl, rfl⟩
  · have hl := nameB_len hn
    by_cases h : s.size < 12
    · exact grows_yes s w true hl.2 (by simp; omega) (by simpa using h) hn
    · exact grows_yes s w false hl.2 (by simp; omega) (by simpa using h) hn
end Go.Proofs.Ytlfgkmocjdlgjaa.P1
