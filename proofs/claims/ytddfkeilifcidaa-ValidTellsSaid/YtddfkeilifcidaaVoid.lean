/- Which tags name.Void and its reference call void. No condition. -/
import Derived.Test.YtddfkeilifcidaaName
set_option linter.unusedVariables false
set_option linter.unusedSimpArgs false
namespace Go.Proofs.Ytddfkeilifcidaa.P1
open Go.RowKit

theorem void_any (s : ByteArray) (w : World) : Calls Try.prog 27 #[.string s] w fun e w' => e = .returned (.bool (voidB s.data.toList)) ∧ w = w' := by
  cases h1 : (s.toList == [98, 114])
  · cases h2 : (s.toList == [104, 114])
    · cases h3 : (s.toList == [105, 109, 103])
      · cases h4 : (s.toList == [105, 110, 112, 117, 116])
        all_goals
          go_enter Try.func27, Try.ntmps27
          go_wp2_with fail
          go_ret
          exact ⟨ret_bool (voidB_at (by simp [h1, h2, h3, h4])), rfl⟩
      · go_enter Try.func27, Try.ntmps27
        go_wp2_with fail
        all_goals (go_ret; exact ⟨ret_bool (voidB_at (by simp [h1, h2, h3])), rfl⟩)
    · go_enter Try.func27, Try.ntmps27
      go_wp2_with fail
      all_goals (go_ret; exact ⟨ret_bool (voidB_at (by simp [h1, h2])), rfl⟩)
  · go_enter Try.func27, Try.ntmps27
    go_wp2_with fail
    all_goals (go_ret; exact ⟨ret_bool (voidB_at (by simp [h1])), rfl⟩)
theorem rvoid_any (s : ByteArray) (w : World) : Calls Try.prog 31 #[.string s] w fun e w' => e = .returned (.bool (voidB s.data.toList)) ∧ w = w' := by
  cases h1 : (s.toList == [98, 114])
  · cases h2 : (s.toList == [104, 114])
    · cases h3 : (s.toList == [105, 109, 103])
      · cases h4 : (s.toList == [105, 110, 112, 117, 116])
        all_goals
          go_enter Try.func31, Try.ntmps31
          go_wp2_with fail
          go_ret
          exact ⟨ret_bool (voidB_at (by simp [h1, h2, h3, h4])), rfl⟩
      · go_enter Try.func31, Try.ntmps31
        go_wp2_with fail
        all_goals (go_ret; exact ⟨ret_bool (voidB_at (by simp [h1, h2, h3])), rfl⟩)
    · go_enter Try.func31, Try.ntmps31
      go_wp2_with fail
      all_goals (go_ret; exact ⟨ret_bool (voidB_at (by simp [h1, h2])), rfl⟩)
  · go_enter Try.func31, Try.ntmps31
    go_wp2_with fail
    all_goals (go_ret; exact ⟨ret_bool (voidB_at (by simp [h1])), rfl⟩)
end Go.Proofs.Ytddfkeilifcidaa.P1
