/- Errors told apart; the law's Code and Pick. No condition. -/
import Derived.Test.YtddfkeilifcidaaKindI
import Derived.Lib.IfaceEq
import Derived.WideLaws
set_option linter.unusedVariables false
set_option linter.unusedSimpArgs false
namespace Go.Proofs.Ytddfkeilifcidaa.P4
open Go.RowKit Kd

theorem err_eql (a b : Int) (w : World) : (binOp .eql 27 (.iface 32 (.int .i64 a)) (.iface 32 (.int .i64 b))).run Try.prog w = .ok (.bool (a == b)) w :=
  Lib.run_eql_iface_int w a b Try.underlying27 (by kernel_rfl) Try.underlying32
theorem err_eql_nil (x : Value) (w : World) : (binOp .eql 27 (.iface 32 x) .nilIface).run Try.prog w = .ok (.bool false) w := run_eql_held_nil _ _ _ _ (by kernel_rfl)
theorem err_neq_nil (x : Value) (w : World) : (binOp .neq 27 (.iface 32 x) .nilIface).run Try.prog w = .ok (.bool true) w := run_neq_held_nil _ _ _ _ (by kernel_rfl)
theorem nil_eql_nil (w : World) : (binOp .eql 27 .nilIface .nilIface).run Try.prog w = .ok (.bool true) w := Go.run_eql_nil_nil _ _ (by kernel_rfl)
theorem nil_neq_nil (w : World) : (binOp .neq 27 .nilIface .nilIface).run Try.prog w = .ok (.bool false) w := Go.run_neq_nil_nil _ _ (by kernel_rfl)

set_option maxHeartbeats 400000 in
/-- of one of api's errors its number -/
theorem code_any (m : Nat) (h1 : 1 ≤ m) (h13 : m ≤ 13) (w : World) : Calls Try.prog 6 #[.iface 32 (.int .i64 m)] w fun e w' => e = .returned (.int .i64 m) ∧ w = w' := by
  have q1 := err_eql_nil
  have q2 := err_eql
  go_enter Try.func6, Try.ntmps6
  go_wp2
  go_loop [3] (fun i => ∃ k : Nat, 1 ≤ k ∧ k ≤ m ∧ i = .int .i64 k) (fun i => m - (intOf i).toNat)
  case atStart => exact ⟨1, by omega, h1, rfl⟩
  case round =>
    obtain ⟨k, hk1, hkm, rfl⟩ := hrel
    by_cases hlt : k < m
    · have hne : ((m : Int) == (k : Int)) = false := beq_eq_false_iff_ne.2 (by omega)
      go_wp2
      go_round
      case rel => exact ⟨k + 1, by omega, by omega, by go_num⟩
      case measure => simp [intOf]; omega
    · obtain rfl : k = m := by omega
      go_wp2
      go_ret
      exact ⟨rfl, rfl⟩
end Go.Proofs.Ytddfkeilifcidaa.P4
