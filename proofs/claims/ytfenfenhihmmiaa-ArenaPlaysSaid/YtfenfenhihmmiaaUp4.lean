/- Errors told apart; the law's Code and Pick; the document's example of layer 4, at the head of both laws: it answers true. -/
import Derived.Test.YtfenfenhihmmiaaClone4
import Derived.Lib.IfaceEq
import Derived.WideLaws
namespace Go.Proofs.Ytfenfenhihmmiaa.P4
open Go.RowKit Kd

theorem err_eql (a b : Int) (w : World) : (binOp .eql 26 (.iface 29 (.int .i64 a)) (.iface 29 (.int .i64 b))).run Try.prog w = .ok (.bool (a == b)) w :=
  Lib.run_eql_iface_int w a b Try.underlying26 (by kernel_rfl) Try.underlying29
theorem err_eql_nil (x : Value) (w : World) : (binOp .eql 26 (.iface 29 x) .nilIface).run Try.prog w = .ok (.bool false) w := run_eql_held_nil _ _ _ _ (by kernel_rfl)
theorem err_neq_nil (x : Value) (w : World) : (binOp .neq 26 (.iface 29 x) .nilIface).run Try.prog w = .ok (.bool true) w := run_neq_held_nil _ _ _ _ (by kernel_rfl)
theorem nil_eql_nil (w : World) : (binOp .eql 26 .nilIface .nilIface).run Try.prog w = .ok (.bool true) w := Go.run_eql_nil_nil _ _ (by kernel_rfl)
theorem nil_neq_nil (w : World) : (binOp .neq 26 .nilIface .nilIface).run Try.prog w = .ok (.bool false) w := Go.run_neq_nil_nil _ _ (by kernel_rfl)

theorem pick_any (c : Int) (w : World) (h1 : -9223372036854775808 ≤ c) (h2 : c ≤ 9223372036854775807) : Calls Try.prog 7 #[.int .i64 c, .int .i64 8] w fun e w' => e = .returned (.int .i64 (pickA c 8)) ∧ w = w' := by
  by_cases hc : c < 0
  · go_enter Try.func7, Try.ntmps7
    go_wp2
    go_ret
    exact ⟨ret_int (by unfold pickA; rw [if_pos hc]; rw [← Int.neg_tmod, Int.tmod_eq_emod_of_nonneg (by omega)]), rfl⟩
  · go_enter Try.func7, Try.ntmps7
    go_wp2
    go_ret
    exact ⟨ret_int (by unfold pickA; rw [if_neg (by omega)]), rfl⟩

set_option maxHeartbeats 400000 in
/-- of one of api's errors its number -/
theorem code_any (m : Nat) (h1 : 1 ≤ m) (h13 : m ≤ 13) (w : World) : Calls Try.prog 9 #[.iface 29 (.int .i64 m)] w fun e w' => e = .returned (.int .i64 m) ∧ w = w' := by
  have q1 := err_eql_nil
  have q2 := err_eql
  go_enter Try.func9, Try.ntmps9
  go_wp2
  go_loop [3] (fun i => ∃ k : Nat, 1 ≤ k ∧ k ≤ m ∧ i = .int .i64 k) (fun i => m - (intOf i).toNat)
  case atStart => exact ⟨1, by omega, h1, rfl⟩
  case round =>
    obtain ⟨k, hk1, hkm, rfl⟩ := hrel
    by_cases hlt : k < m
    · have hne : ((m : Int) == (k : Int)) = false := beq_eq_false_iff_ne.2 (by omega)
      go_wp2
      go_round
      case rel => exact ⟨k + 1, by omega, by omega, by go_num⟩
      case measure => simp [intOf]; omega
    · obtain rfl : k = m := by omega
      go_wp2
      go_ret
      exact ⟨rfl, rfl⟩

/-! ### The example -/
set_option maxHeartbeats 1000000 in
theorem up_any (w : World) : Calls Try.prog 5 #[] w fun e w' => e = .returned (.bool true) ∧ Below w.heap.size w w' := by
  have q1 := err_eql_nil
  have q2 := err_eql
  have q3 := err_neq_nil
  have q4 := nil_eql_nil
  have q5 := nil_neq_nil
  go_enter Try.func5, Try.ntmps5
  go_wp2_with fail
  refine (newI_yes 1 _ (by omega) (by omega)).mono ?_
  rintro e w1 ⟨p, rfl, a1, b1⟩
  have A1 := Lib.hid a1
  have B1 := Lib.hid b1
  clear a1 b1
  go_wp2_with fail
  refine (newI_no 0 _ (by omega)).mono ?_
  rintro e w' ⟨rfl, rfl⟩
  go_wp2_with fail
  refine (putI_yes 5 _ (by simp) (by omega) A1.out).mono ?_
  rintro e w2 ⟨rfl, v2, a2, b2⟩
  have A2 := Lib.hid a2
  have B2 := Lib.hid (B1.out.trans (A1.out.step b2))
  clear a2 b2
  go_wp2_with fail
  refine (putI_full 6 _ (by simp) A2.out).mono ?_
  rintro e w3 ⟨rfl, b3⟩
  have A3 := Lib.hid (A2.out.below b3 (Nat.le_refl _))
  have B3 := Lib.hid (B2.out.trans (b3.mono B2.out.size))
  clear b3
  go_wp2_with fail
  refine (dropI_yes 1 _ (by decide) A3.out).mono ?_
  rintro e w4 ⟨rfl, v4, a4, b4⟩
  have A4 := Lib.hid a4
  have B4 := Lib.hid (B3.out.trans (A3.out.step b4))
  clear a4 b4
  go_wp2_with fail
  refine (putI_yes 6 _ (by decide) (by omega) A4.out).mono ?_
  rintro e w5 ⟨rfl, v5, a5, b5⟩
  have A5 := Lib.hid a5
  have B5 := Lib.hid (B4.out.trans (A4.out.step b5))
  clear a5 b5
  go_wp2_with fail
  refine (getI_no 1 _ (by decide) A5.out).mono ?_
  rintro e w6 ⟨rfl, b6⟩
  have A6 := Lib.hid (A5.out.below b6 (Nat.le_refl _))
  have B6 := Lib.hid (B5.out.trans (b6.mono B5.out.size))
  clear b6
  go_wp2_with fail
  refine (nextI_any (m := 3) _ (by omega) rfl A6.out).mono ?_
  rintro e w' ⟨rfl, rfl⟩
  go_wp2_with fail
  go_ret
  exact ⟨rfl, B6.out⟩
end Go.Proofs.Ytfenfenhihmmiaa.P4
