/- What the program's wish.Of, Back, Count and Same answer: the contracts of layer 14. No condition but those stated. -/
import Derived.Test.YtfjnbjpenibpkaaM28
import Derived.Test.YtfjnbjpenibpkaaM30
import Derived.Test.YtfjnbjpenibpkaaM34
import Derived.Test.YtfjnbjpenibpkaaM35
import Derived.Test.YtfjnbjpenibpkaaM41
set_option linter.unusedVariables false
set_option linter.unusedSimpArgs false
set_option linter.unusedVariables false
set_option linter.unusedSimpArgs false
namespace Go.Proofs.Ytfjnbjpenibpkaa.P14
open Go.RowKit Kd P4 P5 P11 P12 P13

theorem count_c : CountC := fun ts A n c w h hwt => count_any ts w A n c h.holds h.len h.ok hwt
theorem wof_c : WOfC := by
  intro l A n c w hh hn hnc hcm hl hs
  have CC : Hid (Calls Try.prog 12 #[.slice A n c] w fun e w' => e = .returned (errV ((checkP l : Nat) : Int)) ∧ Below w.heap.size w w') := Lib.hid (check_c l A n c w hh hn hnc hcm hl hs)
  have q2 := err_neq_nil
  have q3 := nil_neq_nil
  have HR : Hid (Rs w w.heap.size A n c l) := Lib.hid ⟨hn, hnc, hcm, hl, hh⟩
  by_cases hz : checkP l = 0
  · have HZ := Lib.hid hz
    have HB := Lib.hid (want_back hz)
    have CG : Hid (∀ wz : World, Below w.heap.size w wz → Calls Try.prog 13 #[.slice A n c] wz (GotA wz w.heap.size (wantP l) [])) := Lib.hid (fun wz hz => getAll_any (wantP l) [] A n c w.heap.size wz HB.out.2 (fun x hx => by cases hx) (by rw [HB.out.1, List.append_nil]; exact HR.out.below hz (Nat.le_refl _)) hz.size)
    have e0 : errV ((checkP l : Nat) : Int) = .nilIface := by rw [hz]; rfl
    rw [e0] at CC
    clear hh hn hnc hcm hl hs hz e0
    go_enter Try.func7, Try.ntmps7
    go_wp2_with fail
    refine CC.out.mono ?_
    rintro e w1 ⟨rfl, b1⟩
    have B1 := Lib.hid b1
    clear b1
    go_wp2_with fail
    refine (CG.out w1 B1.out).mono ?_
    rintro e w2 ⟨A1, n1, c1, ts, A2, n2, c2, rfl, her, own, new, _, b2⟩
    have HE := Lib.hid her
    have B2 := Lib.hid (B1.out.trans (b2.mono B1.out.size))
    have HO := Lib.hid own
    have HN := Lib.hid new
    clear her own new b2
    go_wp2_with fail
    go_ret2
    obtain ⟨o1, o2, o3, o4, o5⟩ := ownK_is HO.out
    refine ⟨A1, n1, c1, ts, by rw [HZ.out]; rfl, by rw [HE.out, if_pos HZ.out], ⟨o1, o2, o3, o4, o5, fun t ht => (HN.out t ht).ok⟩, B2.out⟩
  · have HZ := Lib.hid hz
    have e0 : errV ((checkP l : Nat) : Int) = .iface 47 (.int .i64 ((checkP l : Nat) : Int)) := by unfold errV; rw [if_neg (by omega)]
    have HE := Lib.hid e0
    rw [e0] at CC
    clear hh hn hnc hcm hl hs hz e0
    go_enter Try.func7, Try.ntmps7
    go_wp2_with fail
    refine CC.out.mono ?_
    rintro e w1 ⟨rfl, b1⟩
    have B1 := Lib.hid b1
    clear b1
    go_wp2_with fail
    go_ret2
    exact ⟨none, 0, 0, [], by rw [HE.out]; rfl, by rw [if_neg HZ.out]; rfl, ⟨rfl, Nat.le_refl _, by unfold maxLen; omega, fun _ => rfl, Kind.Holds.nil _ _ _, fun t ht => by cases ht⟩, B1.out⟩
end Go.Proofs.Ytfjnbjpenibpkaa.P14

/- The program's Nodes and Changes: how many nodes may be made, and how many changes there may be. No condition but those stated. -/
set_option linter.unusedVariables false
set_option linter.unusedSimpArgs false
namespace Go.Proofs.Ytfjnbjpenibpkaa.P18
open Go.RowKit Kd P4 P5 P11 P12 P13 P14

theorem nodes_c : NodesC := by
  intro ts A n c w h hwt
  have CC : Hid (Calls Try.prog 14 #[.slice A n c] w fun e w' => e = .returned (.int .i64 (cntL (erL ts) : Nat)) ∧ Below w.heap.size w w') := Lib.hid (count_any ts w A n c h.holds h.len h.ok hwt)
  clear h hwt
  go_enter Try.func10, Try.ntmps10
  go_wp2_with fail
  refine CC.out.mono ?_
  rintro e w' ⟨rfl, b⟩
  have B := Lib.hid b
  clear b
  go_wp2_with fail
  go_ret
  exact ⟨rfl, B.out⟩
theorem changes_c : ChangesC := by
  intro ts A n c old w h hwt hold
  have CC : Hid (Calls Try.prog 10 #[.slice A n c] w fun e w' => e = .returned (.int .i64 (cntL (erL ts) : Nat)) ∧ Below w.heap.size w w') := Lib.hid (nodes_c ts A n c w h hwt)
  have hcnt := cntL_wt (erL ts)
  clear h
  generalize cntL (erL ts) = cw at CC hcnt ⊢
  by_cases hneg : old < 0
  · have HG : chgP cw old = 4 * cw + 2 * 0 + 1 := by rw [chgP, if_pos hneg]
    rw [HG]
    clear HG
    go_enter Try.func11, Try.ntmps11
    go_wp2_with fail
    refine CC.out.mono ?_
    rintro e w' ⟨rfl, b⟩
    have B := Lib.hid b
    clear b
    go_wp2_with fail
    go_ret
    exact ⟨by simp; omega, B.out⟩
  · have HG : chgP cw old = 4 * cw + 2 * old + 1 := by rw [chgP, if_neg hneg]
    rw [HG]
    clear HG
    go_enter Try.func11, Try.ntmps11
    go_wp2_with fail
    refine CC.out.mono ?_
    rintro e w' ⟨rfl, b⟩
    have B := Lib.hid b
    clear b
    go_wp2_with fail
    go_ret
    exact ⟨by simp; omega, B.out⟩
theorem bound_c : BoundC := ⟨nodes_c, changes_c⟩
end Go.Proofs.Ytfjnbjpenibpkaa.P18
