/- What attr.May answers, for every list that isn't too long. -/
import Derived.Deep.RegionHeld3
import Derived.Test.YtgpbgimobcdogaaM3
set_option linter.unusedVariables false
set_option linter.unusedSimpArgs false
set_option linter.unusedVariables false
set_option linter.unusedSimpArgs false
namespace Go.Proofs.Ytgpbgimobcdogaa.P3
open Go.RowKit

theorem nmay_at (s : ByteArray) (w : World) {r : Bool} (h : P1.nameB s.data.toList = r) (hs : s.size ≤ maxLen) : Calls Try.prog 51 #[.string s] w fun e w' => e = .returned (.bool r) ∧ w = w' := by
  subst h; exact P1.may_any s w hs
theorem ntext_at (s : ByteArray) (w : World) {r : Bool} (h : P1.textB s.data.toList = r) (hs : s.size ≤ maxLen) : Calls Try.prog 53 #[.string s] w fun e w' => e = .returned (.bool r) ∧ w = w' := by
  subst h; exact P1.text_any s w hs
theorem quiet_left {P : Program} {f : FuncId} {args : Array Value} {w : World} {n : Nat} {v : Value}
    (h : Calls P f args (w.drewN n) fun e w' => e = .returned v ∧ w.drewN n = w') : Calls P f args (w.drewN n) fun e w' => e = .returned v ∧ ∃ m, w' = w.drewN m :=
  h.mono fun _ _ ⟨he, hm⟩ => ⟨he, n, hm.symm⟩

theorem may_below {a w w' : World} {B : Nat} {o : Obj} (h : Below B a w) (hB : B ≤ w.heap.size) (n : Nat) (h2 : Below ((w.alloc o).drewN n).heap.size ((w.alloc o).drewN n) w') : Below B a w' :=
  (Below_drewN (h.alloc hB o) n).trans (h2.mono (by show B ≤ (w.alloc o).heap.size; simp; omega))
/-- each text is as long as a text may be -/
def Wf (l : List At) : Prop := ∀ a ∈ l, a.nm.size ≤ maxLen ∧ a.vl.size ≤ maxLen
theorem Wf.at_ {l : List At} (h : Wf l) {k : Nat} (hk : k < l.length) : l[k].nm.size ≤ maxLen ∧ l[k].vl.size ≤ maxLen := h _ (List.getElem_mem hk)

end Go.Proofs.Ytgpbgimobcdogaa.P3

/- What the reference's May and Same answer, for every list that isn't too long. -/
set_option linter.unusedVariables false
set_option linter.unusedSimpArgs false
namespace Go.Proofs.Ytgpbgimobcdogaa.P3
open Go.RowKit

theorem rname_at (s : ByteArray) (w : World) {r : Bool} (h : P1.nameB s.data.toList = r) (hs : s.size ≤ maxLen) : Calls Try.prog 46 #[.string s] w fun e w' => e = .returned (.bool r) ∧ w = w' := by
  subst h; exact P1.rname_any s w hs
theorem rtext_at (s : ByteArray) (w : World) {r : Bool} (h : P1.textB s.data.toList = r) (hs : s.size ≤ maxLen) : Calls Try.prog 48 #[.string s] w fun e w' => e = .returned (.bool r) ∧ w = w' := by
  subst h; exact P1.rtext_any s w hs

set_option maxHeartbeats 400000 in
theorem rsame_any (l m : List At) (A B : Option Addr) (n n' c d : Nat) (w : World) (hn : l.length = n) (hn' : m.length = n') (hl : n ≤ 1000000) (hm : n' ≤ 1000000) (H : Holds w w.heap.size A l) (H2 : Holds w w.heap.size B m) :
    Calls Try.prog 24 #[.slice A n c, .slice B n' d] w fun e w' => e = .returned (.bool (sameA l m)) ∧ Below w.heap.size w w' := by
  have HH := Lib.hid H
  have HH2 := Lib.hid H2
  have HN := Lib.hid hn
  have HN' := Lib.hid hn'
  clear H H2 hn hn'
  by_cases hlen : n = n'
  · subst hlen
    go_enter Try.func24, Try.ntmps24
    go_wp2_with fail
    go_loopw [5] (fun i wr => ∃ k : Nat, k ≤ n ∧ i = .int .i64 k ∧ Hid (Below w.heap.size w wr) ∧ Hid (SameTo l m k)) (fun i _ => n - (intOf i).toNat)
    case atStart => exact ⟨0, by omega, rfl, Lib.hid (Below.refl _ _), Lib.hid (SameTo.zero _ _)⟩
    case round =>
      obtain ⟨k, hk, rfl, HW, HS⟩ := hrel
      by_cases hlt : k < n
      · have hlt1 : k < l.length := by have := HN.out; omega
        have hlt2 : k < m.length := by have := HN'.out; omega
        obtain ⟨b, o, rfl, hb, h0, h1, h2⟩ := (HH.out.below HW.out (Nat.le_refl _)) k hlt1
        obtain ⟨b', o', rfl, hb', h0', h1', h2'⟩ := (HH2.out.below HW.out (Nat.le_refl _)) k hlt2
        have hg := eqg
        cases hat : atB l[k] m[k]
        · have hq := neq_at hat
          have HAT := Lib.hid hat
          clear hat
          go_wp2_with fail
          go_quiet (fail)
          go_wp2_with fail
          go_ret
          exact ⟨ret_bool (sameA_bad hlt1 hlt2 HAT.out).symm, Below_drewN HW.out _⟩
        · have hq := neq_at hat
          have HAT := Lib.hid hat
          clear hat
          go_wp2_with fail
          go_quiet (fail)
          go_wp2_with fail
          go_roundw
          case rel => exact ⟨k + 1, by omega, by go_num, Lib.hid (Below_drewN HW.out _), Lib.hid (HS.out.next hlt1 hlt2 HAT.out)⟩
          case measure => simp [intOf]; omega
      · obtain rfl : k = n := by omega
        go_wp2_with fail
        go_ret
        exact ⟨ret_bool (HS.out.all HN.out HN'.out).symm, HW.out⟩
  · have he : ((n : Int) != (n' : Int)) = true := by simp; omega
    have HL : Hid (l.length ≠ m.length) := Lib.hid (by rw [HN.out, HN'.out]; exact hlen)
    clear hlen
    go_enter Try.func24, Try.ntmps24
    go_wp2_with fail
    go_ret
    exact ⟨ret_bool (sameA_len HL.out).symm, Below.refl _ _⟩

theorem hasA_of {l : List At} {s : ByteArray} {j k : Nat} (hj : j < l.length) (hjk : j < k) (he : (l[j].nm.toList == s.toList) = true) : hasA (l.take k) s = true :=
  hasA_iff.2 ⟨l[j], List.mem_take_iff_getElem.2 ⟨j, by omega, rfl⟩, by simpa using he⟩
theorem hasA_no {l : List At} {s : ByteArray} (h : findA l s = none) : hasA l s = false := by unfold hasA; rw [h]; rfl

end Go.Proofs.Ytgpbgimobcdogaa.P3

/- Which tags name.Void and its reference call void. No condition. -/
set_option linter.unusedVariables false
set_option linter.unusedSimpArgs false
namespace Go.Proofs.Ytgpbgimobcdogaa.P1
open Go.RowKit

theorem void_any (s : ByteArray) (w : World) : Calls Try.prog 52 #[.string s] w fun e w' => e = .returned (.bool (voidB s.data.toList)) ∧ w = w' := by
  cases h1 : (s.toList == [98, 114])
  · cases h2 : (s.toList == [104, 114])
    · cases h3 : (s.toList == [105, 109, 103])
      · cases h4 : (s.toList == [105, 110, 112, 117, 116])
        all_goals
          go_enter Try.func52, Try.ntmps52
          go_wp2_with fail
          go_ret
          exact ⟨ret_bool (voidB_at (by simp [h1, h2, h3, h4])), rfl⟩
      · go_enter Try.func52, Try.ntmps52
        go_wp2_with fail
        all_goals (go_ret; exact ⟨ret_bool (voidB_at (by simp [h1, h2, h3])), rfl⟩)
    · go_enter Try.func52, Try.ntmps52
      go_wp2_with fail
      all_goals (go_ret; exact ⟨ret_bool (voidB_at (by simp [h1, h2])), rfl⟩)
  · go_enter Try.func52, Try.ntmps52
    go_wp2_with fail
    all_goals (go_ret; exact ⟨ret_bool (voidB_at (by simp [h1])), rfl⟩)
theorem rvoid_any (s : ByteArray) (w : World) : Calls Try.prog 47 #[.string s] w fun e w' => e = .returned (.bool (voidB s.data.toList)) ∧ w = w' := by
  cases h1 : (s.toList == [98, 114])
  · cases h2 : (s.toList == [104, 114])
    · cases h3 : (s.toList == [105, 109, 103])
      · cases h4 : (s.toList == [105, 110, 112, 117, 116])
        all_goals
          go_enter Try.func47, Try.ntmps47
          go_wp2_with fail
          go_ret
          exact ⟨ret_bool (voidB_at (by simp [h1, h2, h3, h4])), rfl⟩
      · go_enter Try.func47, Try.ntmps47
        go_wp2_with fail
        all_goals (go_ret; exact ⟨ret_bool (voidB_at (by simp [h1, h2, h3])), rfl⟩)
    · go_enter Try.func47, Try.ntmps47
      go_wp2_with fail
      all_goals (go_ret; exact ⟨ret_bool (voidB_at (by simp [h1, h2])), rfl⟩)
  · go_enter Try.func47, Try.ntmps47
    go_wp2_with fail
    all_goals (go_ret; exact ⟨ret_bool (voidB_at (by simp [h1])), rfl⟩)
end Go.Proofs.Ytgpbgimobcdogaa.P1
