/- What esc.Put and placketref01.Put answer, for every text that isn't too long. -/
import Derived.Test.YtbkckclieihnnaaEsc1
namespace Go.Proofs.Ytbkckclieihnnaa.P2
open Go.RowKit

theorem putB_size (s : ByteArray) : (putB s).size ≤ 6 * s.size := by
  have := putL_len s.data.toList
  show (putL s.data.toList).toArray.size ≤ _
  simpa using this

set_option maxHeartbeats 1000000 in
theorem put_any (s : ByteArray) (w : World) (hs : s.size ≤ 100000) : Calls Try.prog 17 #[.string s] w fun e w' => e = .returned (.string (putB s)) ∧ Below w.heap.size w w' := by
  go_enter Try.func17, Try.ntmps17
  go_wp2_with fail
  go_loopw [4] (fun i wr => ∃ k : Nat, k ≤ s.size ∧ i = .int .i64 k ∧ Hid (Lib.IsBuilder 32 5 w.heap.size w.heap.size (Lib.byteCells (putL (s.data.toList.take k))) wr) ∧ Hid (Below w.heap.size w wr)) (fun i _ => s.size - (intOf i).toNat)
  case atStart => exact ⟨0, by omega, rfl, Lib.hid (Lib.fresh_isBuilder 32 5 w), Lib.hid ((Below.refl _ _).alloc (Nat.le_refl _) _)⟩
  case round =>
    obtain ⟨k, hk, rfl, HB, HW⟩ := hrel
    have hBw : w.heap.size ≤ wr.heap.size := HW.out.size
    have hl : (Lib.byteCells (putL (s.data.toList.take k))).length ≤ 600000 := by
      rw [Lib.byteCells_length]
      have := putL_len (s.data.toList.take k)
      have := List.length_take_le k s.data.toList
      omega
    by_cases hlt : k < s.size
    · have HS := Lib.hid (putL_snoc s k hlt)
      cases hc : isSign s[k]
      · have HC := Lib.hid hc
        clear hc
        go_wp2_with fail
        refine (instead_no _ _ HC.out).mono ?_
        rintro e w' ⟨rfl, rfl⟩
        go_wp2_with fail
        refine (Bd.byte_any w.heap.size w.heap.size _ (s[k].toNat : Int) _ HB.out (by omega) hBw).mono ?_
        rintro e w2 ⟨rfl, h2, b2⟩
        have H2 := Lib.hid h2
        have B2 := Lib.hid b2
        clear h2 b2
        go_wp2_with fail
        go_roundw
        case rel => exact ⟨k + 1, by omega, by go_num, Lib.hid (by rw [HS.out, signL_no HC.out, Lib.byteCells_append]; exact H2.out), Lib.hid (HW.out.trans B2.out)⟩
        case measure => simp [intOf]; omega
      · have hE := insB_yes hc
        have hE2 : ¬ (insB s[k]).toList = [] := by intro e; rw [e] at hE; cases hE
        have hsz : (insB s[k]).size ≤ 6 := by
          have h1 := (signL_len s[k]).2
          have h2 := congrArg List.length (insB_sign hc)
          rw [← h2] at h1
          simpa using h1
        have HC := Lib.hid hc
        clear hc
        go_wp2_with fail
        refine (instead_any _ _).mono ?_
        rintro e w' ⟨rfl, rfl⟩
        go_wp2_with fail
        refine (Bd.string_any w.heap.size w.heap.size _ (insB s[k]) _ HB.out (by omega) hBw).mono ?_
        rintro e w2 ⟨rfl, h2, b2⟩
        have H2 := Lib.hid h2
        have B2 := Lib.hid b2
        clear h2 b2
        go_wp2_with fail
        go_roundw
        case rel => exact ⟨k + 1, by omega, by go_num, Lib.hid (by rw [HS.out, Lib.byteCells_append, ← insB_sign HC.out]; exact H2.out), Lib.hid (HW.out.trans B2.out)⟩
        case measure => simp [intOf]; omega
    · obtain rfl : k = s.size := by omega
      have e : s.data.toList.take s.size = s.data.toList := List.take_of_length_le (by simp)
      have HE := Lib.hid e
      clear e
      go_wp2_with fail
      refine (Bd.text_any w.heap.size w.heap.size _ _ HB.out hBw).mono ?_
      rintro e w2 ⟨rfl, b2⟩
      go_wp2_with fail
      go_ret
      exact ⟨ret_str (by rw [HE.out]; rfl), HW.out.trans b2⟩

theorem str_append (a b : List UInt8) : (⟨a.toArray⟩ ++ ⟨b.toArray⟩ : ByteArray) = ⟨(a ++ b).toArray⟩ := by
  apply ByteArray.ext
  simp
set_option maxHeartbeats 1000000 in
theorem rput_any (s : ByteArray) (w : World) (hs : s.size ≤ 100000) : Calls Try.prog 18 #[.string s] w fun e w' => e = .returned (.string (putB s)) ∧ Below w.heap.size w w' := by
  go_enter Try.func18, Try.ntmps18
  go_wp2_with fail
  go_loopw [3, 4] (fun o i wr => ∃ k : Nat, k ≤ s.size ∧ i = .int .i64 k ∧ (∃ t : ByteArray, o = .string t ∧ t.size ≤ 6 * k ∧ Hid (t = ⟨(putL (s.data.toList.take k)).toArray⟩)) ∧ Hid (Below w.heap.size w wr)) (fun _ i _ => s.size - (intOf i).toNat)
  case atStart => exact ⟨0, by omega, rfl, ⟨_, rfl, by decide, Lib.hid rfl⟩, Lib.hid (Below.refl _ _)⟩
  case round =>
    obtain ⟨k, hk, rfl, ⟨t, rfl, ht, HT⟩, HW⟩ := hrel
    by_cases hlt : k < s.size
    · have HS := Lib.hid (putL_snoc s k hlt)
      have hz : (signB s[k]).size ≤ 6 := by
        have := (signL_len s[k]).2
        show (signL s[k]).toArray.size ≤ 6
        simpa using this
      go_wp2_with fail
      refine (sign_any _ _).mono ?_
      rintro e w2 ⟨rfl, b2⟩
      have B2 := Lib.hid b2
      clear b2
      go_wp2_with fail
      go_roundw
      case rel => exact ⟨k + 1, by omega, by go_num, ⟨_, rfl, by rw [ByteArray.size_append]; omega, Lib.hid (by rw [HS.out, HT.out]; exact str_append _ _)⟩, Lib.hid (HW.out.trans (B2.out.mono HW.out.size))⟩
      case measure => simp [intOf]; omega
    · obtain rfl : k = s.size := by omega
      have e : s.data.toList.take s.size = s.data.toList := List.take_of_length_le (by simp)
      have HE := Lib.hid e
      clear e
      go_wp2_with fail
      go_ret
      exact ⟨ret_str (by rw [HT.out, HE.out]; rfl), HW.out⟩
end Go.Proofs.Ytbkckclieihnnaa.P2
