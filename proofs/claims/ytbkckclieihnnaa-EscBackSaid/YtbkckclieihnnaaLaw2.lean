/- The walks of the two laws of layer 2: each answers true, for all strings. -/
import Derived.Test.YtbkckclieihnnaaEsc4
import Derived.Below
import Derived.ChangeSame
namespace Go.Proofs.Ytbkckclieihnnaa.P2
open Go.RowKit

theorem put_at (s : ByteArray) (w : World) {b : ByteArray} (hs : s.size ≤ 100000) (h : putB s = b) : Calls Try.prog 17 #[.string s] w fun e w' => e = .returned (.string b) ∧ Below w.heap.size w w' := by
  rw [← h]; exact put_any s w hs
theorem get_at (s : ByteArray) (w : World) {b : ByteArray} {ok : Bool} (hs : s.size ≤ 600000) (h : getB s = b) (h2 : getOk s = ok) : Calls Try.prog 15 #[.string s] w fun e w' => e = .returned (.tuple #[.string b, .bool ok]) ∧ Below w.heap.size w w' := by
  rw [← h, ← h2]; exact get_any s w hs
theorem data_mk (l : List UInt8) : (⟨l.toArray⟩ : ByteArray).data.toList = l := by simp
theorem get_put (s : ByteArray) : getB (putB s) = s ∧ getOk (putB s) = true := by
  have : getL (putB s).data.toList = some s.data.toList := by
    unfold putB; rw [data_mk]; exact getL_put _
  unfold getB getOk
  rw [this]
  exact ⟨by simp, rfl⟩
theorem put_append (s t : ByteArray) : putB (s ++ t) = putB s ++ putB t := by
  unfold putB
  rw [str_append (putL s.data.toList) (putL t.data.toList), ← putL_append]
  simp

theorem up_any (w : World) : Calls Try.prog 14 #[] w fun e w' => e = .returned (.bool true) ∧ Below w.heap.size w w' := by
  go_enter Try.func14, Try.ntmps14
  go_wp2_with fail
  refine (get_at _ _ (b := ⟨#[38, 108, 116, 59]⟩) (ok := true) (by decide) (by decide) (by decide)).mono ?_
  rintro e w1 ⟨rfl, b1⟩
  have B1 := Lib.hid b1
  clear b1
  go_wp2_with fail
  refine (get_at _ _ (b := ByteArray.empty) (ok := false) (by decide) (by decide) (by decide)).mono ?_
  rintro e w2 ⟨rfl, b2⟩
  have B2 := Lib.hid b2
  clear b2
  go_wp2_with fail
  refine (put_at _ _ (b := ⟨#[97, 38, 108, 116, 59, 98]⟩) (by decide) (by decide)).mono ?_
  rintro e w3 ⟨rfl, b3⟩
  have B3 := Lib.hid b3
  clear b3
  go_wp2_with fail
  go_ret
  exact ⟨rfl, (B1.out.trans (B2.out.mono B1.out.size)).trans (B3.out.mono (Nat.le_trans B1.out.size B2.out.size))⟩

theorem tells_any (s : ByteArray) (w : World) (hs : s.size ≤ maxLen) : Calls Try.prog 5 #[.string s] w fun e w' => e = .returned (.bool true) ∧ Below w.heap.size w w' := by
  unfold maxLen at hs
  by_cases hb : 300 < s.size
  · go_enter Try.func5, Try.ntmps5
    go_wp2_with (go_at_call 14; refine (up_any _).mono ?_; rintro e w1 ⟨rfl, b1⟩; have B1 := Lib.hid b1; clear b1)
    go_ret
    exact ⟨rfl, B1.out⟩
  · go_enter Try.func5, Try.ntmps5
    go_wp2_with fail
    refine (up_any _).mono ?_
    rintro e w1 ⟨rfl, b1⟩
    have B1 := Lib.hid b1
    clear b1
    go_wp2_with fail
    refine (get_any _ _ (by omega)).mono ?_
    rintro e w2 ⟨rfl, b2⟩
    have B2 := Lib.hid (B1.out.trans (b2.mono B1.out.size))
    clear b2
    go_wp2_with fail
    refine (rget_any _ _ (by omega)).mono ?_
    rintro e w3 ⟨rfl, b3⟩
    have B3 := Lib.hid (B2.out.trans (b3.mono B2.out.size))
    clear b3
    go_wp2_with fail
    refine (put_any _ _ (by omega)).mono ?_
    rintro e w4 ⟨rfl, b4⟩
    have B4 := Lib.hid (B3.out.trans (b4.mono B3.out.size))
    clear b4
    go_wp2_with fail
    refine (rput_any _ _ (by omega)).mono ?_
    rintro e w5 ⟨rfl, b5⟩
    have B5 := Lib.hid (B4.out.trans (b5.mono B4.out.size))
    clear b5
    go_wp2_with fail
    go_ret
    exact ⟨rfl, B5.out⟩

theorem clean_at (s : ByteArray) (k : Nat) (h : k < (putB s).size) : (((putB s)[k].toNat : Int) == 60) = false ∧ (((putB s)[k].toNat : Int) == 62) = false ∧ (((putB s)[k].toNat : Int) == 34) = false := by
  have hm : (putB s)[k] ∈ putL s.data.toList := by
    have e : (putB s).data.toList = putL s.data.toList := data_mk _
    rw [← e]
    exact List.getElem_mem (by simpa using h)
  obtain ⟨h1, h2, h3⟩ := putL_clean hm
  exact ⟨num_ne h1, num_ne h2, num_ne h3⟩

theorem back_any (s t : ByteArray) (w : World) (hs : s.size ≤ maxLen) (ht : t.size ≤ maxLen) : Calls Try.prog 6 #[.string s, .string t] w fun e w' => e = .returned (.bool true) ∧ Below w.heap.size w w' := by
  unfold maxLen at hs ht
  by_cases hb : 300 < s.size
  · go_enter Try.func6, Try.ntmps6
    go_wp2_with (go_at_call 14; refine (up_any _).mono ?_; rintro e w1 ⟨rfl, b1⟩; have B1 := Lib.hid b1; clear b1)
    go_ret
    exact ⟨rfl, B1.out⟩
  · by_cases hb2 : 300 < t.size
    · go_enter Try.func6, Try.ntmps6
      go_wp2_with (go_at_call 14; refine (up_any _).mono ?_; rintro e w1 ⟨rfl, b1⟩; have B1 := Lib.hid b1; clear b1)
      go_ret
      exact ⟨rfl, B1.out⟩
    · have hp1 := putB_size s
      have hp2 := putB_size t
      have hst : (s ++ t).size ≤ 600 := by rw [ByteArray.size_append]; omega
      go_enter Try.func6, Try.ntmps6
      go_wp2_with fail
      refine (up_any _).mono ?_
      rintro e w1 ⟨rfl, b1⟩
      have B1 := Lib.hid b1
      clear b1
      go_wp2_with fail
      refine (put_any _ _ (by omega)).mono ?_
      rintro e w2 ⟨rfl, b2⟩
      have B2 := Lib.hid (B1.out.trans (b2.mono B1.out.size))
      clear b2
      go_wp2_with fail
      refine (get_at _ _ (by omega) (get_put s).1 (get_put s).2).mono ?_
      rintro e w3 ⟨rfl, b3⟩
      have B3 := Lib.hid (B2.out.trans (b3.mono B2.out.size))
      clear b3
      go_wp2_with fail
      refine (put_at _ _ (by omega) (put_append s t)).mono ?_
      rintro e w4 ⟨rfl, b4⟩
      have B4 := Lib.hid (B3.out.trans (b4.mono B3.out.size))
      clear b4
      go_wp2_with fail
      refine (put_any _ _ (by omega)).mono ?_
      rintro e w5 ⟨rfl, b5⟩
      have B5 := Lib.hid (B4.out.trans (b5.mono B4.out.size))
      clear b5
      go_wp2_with fail
      go_loop [9] (fun i => ∃ k : Nat, k ≤ (putB s).size ∧ i = .int .i64 k) (fun i => (putB s).size - (intOf i).toNat)
      case atStart => exact ⟨0, by omega, rfl⟩
      case round =>
        obtain ⟨k, hk, rfl⟩ := hrel
        by_cases hlt : k < (putB s).size
        · obtain ⟨h1, h2, h3⟩ := clean_at s k hlt
          go_wp2_with fail
          go_round
          case rel => exact ⟨k + 1, by omega, by go_num⟩
          case measure => simp [intOf]; omega
        · obtain rfl : k = (putB s).size := by omega
          go_wp2_with fail
          go_ret
          exact ⟨rfl, B5.out⟩

/-! ### The last step of a row whose arguments hold no memory, where the call froze something new -/
section
open Go.ChangeShapes Go.WideShapes
theorem post_bare {H : Type} {enc : TypeId × Value → H} {P : Program} {f : Func} {s : ChangeSpec} {apart fresh handsOn again : Bool} {W W' : World} {args : Array Value} {v : Value} {ds gs : List (DataW H)}
    (hW : DataW.Whole enc P f.params.toList s.vars apart W args.toList ds gs [])
    (hres : ∀ (b : Nat) (sp : Nat → Bool) (hd : Bool), DataW.TrodAll enc P W' b sp hd f.resultTypes.toList (v.resultList f.resultTypes.size) (s.fn H (ds ++ gs)).results [])
    (hargs : ∀ sp : Nat → Bool, DataW.TrodAll enc P W' 0 sp true f.params.toList args.toList (s.fn H (ds ++ gs)).args [])
    (hvars : ∀ sp : Nat → Bool, DataW.TrodVars enc P W' sp s.vars (s.fn H (ds ++ gs)).vars [])
    (hb : Below W.heap.size W W')
    (hok : ∀ (j : Nat) (t : TypeId) (r : Value), f.resultTypes[j]? = some t → (v.resultList f.resultTypes.size)[j]? = some r → Value.okWide P W' .any 0 t r) :
    s.post enc P f apart fresh handsOn again W args v W' := by
  refine ⟨ds, gs, [], [], [], [], hW, hres _ _ _, hargs _, hvars _, World.keptBut_mono (fun p hp => ?_) (hb.frame (· ∈ [])), fun _ => ?_⟩
  · simp at hp
  · exact ⟨hok, _, _, [], ⟨[], [], trodAll_append (hargs _) (hres _ _ _), hvars _, rfl, fun _ _ hp => absurd hp (by simp), fun _ => List.Pairwise.nil⟩, fun p hp _ => absurd hp (by simp)⟩
end
end Go.Proofs.Ytbkckclieihnnaa.P2
