/- The walk of AttrTells: it answers true, for all lists and texts. -/
import Derived.Test.YtadodhlfahkplaaUp3
namespace Go.Proofs.Ytadodhlfahkplaa.P3
open Go.RowKit

theorem few_at (l : List At) (A : Option Addr) (n c : Nat) (w : World) {b : Bool} {x : Int} (hb : fewA l = b) (hx : x = if b then 1 else 0) (hn : l.length = n) (hl : n ≤ 9223372036854775807) (H : Holds w w.heap.size A l) :
    Calls Try.prog 6 #[.slice A n c] w fun e w' => e = .returned (.int .i64 x) ∧ w = w' :=
  (few_any l A n c w hn hl H).mono fun _ _ ⟨he, hw⟩ => ⟨he.trans (ret_few hb hx).symm, hw⟩
theorem few_len {l : List At} (h : fewA l = true) : l.length ≤ 20 := by
  unfold fewA at h
  simp only [Bool.and_eq_true, decide_eq_true_eq] at h
  exact h.1
theorem find_at (l : List At) (A : Option Addr) (n c : Nat) (s : ByteArray) (w : World) {x : At} {b : Bool} (hx : x = (findA l s).getD At.none) (hb : b = (findA l s).isSome) (hn : l.length = n) (hl : n ≤ 1000000) (H : Holds w w.heap.size A l) :
    Calls Try.prog 7 #[.slice A n c, .string s] w fun e w' => e = .returned (.tuple #[.agg #[.string x.nm, .string x.vl, .bool x.st], .bool b]) ∧ Below w.heap.size w w' := by
  subst hx; subst hb; exact find_any l A n c s w hn hl H
theorem rmay_at (l : List At) (A : Option Addr) (n c : Nat) (w : World) {r : Bool} (hr : mayA l = r) (hn : l.length = n) (hl : n ≤ 1000000) (hwf : Wf l) (H : Holds w w.heap.size A l) :
    Calls Try.prog 9 #[.slice A n c] w fun e w' => e = .returned (.bool r) ∧ Below w.heap.size w w' := by
  subst hr; exact rmay_any l A n c w hn hl hwf H
theorem rsame_at (l m : List At) (A B : Option Addr) (n n' c d : Nat) (w : World) {r : Bool} (hr : sameA l m = r) (hn : l.length = n) (hn' : m.length = n') (hl : n ≤ 1000000) (hm : n' ≤ 1000000) (H : Holds w w.heap.size A l) (H2 : Holds w w.heap.size B m) :
    Calls Try.prog 11 #[.slice A n c, .slice B n' d] w fun e w' => e = .returned (.bool r) ∧ Below w.heap.size w w' := by
  subst hr; exact rsame_any l m A B n n' c d w hn hn' hl hm H H2
/-- a step of the law: a call that leaves what was there as it was -/
theorem step {a w w' : World} {B : Nat} (h : Below B a w) (hB : B ≤ w.heap.size) (h2 : Below w.heap.size w w') : Below B a w' := h.trans (h2.mono hB)

set_option maxHeartbeats 2000000 in
set_option maxRecDepth 100000 in
theorem tells_any (l m : List At) (A B : Option Addr) (n n' c d : Nat) (s : ByteArray) (w : World) (hn : l.length = n) (hn' : m.length = n') (hnc : n ≤ c) (hcm : c ≤ maxLen) (hnd : n' ≤ d) (hdm : d ≤ maxLen) (hs : s.size ≤ maxLen) (hwf : Wf l)
    (H : Holds w w.heap.size A l) (H2 : Holds w w.heap.size B m) :
    Calls Try.prog 3 #[.slice A n c, .slice B n' d, .string s] w fun e w' => e = .returned (.bool true) ∧ Below w.heap.size w w' := by
  unfold maxLen at hs hcm hdm
  have HH := Lib.hid H
  have HH2 := Lib.hid H2
  have HN := Lib.hid hn
  have HN' := Lib.hid hn'
  have HF := Lib.hid hwf
  clear H H2 hn hn' hwf
  cases hf1 : fewA l
  · have F1 := Lib.hid hf1
    clear hf1
    go_enter Try.func3, Try.ntmps3
    go_wp2_with fail
    refine (up_any _).mono ?_
    rintro e w1 ⟨rfl, b1⟩
    have B1 := Lib.hid b1
    clear b1
    go_wp2_with fail
    refine (few_at l A n c _ F1.out rfl HN.out (by omega) (HH.out.on B1.out)).mono ?_
    rintro e w' ⟨rfl, rfl⟩
    go_wp2_with fail
    go_ret
    exact ⟨rfl, B1.out⟩
  · have hn20 : n ≤ 20 := by have := few_len hf1; have := HN.out; omega
    have F1 := Lib.hid hf1
    clear hf1
    cases hf2 : fewA m
    · have F2 := Lib.hid hf2
      clear hf2
      go_enter Try.func3, Try.ntmps3
      go_wp2_with fail
      refine (up_any _).mono ?_
      rintro e w1 ⟨rfl, b1⟩
      have B1 := Lib.hid b1
      clear b1
      go_wp2_with fail
      refine (few_at l A n c _ F1.out rfl HN.out (by omega) (HH.out.on B1.out)).mono ?_
      rintro e w' ⟨rfl, rfl⟩
      go_wp2_with fail
      refine (few_at m B n' d _ F2.out rfl HN'.out (by omega) (HH2.out.on B1.out)).mono ?_
      rintro e w' ⟨rfl, rfl⟩
      go_wp2_with fail
      go_ret
      exact ⟨rfl, B1.out⟩
    · have hm20 : n' ≤ 20 := by have := few_len hf2; have := HN'.out; omega
      have F2 := Lib.hid hf2
      clear hf2
      by_cases hs1 : 100 < s.size
      · go_enter Try.func3, Try.ntmps3
        go_wp2_with fail
        refine (up_any _).mono ?_
        rintro e w1 ⟨rfl, b1⟩
        have B1 := Lib.hid b1
        clear b1
        go_wp2_with fail
        refine (few_at l A n c _ F1.out rfl HN.out (by omega) (HH.out.on B1.out)).mono ?_
        rintro e w' ⟨rfl, rfl⟩
        go_wp2_with fail
        refine (few_at m B n' d _ F2.out rfl HN'.out (by omega) (HH2.out.on B1.out)).mono ?_
        rintro e w' ⟨rfl, rfl⟩
        go_wp2_with fail
        go_ret
        exact ⟨rfl, B1.out⟩
      · go_enter Try.func3, Try.ntmps3
        go_wp2_with fail
        refine (up_any _).mono ?_
        rintro e w1 ⟨rfl, b1⟩
        have B1 := Lib.hid b1
        have hz1 : w.heap.size ≤ w1.heap.size := b1.size
        clear b1
        go_wp2_with fail
        refine (few_at l A n c _ F1.out rfl HN.out (by omega) (HH.out.on B1.out)).mono ?_
        rintro e w' ⟨rfl, rfl⟩
        go_wp2_with fail
        refine (few_at m B n' d _ F2.out rfl HN'.out (by omega) (HH2.out.on B1.out)).mono ?_
        rintro e w' ⟨rfl, rfl⟩
        go_wp2_with fail
        go_loopw [9, 10] (fun met i wr => ∃ (k : Nat) (y : At) (bm : Bool), k ≤ n ∧ i = .int .i64 ((k : Int) - 1) ∧ met = .bool bm ∧ Hid (bm = (findA (l.drop k) s).isSome) ∧ Hid (y = (findA (l.drop k) s).getD At.none) ∧ Hid (Blk wr w1.heap.size y) ∧ Hid (Below w.heap.size w wr)) (fun _ i _ => (intOf i + 1).toNat)
        case atStart => exact ⟨n, At.none, false, by omega, rfl, rfl, Lib.hid (by rw [List.drop_of_length_le (by have := HN.out; omega)]; rfl), Lib.hid (by rw [List.drop_of_length_le (by have := HN.out; omega)]; rfl), Lib.hid (Blk.new w1 At.none), Lib.hid (B1.out.alloc hz1 _)⟩
        case round =>
          obtain ⟨k, y, bm, hk, rfl, rfl, HBM, HY, HB, HW⟩ := hrel
          have hzr : w1.heap.size < wr.heap.size := HB.out.lt
          have y0 := HB.out.c0
          have y1 := HB.out.c1
          have y2 := HB.out.c2
          have f0 := HB.out.frozen 0
          have f1 := HB.out.frozen 1
          have f2 := HB.out.frozen 2
          cases k with
          | zero =>
            go_wp2_with fail
            refine (find_at l A n c s _ (x := y) (b := bm) HY.out HBM.out HN.out (by omega) (HH.out.on HW.out)).mono ?_
            rintro e w2 ⟨rfl, b2⟩
            have HB2 := Lib.hid (HB.out.below b2 HB.out.lt)
            have W2 := Lib.hid (step HW.out HW.out.size b2)
            have hz2 : w1.heap.size < w2.heap.size := HB2.out.lt
            clear b2 y0 y1 y2 f0 f1 f2 HB HW hzr
            have y0 := HB2.out.c0
            have y1 := HB2.out.c1
            have y2 := HB2.out.c2
            have hg := eqg
            have hq := neq_at (atB_refl y)
            have hbb : (bm != bm) = false := by simp
            have W3 := Lib.hid (W2.out.alloc W2.out.size (.cells #[.string y.nm, .string y.vl, .bool y.st] 26))
            go_wp2_with fail
            refine (may_at l A n c _ (r := mayA l) rfl HN.out (by omega) (by omega) HF.out (HH.out.on W3.out)).mono ?_
            rintro e w4 ⟨rfl, b4⟩
            have W4 := Lib.hid (step W3.out W3.out.size b4)
            clear b4
            go_wp2_with fail
            refine (rmay_at l A n c _ (r := mayA l) rfl HN.out (by omega) HF.out (HH.out.on W4.out)).mono ?_
            rintro e w5 ⟨rfl, b5⟩
            have W5 := Lib.hid (step W4.out W4.out.size b5)
            clear b5
            have hmm : (mayA l != mayA l) = false := by simp
            go_wp2_with fail
            refine (same_at l m A B n n' c d _ (r := sameA l m) rfl HN.out HN'.out (by omega) (by omega) (HH.out.on W5.out) (HH2.out.on W5.out)).mono ?_
            rintro e w6 ⟨rfl, b6⟩
            have W6 := Lib.hid (step W5.out W5.out.size b6)
            clear b6
            go_wp2_with fail
            refine (rsame_at l m A B n n' c d _ (r := sameA l m) rfl HN.out HN'.out (by omega) (by omega) (HH.out.on W6.out) (HH2.out.on W6.out)).mono ?_
            rintro e w7 ⟨rfl, b7⟩
            have W7 := Lib.hid (step W6.out W6.out.size b7)
            clear b7
            have hss : (sameA l m != sameA l m) = false := by simp
            go_wp2_with fail
            refine (same_at l l A A n n c c _ (r := true) (sameA_refl l) HN.out HN.out (by omega) (by omega) (HH.out.on W7.out) (HH.out.on W7.out)).mono ?_
            rintro e w8 ⟨rfl, b8⟩
            have W8 := Lib.hid (step W7.out W7.out.size b8)
            clear b8
            go_wp2_with fail
            refine (join_any l m A B n n' c d _ HN.out HN'.out (by omega) (by omega) (HH.out.on W8.out) (HH2.out.on W8.out)).mono ?_
            rintro e w9 ⟨v9, rfl, o9, b9⟩
            have W9 := Lib.hid (step W8.out W8.out.size b9)
            obtain ⟨A9, n9, c9, rfl, hn9, hc9, hm9, hz9, hb9, h9⟩ := o9.slice
            have hl9 : n9 ≤ 8 := by have := joinA_len l m; omega
            have N9 := Lib.hid hn9
            have H9 := Lib.hid h9
            clear b9 o9 hn9 hc9 hm9 hz9 hb9 h9
            go_wp2_with fail
            refine (rjoin_any l m A B n n' c d _ HN.out HN'.out (by omega) (by omega) (HH.out.on W9.out) (HH2.out.on W9.out)).mono ?_
            rintro e w10 ⟨v10, rfl, o10, b10⟩
            have W10 := Lib.hid (step W9.out W9.out.size b10)
            have H9' := Lib.hid (H9.out.on b10)
            obtain ⟨A10, n10, c10, rfl, hn10, hc10, hm10, hz10, hb10, h10⟩ := o10.slice
            have hl10 : n10 ≤ 8 := by have := joinA_len l m; omega
            have N10 := Lib.hid hn10
            have H10 := Lib.hid h10
            clear b10 o10 hn10 hc10 hm10 hz10 hb10 h10
            go_wp2_with fail
            refine (rsame_at (joinA l m) (joinA l m) A9 A10 n9 n10 c9 c10 _ (r := true) (sameA_refl _) N9.out N10.out (by omega) (by omega) H9'.out H10.out).mono ?_
            rintro e w11 ⟨rfl, b11⟩
            have W11 := Lib.hid (step W10.out W10.out.size b11)
            clear b11
            go_wp2_with fail
            refine (new_any m B n' d _ HN'.out (by omega) (HH2.out.on W11.out)).mono ?_
            rintro e w12 ⟨v12, rfl, o12, b12⟩
            have W12 := Lib.hid (step W11.out W11.out.size b12)
            obtain ⟨A12, n12, c12, rfl, hn12, hc12, hm12, hz12, hb12, h12⟩ := o12.slice
            have hl12 : n12 ≤ 20 := by have := newA_len m; have := HN'.out; omega
            have N12 := Lib.hid hn12
            have H12 := Lib.hid h12
            clear b12 o12 hn12 hc12 hm12 hz12 hb12 h12
            go_wp2_with fail
            refine (rnew_any m B n' d _ HN'.out (by omega) (HH2.out.on W12.out)).mono ?_
            rintro e w13 ⟨v13, rfl, o13, b13⟩
            have W13 := Lib.hid (step W12.out W12.out.size b13)
            have H12' := Lib.hid (H12.out.on b13)
            obtain ⟨A13, n13, c13, rfl, hn13, hc13, hm13, hz13, hb13, h13⟩ := o13.slice
            have hl13 : n13 ≤ 20 := by have := newA_len m; have := HN'.out; omega
            have N13 := Lib.hid hn13
            have H13 := Lib.hid h13
            clear b13 o13 hn13 hc13 hm13 hz13 hb13 h13
            go_wp2_with fail
            refine (rsame_at (newA m) (newA m) A12 A13 n12 n13 c12 c13 _ (r := true) (sameA_refl _) N12.out N13.out (by omega) (by omega) H12'.out H13.out).mono ?_
            rintro e w14 ⟨rfl, b14⟩
            have W14 := Lib.hid (step W13.out W13.out.size b14)
            clear b14
            go_wp2_with fail
            go_ret
            exact ⟨rfl, W14.out⟩
          | succ j =>
            have e : ((j + 1 : Nat) : Int) - 1 = (j : Int) := by omega
            rw [e]
            clear e
            have hlt' : j < l.length := by have := HN.out; omega
            have hjn : j < n := by omega
            obtain ⟨b, o, rfl, hb, h0, h1, h2⟩ := (HH.out.below HW.out (Nat.le_refl _)) j hlt'
            cases he : (l[j].nm.toList == s.toList)
            · have HE := Lib.hid he
              go_wp2_with fail
              go_roundw
              case rel => exact ⟨j, y, bm, by omega, rfl, rfl, Lib.hid (by rw [findA_drop_no hlt' HE.out]; exact HBM.out), Lib.hid (by rw [findA_drop_no hlt' HE.out]; exact HY.out), HB, HW⟩
              case measure => simp [intOf]
            · have HE := Lib.hid he
              go_wp2_with fail
              go_roundw
              case rel => exact ⟨j, l[j], true, by omega, rfl, rfl, Lib.hid (by rw [findA_drop_yes hlt' HE.out]; rfl), Lib.hid (by rw [findA_drop_yes hlt' HE.out]; rfl), Lib.hid HB.out.set3, Lib.hid (by refine Below.setCell (Below.setCell (Below.setCell HW.out ?_ _) ?_ _) ?_ _ <;> exact hz1)⟩
              case measure => simp [intOf]
end Go.Proofs.Ytadodhlfahkplaa.P3
