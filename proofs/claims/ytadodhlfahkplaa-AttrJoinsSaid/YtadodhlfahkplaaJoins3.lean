/- The walk of AttrJoins: it answers true, for all lists. -/
import Derived.Test.YtadodhlfahkplaaTells3
import Derived.Test.YtadodhlfahkplaaPlain3b
namespace Go.Proofs.Ytadodhlfahkplaa.P3
open Go.RowKit

theorem joinA_wf {l m : List At} (hl : Wf l) (hm : Wf m) : Wf (joinA l m) := fun a ha => (joinA_mem ha).elim (hl a) (hm a)
theorem newA_wf {m : List At} (hm : Wf m) : Wf (newA m) := fun a ha => hm a (newA_mem ha)

set_option maxHeartbeats 2000000 in
set_option maxRecDepth 100000 in
theorem joins_any (l m : List At) (A B : Option Addr) (n n' c d : Nat) (w : World) (hn : l.length = n) (hn' : m.length = n') (hnc : n ≤ c) (hcm : c ≤ maxLen) (hnd : n' ≤ d) (hdm : d ≤ maxLen) (hwf : Wf l) (hwf' : Wf m)
    (H : Holds w w.heap.size A l) (H2 : Holds w w.heap.size B m) :
    Calls Try.prog 4 #[.slice A n c, .slice B n' d] w fun e w' => e = .returned (.bool true) ∧ Below w.heap.size w w' := by
  unfold maxLen at hcm hdm
  have HH := Lib.hid H
  have HH2 := Lib.hid H2
  have HN := Lib.hid hn
  have HN' := Lib.hid hn'
  have HF := Lib.hid hwf
  have HF' := Lib.hid hwf'
  clear H H2 hn hn' hwf hwf'
  go_enter Try.func4, Try.ntmps4
  go_wp2_with fail
  refine (up_any _).mono ?_
  rintro e w1 ⟨rfl, b1⟩
  have B1 := Lib.hid b1
  clear b1
  cases hf1 : fewA l
  · have F1 := Lib.hid hf1
    clear hf1
    go_wp2_with fail
    refine (few_at l A n c _ F1.out rfl HN.out (by omega) (HH.out.on B1.out)).mono ?_
    rintro e w' ⟨rfl, rfl⟩
    go_wp2_with fail
    go_ret
    exact ⟨rfl, B1.out⟩
  have hn20 : n ≤ 20 := by have := few_len hf1; have := HN.out; omega
  have F1 := Lib.hid hf1
  clear hf1
  go_wp2_with fail
  refine (few_at l A n c _ F1.out rfl HN.out (by omega) (HH.out.on B1.out)).mono ?_
  rintro e w' ⟨rfl, rfl⟩
  cases hf2 : fewA m
  · have F2 := Lib.hid hf2
    clear hf2
    go_wp2_with fail
    refine (few_at m B n' d _ F2.out rfl HN'.out (by omega) (HH2.out.on B1.out)).mono ?_
    rintro e w' ⟨rfl, rfl⟩
    go_wp2_with fail
    go_ret
    exact ⟨rfl, B1.out⟩
  have hm20 : n' ≤ 20 := by have := few_len hf2; have := HN'.out; omega
  have F2 := Lib.hid hf2
  clear hf2
  go_wp2_with fail
  refine (few_at m B n' d _ F2.out rfl HN'.out (by omega) (HH2.out.on B1.out)).mono ?_
  rintro e w' ⟨rfl, rfl⟩
  cases hm1 : mayA l
  · have M1 := Lib.hid hm1
    clear hm1
    go_wp2_with fail
    refine (may_at l A n c _ M1.out HN.out (by omega) hnc HF.out (HH.out.on B1.out)).mono ?_
    rintro e w2 ⟨rfl, b2⟩
    have B2 := Lib.hid (step B1.out B1.out.size b2)
    clear b2
    go_wp2_with fail
    go_ret
    exact ⟨rfl, B2.out⟩
  have M1 := Lib.hid hm1
  clear hm1
  go_wp2_with fail
  refine (may_at l A n c _ M1.out HN.out (by omega) hnc HF.out (HH.out.on B1.out)).mono ?_
  rintro e w2 ⟨rfl, b2⟩
  have B2 := Lib.hid (step B1.out B1.out.size b2)
  clear b2
  cases hm2 : mayA m
  · have M2 := Lib.hid hm2
    clear hm2
    go_wp2_with fail
    refine (may_at m B n' d _ M2.out HN'.out (by omega) hnd HF'.out (HH2.out.on B2.out)).mono ?_
    rintro e w3 ⟨rfl, b3⟩
    have B3 := Lib.hid (step B2.out B2.out.size b3)
    clear b3
    go_wp2_with fail
    go_ret
    exact ⟨rfl, B3.out⟩
  have M2 := Lib.hid hm2
  clear hm2
  go_wp2_with fail
  refine (may_at m B n' d _ M2.out HN'.out (by omega) hnd HF'.out (HH2.out.on B2.out)).mono ?_
  rintro e w3 ⟨rfl, b3⟩
  have B3 := Lib.hid (step B2.out B2.out.size b3)
  clear b3
  go_wp2_with fail
  refine (join_any l m A B n n' c d _ HN.out HN'.out (by omega) (by omega) (HH.out.on B3.out) (HH2.out.on B3.out)).mono ?_
  rintro e w4 ⟨v4, rfl, o4, b4⟩
  have B4 := Lib.hid (step B3.out B3.out.size b4)
  obtain ⟨A4, n4, c4, rfl, hn4, hc4, hm4, hz4, hb4, h4⟩ := o4.slice
  have hl4 : n4 ≤ 8 := by have := joinA_len l m; omega
  have N4 := Lib.hid hn4
  have H4 := Lib.hid h4
  clear b4 o4 hn4 hm4 hz4 hb4 h4
  go_wp2_with fail
  refine (new_any m B n' d _ HN'.out (by omega) (HH2.out.on B4.out)).mono ?_
  rintro e w5 ⟨v5, rfl, o5, b5⟩
  have B5 := Lib.hid (step B4.out B4.out.size b5)
  have H45 := Lib.hid (H4.out.on b5)
  obtain ⟨A5, n5, c5, rfl, hn5, hc5, hm5, hz5, hb5, h5⟩ := o5.slice
  have hl5 : n5 ≤ 20 := by have := newA_len m; have := HN'.out; omega
  have he5 : ((n5 : Int) == (n' : Int)) = true := by have := newA_len m; have := HN'.out; simp; omega
  have HE5 := Lib.hid he5
  have N5 := Lib.hid hn5
  have H5 := Lib.hid h5
  clear b5 o5 hn5 hm5 hz5 hb5 h5 he5 H4
  go_wp2_with fail
  refine (may_at (joinA l m) A4 n4 c4 _ (joinA_may M1.out M2.out) N4.out (by omega) hc4 (joinA_wf HF.out HF'.out) H45.out).mono ?_
  rintro e w6 ⟨rfl, b6⟩
  have B6 := Lib.hid (step B5.out B5.out.size b6)
  have H46 := Lib.hid (H45.out.on b6)
  have H56 := Lib.hid (H5.out.on b6)
  clear b6 H45 H5
  go_wp2_with fail
  refine (may_at (newA m) A5 n5 c5 _ (newA_may M2.out) N5.out (by omega) hc5 (newA_wf HF'.out) H56.out).mono ?_
  rintro e w7 ⟨rfl, b7⟩
  have B7 := Lib.hid (step B6.out B6.out.size b7)
  have H47 := Lib.hid (H46.out.on b7)
  have H57 := Lib.hid (H56.out.on b7)
  clear b7 H46 H56
  go_wp2_with fail
  refine (join_any (joinA l m) m A4 B n4 n' c4 d _ N4.out HN'.out (by omega) (by omega) H47.out (HH2.out.on B7.out)).mono ?_
  rintro e w8 ⟨v8, rfl, o8, b8⟩
  rw [joinA_again M1.out] at o8
  have B8 := Lib.hid (step B7.out B7.out.size b8)
  have H48 := Lib.hid (H47.out.on b8)
  have H58 := Lib.hid (H57.out.on b8)
  obtain ⟨A8, n8, c8, rfl, hn8, hc8, hm8, hz8, hb8, h8⟩ := o8.slice
  have hl8 : n8 ≤ 8 := by have := joinA_len l m; omega
  have N8 := Lib.hid hn8
  have H8 := Lib.hid h8
  clear b8 o8 hn8 hm8 hz8 hb8 h8 hc8 H47 H57
  go_wp2_with fail
  refine (same_at (joinA l m) (joinA l m) A8 A4 n8 n4 c8 c4 _ (r := true) (sameA_refl _) N8.out N4.out (by omega) (by omega) H8.out H48.out).mono ?_
  rintro e w9 ⟨rfl, b9⟩
  have B9 := Lib.hid (step B8.out B8.out.size b9)
  have H59 := Lib.hid (H58.out.on b9)
  clear b9 H58 H48 H8
  go_wp2_with fail
  refine (join_any (newA m) m A5 B n5 n' c5 d _ N5.out HN'.out (by omega) (by omega) H59.out (HH2.out.on B9.out)).mono ?_
  rintro e w10 ⟨v10, rfl, o10, b10⟩
  rw [joinA_new M2.out] at o10
  have B10 := Lib.hid (step B9.out B9.out.size b10)
  have H510 := Lib.hid (H59.out.on b10)
  obtain ⟨A10, n10, c10, rfl, hn10, hc10, hm10, hz10, hb10, h10⟩ := o10.slice
  have hl10 : n10 ≤ 20 := by have := newA_len m; have := HN'.out; omega
  have N10 := Lib.hid hn10
  have H10 := Lib.hid h10
  clear b10 o10 hn10 hm10 hz10 hb10 h10 hc10 H59
  go_wp2_with fail
  refine (same_at (newA m) (newA m) A10 A5 n10 n5 c10 c5 _ (r := true) (sameA_refl _) N10.out N5.out (by omega) (by omega) H10.out H510.out).mono ?_
  rintro e w11 ⟨rfl, b11⟩
  have B11 := Lib.hid (step B10.out B10.out.size b11)
  clear b11
  have he := HE5.out
  go_wp2_with fail
  go_ret
  exact ⟨rfl, B11.out⟩
end Go.Proofs.Ytadodhlfahkplaa.P3
