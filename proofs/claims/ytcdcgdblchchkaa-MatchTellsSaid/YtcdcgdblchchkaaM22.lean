/- What the law's wants answers, and the walk of MatchTells, over the contracts of the program's Of (wish) and Of (match). No condition but those stated. -/
import Derived.Deep.RegionHeld3
import Derived.Test.YtcdcgdblchchkaaM21
set_option linter.unusedVariables false
set_option linter.unusedSimpArgs false
set_option linter.unusedVariables false
set_option linter.unusedSimpArgs false
namespace Go.Proofs.Ytcdcgdblchchkaa.P16
open Go.RowKit Kd P4 P5 P11 P12 P13 P14

theorem own_is {P : Program} {α : Type} {K : Kind P α} {w : World} {D : Nat} {A : Option Addr} {n c : Nat} {l : List α} (h : K.Own w D (.slice A n c) l) : l.length = n ∧ n ≤ c ∧ c ≤ maxLen ∧ (A = none → c = 0) ∧ K.Holds w w.heap.size A l := by
  obtain ⟨A', n', c', hv, e1, e2, e3, e4, e5⟩ := h.slice
  injection hv with h1 h2 h3
  subst h1; subst h2; subst h3
  exact ⟨e1, e2, e3, e4, e5⟩
def WantsV (w : World) (l : List In) (e : Ending) (w' : World) : Prop := Below w.heap.size w w' ∧ ((∃ (A : Option Addr) (n c : Nat), e = .returned (.tuple #[.slice A n c, .bool false])) ∨ (∃ (A : Option Addr) (n c : Nat) (ts : List WV), e = .returned (.tuple #[.slice A n c, .bool true]) ∧ checkP l = 0 ∧ erL ts = wantP l ∧ Wm kW w' A n c ts))
set_option maxRecDepth 100000 in
set_option maxHeartbeats 4000000 in
theorem wants16_any (W14 : WOfC) (l : List In) (A : Option Addr) (n c : Nat) (w : World) (hh : kX.Holds w w.heap.size A l) (hn : l.length = n) (hnc : n ≤ c) (hcm : c ≤ maxLen) :
    Calls Try.prog 6 #[.slice A n c] w (WantsV w l) := by
  have q2 := err_eql_nil
  have q4 := nil_eql_nil
  have HO := Lib.hid W14
  have KH := Lib.hid hh
  have KN := Lib.hid hn
  have KC := Lib.hid hcm
  have hnm : n ≤ maxLen := by omega
  clear hh hn hcm
  go_enter Try.func6, Try.ntmps6
  go_wp2_with fail
  refine (fewX_any l A n c w KN.out hnm KH.out).mono ?_
  rintro e w' ⟨hv, rfl⟩
  rcases hv with rfl | ⟨rfl, hl150, hsm⟩
  · go_wp2_with fail
    go_ret2
    exact ⟨Below.refl _ _, Or.inl ⟨_, _, _, rfl⟩⟩
  have HSM := Lib.hid hsm
  have h150 : n ≤ 150 := by have := KN.out; omega
  clear hl150 hsm
  have D1 := Lib.hid (HO.out l A n c w KH.out KN.out hnc KC.out (by omega) HSM.out)
  obtain ⟨r, hr⟩ : ∃ r, checkP l = r := ⟨_, rfl⟩
  have HR := Lib.hid hr
  clear hr
  go_wp2_with fail
  refine D1.out.mono ?_
  rintro e w2 ⟨A2, n2, c2, ts, rfl, her, hm, b2⟩
  have B2 := Lib.hid b2
  have HM := Lib.hid hm
  have HER := Lib.hid her
  rw [HR.out]
  clear b2 D1 hm her
  simp only
  by_cases hr0 : r = 0
  · subst hr0
    have e0 : errV (((0 : Nat)) : Int) = .nilIface := rfl
    rw [e0]
    have E2 : Hid (erL ts = wantP l) := Lib.hid (by rw [HER.out, if_pos HR.out])
    go_upto_region 4 with fail
    go_quiet (fail)
    go_wp2_with fail
    go_ret2
    exact ⟨Below_drewN B2.out _, Or.inr ⟨_, _, _, ts, rfl, HR.out, E2.out, HM.out.on (Below_drewN (Below.refl _ _) _)⟩⟩
  · have e7 : errV (r : Int) = .iface 70 (.int .i64 r) := by unfold errV; rw [if_neg (by omega)]
    rw [e7]
    go_upto_region 4 with fail
    go_quiet (fail)
    go_wp2_with fail
    go_ret2
    exact ⟨Below_drewN B2.out _, Or.inl ⟨_, _, _, rfl⟩⟩
def TRel (w : World) (old : List Ol) (n : Nat) (s8 s9 : Value) (wr : World) : Prop := ∃ (k : Nat) (A' : Option Addr) (n' c' : Nat), k ≤ n ∧ s9 = .int .i64 k ∧ s8 = .slice A' n' c' ∧ Hid (kU.Own wr w.heap.size (.slice A' n' c') (old.take k)) ∧ Hid (Below w.heap.size w wr)
set_option maxRecDepth 100000 in
set_option maxHeartbeats 8000000 in
theorem tells16_any (W14 : WOfC) (C : MatchC) (old : List Ol) (A : Option Addr) (n c : Nat) (l : List In) (A' : Option Addr) (n' c' : Nat) (w : World) (hh : kO.Holds w w.heap.size A old) (hsz : ∀ o ∈ old, o.tag.size ≤ maxLen ∧ o.key.size ≤ maxLen) (hn : old.length = n) (hnc : n ≤ c) (hcm : c ≤ maxLen)
    (hh' : kX.Holds w w.heap.size A' l) (hn' : l.length = n') (hnc' : n' ≤ c') (hcm' : c' ≤ maxLen) :
    Calls Try.prog 3 #[.slice A n c, .slice A' n' c'] w fun e w' => e = .returned (.bool true) ∧ Below w.heap.size w w' := by
  have HU := Lib.hid (up16_any C)
  have HC := Lib.hid C
  have KH := Lib.hid hh
  have KSZ := Lib.hid hsz
  have KN := Lib.hid hn
  have KC := Lib.hid hcm
  have WN : Hid (∀ w9, Below w.heap.size w w9 → Calls Try.prog 6 #[.slice A' n' c'] w9 (WantsV w9 l)) := Lib.hid (fun w9 h => wants16_any W14 l A' n' c' w9 (hh'.on h) hn' hnc' hcm')
  clear hh hsz hn hcm hh' hn' hnc' hcm'
  go_enter Try.func3, Try.ntmps3
  go_wp2_with fail
  refine (HU.out w).mono ?_
  rintro e w1 ⟨rfl, b1⟩
  have B1 := Lib.hid b1
  clear b1 HU
  go_wp2_with fail
  refine (WN.out w1 B1.out).mono ?_
  rintro e w2 ⟨b2, hv⟩
  have B2 := Lib.hid (B1.out.trans (b2.mono B1.out.size))
  clear b2 WN
  rcases hv with ⟨A2, n2, c2, rfl⟩ | ⟨A2, n2, c2, ts, rfl, hck, her, hm⟩
  · go_wp2_with fail
    go_ret
    exact ⟨rfl, B2.out⟩
  have HM := Lib.hid hm
  have HER := Lib.hid her
  have HWT := Lib.hid (wt_small hck)
  have HWF : Hid (∀ t ∈ erL ts, WfW t) := Lib.hid (by rw [her]; exact (want_back hck).2)
  clear hck hm her
  by_cases h30 : 30 < n
  · have q30 : decide ((30 : Int) < (n : Int)) = true := by simp; omega
    go_wp2_with fail
    go_ret
    exact ⟨rfl, B2.out⟩
  have q30 : decide ((30 : Int) < (n : Int)) = false := by simp; omega
  have KH2 := Lib.hid (KH.out.on B2.out)
  have ST : Hid (TRel w2 old n (.slice none 0 0) (.int .i64 0) w2) := Lib.hid ⟨0, none, 0, 0, by omega, rfl, rfl, Lib.hid (Kind.Own.nil kU w2 _), Lib.hid (Below.refl _ _)⟩
  go_wp2_with fail
  go_loopw [8, 9] (fun s8 s9 wr => TRel w2 old n s8 s9 wr) (fun _ s9 _ => n - (intOf s9).toNat)
  case atStart => exact ST.out
  case round =>
    obtain ⟨k, A3, n3, c3, hk, rfl, rfl, HO, HB⟩ := hrel
    clear ST
    have BW : Hid (Below w.heap.size w wr) := Lib.hid (B2.out.trans (HB.out.mono B2.out.size))
    by_cases hkn : k < n
    · have hkl : k < old.length := by have := KN.out; omega
      obtain ⟨b, o, rfl, hb, g0, g1⟩ := cell_of_o KH2.out hkl
      have SK0 : Hid (∀ wz, Below w2.heap.size w2 wz → wz.cell? ⟨b, o + k * 2, none⟩ = some (.string old[k].tag) ∧ wz.cell? ⟨b, o + k * 2 + 1, none⟩ = some (.string old[k].key)) := Lib.hid (fun wz h => ⟨(h.cell hb).trans g0, (h.cell hb).trans g1⟩)
      have HT2 : Hid (old.take (k + 1) = old.take k ++ [old[k]]) := Lib.hid (by rw [List.take_add_one, List.getElem?_eq_getElem hkl]; rfl)
      have HTL : Hid ((old.take k).length ≤ 30) := Lib.hid (by rw [List.length_take]; omega)
      clear g0 g1
      generalize old[k] = d at SK0 HT2
      obtain ⟨tg, ky⟩ := d
      simp only at SK0
      clear hkl
      obtain ⟨g0, g1⟩ := SK0.out wr HB.out
      by_cases h1 : 100 < tg.size
      · have q1 : decide ((100 : Int) < (tg.size : Int)) = true := by simp; omega
        go_wp2_with fail
        go_ret
        exact ⟨rfl, BW.out⟩
      have q1 : decide ((100 : Int) < (tg.size : Int)) = false := by simp; omega
      by_cases h2 : 100 < ky.size
      · have q2 : decide ((100 : Int) < (ky.size : Int)) = true := by simp; omega
        go_wp2_with fail
        go_ret
        exact ⟨rfl, BW.out⟩
      have q2 : decide ((100 : Int) < (ky.size : Int)) = false := by simp; omega
      obtain ⟨et, het⟩ : ∃ b, tg.toList.isEmpty = b := ⟨_, rfl⟩
      obtain ⟨ek, hek⟩ : ∃ b, ky.toList.isEmpty = b := ⟨_, rfl⟩
      by_cases hbad : et = true ∧ ek = false
      · obtain ⟨rfl, rfl⟩ := hbad
        go_wp2_with fail
        go_ret
        exact ⟨rfl, BW.out⟩
      have SK := SK0.out wr HB.out
      have hbad2 : et = false ∨ (et = true ∧ ek = true) := by cases et <;> cases ek <;> simp_all
      clear hbad
      rcases hbad2 with rfl | ⟨rfl, rfl⟩
      all_goals
        go_upto_region 11 with fail
        go_region_held3 (fun w' => w'.cell? ⟨b, o + k * 2, none⟩ = some (.string tg) ∧ w'.cell? ⟨b, o + k * 2 + 1, none⟩ = some (.string ky)) (first | go_keep | exact SK) ((first
          | (refine kU.step_app rfl (.tmp 67) (.tmp 79) rfl (v := .slice A3 n3 c3) (l := old.take k) (m := [⟨tg, ky⟩]) (B := w2.heap.size) rfl (by repeat (first | exact HO.out | refine Kind.Own.alloc ?_ _ | refine Kind.Own.drewN ?_ _ | refine Kind.Own.drew ?_)) rfl rfl (fun e => by cases e) (Kind.Holds.lit (by first | exact heap_alloc_new _ _ | exact heap_drew (heap_top rfl) | exact heap_top rfl) rfl) (by have := HTL.out; simp; omega) (by have := HB.out.size; simp; omega) ?_; intro v' w12 hown' hgrow hat; obtain ⟨A6, n6, c6, rfl, _, _, _, _, _⟩ := hown'.slice; have OW6 := Lib.hid hown'; have BZ : Hid (Below w2.heap.size w2 w12) := Lib.hid (Below.grown (by first | exact (HB.out.alloc HB.out.size _).drew | exact HB.out.alloc HB.out.size _ | exact (HB.out.drew).alloc (by simpa using HB.out.size) _) hgrow (by have := HB.out.size; simp; omega) (fun i hi => (HO.out.lt hi).1)); have SK := SK0.out w12 BZ.out; clear hown' hgrow hat)
          | fail))
        go_wp2_with fail
        go_roundw
        case rel => exact ⟨k + 1, A6, n6, c6, by omega, by go_num, rfl, Lib.hid (by rw [HT2.out]; exact OW6.out), BZ⟩
        case measure => simp [intOf]; omega
    · obtain rfl : k = n := by omega
      have HALL : Hid (kU.Own wr w2.heap.size (.slice A3 n3 c3) old) := Lib.hid (by have := HO.out; rw [List.take_of_length_le (by have := KN.out; omega)] at this; exact this)
      clear HO
      have DM : Hid (Calls Try.prog 7 #[.slice A k c, .slice A2 n2 c2] wr (MOfV wr (foldM old (erL ts)) old.length)) := Lib.hid (HC.out old A k c ts A2 n2 c2 wr (KH2.out.on HB.out) KSZ.out KN.out hnc KC.out (by omega) (HM.out.on HB.out) HWF.out (by rw [HER.out]; have := HWT.out; omega))
      go_wp2_with fail
      refine DM.out.mono ?_
      rintro e w3 ⟨B1', m1, d1, B2', m2, d2, B3', m3, d3, rfl, r3, b3⟩
      have R := Lib.hid r3
      have X3 : Hid (Below w2.heap.size w2 w3) := Lib.hid (HB.out.trans (b3.mono HB.out.size))
      have OU : Hid (kU.Own w3 w2.heap.size (.slice A3 n3 c3) old) := Lib.hid (HALL.out.below b3 (Nat.le_refl _))
      clear b3 r3 DM HALL
      have XR : Hid ((w3.alloc (.cells #[.slice B1' m1 d1, .slice B2' m2 d2, .slice B3' m3 d3] 34)).heap[w3.heap.size]? = some (.cells #[.slice B1' m1 d1, .slice B2' m2 d2, .slice B3' m3 d3] 34 (0, 0))) := Lib.hid (heap_alloc_new w3 _)
      have BR : Hid (Below w3.heap.size w3 (w3.alloc (.cells #[.slice B1' m1 d1, .slice B2' m2 d2, .slice B3' m3 d3] 34))) := Lib.hid ((Below.refl _ _).alloc (Nat.le_refl _) _)
      go_upto_region 13 with fail
      generalize w3.alloc (.cells #[.slice B1' m1 d1, .slice B2' m2 d2, .slice B3' m3 d3] 34) = w4 at XR BR ⊢
      have X4 : Hid (Below w2.heap.size w2 w4) := Lib.hid (X3.out.trans (BR.out.mono X3.out.size))
      have R4 := Lib.hid (R.out.on BR.out)
      have OU4 : Hid (kU.Own w4 w2.heap.size (.slice A3 n3 c3) old) := Lib.hid (OU.out.below BR.out (Nat.le_refl _))
      have LT4 := Lib.hid (heap_lt XR.out)
      have CA : Hid (Calls Try.prog 9 #[.slice A2 n2 c2] w4 (Mv w4.heap.size w4 (erL ts))) := Lib.hid (by
        have h := HM.out.on X4.out
        exact as_any ts w4.heap.size w4 A2 n2 c2 (Nat.le_refl _) h.holds h.len h.ok (by rw [HER.out]; have := HWT.out; omega))
      clear R OU BR
      go_wp2_with fail
      refine CA.out.mono ?_
      rintro e w5 ⟨A5, n5, c5, us, rfl, hus, own5, mix5, b5⟩
      have X5 : Hid (Below w2.heap.size w2 w5) := Lib.hid (X4.out.trans (b5.mono X4.out.size))
      have XR5 := Lib.hid ((b5.block _ LT4.out).trans XR.out)
      have R5 := Lib.hid (R4.out.on b5)
      have OU5 : Hid (kU.Own w5 w2.heap.size (.slice A3 n3 c3) old) := Lib.hid (OU4.out.below b5 (Nat.le_refl _))
      have hU5 := own_is OU5.out
      have hQ5 := ownK_is own5
      have hul : n5 ≤ 1000 := by
        have h1 := wtL_len (erL ts)
        have h2 := HWT.out
        rw [HER.out] at h1
        have h3 := congrArg List.length hus
        rw [erL_map, List.length_map] at h3
        rw [HER.out] at h3
        have := hQ5.1
        omega
      have CR : Hid (Calls Try.prog 8 #[.slice A3 n3 c3, .slice A5 n5 c5] w5 (Mv3 w5 (foldM old (erL us)).take (foldM old (erL us)).kept (idxM (foldM old (erL us)).left old.length))) := Lib.hid (rof16_any old us A3 n3 c3 A5 n5 c5 w5 hU5.2.2.2.2 hU5.1 (by have := hU5.1; have := KN.out; omega) hQ5.2.2.2.2 hQ5.1 hul)
      rw [hus] at CR
      have LT5 := Lib.hid (heap_lt XR5.out)
      clear CA R4 OU4 OU5 hU5 hQ5 own5 mix5 b5 XR LT4 hus hul
      go_wp2_with fail
      refine CR.out.mono ?_
      rintro e w6 ⟨C1, p1, q1, C2, p2, q2, C3, p3, q3, rfl, o1, o2, o3, b6⟩
      have X6 : Hid (Below w2.heap.size w2 w6) := Lib.hid (X5.out.trans (b6.mono X5.out.size))
      have XR6 := Lib.hid ((b6.block _ LT5.out).trans XR5.out)
      have R6 := R5.out.on b6
      have B6 : Hid (Below w.heap.size w w6) := Lib.hid (B2.out.trans (X6.out.mono B2.out.size))
      have hl := foldM_lens old (erL ts)
      have hl3 := idxM_len (foldM old (erL ts)).left old.length
      have hwl := wtL_len (erL ts)
      have hwt := HWT.out
      rw [← HER.out] at hwt
      have hkn30 : old.length ≤ 30 := by have := KN.out; omega
      have hmul : (erL ts).length * old.length ≤ 120 * 30 := Nat.mul_le_mul (by omega) hkn30
      have e1 := own_is o1
      have e2 := own_is o2
      have e3 := own_is o3
      obtain rfl : m1 = p1 := by rw [← R6.l1, e1.1]
      obtain rfl : m2 = p2 := by rw [← R6.l2, e2.1]
      obtain rfl : m3 = p3 := by rw [← R6.l3, e3.1]
      have I1 : Hid (∀ w9, Below w6.heap.size w6 w9 → Calls Try.prog 10 #[.slice B1' m1 d1, .slice C1 m1 q1] w9 fun e w' => e = .returned (.bool true) ∧ Below w9.heap.size w9 w') := Lib.hid (fun w9 h => ints_eq _ B1' C1 m1 d1 q1 w9 R6.l1 (by have := R6.l1; omega) (R6.h1.on h) (e1.2.2.2.2.on h))
      have I2 : Hid (∀ w9, Below w6.heap.size w6 w9 → Calls Try.prog 10 #[.slice B2' m2 d2, .slice C2 m2 q2] w9 fun e w' => e = .returned (.bool true) ∧ Below w9.heap.size w9 w') := Lib.hid (fun w9 h => ints_eq _ B2' C2 m2 d2 q2 w9 R6.l2 (by have := R6.l2; omega) (R6.h2.on h) (e2.2.2.2.2.on h))
      have I3 : Hid (∀ w9, Below w6.heap.size w6 w9 → Calls Try.prog 10 #[.slice B3' m3 d3, .slice C3 m3 q3] w9 fun e w' => e = .returned (.bool true) ∧ Below w9.heap.size w9 w') := Lib.hid (fun w9 h => ints_eq _ B3' C3 m3 d3 q3 w9 R6.l3 (by have := R6.l3; omega) (R6.h3.on h) (e3.2.2.2.2.on h))
      have SKX : Hid (∀ w9, Below w6.heap.size w6 w9 → w9.cell? ⟨w3.heap.size, 0, none⟩ = some (.slice B1' m1 d1) ∧ w9.cell? ⟨w3.heap.size, 1, none⟩ = some (.slice B2' m2 d2) ∧ w9.cell? ⟨w3.heap.size, 2, none⟩ = some (.slice B3' m3 d3)) := Lib.hid (fun w9 h => by
        have hx := (h.block _ (heap_lt XR6.out)).trans XR6.out
        exact ⟨cell_of_row w9 w3.heap.size 0 _ _ (0, 0) hx, cell_of_row w9 w3.heap.size 1 _ _ (0, 0) hx, cell_of_row w9 w3.heap.size 2 _ _ (0, 0) hx⟩)
      clear R6 e1 e2 e3 o1 o2 o3 b6 hl hl3 hwl hwt hmul hkn30 CR R5 XR5 XR6 LT5
      obtain ⟨t0, t1, t2⟩ := SKX.out w6 (Below.refl _ _)
      go_wp2_with fail
      refine (I1.out w6 (Below.refl _ _)).mono ?_
      rintro e w7 ⟨rfl, b7⟩
      have X7 := Lib.hid b7
      clear b7 t0 t1 t2
      obtain ⟨t0, t1, t2⟩ := SKX.out w7 X7.out
      go_wp2_with fail
      refine (I2.out w7 X7.out).mono ?_
      rintro e w8 ⟨rfl, b8⟩
      have X8 : Hid (Below w6.heap.size w6 w8) := Lib.hid (X7.out.trans (b8.mono X7.out.size))
      clear b8 t0 t1 t2
      obtain ⟨t0, t1, t2⟩ := SKX.out w8 X8.out
      go_wp2_with fail
      refine (I3.out w8 X8.out).mono ?_
      rintro e w9 ⟨rfl, b9⟩
      have X9 : Hid (Below w6.heap.size w6 w9) := Lib.hid (X8.out.trans (b9.mono X8.out.size))
      clear b9 t0 t1 t2
      go_wp2_with fail
      go_ret
      exact ⟨rfl, B6.out.trans (X9.out.mono B6.out.size)⟩
end Go.Proofs.Ytcdcgdblchchkaa.P16
