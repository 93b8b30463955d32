/- Layer 18's example, and the walks of BoundTells and BoundMore, over the contracts of the program's Nodes and Changes. No condition but those stated. -/
import Derived.Test.YtfjnbjpenibpkaaM27
set_option linter.unusedVariables false
set_option linter.unusedSimpArgs false
set_option linter.unusedVariables false
set_option linter.unusedSimpArgs false
namespace Go.Proofs.Ytfjnbjpenibpkaa.P18
open Go.RowKit Kd P4 P5 P11 P12 P13 P14

def chgP (cnt : Nat) (old : Int) : Int := 4 * cnt + 2 * (if old < 0 then 0 else old) + 1
def NodesC : Prop := ∀ (ts : List WV) (A : Option Addr) (n c : Nat) (w : World), Wm kW w A n c ts → wtL (erL ts) ≤ 1000 → Calls Try.prog 10 #[.slice A n c] w fun e w' => e = .returned (.int .i64 (cntL (erL ts) : Nat)) ∧ Below w.heap.size w w'
def ChangesC : Prop := ∀ (ts : List WV) (A : Option Addr) (n c : Nat) (old : Int) (w : World), Wm kW w A n c ts → wtL (erL ts) ≤ 1000 → old ≤ 2000000 → Calls Try.prog 11 #[.slice A n c, .int .i64 old] w fun e w' => e = .returned (.int .i64 (chgP (cntL (erL ts)) old)) ∧ Below w.heap.size w w'
structure BoundC : Prop where
  nodes : NodesC
  changes : ChangesC
theorem Wm.none (w : World) : Wm kW w none 0 0 [] := ⟨rfl, Nat.le_refl _, by decide, fun _ => rfl, Kind.Holds.nil _ _ _, (fun t ht => by cases ht)⟩
set_option maxHeartbeats 4000000 in
theorem up18_any (C : BoundC) (w : World) : Calls Try.prog 5 #[] w fun e w' => e = .returned (.bool true) ∧ Below w.heap.size w w' := by
  have C1 : Hid (∀ w9, Calls Try.prog 10 #[.slice none 0 0] w9 fun e w' => e = .returned (.int .i64 0) ∧ Below w9.heap.size w9 w') := Lib.hid (fun w9 => C.nodes [] none 0 0 w9 (Wm.none w9) (by simp [erL, wtL]))
  have C2 : Hid (∀ w9, Calls Try.prog 11 #[.slice none 0 0, .int .i64 3] w9 fun e w' => e = .returned (.int .i64 7) ∧ Below w9.heap.size w9 w') := Lib.hid (fun w9 => C.changes [] none 0 0 3 w9 (Wm.none w9) (by simp [erL, wtL]) (by omega))
  have C3 : Hid (∀ w9, Calls Try.prog 11 #[.slice none 0 0, .int .i64 (-3)] w9 fun e w' => e = .returned (.int .i64 1) ∧ Below w9.heap.size w9 w') := Lib.hid (fun w9 => C.changes [] none 0 0 (-3) w9 (Wm.none w9) (by simp [erL, wtL]) (by omega))
  go_enter Try.func5, Try.ntmps5
  go_wp2_with fail
  refine (C1.out w).mono ?_
  rintro e w1 ⟨rfl, b1⟩
  have B1 := Lib.hid b1
  clear b1
  go_wp2_with fail
  refine (C2.out w1).mono ?_
  rintro e w2 ⟨rfl, b2⟩
  have B2 := Lib.hid (B1.out.trans (b2.mono B1.out.size))
  clear b2
  go_wp2_with fail
  refine (C3.out w2).mono ?_
  rintro e w3 ⟨rfl, b3⟩
  have B3 := Lib.hid (B2.out.trans (b3.mono B2.out.size))
  clear b3
  go_wp2_with fail
  go_ret
  exact ⟨by first | rfl | simp, B3.out⟩
set_option maxRecDepth 100000 in
set_option maxHeartbeats 8000000 in
theorem tells18_any (W14 : WOfC) (C : BoundC) (l : List In) (A : Option Addr) (n c : Nat) (old : Int) (w : World) (hh : kX.Holds w w.heap.size A l) (hn : l.length = n) (hnc : n ≤ c) (hcm : c ≤ maxLen) :
    Calls Try.prog 3 #[.slice A n c, .int .i64 old] w fun e w' => e = .returned (.bool true) ∧ Below w.heap.size w w' := by
  have q2 := err_eql_nil
  have q3 := err_neq_nil
  have q4 := nil_eql_nil
  have q5 := nil_neq_nil
  have HU := Lib.hid (up18_any C)
  have HC := Lib.hid C
  have HO := Lib.hid W14
  have KH := Lib.hid hh
  have KN := Lib.hid hn
  have KC := Lib.hid hcm
  have hnm : n ≤ maxLen := by omega
  clear hh hn hcm
  go_enter Try.func3, Try.ntmps3
  go_wp2_with fail
  refine (HU.out w).mono ?_
  rintro e w1 ⟨rfl, b1⟩
  have B1 := Lib.hid b1
  clear b1 HU
  go_wp2_with fail
  refine (fewX_any l A n c w1 KN.out hnm (KH.out.on B1.out)).mono ?_
  rintro e w' ⟨hv, rfl⟩
  rcases hv with rfl | ⟨rfl, hl150, hsm⟩
  · go_wp2_with fail
    go_ret
    exact ⟨rfl, B1.out⟩
  have HSM := Lib.hid hsm
  have h150 : n ≤ 150 := by have := KN.out; omega
  clear hl150 hsm
  by_cases hold : 1000000 < old
  · go_wp2_with fail
    go_ret
    exact ⟨rfl, B1.out⟩
  have D1 := Lib.hid (HO.out l A n c w1 (KH.out.on B1.out) KN.out hnc KC.out (by omega) HSM.out)
  obtain ⟨r, hr⟩ : ∃ r, checkP l = r := ⟨_, rfl⟩
  have HR := Lib.hid hr
  clear hr
  go_wp2_with fail
  refine D1.out.mono ?_
  rintro e w2 ⟨A2, n2, c2, ts, rfl, her, hm, b2⟩
  have B2 := Lib.hid (B1.out.trans (b2.mono B1.out.size))
  have HM := Lib.hid hm
  have HER := Lib.hid her
  rw [HR.out]
  clear b2 D1 hm her
  simp only
  by_cases hr0 : r = 0
  · subst hr0
    have e0 : errV (((0 : Nat)) : Int) = .nilIface := rfl
    rw [e0]
    have E2 : Hid (erL ts = wantP l) := Lib.hid (by rw [HER.out, if_pos HR.out])
    have hwt : wtL (wantP l) ≤ 120 := by
      have h1 := want_back HR.out
      have h2 := wt_back h1.2
      rw [h1.1] at h2
      have := (check_first HR.out).1
      omega
    have hcnt := cntL_wt (wantP l)
    have CA : Hid (Calls Try.prog 9 #[.slice A2 n2 c2] w2 (Mv w2.heap.size w2 (wantP l))) := Lib.hid (by
      have := as_any ts w2.heap.size w2 A2 n2 c2 (Nat.le_refl _) HM.out.holds HM.out.len HM.out.ok (by rw [E2.out]; omega)
      rw [E2.out] at this
      exact this)
    go_wp2_with fail
    refine CA.out.mono ?_
    rintro e w3 ⟨A5, n5, c5, us, rfl, hus, own5, mix5, b3⟩
    have X3 := Lib.hid b3
    have B3 := Lib.hid (B2.out.trans (b3.mono B2.out.size))
    have O5 := ownK_is own5
    have CR : Hid (Calls Try.prog 8 #[.slice A5 n5 c5] w3 fun e w' => e = .returned (.int .i64 (cntL (wantP l) : Nat)) ∧ Below w3.heap.size w3 w') := Lib.hid (by
      have := rcnt_any us w3 A5 n5 c5 O5.2.2.2.2 O5.1 (fun t ht => (mix5 t ht).ok b3.size) (by rw [hus]; omega)
      rw [hus] at this
      exact this)
    have CN : Hid (∀ w9, Below w2.heap.size w2 w9 → Calls Try.prog 10 #[.slice A2 n2 c2] w9 fun e w' => e = .returned (.int .i64 (cntL (wantP l) : Nat)) ∧ Below w9.heap.size w9 w') := Lib.hid (fun w9 h => by
      have := HC.out.nodes ts A2 n2 c2 w9 (HM.out.on h) (by rw [E2.out]; omega)
      rw [E2.out] at this
      exact this)
    have CG : Hid (∀ w9, Below w2.heap.size w2 w9 → Calls Try.prog 11 #[.slice A2 n2 c2, .int .i64 old] w9 fun e w' => e = .returned (.int .i64 (chgP (cntL (wantP l)) old)) ∧ Below w9.heap.size w9 w') := Lib.hid (fun w9 h => by
      have := HC.out.changes ts A2 n2 c2 old w9 (HM.out.on h) (by rw [E2.out]; omega) (by omega)
      rw [E2.out] at this
      exact this)
    clear b3 own5 mix5 O5 CA hus
    generalize cntL (wantP l) = cw at CR CN CG hcnt
    have hcw : cw ≤ 120 := by omega
    go_wp2_with fail
    refine CR.out.mono ?_
    rintro e w4 ⟨rfl, b4⟩
    have X4 : Hid (Below w2.heap.size w2 w4) := Lib.hid (X3.out.trans (b4.mono X3.out.size))
    have B4 := Lib.hid (B3.out.trans (b4.mono B3.out.size))
    clear b4 CR
    by_cases hneg : old < 0
    · have HG : chgP cw old = 4 * cw + 2 * 0 + 1 := by rw [chgP, if_pos hneg]
      rw [HG] at CG
      go_wp2_with fail
      refine (CN.out w4 X4.out).mono ?_
      rintro e w5 ⟨rfl, b5⟩
      have X5 : Hid (Below w2.heap.size w2 w5) := Lib.hid (X4.out.trans (b5.mono X4.out.size))
      have B5 := Lib.hid (B4.out.trans (b5.mono B4.out.size))
      clear b5 CN HG
      go_wp2_with fail
      refine (CG.out w5 X5.out).mono ?_
      rintro e w6 ⟨rfl, b6⟩
      have B6 := Lib.hid (B5.out.trans (b6.mono B5.out.size))
      clear b6 CG
      go_wp2_with fail
      go_ret
      exact ⟨by first | rfl | simp, B6.out⟩
    · have HG : chgP cw old = 4 * cw + 2 * old + 1 := by rw [chgP, if_neg hneg]
      rw [HG] at CG
      go_wp2_with fail
      refine (CN.out w4 X4.out).mono ?_
      rintro e w5 ⟨rfl, b5⟩
      have X5 : Hid (Below w2.heap.size w2 w5) := Lib.hid (X4.out.trans (b5.mono X4.out.size))
      have B5 := Lib.hid (B4.out.trans (b5.mono B4.out.size))
      clear b5 CN HG
      go_wp2_with fail
      refine (CG.out w5 X5.out).mono ?_
      rintro e w6 ⟨rfl, b6⟩
      have B6 := Lib.hid (B5.out.trans (b6.mono B5.out.size))
      clear b6 CG
      go_wp2_with fail
      go_ret
      exact ⟨by first | rfl | simp, B6.out⟩
  · have e7 : errV (r : Int) = .iface 47 (.int .i64 r) := by unfold errV; rw [if_neg (by omega)]
    rw [e7]
    go_wp2_with fail
    go_ret
    exact ⟨rfl, B2.out⟩
set_option maxRecDepth 100000 in
set_option maxHeartbeats 8000000 in
theorem more18_any (W14 : WOfC) (C : BoundC) (l m : List In) (A A' : Option Addr) (n c n' c' : Nat) (old : Int) (w : World) (hh : kX.Holds w w.heap.size A l) (hn : l.length = n) (hnc : n ≤ c) (hcm : c ≤ maxLen)
    (hh' : kX.Holds w w.heap.size A' m) (hn' : m.length = n') (hnc' : n' ≤ c') (hcm' : c' ≤ maxLen) :
    Calls Try.prog 4 #[.slice A n c, .slice A' n' c', .int .i64 old] w fun e w' => e = .returned (.bool true) ∧ Below w.heap.size w w' := by
  have q2 := err_eql_nil
  have q3 := err_neq_nil
  have q4 := nil_eql_nil
  have q5 := nil_neq_nil
  have HU := Lib.hid (up18_any C)
  have HC := Lib.hid C
  have HO := Lib.hid W14
  have KH := Lib.hid hh
  have KN := Lib.hid hn
  have KC := Lib.hid hcm
  have KH' := Lib.hid hh'
  have KN' := Lib.hid hn'
  have KC' := Lib.hid hcm'
  have hnm : n ≤ maxLen := by omega
  have hnm' : n' ≤ maxLen := by omega
  clear hh hn hcm hh' hn' hcm'
  go_enter Try.func4, Try.ntmps4
  go_wp2_with fail
  refine (HU.out w).mono ?_
  rintro e w1 ⟨rfl, b1⟩
  have B1 := Lib.hid b1
  clear b1 HU
  go_wp2_with fail
  refine (fewX_any l A n c w1 KN.out hnm (KH.out.on B1.out)).mono ?_
  rintro e w' ⟨hv, rfl⟩
  rcases hv with rfl | ⟨rfl, hl150, hsm⟩
  · go_wp2_with fail
    go_ret
    exact ⟨rfl, B1.out⟩
  have HSM := Lib.hid hsm
  have h150 : n ≤ 150 := by have := KN.out; omega
  clear hl150 hsm
  go_wp2_with fail
  refine (fewX_any m A' n' c' w1 KN'.out hnm' (KH'.out.on B1.out)).mono ?_
  rintro e w' ⟨hv, rfl⟩
  rcases hv with rfl | ⟨rfl, hl150, hsm⟩
  · go_wp2_with fail
    go_ret
    exact ⟨rfl, B1.out⟩
  have HSM' := Lib.hid hsm
  have h150' : n' ≤ 150 := by have := KN'.out; omega
  clear hl150 hsm
  by_cases hold : 1000000 < old
  · go_wp2_with fail
    go_ret
    exact ⟨rfl, B1.out⟩
  by_cases hneg : old < 0
  · go_wp2_with fail
    go_ret
    exact ⟨rfl, B1.out⟩
  have D1 := Lib.hid (HO.out l A n c w1 (KH.out.on B1.out) KN.out hnc KC.out (by omega) HSM.out)
  obtain ⟨r, hr⟩ : ∃ r, checkP l = r := ⟨_, rfl⟩
  have HR := Lib.hid hr
  clear hr
  obtain ⟨r', hr'⟩ : ∃ r, checkP m = r := ⟨_, rfl⟩
  have HR' := Lib.hid hr'
  clear hr'
  go_wp2_with fail
  refine D1.out.mono ?_
  rintro e w2 ⟨A2, n2, c2, ts, rfl, her, hm, b2⟩
  have B2 := Lib.hid (B1.out.trans (b2.mono B1.out.size))
  have HM := Lib.hid hm
  have HER := Lib.hid her
  rw [HR.out]
  clear b2 D1 hm her
  have D2 := Lib.hid (HO.out m A' n' c' w2 (KH'.out.on B2.out) KN'.out hnc' KC'.out (by omega) HSM'.out)
  go_wp2_with fail
  refine D2.out.mono ?_
  rintro e w3 ⟨A3, n3, c3, us, rfl, her, hm, b3⟩
  have X3 := Lib.hid b3
  have B3 := Lib.hid (B2.out.trans (b3.mono B2.out.size))
  have HM' := Lib.hid hm
  have HER' := Lib.hid her
  rw [HR'.out]
  clear b3 D2 hm her
  simp only
  by_cases hr0 : r = 0
  · subst hr0
    have e0 : errV (((0 : Nat)) : Int) = .nilIface := rfl
    rw [e0]
    by_cases hr1 : r' = 0
    · subst hr1
      rw [e0]
      clear e0
      have E2 : Hid (erL ts = wantP l) := Lib.hid (by rw [HER.out, if_pos HR.out])
      have E3 : Hid (erL us = wantP m) := Lib.hid (by rw [HER'.out, if_pos HR'.out])
      have sm : ∀ {x : List In}, checkP x = 0 → wtL (wantP x) ≤ 120 := fun {x} h => by
        have h1 := want_back h
        have h2 := wt_back h1.2
        rw [h1.1] at h2
        have := (check_first h).1
        omega
      have hw1 := sm HR.out
      have hw2 := sm HR'.out
      have hc1 := cntL_wt (wantP l)
      have hc2 := cntL_wt (wantP m)
      clear sm
      have M3 : Hid (Wm kW w3 A2 n2 c2 ts) := Lib.hid (HM.out.on X3.out)
      have hn2 : n2 ≤ 120 := by have := M3.out.len; have h := wtL_len (erL ts); rw [erL_len, E2.out] at h; omega
      have hn3 : n3 ≤ 120 := by have := HM'.out.len; have h := wtL_len (erL us); rw [erL_len, E3.out] at h; omega
      have OM : Hid (kW.Own (w3.alloc (.cells #[] 46)) w3.heap.size (.slice (some ⟨w3.heap.size, 0, none⟩) 0 0) []) := Lib.hid (Kind.Own.made kW w3 w3.heap.size (Nat.le_refl _))
      have BA : Hid (Below w3.heap.size w3 (w3.alloc (.cells #[] 46))) := Lib.hid ((Below.refl _ _).alloc (Nat.le_refl _) _)
      go_upto_region 9 with ((first
        | (at_builtin; refine kW.wp_app rfl _ _ rfl (v := .slice (some ⟨w3.heap.size, 0, none⟩) 0 0) (l := []) (m := ts) (B := w3.heap.size) rfl OM.out rfl M3.out.len M3.out.nil (M3.out.on BA.out).holds (by simp; omega) (by simp) ?_; intro v' w4 hown hgrow hat; have X4 : Hid (Below w3.heap.size w3 w4) := Lib.hid (BA.out.grown hgrow (by simp) (fun k hk => by simp [Value.ownBlock] at hk; omega)); obtain ⟨A4, n4, c4, rfl, _, _, _, _, _⟩ := hown.slice; have O4 := Lib.hid hown; clear hown hgrow hat)
        | (at_builtin; refine kW.wp_app rfl _ _ rfl (v := .slice A4 n4 c4) (l := [] ++ ts) (m := us) (B := w3.heap.size) rfl O4.out rfl HM'.out.len HM'.out.nil (HM'.out.on X4.out).holds (by have := M3.out.len; simp; omega) X4.out.size ?_; intro v' w5 hown hgrow hat; have X5 : Hid (Below w3.heap.size w3 w5) := Lib.hid (X4.out.grown hgrow X4.out.size (fun k hk => (O4.out.lt hk).1)); obtain ⟨A5, n5, c5, rfl, _, _, _, _, _⟩ := hown.slice; have O5 := Lib.hid hown; clear hown hgrow hat)
        | fail))
      have MB : Hid (Wm kW w5 A5 n5 c5 (ts ++ us)) := Lib.hid (by
        have h := ownK_is O5.out
        rw [List.nil_append] at h
        exact ⟨h.1, h.2.1, h.2.2.1, h.2.2.2.1, h.2.2.2.2, fun t ht => by
          rcases List.mem_append.1 ht with ht | ht
          · exact (M3.out.ok t ht).on X5.out
          · exact (HM'.out.ok t ht).on X5.out⟩)
      have EB : Hid (erL (ts ++ us) = wantP l ++ wantP m) := Lib.hid (by rw [erL_append, E2.out, E3.out])
      have M5 := Lib.hid (M3.out.on X5.out)
      have M5' := Lib.hid (HM'.out.on X5.out)
      have B5 := Lib.hid (B3.out.trans (X5.out.mono B3.out.size))
      have CN1 : Hid (∀ w9, Below w5.heap.size w5 w9 → Calls Try.prog 10 #[.slice A5 n5 c5] w9 fun e w' => e = .returned (.int .i64 ((cntL (wantP l) + cntL (wantP m) : Nat) : Int)) ∧ Below w9.heap.size w9 w') := Lib.hid (fun w9 h => by
        have := HC.out.nodes (ts ++ us) A5 n5 c5 w9 (MB.out.on h) (by rw [EB.out, wtL_append]; omega)
        rw [EB.out, cntL_append] at this
        exact this)
      have CN2 : Hid (∀ w9, Below w5.heap.size w5 w9 → Calls Try.prog 10 #[.slice A2 n2 c2] w9 fun e w' => e = .returned (.int .i64 (cntL (wantP l) : Nat)) ∧ Below w9.heap.size w9 w') := Lib.hid (fun w9 h => by
        have := HC.out.nodes ts A2 n2 c2 w9 (M5.out.on h) (by rw [E2.out]; omega)
        rw [E2.out] at this
        exact this)
      have CN3 : Hid (∀ w9, Below w5.heap.size w5 w9 → Calls Try.prog 10 #[.slice A3 n3 c3] w9 fun e w' => e = .returned (.int .i64 (cntL (wantP m) : Nat)) ∧ Below w9.heap.size w9 w') := Lib.hid (fun w9 h => by
        have := HC.out.nodes us A3 n3 c3 w9 (M5'.out.on h) (by rw [E3.out]; omega)
        rw [E3.out] at this
        exact this)
      have CG1 : Hid (∀ w9, Below w5.heap.size w5 w9 → Calls Try.prog 11 #[.slice A5 n5 c5, .int .i64 old] w9 fun e w' => e = .returned (.int .i64 (4 * ((cntL (wantP l) + cntL (wantP m) : Nat) : Int) + 2 * old + 1)) ∧ Below w9.heap.size w9 w') := Lib.hid (fun w9 h => by
        have := HC.out.changes (ts ++ us) A5 n5 c5 old w9 (MB.out.on h) (by rw [EB.out, wtL_append]; omega) (by omega)
        rw [EB.out, cntL_append, chgP, if_neg (by omega)] at this
        exact this)
      have CG2 : Hid (∀ w9, Below w5.heap.size w5 w9 → Calls Try.prog 11 #[.slice A2 n2 c2, .int .i64 old] w9 fun e w' => e = .returned (.int .i64 (4 * (cntL (wantP l) : Nat) + 2 * old + 1)) ∧ Below w9.heap.size w9 w') := Lib.hid (fun w9 h => by
        have := HC.out.changes ts A2 n2 c2 old w9 (M5.out.on h) (by rw [E2.out]; omega) (by omega)
        rw [E2.out, chgP, if_neg (by omega)] at this
        exact this)
      have CG3 : Hid (∀ w9, Below w5.heap.size w5 w9 → Calls Try.prog 11 #[.slice A2 n2 c2, .int .i64 (old + 1)] w9 fun e w' => e = .returned (.int .i64 (4 * (cntL (wantP l) : Nat) + 2 * (old + 1) + 1)) ∧ Below w9.heap.size w9 w') := Lib.hid (fun w9 h => by
        have := HC.out.changes ts A2 n2 c2 (old + 1) w9 (M5.out.on h) (by rw [E2.out]; omega) (by omega)
        rw [E2.out, chgP, if_neg (by omega)] at this
        exact this)
      generalize cntL (wantP l) = cl at CN1 CN2 CG1 CG2 CG3 hc1
      generalize cntL (wantP m) = cm at CN1 CN3 CG1 hc2
      have k1 : ((cl + cm : Nat) : Int) = (cl : Int) + (cm : Int) := by omega
      have hcl : cl ≤ 120 := by omega
      have hcm2 : cm ≤ 120 := by omega
      rw [k1] at CN1 CG1
      clear k1 hw1 hw2 hc1 hc2 OM BA X4 O4 O5 M3
      have g1 : decide ((4 : Int) * (cl : Int) + 2 * old + 1 ≤ 4 * ((cl : Int) + (cm : Int)) + 2 * old + 1) = true := by simp only [decide_eq_true_eq]; omega
      have g2 : decide ((4 : Int) * (cl : Int) + 2 * old + 1 < 4 * (cl : Int) + 2 * (old + 1) + 1) = true := by simp only [decide_eq_true_eq]; omega
      go_wp2_with fail
      refine (CN1.out w5 (Below.refl _ _)).mono ?_
      rintro e w6 ⟨rfl, b6⟩
      have X6 : Hid (Below w5.heap.size w5 w6) := Lib.hid b6
      clear b6 CN1
      go_wp2_with fail
      refine (CN2.out w6 X6.out).mono ?_
      rintro e w7 ⟨rfl, b7⟩
      have X7 : Hid (Below w5.heap.size w5 w7) := Lib.hid (X6.out.trans (b7.mono X6.out.size))
      clear b7 CN2
      go_wp2_with fail
      refine (CN3.out w7 X7.out).mono ?_
      rintro e w8 ⟨rfl, b8⟩
      have X8 : Hid (Below w5.heap.size w5 w8) := Lib.hid (X7.out.trans (b8.mono X7.out.size))
      clear b8 CN3
      have q8 : ((cl : Int) + (cm : Int) == (cl : Int) + (cm : Int)) = true := by simp
      go_wp2_with fail
      refine (CG1.out w8 X8.out).mono ?_
      rintro e w9 ⟨rfl, b9⟩
      have X9 : Hid (Below w5.heap.size w5 w9) := Lib.hid (X8.out.trans (b9.mono X8.out.size))
      clear b9 CG1
      go_wp2_with fail
      refine (CG2.out w9 X9.out).mono ?_
      rintro e w10 ⟨rfl, b10⟩
      have X10 : Hid (Below w5.heap.size w5 w10) := Lib.hid (X9.out.trans (b10.mono X9.out.size))
      clear b10
      go_wp2_with fail
      refine (CG3.out w10 X10.out).mono ?_
      rintro e w11 ⟨rfl, b11⟩
      have X11 : Hid (Below w5.heap.size w5 w11) := Lib.hid (X10.out.trans (b11.mono X10.out.size))
      clear b11 CG3
      go_wp2_with fail
      refine (CG2.out w11 X11.out).mono ?_
      rintro e w12 ⟨rfl, b12⟩
      have X12 : Hid (Below w5.heap.size w5 w12) := Lib.hid (X11.out.trans (b12.mono X11.out.size))
      clear b12 CG2
      go_wp2_with fail
      go_ret
      exact ⟨by first | rfl | (simp; done) | (simp; omega), B5.out.trans (X12.out.mono B5.out.size)⟩
    · have e7 : errV (r' : Int) = .iface 47 (.int .i64 r') := by unfold errV; rw [if_neg (by omega)]
      rw [e7]
      go_wp2_with fail
      go_ret
      exact ⟨rfl, B3.out⟩
  · have e7 : errV (r : Int) = .iface 47 (.int .i64 r) := by unfold errV; rw [if_neg (by omega)]
    rw [e7]
    go_wp2_with fail
    go_ret
    exact ⟨rfl, B3.out⟩
end Go.Proofs.Ytfjnbjpenibpkaa.P18
