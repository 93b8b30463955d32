/- The walks of WishTells and WishBack, over the contracts of the program's Of, Back, Count and Same. No condition but those stated. -/
import Derived.Test.YtgpbgimobcdogaaM28
set_option linter.unusedVariables false
set_option linter.unusedSimpArgs false
set_option linter.unusedVariables false
set_option linter.unusedSimpArgs false
namespace Go.Proofs.Ytgpbgimobcdogaa.P14
open Go.RowKit Kd P4 P5 P11 P12 P13

theorem wm_of_own {w w' : World} {A : Option Addr} {n c : Nat} {ts : List WV} {Q : Nat → Prop} (own : kQ.Own w' w.heap.size (.slice A n c) ts) (new : ∀ t ∈ ts, WNew kQ w' Q t) : Wm kQ w' A n c ts := by
  have h := ownK_is own
  exact ⟨h.1, h.2.1, h.2.2.1, h.2.2.2.1, h.2.2.2.2, fun t ht => (new t ht).ok⟩
theorem wt_small {l : List In} (h : checkP l = 0) : wtL (wantP l) ≤ 120 := by
  have h1 := want_back h
  have h2 := wt_back h1.2
  rw [h1.1] at h2
  have := (check_first h).1
  omega
set_option maxRecDepth 100000 in
set_option maxHeartbeats 16000000 in
theorem tells14_any (C : WishC) (l m : List In) (A A' : Option Addr) (n c n' c' : Nat) (w : World) (hh : kX.Holds w w.heap.size A l) (hn : l.length = n) (hnc : n ≤ c) (hcm : c ≤ maxLen)
    (hh' : kX.Holds w w.heap.size A' m) (hn' : m.length = n') (hnc' : n' ≤ c') (hcm' : c' ≤ maxLen) :
    Calls Try.prog 3 #[.slice A n c, .slice A' n' c'] w fun e w' => e = .returned (.bool true) ∧ Below w.heap.size w w' := by
  have q2 := err_eql_nil
  have q3 := err_neq_nil
  have q4 := nil_eql_nil
  have q5 := nil_neq_nil
  have HU := Lib.hid (up14_any C)
  have HC := Lib.hid C
  have KH := Lib.hid hh
  have KN := Lib.hid hn
  have KC := Lib.hid hcm
  have KH' := Lib.hid hh'
  have KN' := Lib.hid hn'
  have KC' := Lib.hid hcm'
  have hc63 : c ≤ 9223372036854775807 := by unfold maxLen at hcm; omega
  have hc63' : c' ≤ 9223372036854775807 := by unfold maxLen at hcm'; omega
  have hnm : n ≤ maxLen := by omega
  have hnm' : n' ≤ maxLen := by omega
  clear hh hn hcm hh' hn' hcm'
  go_enter Try.func3, Try.ntmps3
  go_wp2_with fail
  refine (HU.out w).mono ?_
  rintro e w1 ⟨rfl, b1⟩
  have B1 := Lib.hid b1
  clear b1 HU
  go_wp2_with fail
  refine (fewX_any l A n c w1 KN.out hnm (KH.out.on B1.out)).mono ?_
  rintro e w' ⟨hv, rfl⟩
  rcases hv with rfl | ⟨rfl, hl150, hsm⟩
  · go_wp2_with fail
    go_ret
    exact ⟨rfl, B1.out⟩
  have HSM := Lib.hid hsm
  have h150 : n ≤ 150 := by have := KN.out; omega
  clear hl150 hsm
  go_wp2_with fail
  refine (fewX_any m A' n' c' w1 KN'.out hnm' (KH'.out.on B1.out)).mono ?_
  rintro e w' ⟨hv, rfl⟩
  rcases hv with rfl | ⟨rfl, hl150, hsm⟩
  · go_wp2_with fail
    go_ret
    exact ⟨rfl, B1.out⟩
  have HSM' := Lib.hid hsm
  have h150' : n' ≤ 150 := by have := KN'.out; omega
  clear hl150 hsm
  have D1 := Lib.hid (HC.out.of l A n c w1 (KH.out.on B1.out) KN.out hnc KC.out (by omega) HSM.out)
  have D2 : Hid (∀ w9, Below w.heap.size w w9 → Calls Try.prog 8 #[.slice A n c] w9 fun e w' => e = .returned (.int .i64 (checkP l : Nat)) ∧ Below w9.heap.size w9 w') := Lib.hid (fun w9 h => rcheck_any l A n c w9 (KH.out.on h) KN.out (by omega) HSM.out)
  have hcd := checkP_code l
  obtain ⟨r, hr⟩ : ∃ r, checkP l = r := ⟨_, rfl⟩
  have HR := Lib.hid hr
  rw [hr] at D2 hcd
  clear hr
  go_wp2_with fail
  refine D1.out.mono ?_
  rintro e w2 ⟨A2, n2, c2, ts, rfl, her, hm, b2⟩
  have B2 := Lib.hid (B1.out.trans (b2.mono B1.out.size))
  have HM := Lib.hid hm
  have HER := Lib.hid her
  rw [HR.out]
  have hc2 : c2 ≤ 9223372036854775807 := by have := hm.cm; unfold maxLen at this; omega
  clear b2 D1 hm her
  go_wp2_with fail
  refine (D2.out w2 B2.out).mono ?_
  rintro e w3 ⟨rfl, b3⟩
  have X3 := Lib.hid b3
  have B3 := Lib.hid (B2.out.trans (b3.mono B2.out.size))
  clear b3 D2
  go_wp2_with fail
  refine (ecode_any r hcd w3).mono ?_
  rintro e w' ⟨rfl, rfl⟩
  have qr : ((r : Int) != (r : Int)) = false := by simp
  by_cases hr0 : r = 0
  · subst hr0
    have E2 : Hid (erL ts = wantP l) := Lib.hid (by rw [HER.out, if_pos HR.out])
    have hwt := wt_small HR.out
    have HBK := Lib.hid (want_back HR.out)
    have R3 : Hid (Wm kW w3 A2 n2 c2 ts) := Lib.hid (HM.out.on X3.out)
    have CO : Hid (Calls Try.prog 10 #[.slice A n c] w3 (Wv kQ w3 (wantP l))) := Lib.hid (rof14_any n (wantP l) l A n c w3 HBK.out.2 HBK.out.1.symm KN.out (Nat.le_refl _) (KH.out.on B3.out) hnc KC.out (by omega))
    go_wp2_with fail
    refine CO.out.mono ?_
    rintro e w4 ⟨A4, n4, c4, qs, rfl, heq, own4, new4, b4⟩
    have X4 := Lib.hid b4
    have B4 := Lib.hid (B3.out.trans (b4.mono B3.out.size))
    have HQ : Hid (Wm kQ w4 A4 n4 c4 qs) := Lib.hid (wm_of_own own4 new4)
    have EQ := Lib.hid heq
    clear b4 own4 new4 CO heq
    have M4 := Lib.hid (R3.out.on X4.out)
    have CA : Hid (Calls Try.prog 12 #[.slice A2 n2 c2] w4 (Mv w4.heap.size w4 (wantP l))) := Lib.hid (by
      have := as_any ts w4.heap.size w4 A2 n2 c2 (Nat.le_refl _) M4.out.holds M4.out.len M4.out.ok (by rw [E2.out]; omega)
      rw [E2.out] at this
      exact this)
    go_wp2_with fail
    refine CA.out.mono ?_
    rintro e w5 ⟨A5, n5, c5, us, rfl, hus, own5, mix5, b5⟩
    have X5 := Lib.hid b5
    have B5 := Lib.hid (B4.out.trans (b5.mono B4.out.size))
    have O5 := ownK_is own5
    have CL : Hid (Calls Try.prog 11 #[.slice A5 n5 c5, .slice A4 n4 c4] w5 fun e w' => e = .returned (.bool true) ∧ Below w5.heap.size w5 w') := Lib.hid (by
      have h1 := HQ.out.on X5.out
      have := ralike_any us qs w5 A5 n5 c5 A4 n4 c4 O5.2.2.2.2 O5.1 (fun t ht => (mix5 t ht).ok X5.out.size) (by rw [hus]; omega) h1.holds h1.len h1.ok (by rw [EQ.out]; omega)
      rw [hus, EQ.out, alL_refl] at this
      exact this)
    clear b5 own5 mix5 O5 CA hus
    go_wp2_with fail
    refine CL.out.mono ?_
    rintro e w6 ⟨rfl, b6⟩
    have X6 : Hid (Below w4.heap.size w4 w6) := Lib.hid (X5.out.trans (b6.mono X5.out.size))
    have B6 := Lib.hid (B5.out.trans (b6.mono B5.out.size))
    clear b6 CL
    have CN : Hid (Calls Try.prog 13 #[.slice A2 n2 c2] w6 fun e w' => e = .returned (.int .i64 (cntL (wantP l) : Nat)) ∧ Below w6.heap.size w6 w') := Lib.hid (by
      have := HC.out.count ts A2 n2 c2 w6 (M4.out.on X6.out) (by rw [E2.out]; omega)
      rw [E2.out] at this
      exact this)
    go_wp2_with fail
    refine CN.out.mono ?_
    rintro e w7 ⟨rfl, b7⟩
    have X7 : Hid (Below w4.heap.size w4 w7) := Lib.hid (X6.out.trans (b7.mono X6.out.size))
    have B7 := Lib.hid (B6.out.trans (b7.mono B6.out.size))
    clear b7 CN
    have CR : Hid (Calls Try.prog 14 #[.slice A4 n4 c4] w7 fun e w' => e = .returned (.int .i64 (cntL (wantP l) : Nat)) ∧ Below w7.heap.size w7 w') := Lib.hid (by
      have h1 := HQ.out.on X7.out
      have := rcnt_any qs w7 A4 n4 c4 h1.holds h1.len h1.ok (by rw [EQ.out]; omega)
      rw [EQ.out] at this
      exact this)
    generalize cntL (wantP l) = cw at CR
    go_wp2_with fail
    refine CR.out.mono ?_
    rintro e w8 ⟨rfl, b8⟩
    have X8 : Hid (Below w4.heap.size w4 w8) := Lib.hid (X7.out.trans (b8.mono X7.out.size))
    have B8 := Lib.hid (B7.out.trans (b8.mono B7.out.size))
    clear b8 CR
    have qc : ((cw : Int) != (cw : Int)) = false := by simp
    have CS : Hid (Calls Try.prog 15 #[.slice A2 n2 c2, .slice A2 n2 c2] w8 fun e w' => e = .returned (.bool true) ∧ Below w8.heap.size w8 w') := Lib.hid (by
      have := HC.out.same ts ts A2 A2 n2 c2 n2 c2 w8 (M4.out.on X8.out) (M4.out.on X8.out) (by rw [E2.out]; omega) (by rw [E2.out]; omega)
      rw [alL_refl] at this
      exact this)
    go_wp2_with fail
    refine CS.out.mono ?_
    rintro e w9 ⟨rfl, b9⟩
    have X9 : Hid (Below w4.heap.size w4 w9) := Lib.hid (X8.out.trans (b9.mono X8.out.size))
    have B9 := Lib.hid (B8.out.trans (b9.mono B8.out.size))
    clear b9 CS
    have D9 := Lib.hid (HC.out.of m A' n' c' w9 (KH'.out.on B9.out) KN'.out hnc' KC'.out (by omega) HSM'.out)
    obtain ⟨r', hr'⟩ : ∃ r, checkP m = r := ⟨_, rfl⟩
    have HR' := Lib.hid hr'
    go_wp2_with fail
    refine D9.out.mono ?_
    rintro e w10 ⟨A6, n6, c6, ts', rfl, her', hm', b10⟩
    have X10 : Hid (Below w4.heap.size w4 w10) := Lib.hid (X9.out.trans (b10.mono X9.out.size))
    have B10 := Lib.hid (B9.out.trans (b10.mono B9.out.size))
    have HM' := Lib.hid hm'
    rw [hr'] at her' ⊢
    have HER' := Lib.hid her'
    clear b10 D9 hm' her' hr'
    simp only
    by_cases hr1 : r' = 0
    · subst hr1
      have e0 : errV (((0 : Nat)) : Int) = .nilIface := rfl
      rw [e0]
      have E6 : Hid (erL ts' = wantP m) := Lib.hid (by rw [HER'.out, if_pos rfl])
      have hwt' := wt_small HR'.out
      have HBK' := Lib.hid (want_back HR'.out)
      have CS2 : Hid (Calls Try.prog 15 #[.slice A2 n2 c2, .slice A6 n6 c6] w10 fun e w' => e = .returned (.bool (alL (wantP l) (wantP m))) ∧ Below w10.heap.size w10 w') := Lib.hid (by
        have := HC.out.same ts ts' A2 A6 n2 c2 n6 c6 w10 (M4.out.on X10.out) HM'.out (by rw [E2.out]; omega) (by rw [E6.out]; omega)
        rw [E2.out, E6.out] at this
        exact this)
      have COX : Hid (∀ wz, Below w.heap.size w wz → Calls Try.prog 10 #[.slice A' n' c'] wz (Wv kQ wz (wantP m))) := Lib.hid (fun wz h => rof14_any n' (wantP m) m A' n' c' wz HBK'.out.2 HBK'.out.1.symm KN'.out (Nat.le_refl _) (KH'.out.on h) hnc' KC'.out (by omega))
      have CLX : Hid (∀ (wz : World) (A7 : Option Addr) (n7 c7 : Nat) (vs : List WV), Below w4.heap.size w4 wz → erL vs = wantP m → Wm kQ wz A7 n7 c7 vs → Calls Try.prog 11 #[.slice A4 n4 c4, .slice A7 n7 c7] wz fun e w' => e = .returned (.bool (alL (wantP l) (wantP m))) ∧ Below wz.heap.size wz w') := Lib.hid (fun wz A7 n7 c7 vs h hvs hmv => by
        have h1 := HQ.out.on h
        have := ralike_any qs vs wz A4 n4 c4 A7 n7 c7 h1.holds h1.len h1.ok (by rw [EQ.out]; omega) hmv.holds hmv.len hmv.ok (by rw [hvs]; omega)
        rw [EQ.out, hvs] at this
        exact this)
      generalize alL (wantP l) (wantP m) = rb at CS2 CLX
      have qb : (rb == rb) = true := by simp
      go_wp2_with fail
      refine CS2.out.mono ?_
      rintro e w11 ⟨rfl, b11⟩
      have X11 : Hid (Below w4.heap.size w4 w11) := Lib.hid (X10.out.trans (b11.mono X10.out.size))
      have B11 := Lib.hid (B10.out.trans (b11.mono B10.out.size))
      clear b11 CS2
      go_wp2_with fail
      refine (COX.out w11 B11.out).mono ?_
      rintro e w12 ⟨A7, n7, c7, vs, rfl, hvs, own7, new7, b12⟩
      have X12 : Hid (Below w4.heap.size w4 w12) := Lib.hid (X11.out.trans (b12.mono X11.out.size))
      have B12 := Lib.hid (B11.out.trans (b12.mono B11.out.size))
      have CL2 := Lib.hid (CLX.out w12 A7 n7 c7 vs X12.out hvs (wm_of_own own7 new7))
      clear b12 COX own7 new7 hvs CLX
      go_wp2_with fail
      refine CL2.out.mono ?_
      rintro e w13 ⟨rfl, b13⟩
      have B13 := Lib.hid (B12.out.trans (b13.mono B12.out.size))
      clear b13 CL2
      go_wp2_with fail
      go_ret
      exact ⟨by first | rfl | simp, B13.out⟩
    · have e7 : errV (r' : Int) = .iface 43 (.int .i64 r') := by unfold errV; rw [if_neg (by omega)]
      rw [e7]
      go_wp2_with fail
      go_ret
      exact ⟨rfl, B10.out⟩
  · have E2 : Hid (ts.length = 0) := Lib.hid (by
      have := HER.out
      rw [if_neg (by rw [HR.out]; exact hr0)] at this
      rw [← erL_len, this]
      rfl)
    obtain rfl : n2 = 0 := by rw [← HM.out.len, E2.out]
    have qr0 : ((r : Int) != 0) = true := by simp; omega
    go_wp2_with fail
    go_ret
    exact ⟨rfl, B3.out⟩
/-! ### WishBack -/
theorem countP_succ {l : List In} {k : Nat} (h : k < l.length) : (l.take (k + 1)).countP (fun x => makesN x.op) = (l.take k).countP (fun x => makesN x.op) + if makesN l[k].op then 1 else 0 := by
  rw [List.take_add_one, List.getElem?_eq_getElem h, List.countP_append]
  simp [List.countP_cons]
set_option maxRecDepth 100000 in
set_option maxHeartbeats 16000000 in
theorem backs14_any (C : WishC) (l : List In) (A : Option Addr) (n c : Nat) (w : World) (hh : kX.Holds w w.heap.size A l) (hn : l.length = n) (hnc : n ≤ c) (hcm : c ≤ maxLen) :
    Calls Try.prog 4 #[.slice A n c] w fun e w' => e = .returned (.bool true) ∧ Below w.heap.size w w' := by
  have q2 := err_eql_nil
  have q3 := err_neq_nil
  have q4 := nil_eql_nil
  have q5 := nil_neq_nil
  have HU := Lib.hid (up14_any C)
  have HC := Lib.hid C
  have KH := Lib.hid hh
  have KN := Lib.hid hn
  have KC := Lib.hid hcm
  have hc63 : c ≤ 9223372036854775807 := by unfold maxLen at hcm; omega
  have hnm : n ≤ maxLen := by omega
  clear hh hn hcm
  go_enter Try.func4, Try.ntmps4
  go_wp2_with fail
  refine (HU.out w).mono ?_
  rintro e w1 ⟨rfl, b1⟩
  have B1 := Lib.hid b1
  clear b1 HU
  go_wp2_with fail
  refine (fewX_any l A n c w1 KN.out hnm (KH.out.on B1.out)).mono ?_
  rintro e w' ⟨hv, rfl⟩
  rcases hv with rfl | ⟨rfl, hl150, hsm⟩
  · go_wp2_with fail
    go_ret
    exact ⟨rfl, B1.out⟩
  have HSM := Lib.hid hsm
  have h150 : n ≤ 150 := by have := KN.out; omega
  clear hl150 hsm
  have D1 := Lib.hid (HC.out.of l A n c w1 (KH.out.on B1.out) KN.out hnc KC.out (by omega) HSM.out)
  obtain ⟨r, hr⟩ : ∃ r, checkP l = r := ⟨_, rfl⟩
  have HR := Lib.hid hr
  clear hr
  go_wp2_with fail
  refine D1.out.mono ?_
  rintro e w2 ⟨A2, n2, c2, ts, rfl, her, hm, b2⟩
  have B2 := Lib.hid (B1.out.trans (b2.mono B1.out.size))
  have HM := Lib.hid hm
  have HER := Lib.hid her
  rw [HR.out]
  clear b2 D1 hm her
  simp only
  by_cases hr0 : r = 0
  · subst hr0
    have e0 : errV (((0 : Nat)) : Int) = .nilIface := rfl
    rw [e0]
    have E2 : Hid (erL ts = wantP l) := Lib.hid (by rw [HER.out, if_pos HR.out])
    have hwt := wt_small HR.out
    have HBK := Lib.hid (want_back HR.out)
    have hcl : ∀ k, (l.take k).countP (fun x => makesN x.op) ≤ 150 := fun k => by
      have h1 := List.countP_le_length (p := fun x : In => makesN x.op) (l := l.take k)
      rw [List.length_take] at h1
      have := KN.out
      omega
    have HCL := Lib.hid hcl
    clear hcl
    go_wp2_with fail
    go_loopw [6, 7] (fun s6 s7 wr => ∃ k : Nat, k ≤ n ∧ s7 = .int .i64 k ∧ s6 = .int .i64 ((l.take k).countP (fun x => makesN x.op) : Nat) ∧ Hid (wr = w2)) (fun _ s7 _ => n - (intOf s7).toNat)
    case atStart => exact ⟨0, by omega, rfl, by simp, Lib.hid rfl⟩
    case round =>
      obtain ⟨k, hk, rfl, rfl, HE⟩ := hrel
      obtain rfl := HE.out
      by_cases hkn : k < n
      · have hkl : k < l.length := by have := KN.out; omega
        obtain ⟨b, o, rfl, hb, g0, _, _⟩ := cell_of_ins (KH.out.on B2.out) hkl
        have SN := Lib.hid (countP_succ hkl)
        have hb1 := HCL.out k
        generalize l[k] = d at g0 SN
        obtain ⟨op, a, bb⟩ := d
        simp only at g0 SN
        generalize (l.take k).countP (fun x => makesN x.op) = cn at SN hb1 ⊢
        by_cases hmk : op = 1 ∨ op = 3 ∨ op = 4
        · have SN2 : Hid ((l.take (k + 1)).countP (fun x => makesN x.op) = cn + 1) := Lib.hid (by rw [SN.out]; simp [makesN, hmk])
          rcases hmk with rfl | rfl | rfl
          · go_wp2_with fail
            go_roundw
            case rel => exact ⟨k + 1, by omega, by go_num, by rw [SN2.out]; go_num, by first | exact Lib.hid rfl | exact Lib.hid trivial⟩
            case measure => simp [intOf]; omega
          · go_wp2_with fail
            go_roundw
            case rel => exact ⟨k + 1, by omega, by go_num, by rw [SN2.out]; go_num, by first | exact Lib.hid rfl | exact Lib.hid trivial⟩
            case measure => simp [intOf]; omega
          · go_wp2_with fail
            go_roundw
            case rel => exact ⟨k + 1, by omega, by go_num, by rw [SN2.out]; go_num, by first | exact Lib.hid rfl | exact Lib.hid trivial⟩
            case measure => simp [intOf]; omega
        · have SN2 : Hid ((l.take (k + 1)).countP (fun x => makesN x.op) = cn) := Lib.hid (by rw [SN.out]; simp [makesN, hmk])
          have q1 : (op == 1) = false := by simp; omega
          have q3' : (op == 3) = false := by simp; omega
          have q4' : (op == 4) = false := by simp; omega
          go_wp2_with fail
          go_roundw
          case rel => exact ⟨k + 1, by omega, by go_num, by rw [SN2.out], by first | exact Lib.hid rfl | exact Lib.hid trivial⟩
          case measure => simp [intOf]; omega
      · obtain rfl : k = n := by omega
        have CT : Hid ((l.take k).countP (fun x => makesN x.op) = cntL (wantP l)) := Lib.hid (by
          rw [List.take_of_length_le (by have := KN.out; omega), ← count_back HBK.out.2, HBK.out.1])
        rw [CT.out]
        have CB : Hid (Calls Try.prog 17 #[.slice A2 n2 c2] wr (BackV wr l)) := Lib.hid (by
          have := HC.out.back ts A2 n2 c2 wr HM.out (by rw [E2.out]; exact HBK.out.2) (by rw [E2.out]; omega)
          rw [E2.out, HBK.out.1] at this
          exact this)
        go_wp2_with fail
        refine CB.out.mono ?_
        rintro e w3 ⟨A3, n3, c3, rfl, hl3, _, hh3, b3⟩
        have X3 := Lib.hid b3
        have B3 := Lib.hid (B2.out.trans (b3.mono B2.out.size))
        have CS : Hid (Calls Try.prog 16 #[.slice A3 n3 c3, .slice A k c] w3 fun e w' => e = .returned (.bool true) ∧ Below w3.heap.size w3 w') := Lib.hid (by
          have := rsame_any l l A3 A n3 k c3 c w3 hl3 KN.out (by have := KN.out; omega) (by omega) hh3 (KH.out.on B3.out)
          rw [sameI_refl] at this
          exact this)
        clear b3 CB hl3 hh3
        go_wp2_with fail
        refine CS.out.mono ?_
        rintro e w4 ⟨rfl, b4⟩
        have X4 : Hid (Below wr.heap.size wr w4) := Lib.hid (X3.out.trans (b4.mono X3.out.size))
        have B4 := Lib.hid (B3.out.trans (b4.mono B3.out.size))
        clear b4 CS
        have CN : Hid (Calls Try.prog 13 #[.slice A2 n2 c2] w4 fun e w' => e = .returned (.int .i64 (cntL (wantP l) : Nat)) ∧ Below w4.heap.size w4 w') := Lib.hid (by
          have := HC.out.count ts A2 n2 c2 w4 (HM.out.on X4.out) (by rw [E2.out]; omega)
          rw [E2.out] at this
          exact this)
        generalize cntL (wantP l) = cw at CN
        go_wp2_with fail
        refine CN.out.mono ?_
        rintro e w5 ⟨rfl, b5⟩
        have B5 := Lib.hid (B4.out.trans (b5.mono B4.out.size))
        clear b5 CN
        go_wp2_with fail
        go_ret
        exact ⟨by first | rfl | simp, B5.out⟩
  · have e7 : errV (r : Int) = .iface 43 (.int .i64 r) := by unfold errV; rw [if_neg (by omega)]
    rw [e7]
    go_wp2_with fail
    go_ret
    exact ⟨rfl, B2.out⟩
end Go.Proofs.Ytgpbgimobcdogaa.P14
