/- The reference: a node goes, and all below it. -/
import Derived.Test.YtihjdmdafiifhaaGreatM24
set_option linter.unusedVariables false
set_option linter.unusedSimpArgs false
set_option linter.unusedVariables false
set_option linter.unusedSimpArgs false
namespace Go.Proofs.YtihjdmdafiifhaaGreat.P5
open Go.RowKit Kd P4
variable {B q : Nat} {y : Rx}
/-- the nodes that are not in a list of identities -/
def outN (s : List Int) (l : List Rn) : List Rn := l.filter fun r => !decide (r.nd.id ∈ s)
theorem outN_nd (s : List Int) (l : List Rn) : (outN s l).map (·.nd) = outA s (l.map (·.nd)) := by
  unfold outN outA
  rw [List.filter_map]
  rfl
theorem outN_take {s : List Int} {l : List Rn} {j : Nat} (hj : j < l.length) : outN s (l.take (j + 1)) = if l[j].nd.id ∈ s then outN s (l.take j) else outN s (l.take j) ++ [l[j]] := by
  unfold outN
  rw [List.take_succ_eq_append_getElem hj, List.filter_append]
  by_cases e : l[j].nd.id ∈ s <;> simp [e]
theorem outN_mem {s : List Int} {l : List Rn} {r : Rn} (h : r ∈ outN s l) : r ∈ l := (List.mem_filter.1 h).1
theorem outN_len (s : List Int) (l : List Rn) : (outN s l).length ≤ l.length := List.length_filter_le _ _
theorem mem_take_succ {l : List Int} {x : Int} {j : Nat} (hj : j < l.length) : decide (x ∈ l.take (j + 1)) = (decide (x ∈ l.take j) || l[j] == x) := by
  rw [List.take_succ_eq_append_getElem hj, Bool.eq_iff_iff, Bool.or_eq_true, decide_eq_true_eq, decide_eq_true_eq, List.mem_append, List.mem_singleton, beq_iff_eq]
  exact or_congr Iff.rfl eq_comm
theorem Rdid.relist {w w' : World} {y1 : Rx} (h : Rdid w B q y y1 w') {C : Nat} {v : Value} {rs' : List Rn} (hC : w.heap.size ≤ C) (hq : q < w.heap.size) (hB : B ≤ C) (ho : kN.Own w' C v (rs'.map Rn.rn)) (hs : ∀ r ∈ rs', r ∈ y1.rs) : Rdid w B q y { y1 with v := v, rs := rs' } (w'.setCell ⟨q, 0, none⟩ v) := by
  have hbut : But (fun k => k = q) w' (w'.setCell ⟨q, 0, none⟩ v) := But.setCell (S := fun k => k = q) (p := ⟨q, 0, none⟩) (But.refl _ _) (fun _ => rfl) _
  refine ⟨⟨heap_set h.rf.blk 0 _, h.rf.base, (ho.keep fun g hg => Below.heap_setCell _ _ _ _ ?_).base_le hB, fun s hss => ?_⟩, h.but.trans hbut (fun _ _ h => h), fun i hi => ?_⟩
  · rintro rfl
    have := (ho.lt hg).1
    omega
  · have hs2 := h.rf.nodes s (hs s hss)
    refine ⟨hs2.att.but hbut (q_noA h.rf), hs2.kids.keep fun g hg => hbut.block g (hs2.kids.lt hg).2 ?_⟩
    rintro rfl
    obtain ⟨d, hd⟩ := hs2.kids.ty hg
    exact heap_ne hd h.rf.blk (by decide) rfl
  · rcases hi with e | e | ⟨s, hss, e⟩
    · exact h.ft i (.inl e)
    · exact .inr (by have := (ho.lt e).1; omega)
    · exact h.ft i (.inr (.inr ⟨s, hs s hss, e⟩))
theorem cell_same {w w' : World} {g : Nat} (e : w'.heap[g]? = w.heap[g]?) (o : Nat) : w'.cell? ⟨g, o, none⟩ = w.cell? ⟨g, o, none⟩ := by simp [World.cell?, e]
def focAt (bl : List Int) (foc : Int) (j : Nat) : Int := if foc ∈ bl.take j then 0 else foc
theorem focAt_succ {bl : List Int} {foc : Int} {j : Nat} (hj : j < bl.length) : focAt bl foc (j + 1) = if focAt bl foc j = bl[j] then 0 else focAt bl foc j := by
  unfold focAt
  rw [List.take_succ_eq_append_getElem hj]
  by_cases e : foc ∈ bl.take j
  · rw [if_pos (List.mem_append.2 (.inl e)), if_pos e]
    split <;> rfl
  · simp only [List.mem_append, e, false_or, List.mem_singleton, if_false]
set_option maxHeartbeats 8000000 in
theorem rgone_any (i : Int) (w : World) (hwf : WF y.d) (h : Rf w B q y) : Calls Tryz.prog 37 #[.pointer (some ⟨q, 0, none⟩), .int .i64 i] w (RMade w B q y (goneD y.d i).1 (goneD y.d i).2) := by
  have H0 := Lib.hid h
  have HWF := Lib.hid hwf
  have HA : Hid (Asc y.l) := Lib.hid hwf.asc
  have hl : y.rs.length ≤ 1000 := by have := hwf.len200; rw [show y.d.l = y.l from rfl, rl_len] at this; omega
  have hqlt0 : q < w.heap.size := heap_lt h.blk
  have HBB : Hid (B ≤ w.heap.size) := Lib.hid (by have := h.base; omega)
  cases hi : hasL y.l i with
  | false =>
    have HD : Hid (goneD y.d i = (2, y.d)) := Lib.hid (by unfold goneD; rw [if_pos (show hasL y.d.l i = false from hi)])
    have HI := Lib.hid hi
    clear h hi hwf
    go_enter Tryz.func37, Tryz.ntmps37
    go_wp2_with fail
    refine (at_no i w hl HI.out H0.out).mono ?_
    rintro e w' ⟨rfl, rfl⟩
    go_wp2_with fail
    go_ret
    rw [HD.out]
    exact RMade.same H0.out (Below.refl _ _) rfl
  | true =>
    have hn2 : ¬ hasL y.d.l i = false := by rw [show y.d.l = y.l from rfl, hi]; simp
    obtain ⟨ki, hki, hyki, _⟩ := rplace HA.out hi
    have HYki := Lib.hid hyki
    have HIH := Lib.hid hi
    by_cases h1 : i = 1
    · have HD : Hid (goneD y.d i = (4, y.d)) := Lib.hid (by unfold goneD; rw [if_neg hn2, if_pos h1])
      have hq1 : (i == 1) = true := by simpa using h1
      clear h hi hwf hn2 h1 hyki
      go_enter Tryz.func37, Tryz.ntmps37
      go_wp2_with fail
      refine (at_yes i w HA.out hl hki HYki.out H0.out).mono ?_
      rintro e w' ⟨rfl, rfl⟩
      go_wp2_with fail
      go_ret
      rw [HD.out]
      exact RMade.same H0.out (Below.refl _ _) rfl
    · have HD : Hid (goneD y.d i = (0, { y.d with l := goneL y.l i, foc := if y.foc ∈ below (leaveL y.l i) i then 0 else y.foc })) := Lib.hid (by unfold goneD; rw [if_neg hn2, if_neg h1]; rfl)
      have hq1 : (i == 1) = false := by simpa using h1
      clear h hi hwf hn2 h1 hyki
      go_enter Tryz.func37, Tryz.ntmps37
      go_wp2_with fail
      refine (at_yes i w HA.out hl hki HYki.out H0.out).mono ?_
      rintro e w' ⟨rfl, rfl⟩
      go_wp2_with fail
      refine (rleave_any i w HWF.out HIH.out H0.out).mono ?_
      rintro e w6 ⟨rfl, v6, rs6, r6, l6⟩
      obtain ⟨y6, hy6⟩ : ∃ y6 : Rx, y6 = { y with v := v6, rs := rs6 } := ⟨_, rfl⟩
      have L6 : Hid (y6.l = leaveL y.l i) := Lib.hid (by rw [hy6]; exact l6)
      have F6 : Hid (y6.n = y.n ∧ y6.R = y.R ∧ y6.foc = y.foc) := Lib.hid (by rw [hy6]; exact ⟨rfl, rfl, rfl⟩)
      rw [← hy6] at r6
      have D6 := Lib.hid r6
      have HA6 : Hid (Asc y6.l) := Lib.hid (by rw [L6.out]; exact asc_of_ids HA.out (leave_ids _ _))
      have hl6 : y6.rs.length ≤ 1000 := by
        have := len_ids (leave_ids y.l i)
        rw [← L6.out, rl_len, rl_len] at this
        omega
      have hI6 : hasL y6.l i = true := by rw [L6.out, leave_has]; exact HIH.out
      have HT6 : Hid (Tr (fun z => hasL y6.l z = true) (parOf y6.l) (kidsOf y6.l)) := Lib.hid (by rw [L6.out]; exact leave_tr (i := i) HWF.out.tr)
      have HB6 : Hid (Hb (kidsOf y6.l) (y6.l.length + 1) i) := Lib.hid (by
        have := HT6.out.hb_all (L := idsOf y6.l) (fun y hy => has_ids.1 hy) (y := i) hI6
        simpa [idsOf] using this)
      have HS6 : Hid (∀ f c, hasL y6.l c = true → (sub (kidsOf y6.l) f c).length ≤ 1000) := Lib.hid (fun f c hc => by
        have h1 := nodup_len (sub (kidsOf y6.l) f c) (idsOf y6.l) (HT6.out.sub_nodup f c hc) (fun z hz => has_ids.1 (HT6.out.sub_h f c z hc hz))
        simp only [idsOf, List.length_map, rl_len] at h1
        omega)
      have HI6 := Lib.hid hI6
      clear r6 l6 hy6 hI6
      go_wp2_with fail
      refine (all_any HT6.out HA6.out hl6 HS6.out (y6.l.length + 1) i w6 HB6.out HI6.out D6.out.rf).mono ?_
      rintro e w7 ⟨A5, n5, c5, rfl, o5, b5⟩
      obtain ⟨bl, hbl⟩ : ∃ bl, sub (kidsOf y6.l) (y6.l.length + 1) i = bl := ⟨_, rfl⟩
      rw [hbl] at o5
      have HBL : Hid (goneL y.l i = outA bl y6.l ∧ below (leaveL y.l i) i = bl) := Lib.hid (by
        have e : below (leaveL y.l i) i = bl := by rw [← hbl, L6.out]; rfl
        exact ⟨by unfold goneL; rw [e, L6.out], e⟩)
      have D7 := Lib.hid (D6.out.below b5)
      obtain ⟨g1, g2, g3, g4, g5⟩ := own_nil_zero o5 rfl
      have HK := Lib.hid g5
      have HN := Lib.hid g1
      have hn5 : n5 ≤ 1000 := by
        have := HS6.out (y6.l.length + 1) i HI6.out
        rw [hbl, g1] at this
        exact this
      have hq6 : q < w6.heap.size := heap_lt D6.out.rf.blk
      have HQK : Hid (∀ g o, A5 = some ⟨g, o, none⟩ → g ≠ q) := Lib.hid (by
        rintro g o rfl
        rcases o5.form with ⟨e, _⟩ | ⟨g', c', cur, e, _, hg', _⟩
        · cases e
        · injection e with e1
          injection e1 with e1
          injection e1 with e1
          subst e1
          omega)
      have hz67 : w.heap.size ≤ w7.heap.size := D7.out.but.size
      obtain ⟨nl, hnl⟩ : ∃ nl, y6.rs.length = nl := ⟨_, rfl⟩
      have HNL := Lib.hid hnl
      have hnl2 : nl ≤ 1000 := by omega
      clear o5 b5 hbl g1 g2 g3 g4 g5 hnl HS6 HB6 D6
      go_wp2_with fail
      go_loopw [6, 7] (fun s6 s7 wr => ∃ j : Nat, j ≤ nl ∧ s7 = .int .i64 j ∧ Hid (kN.Own wr w7.heap.size s6 ((outN bl (y6.rs.take j)).map Rn.rn)) ∧ Hid (Below w7.heap.size w7 wr)) (fun _ s7 _ => nl - (intOf s7).toNat)
      case atStart => exact ⟨0, by omega, rfl, Lib.hid (by simpa [outN] using Kind.Own.nil kN w7 w7.heap.size), Lib.hid (Below.refl _ _)⟩
      case round =>
        obtain ⟨j, hj, rfl, HO, HW⟩ := hrel
        obtain ⟨A6, n6, c6, rfl, h6, _⟩ := HO.out.slice
        have hz7 := HW.out.size
        have D8 := Lib.hid (D7.out.below HW.out)
        obtain ⟨AL, cL, hv, hcl, hcm, hz, hh⟩ := D8.out.rf.slice
        have c0 := D8.out.rf.c0
        rw [hv, HNL.out] at c0
        rw [HNL.out] at hcl
        clear hv hcm hz h6
        by_cases hjn : j < nl
        · have hjl : j < y6.rs.length := by have := HNL.out; omega
          obtain ⟨b, o, rfl, hb, x0, x1, x2, x3, x4, x5, x6, x7⟩ := cell_of_nodes hh hjl
          obtain ⟨mi, hmi⟩ : ∃ m, y6.rs[j].nd = m := ⟨_, rfl⟩
          have HMI := Lib.hid hmi
          obtain ⟨Ai, ni, cai, hva⟩ : ∃ A n c, y6.rs[j].va = ⟨A, n, c⟩ := ⟨_, _, _, rfl⟩
          obtain ⟨A2i, n2i, c2i, hvk⟩ : ∃ A n c, y6.rs[j].vk = ⟨A, n, c⟩ := ⟨_, _, _, rfl⟩
          rw [hmi] at x0 x1 x2 x3 x4 x7
          rw [hva] at x5
          rw [hvk] at x6
          have HRN : Hid (y6.rs[j].rn = ⟨mi.id, mi.par, mi.tag, mi.txt, mi.key, ⟨Ai, ni, cai⟩, ⟨A2i, n2i, c2i⟩, mi.note⟩) := Lib.hid (by unfold Rn.rn; rw [hmi, hva, hvk])
          have HOT := Lib.hid (outN_take (s := bl) hjl)
          have hbw : b < wr.heap.size := hb
          have HLR : Hid ((outN bl (y6.rs.take j)).length ≤ 1000) := Lib.hid (Nat.le_trans (outN_len _ _) (by rw [List.length_take]; omega))
          clear hh hmi hva hvk
          go_wp2_with fail
          obtain ⟨wo, rfl⟩ : ∃ wo : World, wo = wr := ⟨_, rfl⟩
          go_loopw [8, 9] (fun s8 s9 wi => ∃ (k : Nat) (met : Bool), k ≤ n5 ∧ s9 = .int .i64 k ∧ s8 = .bool met ∧ Hid (met = decide (mi.id ∈ bl.take k)) ∧ Hid (Below wo.heap.size wo wi)) (fun _ s9 _ => n5 - (intOf s9).toNat)
          case atStart => exact ⟨0, false, by omega, rfl, rfl, Lib.hid (by simp), Lib.hid (Below.refl _ _)⟩
          case round =>
            obtain ⟨k, met, hk, rfl, rfl, HM, HWi⟩ := hrel
            have hq8 : q < wo.heap.size := by omega
            have c0' : wr.cell? ⟨q, 0, none⟩ = some (.slice (some ⟨b, o, none⟩) nl cL) := (HWi.out.cell (p := ⟨q, 0, none⟩) hq8).trans c0
            have x0' : wr.cell? ⟨b, o + j * 8, none⟩ = some (.int .i64 mi.id) := (HWi.out.cell (p := ⟨b, o + j * 8, none⟩) hbw).trans x0
            by_cases hkn : k < n5
            · have hkl : k < bl.length := by have := HN.out; omega
              obtain ⟨gb, go, rfl, hgb, hc7⟩ := cell_int HK.out hkl
              have hc : wr.cell? ⟨gb, go + k, none⟩ = some (.int .i64 bl[k]) := (HWi.out.cell (p := ⟨gb, go + k, none⟩) (by show gb < wo.heap.size; omega)).trans ((HW.out.cell (p := ⟨gb, go + k, none⟩) hgb).trans hc7)
              have HSU := Lib.hid (mem_take_succ (x := mi.id) hkl)
              clear hc7 x1 x2 x3 x4 x5 x6 x7
              cases met with
              | true =>
                have HM2 : Hid (true = decide (mi.id ∈ bl.take (k + 1))) := Lib.hid (by rw [HSU.out, ← HM.out]; rfl)
                go_wp2_with fail
                go_quiet (fail)
                go_wp2_with fail
                go_roundw
                case rel => exact ⟨k + 1, true, by omega, by go_num, rfl, HM2, Lib.hid (Below_drewN HWi.out _)⟩
                case measure => simp [intOf]; omega
              | false =>
                obtain ⟨eq, heq⟩ : ∃ eq, (bl[k] == mi.id) = eq := ⟨_, rfl⟩
                have HM2 : Hid (eq = decide (mi.id ∈ bl.take (k + 1))) := Lib.hid (by rw [HSU.out, ← HM.out, heq]; rfl)
                cases eq <;>
                · go_wp2_with fail
                  go_quiet (fail)
                  go_wp2_with fail
                  go_roundw
                  case rel => exact ⟨k + 1, _, by omega, by go_num, rfl, HM2, Lib.hid (Below_drewN HWi.out _)⟩
                  case measure => simp [intOf]; omega
            · obtain rfl : k = n5 := by omega
              have HM3 : Hid (met = decide (mi.id ∈ bl)) := Lib.hid (by have := HM.out; rw [← HN.out, List.take_length] at this; exact this)
              have HW9 := Lib.hid (HW.out.trans (HWi.out.mono hz7))
              have hz9 := HW9.out.size
              have HO9 := Lib.hid (HO.out.below HWi.out (Nat.le_refl _))
              clear hkn
              cases met with
              | true =>
                have HOT2 : Hid (outN bl (y6.rs.take (j + 1)) = outN bl (y6.rs.take j)) := Lib.hid (by rw [HOT.out, HMI.out, if_pos (by have := HM3.out; simpa using this.symm)])
                go_wp2_with fail
                go_roundw
                case rel => exact ⟨j + 1, by omega, by go_num, Lib.hid (by rw [HOT2.out]; exact HO9.out), HW9⟩
                case measure => simp [intOf]; omega
              | false =>
                have HOT2 : Hid ((outN bl (y6.rs.take (j + 1))).map Rn.rn = (outN bl (y6.rs.take j)).map Rn.rn ++ [⟨mi.id, mi.par, mi.tag, mi.txt, mi.key, ⟨Ai, ni, cai⟩, ⟨A2i, n2i, c2i⟩, mi.note⟩]) := Lib.hid (by
                  rw [HOT.out, HMI.out, if_neg (by have := HM3.out; simpa using this.symm), List.map_append, ← HRN.out]
                  rfl)
                have x1' : wr.cell? ⟨b, o + j * 8 + 1, none⟩ = some (.int .i64 mi.par) := (HWi.out.cell (p := ⟨b, o + j * 8 + 1, none⟩) hbw).trans x1
                have x2' : wr.cell? ⟨b, o + j * 8 + 2, none⟩ = some (.string mi.tag) := (HWi.out.cell (p := ⟨b, o + j * 8 + 2, none⟩) hbw).trans x2
                have x3' : wr.cell? ⟨b, o + j * 8 + 3, none⟩ = some (.string mi.txt) := (HWi.out.cell (p := ⟨b, o + j * 8 + 3, none⟩) hbw).trans x3
                have x4' : wr.cell? ⟨b, o + j * 8 + 4, none⟩ = some (.string mi.key) := (HWi.out.cell (p := ⟨b, o + j * 8 + 4, none⟩) hbw).trans x4
                have x5' : wr.cell? ⟨b, o + j * 8 + 5, none⟩ = some (.slice Ai ni cai) := (HWi.out.cell (p := ⟨b, o + j * 8 + 5, none⟩) hbw).trans x5
                have x6' : wr.cell? ⟨b, o + j * 8 + 6, none⟩ = some (.slice A2i n2i c2i) := (HWi.out.cell (p := ⟨b, o + j * 8 + 6, none⟩) hbw).trans x6
                have x7' : wr.cell? ⟨b, o + j * 8 + 7, none⟩ = some (.int .i64 mi.note) := (HWi.out.cell (p := ⟨b, o + j * 8 + 7, none⟩) hbw).trans x7
                clear x0 x1 x2 x3 x4 x5 x6 x7 c0
                go_wp2_with (at_builtin; refine kN.wp_app rfl _ _ rfl (v := .slice A6 n6 c6) (l := (outN bl (y6.rs.take j)).map Rn.rn) (m := [⟨mi.id, mi.par, mi.tag, mi.txt, mi.key, ⟨Ai, ni, cai⟩, ⟨A2i, n2i, c2i⟩, mi.note⟩]) (B := w7.heap.size) rfl (HO9.out.alloc _) rfl rfl (fun e => by cases e) (Kind.Holds.lit (heap_alloc_new _ _) rfl) (by have := HLR.out; simp; omega) (by simp; omega) ?_; intro v' w3 hown hgrow hat; obtain ⟨A9, n9, c9, rfl, _, _, _, _, _⟩ := hown.slice)
                have HO4 : Hid (kN.Own w3 w7.heap.size (.slice A9 n9 c9) ((outN bl (y6.rs.take (j + 1))).map Rn.rn)) := Lib.hid (by rw [HOT2.out]; exact hown)
                have BW4 : Hid (Below w7.heap.size w7 w3) := Lib.hid ((HW9.out.alloc hz9 _).grown hgrow (by simp; omega) (fun k hk => (HO9.out.lt hk).1))
                clear hown hgrow hat
                go_wp2_with fail
                go_roundw
                case rel => exact ⟨j + 1, by omega, by go_num, HO4, BW4⟩
                case measure => simp [intOf]; omega
        · obtain rfl : j = nl := by omega
          have HO2 : Hid (kN.Own wr w7.heap.size (.slice A6 n6 c6) ((outN bl y6.rs).map Rn.rn)) := Lib.hid (by have := HO.out; rw [← HNL.out, List.take_length] at this; exact this)
          have D9 : Hid (Rdid w B q y { y6 with foc := focAt bl y6.foc 0 } wr) := Lib.hid (by have := D8.out; rwa [show ({ y6 with foc := focAt bl y6.foc 0 } : Rx) = y6 by unfold focAt; simp])
          clear hjn hh hcl HO
          go_wp2_with fail
          obtain ⟨wo, rfl⟩ : ∃ wo : World, wo = wr := ⟨_, rfl⟩
          clear c0
          go_loopw [10] (fun s10 wi => ∃ k : Nat, k ≤ n5 ∧ s10 = .int .i64 k ∧ Hid (Rdid w B q y { y6 with foc := focAt bl y6.foc k } wi) ∧ Hid (But (fun g => g = q) wo wi)) (fun s10 _ => n5 - (intOf s10).toNat)
          case atStart => exact ⟨0, by omega, rfl, D9, Lib.hid (But.refl _ _)⟩
          case round =>
            obtain ⟨k, hk, rfl, HDi, HBi⟩ := hrel
            have c3 := HDi.out.rf.c3
            have f3 := HDi.out.rf.frozen 3
            simp only at c3
            by_cases hkn : k < n5
            · have hkl : k < bl.length := by have := HN.out; omega
              obtain ⟨gb, go, rfl, hgb, hc7⟩ := cell_int HK.out hkl
              have hgq : gb ≠ q := HQK.out _ _ rfl
              have hc : wr.cell? ⟨gb, go + k, none⟩ = some (.int .i64 bl[k]) := by
                have e1 : wo.cell? ⟨gb, go + k, none⟩ = some (.int .i64 bl[k]) := (HW.out.cell (p := ⟨gb, go + k, none⟩) hgb).trans hc7
                rw [← e1]
                exact cell_same (HBi.out.block gb (by omega) hgq) _
              have HFS := Lib.hid (focAt_succ (foc := y6.foc) hkl)
              generalize focAt bl y6.foc k = fk at c3 HFS HDi
              by_cases he : fk = bl[k]
              · have hqe : (fk == bl[k]) = true := by simpa using he
                have HF2 : Hid (focAt bl y6.foc (k + 1) = 0) := Lib.hid (by rw [HFS.out, if_pos he])
                clear he hc7
                generalize bl[k] = kd at hc hqe
                go_wp2_with fail
                go_quiet (fail)
                have f3' : (wr.drewN nq).frozen? ⟨q, 3, none⟩ = false := f3
                have c3' : (wr.drewN nq).cell? ⟨q, 3, none⟩ = some (.int .i64 fk) := c3
                have D10 := Lib.hid ((HDi.out.below (Below_drewN (Below.refl _ _) nq)).trans ((HDi.out.rf.drewN nq).focus 0))
                have B10 : Hid (But (fun g => g = q) wo ((wr.drewN nq).setCell ⟨q, 3, none⟩ (.int .i64 0))) := Lib.hid (But.setCell (S := fun g => g = q) (p := ⟨q, 3, none⟩) (HBi.out.drewN nq) (fun _ => rfl) _)
                clear c3 f3 hc HDi
                generalize wr.drewN nq = wq at f3' c3' D10 B10 ⊢
                go_wp2_with fail
                go_roundw
                case rel => exact ⟨k + 1, by omega, by go_num, Lib.hid (by rw [HF2.out]; exact D10.out), B10⟩
                case measure => simp [intOf]; omega
              · have hqe : (fk == bl[k]) = false := by simpa using he
                have HF2 : Hid (focAt bl y6.foc (k + 1) = fk) := Lib.hid (by rw [HFS.out, if_neg he])
                clear he hc7
                generalize bl[k] = kd at hc hqe
                go_wp2_with fail
                go_quiet (fail)
                go_wp2_with fail
                go_roundw
                case rel => exact ⟨k + 1, by omega, by go_num, Lib.hid (by rw [HF2.out]; exact HDi.out.below (Below_drewN (Below.refl _ _) _)), Lib.hid (HBi.out.drewN _)⟩
                case measure => simp [intOf]; omega
            · obtain rfl : k = n5 := by omega
              have HF3 : Hid (focAt bl y6.foc k = if y6.foc ∈ bl then 0 else y6.foc) := Lib.hid (by unfold focAt; rw [← HN.out, List.take_length])
              have HO5 : Hid (kN.Own wr w7.heap.size (.slice A6 n6 c6) ((outN bl y6.rs).map Rn.rn)) := Lib.hid (HO2.out.keep fun g hg => HBi.out.block g (HO2.out.lt hg).2 (by have := (HO2.out.lt hg).1; omega))
              have f0 := HDi.out.rf.frozen 0
              have c0 := HDi.out.rf.c0
              have D11 := Lib.hid (HDi.out.relist (by omega : w.heap.size ≤ w7.heap.size) hqlt0 (by have := HBB.out; omega) HO5.out (fun r hr => outN_mem hr))
              clear hkn
              go_wp2_with fail
              go_ret
              rw [HD.out]
              refine ⟨rfl, _, D11.out, ?_⟩
              show D.mk ((outN bl y6.rs).map (·.nd)) y6.n y6.R (focAt bl y6.foc k) = D.mk _ _ _ _
              rw [outN_nd, HF3.out, F6.out.1, F6.out.2.1, F6.out.2.2, HBL.out.2]
              show D.mk (outA bl y6.l) _ _ _ = _
              rw [← HBL.out.1]
              rfl
end Go.Proofs.YtihjdmdafiifhaaGreat.P5
