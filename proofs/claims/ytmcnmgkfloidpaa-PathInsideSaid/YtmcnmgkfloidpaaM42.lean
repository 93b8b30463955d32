/- Layer 6's example; documents to which any deeds were done. -/
import Derived.Test.YtmcnmgkfloidpaaM23
import Derived.Test.YtmcnmgkfloidpaaM33
import Derived.Test.YtmcnmgkfloidpaaM36
import Derived.Test.YtmcnmgkfloidpaaM41
set_option linter.unusedVariables false
set_option linter.unusedSimpArgs false
namespace Go.Proofs.Ytmcnmgkfloidpaa.P6
open Go.RowKit Kd P4 P5
theorem new_down : downA (downL (newD 9).l 1 []) = (1, true) := rfl
theorem new_in : inside (newD 9).l 1 1 = true := by decide
theorem new_all : (allL (newD 9).l 1).length = 1 := by decide
theorem new_up : aboveL (newD 9).l 7 = [] := by decide
set_option maxHeartbeats 1000000 in
theorem up6_any (w : World) : Calls Try.prog 27 #[] w fun e w' => e = .returned (.bool true) ∧ Below w.heap.size w w' := by
  have q4 := nil_eql_nil
  have q5 := nil_neq_nil
  go_enter Try.func27, Try.ntmps27
  go_wp2_with fail
  refine (newDoc_yes 9 _ (by omega) (by omega)).mono ?_
  rintro e w2 ⟨p, x, rfl, dc, hd, b2⟩
  have B2 := Lib.hid b2
  have X2 := Lib.hid dc
  have E2 := Lib.hid hd
  have WF2 : Hid (WF x.d) := Lib.hid (by rw [hd]; exact wf_newD (by omega) (by omega))
  have L2 : Hid (x.l = (newD 9).l) := Lib.hid (congrArg D.l hd)
  clear b2 dc hd
  go_wp2_with fail
  refine (pat_any [] none 0 0 w2 rfl (by omega) (Kind.Holds.nil _ _ _) WF2.out X2.out).mono ?_
  rintro e w3 ⟨rfl, b3⟩
  rw [L2.out, new_down]
  have B3 := Lib.hid (B2.out.trans (b3.mono B2.out.size))
  have X3 := Lib.hid (X2.out.below b3)
  clear b3
  go_wp2_with fail
  refine (pat_nil w3).mono ?_
  rintro e w4 ⟨rfl, b4⟩
  have B4 := Lib.hid (B3.out.trans (b4.mono B3.out.size))
  have X4 := Lib.hid (X3.out.below b4)
  clear b4
  go_wp2_with fail
  refine (pinside_any 1 1 w4 WF2.out X4.out).mono ?_
  rintro e w5 ⟨rfl, b5⟩
  rw [L2.out, new_in]
  have B5 := Lib.hid (B4.out.trans (b5.mono B4.out.size))
  have X5 := Lib.hid (X4.out.below b5)
  clear b5
  go_wp2_with fail
  refine (pall_any 1 w5 WF2.out X5.out).mono ?_
  rintro e w6 ⟨A6, n6, c6, rfl, o6, b6⟩
  obtain ⟨g1, _, _, _, _⟩ := own_nil_zero o6 rfl
  obtain rfl : n6 = 1 := by rw [← g1, L2.out]; exact new_all
  have B6 := Lib.hid (B5.out.trans (b6.mono B5.out.size))
  have X6 := Lib.hid (X5.out.below b6)
  clear o6 b6 g1
  go_wp2_with fail
  refine (pup_any 7 w6 WF2.out X6.out).mono ?_
  rintro e w7 ⟨A7, n7, c7, rfl, o7, b7⟩
  obtain ⟨g1, _, _, _, _⟩ := own_nil_zero o7 rfl
  obtain rfl : n7 = 0 := by rw [← g1, L2.out, new_up]; rfl
  have B7 := Lib.hid (B6.out.trans (b7.mono B6.out.size))
  clear o7 b7 g1
  go_wp2_with fail
  go_ret
  exact ⟨rfl, B7.out⟩
def Grown6 (w : World) (e : Ending) (w' : World) : Prop := ∃ (p q : Nat) (x : Dx) (y : Rx), e = .returned (.tuple #[.pointer (some ⟨p, 0, none⟩), .pointer (some ⟨q, 0, none⟩)]) ∧ Par w' w.heap.size p q x y ∧ x.d = y.d ∧ WF x.d ∧ x.n ≤ 100000 ∧ Below w.heap.size w w'
def GrRel (w : World) (p q m : Nat) (i : Value) (wr : World) : Prop := ∃ (k : Nat) (x : Dx) (y : Rx), k ≤ m ∧ i = .int .i64 k ∧ x.n ≤ (k : Int) + 1 ∧ Hid (Par wr w.heap.size p q x y) ∧ Hid (x.d = y.d) ∧ Hid (WF x.d) ∧ Hid (Below w.heap.size w wr)
theorem Rf.base_le' {w : World} {B B' q : Nat} {y : Rx} (h : Rf w B q y) (hB : B' ≤ B) : Rf w B' q y := ⟨h.blk, Nat.le_trans hB h.base, h.own.base_le hB, fun r hr => ⟨(h.nodes r hr).att, (h.nodes r hr).kids.base_le hB⟩⟩
set_option maxHeartbeats 8000000 in
set_option maxRecDepth 100000 in
theorem grown_any (R : Nat) (hR1 : 1 ≤ R) (hR2 : R ≤ 200) (ds : List RE) (A : Option Addr) (m c : Nat) (w : World) (hm : ds.length = m) (hm60 : m ≤ 1000) (h20 : ∀ d ∈ ds, d.va.n ≤ 20) (hwf : ∀ d ∈ ds, DeedOk w d) (H : kE.Holds w w.heap.size A ds) :
    Calls Try.prog 28 #[.int .i64 R, .slice A m c] w (Grown6 w) := by
  have HH := Lib.hid H
  have HM := Lib.hid hm
  have HF := Lib.hid hwf
  have H20 := Lib.hid h20
  clear H hm hwf h20
  have q4 := nil_eql_nil
  have q5 := nil_neq_nil
  go_enter Try.func28, Try.ntmps28
  go_wp2_with fail
  refine (newDoc_yes R _ hR1 hR2).mono ?_
  rintro e w2 ⟨p, x0, rfl, dc0, hd0, b2⟩
  have D0 := Lib.hid dc0
  have E0 := Lib.hid hd0
  have B2 := Lib.hid b2
  have W0 : Hid (WF x0.d) := Lib.hid (by rw [hd0]; exact wf_newD hR1 hR2)
  have N0 : Hid (x0.n = 1) := Lib.hid (by have : x0.d.n = 1 := by rw [hd0]; rfl
                                          exact this)
  clear dc0 hd0 b2
  go_wp2_with fail
  refine (rnew_any R w2).mono ?_
  rintro e w4 ⟨q, y0, rfl, rf4, hy4, b4⟩
  have P4' : Hid (Par w4 w.heap.size p q x0 y0) := Lib.hid ⟨D0.out.below b4, Rf.base_le' rf4 B2.out.size, fun i hi hr => by have := D0.out.lt hi; have := rf4.ge hr; omega⟩
  have E4 : Hid (x0.d = y0.d) := Lib.hid (by rw [E0.out, hy4])
  have B4 := Lib.hid (B2.out.trans (b4.mono B2.out.size))
  clear rf4 hy4 b4
  go_wp2_with fail
  go_loopw [9] (fun i wr => GrRel w p q m i wr) (fun i _ => m - (intOf i).toNat)
  case atStart => exact ⟨0, x0, y0, by omega, rfl, by have := N0.out; omega, P4', E4, W0, B4⟩
  case round =>
    obtain ⟨k, x, y, hk, rfl, hnk, HP, HE, HWF, HW⟩ := hrel
    by_cases hkm : k < m
    · have hkl : k < ds.length := by have := HM.out; omega
      obtain ⟨b0, o0, rfl, hb0, g0, g1, g2, g3, g4, g5, g6, g7, g8, g9, g10, g11⟩ := cell_of_deeds (HH.out.on HW.out) hkl
      have hdk := Lib.hid (HF.out _ (List.getElem_mem hkl))
      have h20k : ds[k].va.n ≤ 20 := H20.out _ (List.getElem_mem hkl)
      generalize ds[k] = d at g0 g1 g2 g3 g4 g5 g6 g7 g8 g9 g10 g11 hdk h20k
      have hn100 : x.n ≤ 100000 := by omega
      go_wp2_with fail
      refine (rec_any d wr hn100 HP.out.dc).mono ?_
      rintro e w4 ⟨rfl, b4⟩
      generalize hrid : (if d.next = true ∧ d.op = 1 then x.n + 1 else d.rid) = rid
      have B4 := Lib.hid b4
      obtain ⟨al, a1, a2, a3, a4, a5, a6⟩ := hdk.out.at_
      clear b4 hrid g0 g1 g2 g3 g4 g5 g6 g7 g8 g9 g10 g11
      have BA : Hid (Below wr.heap.size wr (w4.alloc (.cells #[.int .i64 d.op, .int .i64 rid, .int .i64 d.par, .int .i64 d.bef, .string d.tag, .string d.txt, .string d.key, .slice d.va.A d.va.n d.va.c] 35))) := Lib.hid (B4.out.alloc B4.out.size _)
      have NR : Hid (RcB (w4.alloc (.cells #[.int .i64 d.op, .int .i64 rid, .int .i64 d.par, .int .i64 d.bef, .string d.tag, .string d.txt, .string d.key, .slice d.va.A d.va.n d.va.c] 35)) w4.heap.size ⟨d.op, rid, d.par, d.bef, d.tag, d.txt, d.key, al⟩ d.va.A d.va.n d.va.c) := Lib.hid (RcB.new w4 ⟨d.op, rid, d.par, d.bef, d.tag, d.txt, d.key, al⟩ d.va.A d.va.n d.va.c)
      go_upto_region 9 with fail
      generalize w4.alloc (.cells #[.int .i64 d.op, .int .i64 rid, .int .i64 d.par, .int .i64 d.bef, .string d.tag, .string d.txt, .string d.key, .slice d.va.A d.va.n d.va.c] 35) = wb at BA NR ⊢
      generalize w4.heap.size = g at NR ⊢
      have HPa := Lib.hid (HP.out.below BA.out)
      have WAa := Lib.hid (HW.out.trans (BA.out.mono HW.out.size))
      have AR : Hid (∀ w9, Below w.heap.size w w9 → ArgR w9 d.va.A d.va.n d.va.c ⟨d.op, rid, d.par, d.bef, d.tag, d.txt, d.key, al⟩) := Lib.hid (fun w9 hb => ⟨⟨a1, a2, a4, by omega, a6, a5.on hb⟩, hdk.out.tag, hdk.out.txt, hdk.out.key⟩)
      clear a1 a2 a3 a4 a5 a6 B4 BA
      have r0 := NR.out.c0
      have r1 := NR.out.c1
      have r2 := NR.out.c2
      have r3 := NR.out.c3
      have r4 := NR.out.c4
      have r5 := NR.out.c5
      have r6 := NR.out.c6
      have r7 := NR.out.c7
      simp only at r0 r1 r2 r3 r4 r5 r6 r7
      go_wp2_with fail
      refine (apply_any ⟨d.op, rid, d.par, d.bef, d.tag, d.txt, d.key, al⟩ d.va.A d.va.n d.va.c wb HWF.out hn100 (AR.out _ WAa.out) HPa.out.dc).mono ?_
      rintro e w5 ⟨rfl, x5, d5, hx5⟩
      have P5 := Lib.hid (HPa.out.did d5)
      have NR5 := Lib.hid (NR.out.did HPa.out.dc d5)
      have HX5 := Lib.hid hx5
      have W5 := Lib.hid (WAa.out.trans (d5.to_below HPa.out.dc))
      generalize errV (applyD x.d ⟨d.op, rid, d.par, d.bef, d.tag, d.txt, d.key, al⟩).1 = ev5
      clear d5 hx5 r0 r1 r2 r3 r4 r5 r6 r7
      have r0 := NR5.out.c0
      have r1 := NR5.out.c1
      have r2 := NR5.out.c2
      have r3 := NR5.out.c3
      have r4 := NR5.out.c4
      have r5 := NR5.out.c5
      have r6 := NR5.out.c6
      have r7 := NR5.out.c7
      simp only at r0 r1 r2 r3 r4 r5 r6 r7
      go_wp2_with fail
      refine (rapply_any ⟨d.op, rid, d.par, d.bef, d.tag, d.txt, d.key, al⟩ d.va.A d.va.n d.va.c w5 (by rw [← HE.out]; exact HWF.out) (by have h1 := congrArg D.n HE.out; have h2 : x.n = y.n := h1; omega) hdk.out.tag hdk.out.txt hdk.out.key (AR.out _ W5.out).at_ P5.out.rf).mono ?_
      rintro e w6 ⟨rfl, y6, d6, hy6⟩
      have P6 := Lib.hid (P5.out.rdid d6)
      have HY6 := Lib.hid hy6
      have W6 := Lib.hid (W5.out.trans (d6.to_below P5.out.rf))
      have hn5 : x5.n ≤ ((k + 1 : Nat) : Int) + 1 := by have h1 := congrArg D.n HX5.out; have h2 := (apply_n x.d ⟨d.op, rid, d.par, d.bef, d.tag, d.txt, d.key, al⟩).2; rw [← h1] at h2; have h3 : x5.n ≤ x.n + 1 := h2; omega
      clear d6 hy6 r0 r1 r2 r3 r4 r5 r6 r7
      go_wp2_with fail
      go_roundw
      case rel => exact ⟨k + 1, x5, y6, by omega, by go_num, hn5, P6, Lib.hid (by rw [HX5.out, HY6.out, HE.out]), Lib.hid (by rw [HX5.out]; exact wf_apply HWF.out _), W6⟩
      case measure => simp [intOf]; omega
    · obtain rfl : k = m := by omega
      go_wp2_with fail
      go_ret2
      exact ⟨p, q, x, y, rfl, HP.out, HE.out, HWF.out, by omega, HW.out⟩
end Go.Proofs.Ytmcnmgkfloidpaa.P6

/- The walk of PathTells: it answers true, for all deeds, any node, any places. -/
namespace Go.Proofs.Ytmcnmgkfloidpaa.P6
open Go.RowKit Kd P4 P5
theorem up_len (l : List Nd) (i : Int) : (aboveL l i).length ≤ l.length + 1 := by
  have h1 : ∀ (f : Nat) (i : Int), (up (hasL l) (parOf l) f i).length ≤ f := by
    intro f
    induction f with
    | zero => intro i; simp [up]
    | succ f ih => intro i; rw [up]; split <;> simp; exact ih _
  exact h1 _ _
theorem all_len {d : D} (h : WF d) (i : Int) : (allL d.l i).length ≤ 200 := by
  unfold allL
  split
  · rename_i hi
    have h1 := nodup_len (sub (kidsOf d.l) (d.l.length + 1) i) (idsOf d.l) (h.tr.sub_nodup _ i hi) (fun z hz => has_ids.1 (h.tr.sub_h _ i z hi hz))
    have h2 := h.len200
    simp only [idsOf, List.length_map] at h1
    unfold below
    omega
  · simp
set_option maxHeartbeats 8000000 in
set_option maxRecDepth 100000 in
theorem tells6_any (id of : Int) (ds : List RE) (A : Option Addr) (m c : Nat) (ps : List Int) (A3 : Option Addr) (n3 c3 : Nat) (w : World) (hm : ds.length = m) (hmc : m ≤ c) (hcm : c ≤ maxLen) (hwf : ∀ d ∈ ds, DeedOk w d) (H : kE.Holds w w.heap.size A ds) (hn3 : ps.length = n3) (H3 : kI.Holds w w.heap.size A3 ps) :
    Calls Try.prog 5 #[.slice A m c, .int .i64 id, .int .i64 of, .slice A3 n3 c3] w fun e w' => e = .returned (.bool true) ∧ Below w.heap.size w w' := by
  have HH := Lib.hid H
  have HM := Lib.hid hm
  have HF := Lib.hid hwf
  have HH3 := Lib.hid H3
  have HN3 := Lib.hid hn3
  have hmx : m ≤ maxLen := by omega
  clear H hm hwf H3 hn3
  go_enter Try.func5, Try.ntmps5
  go_wp2_with fail
  refine (up6_any _).mono ?_
  rintro e w1 ⟨rfl, b1⟩
  have B1 := Lib.hid b1
  clear b1
  go_wp2_with fail
  refine (fewM_any 40 (by omega) ds A m c _ HM.out hmx (HH.out.on B1.out) (fun d hd => (HF.out d hd).below B1.out)).mono ?_
  rintro e w2 ⟨f, rfl, hf, b2⟩
  have B2 := Lib.hid (B1.out.trans (b2.mono B1.out.size))
  clear b2
  rcases hf with rfl | ⟨rfl, hm40, h20⟩
  · go_wp2_with fail
    go_ret
    exact ⟨rfl, B2.out⟩
  by_cases h20' : 20 < n3
  · go_wp2_with fail
    go_ret
    exact ⟨rfl, B2.out⟩
  rw [HM.out] at hm40
  have H20 := Lib.hid h20
  clear h20
  go_wp2_with fail
  refine (grown_any 30 (by omega) (by omega) ds A m c w2 HM.out (by omega) H20.out (fun d hd => (HF.out d hd).below B2.out) (HH.out.on B2.out)).mono ?_
  rintro e w3 ⟨p, q, x, y, rfl, hp, he, hwf, hn, b3⟩
  have B3 := Lib.hid (B2.out.trans (b3.mono B2.out.size))
  have P3 := Lib.hid hp
  have E3 := Lib.hid (show x.l = y.l from congrArg D.l he)
  have WX := Lib.hid hwf
  have WY : Hid (WF y.d) := Lib.hid (by rw [← he]; exact hwf)
  have AY : Hid (Asc y.l) := Lib.hid WY.out.asc
  have LY : Hid (y.rs.length ≤ 1000) := Lib.hid (by have h1 := WY.out.len200; rw [show y.d.l = y.l from rfl, rl_len] at h1; omega)
  have UL : Hid ((aboveL y.l id).length ≤ 1000) := Lib.hid (by have h1 := up_len y.l id; have h2 := WY.out.len200; rw [show y.d.l = y.l from rfl] at h2; omega)
  have AL : Hid ((allL y.l id).length ≤ 1000) := Lib.hid (by have h1 := all_len WY.out id; rw [show y.d.l = y.l from rfl] at h1; omega)
  clear hp he hwf b3
  go_wp2_with fail
  refine (pup_any id w3 WX.out P3.out.dc).mono ?_
  rintro e w4 ⟨A4, n4, c4, rfl, o4, b4⟩
  rw [E3.out] at o4
  have P4' := Lib.hid (P3.out.below b4)
  have B4 := Lib.hid (B3.out.trans (b4.mono B3.out.size))
  have O4 := Lib.hid o4
  clear b4 o4
  go_wp2_with fail
  refine (up_any_ id w4 AY.out LY.out P4'.out.rf).mono ?_
  rintro e w5 ⟨A5, n5, c5, rfl, o5, b5⟩
  have P5' := Lib.hid (P4'.out.below b5)
  have B5 := Lib.hid (B4.out.trans (b5.mono B4.out.size))
  obtain ⟨f1, _, _, _, f5⟩ := own_nil_zero (O4.out.below b5 (Nat.le_refl _)) rfl
  obtain ⟨g1, _, _, _, g5⟩ := own_nil_zero o5 rfl
  obtain rfl : n5 = n4 := by rw [← f1, ← g1]
  have F5 := Lib.hid f5
  have G5 := Lib.hid g5
  have G1 := Lib.hid g1
  clear b5 o5 f1 g1 f5 g5
  go_wp2_with fail
  refine (ints_eq (aboveL y.l id) A4 A5 n5 c4 c5 w5 G1.out (by rw [← G1.out]; exact UL.out) F5.out G5.out).mono ?_
  rintro e w6 ⟨rfl, b6⟩
  have P6' := Lib.hid (P5'.out.below b6)
  have B6 := Lib.hid (B5.out.trans (b6.mono B5.out.size))
  clear b6
  go_wp2_with fail
  refine (pinside_any id of w6 WX.out P6'.out.dc).mono ?_
  rintro e w7 ⟨rfl, b7⟩
  rw [E3.out]
  have P7' := Lib.hid (P6'.out.below b7)
  have B7 := Lib.hid (B6.out.trans (b7.mono B6.out.size))
  obtain ⟨bi, hbi⟩ : ∃ bi, inside y.l id of = bi := ⟨_, rfl⟩
  have HBI := Lib.hid hbi
  rw [hbi]
  clear b7 hbi
  go_wp2_with fail
  refine (rinside_any id of w7 AY.out LY.out P7'.out.rf).mono ?_
  rintro e w8 ⟨rfl, b8⟩
  rw [HBI.out]
  have P8' := Lib.hid (P7'.out.below b8)
  have B8 := Lib.hid (B7.out.trans (b8.mono B7.out.size))
  have qb : (bi != bi) = false := by simp
  clear b8
  go_wp2_with fail
  refine (pall_any id w8 WX.out P8'.out.dc).mono ?_
  rintro e w9 ⟨A9, n9, c9, rfl, o9, b9⟩
  rw [E3.out] at o9
  have P9' := Lib.hid (P8'.out.below b9)
  have B9 := Lib.hid (B8.out.trans (b9.mono B8.out.size))
  have O9 := Lib.hid o9
  clear b9 o9
  go_wp2_with fail
  refine (rall_any id w9 WY.out P9'.out.rf).mono ?_
  rintro e w10 ⟨A10, n10, c10, rfl, o10, b10⟩
  have P10' := Lib.hid (P9'.out.below b10)
  have B10 := Lib.hid (B9.out.trans (b10.mono B9.out.size))
  obtain ⟨f1, _, _, _, f5⟩ := own_nil_zero (O9.out.below b10 (Nat.le_refl _)) rfl
  obtain ⟨g1, _, _, _, g5⟩ := own_nil_zero o10 rfl
  obtain rfl : n10 = n9 := by rw [← f1, ← g1]
  have F10 := Lib.hid f5
  have G10 := Lib.hid g5
  have G11 := Lib.hid g1
  clear b10 o10 f1 g1 f5 g5
  go_wp2_with fail
  refine (ints_eq (allL y.l id) A9 A10 n10 c9 c10 w10 G11.out (by rw [← G11.out]; exact AL.out) F10.out G10.out).mono ?_
  rintro e w11 ⟨rfl, b11⟩
  have P11' := Lib.hid (P10'.out.below b11)
  have B11 := Lib.hid (B10.out.trans (b11.mono B10.out.size))
  clear b11
  go_wp2_with fail
  refine (pat_any ps A3 n3 c3 w11 HN3.out (by omega) (HH3.out.on B11.out) WX.out P11'.out.dc).mono ?_
  rintro e w12 ⟨rfl, b12⟩
  rw [E3.out]
  have P12' := Lib.hid (P11'.out.below b12)
  have B12 := Lib.hid (B11.out.trans (b12.mono B11.out.size))
  have RD : Hid (∀ W, Below w.heap.size w W → Rf W w2.heap.size q y → Calls Try.prog 37 #[.pointer (some ⟨q, 0, none⟩), .slice A3 n3 c3] W (Downed W (downA (downL y.l 1 ps)))) := Lib.hid (fun W hb hr => rdown_any ps A3 n3 c3 W HN3.out (by omega) (HH3.out.on hb) WY.out hr)
  generalize downA (downL y.l 1 ps) = r at RD
  obtain ⟨r1, r2⟩ := r
  have qr1 : (r1 == r1) = true := by simp
  have qr2 : (r2 == r2) = true := by simp
  clear b12
  go_wp2_with fail
  refine (RD.out w12 B12.out P12'.out.rf).mono ?_
  rintro e w13 ⟨rfl, b13⟩
  have B13 := Lib.hid (B12.out.trans (b13.mono B12.out.size))
  clear b13
  go_wp2_with fail
  go_ret
  exact ⟨rfl, B13.out⟩
end Go.Proofs.Ytmcnmgkfloidpaa.P6

/- The walk of PathInside: it answers true, for all deeds, any node, any places. -/
namespace Go.Proofs.Ytmcnmgkfloidpaa.P6
open Go.RowKit Kd P4 P5
/-- what the law asks of the nodes of All -/
structure AllOk (l : List Nd) (id : Int) (al : List Int) : Prop where
  nod : al.Nodup
  has : ∀ y ∈ al, hasL l y = true
  ins : ∀ y ∈ al, inside l y id = true
  ahead : Ahead (parOf l) al
theorem all_ok {d : D} (h : WF d) (id : Int) : AllOk d.l id (allL d.l id) := by
  unfold allL
  by_cases hi : hasL d.l id = true
  · rw [if_pos hi]
    exact ⟨h.tr.sub_nodup _ id hi, fun y hy => h.tr.sub_h _ id y hi hy, fun y hy => sub_inside h hi hy, sub_ahead h.tr _ id⟩
  · rw [if_neg hi]
    exact ⟨List.nodup_nil, fun y hy => (by cases hy), fun y hy => (by cases hy), fun k hk => absurd hk (by simp)⟩
def metB (al : List Int) (i : Nat) (par : Int) (k : Nat) : Bool := decide (i = 0) || decide (par ∈ al.take k)
theorem met_succ {al : List Int} {i : Nat} {par : Int} {k : Nat} (hk : k < al.length) : metB al i par (k + 1) = (metB al i par k || al[k] == par) := by
  unfold metB
  rw [mem_take_succ hk, Bool.or_assoc]
theorem met_end {l : List Nd} {id : Int} {al : List Int} (h : AllOk l id al) {i : Nat} (hi : i < al.length) : metB al i (parOf l al[i]) i = true := by
  unfold metB
  by_cases e : i = 0
  · simp [e]
  · obtain ⟨m, hm, hq⟩ := h.ahead i hi (by omega)
    have : parOf l al[i] ∈ al.take i := by
      rw [← hq, List.mem_take_iff_getElem]
      exact ⟨m, by omega, rfl⟩
    simp [this]
def InRel (w : World) (n : Nat) (i : Value) (wr : World) : Prop := ∃ k : Nat, k ≤ n ∧ i = .int .i64 k ∧ Hid (Below w.heap.size w wr)
def MetRel (w : World) (al : List Int) (i : Nat) (par : Int) (s16 s17 : Value) (wr : World) : Prop := ∃ (k : Nat) (met : Bool), k ≤ i ∧ s17 = .int .i64 k ∧ s16 = .bool met ∧ Hid (met = metB al i par k) ∧ Hid (Below w.heap.size w wr)
set_option maxHeartbeats 8000000 in
set_option maxRecDepth 100000 in
theorem inside6_any (id : Int) (ds : List RE) (A : Option Addr) (m c : Nat) (ps : List Int) (A2 : Option Addr) (n2 c2 : Nat) (w : World) (hm : ds.length = m) (hmc : m ≤ c) (hcm : c ≤ maxLen) (hwf : ∀ d ∈ ds, DeedOk w d) (H : kE.Holds w w.heap.size A ds) (hn2 : ps.length = n2) (H2 : kI.Holds w w.heap.size A2 ps) :
    Calls Try.prog 6 #[.slice A m c, .int .i64 id, .slice A2 n2 c2] w fun e w' => e = .returned (.bool true) ∧ Below w.heap.size w w' := by
  have HH := Lib.hid H
  have HM := Lib.hid hm
  have HF := Lib.hid hwf
  have HH2 := Lib.hid H2
  have HN2 := Lib.hid hn2
  have hmx : m ≤ maxLen := by omega
  clear H hm hwf H2 hn2
  go_enter Try.func6, Try.ntmps6
  go_wp2_with fail
  refine (up6_any _).mono ?_
  rintro e w1 ⟨rfl, b1⟩
  have B1 := Lib.hid b1
  clear b1
  go_wp2_with fail
  refine (fewM_any 40 (by omega) ds A m c _ HM.out hmx (HH.out.on B1.out) (fun d hd => (HF.out d hd).below B1.out)).mono ?_
  rintro e w2 ⟨f, rfl, hf, b2⟩
  have B2 := Lib.hid (B1.out.trans (b2.mono B1.out.size))
  clear b2
  rcases hf with rfl | ⟨rfl, hm40, h20⟩
  · go_wp2_with fail
    go_ret
    exact ⟨rfl, B2.out⟩
  by_cases h20' : 20 < n2
  · go_wp2_with fail
    go_ret
    exact ⟨rfl, B2.out⟩
  rw [HM.out] at hm40
  have H20 := Lib.hid h20
  clear h20
  go_wp2_with fail
  refine (grown_any 30 (by omega) (by omega) ds A m c w2 HM.out (by omega) H20.out (fun d hd => (HF.out d hd).below B2.out) (HH.out.on B2.out)).mono ?_
  rintro e w3 ⟨p, q, x, y, rfl, hp, he, hwf, hn, b3⟩
  have B3 := Lib.hid (B2.out.trans (b3.mono B2.out.size))
  have P3 := Lib.hid hp
  have E3 := Lib.hid (show x.l = y.l from congrArg D.l he)
  have WX := Lib.hid hwf
  clear hp he hwf b3
  go_wp2_with fail
  refine (pat_any ps A2 n2 c2 w3 HN2.out (by omega) (HH2.out.on B3.out) WX.out P3.out.dc).mono ?_
  rintro e w4 ⟨rfl, b4⟩
  have B4 := Lib.hid (B3.out.trans (b4.mono B3.out.size))
  have X4 := Lib.hid (P3.out.dc.below b4)
  clear b4
  have IN8 : Hid (∀ W, Below w4.heap.size w4 W → (downA (downL x.l 1 ps)).2 = true → Calls Try.prog 32 #[.pointer (some ⟨p, 0, none⟩), .int .i64 (downA (downL x.l 1 ps)).1, .int .i64 1] W fun e w' => e = .returned (.bool true) ∧ Below W.heap.size W w') := Lib.hid (fun W hb ht => by
    cases hd : downL x.l 1 ps with
    | none => rw [hd] at ht; cases ht
    | some i =>
      have := pinside_any i 1 W WX.out (X4.out.below hb)
      rw [show inside x.l i 1 = true from down_inside WX.out hd] at this
      exact this)
  generalize downA (downL x.l 1 ps) = r at IN8 ⊢
  obtain ⟨r1, r2⟩ := r
  have GO : Hid (∀ W, Below w4.heap.size w4 W → Dc W w2.heap.size p x) := Lib.hid (fun W hb => X4.out.below hb)
  simp only at IN8
  go_upto_region 8 with fail
  go_cut [47] (fun s47 wx => s47 = .bool false ∧ Hid (Below w4.heap.size w4 wx))
  case first =>
    cases r2 with
    | false =>
      go_wp2_with fail
      go_meet
      exact ⟨rfl, Lib.hid (Below.refl _ _)⟩
    | true =>
      go_wp2_with fail
      refine (IN8.out w4 (Below.refl _ _) trivial).mono ?_
      rintro e w5 ⟨rfl, b5⟩
      have B5 := Lib.hid b5
      clear b5
      go_wp2_with fail
      go_meet
      exact ⟨rfl, B5⟩
  case rest =>
    obtain ⟨rfl, B5⟩ := hcut
    obtain ⟨w5, rfl⟩ : ∃ w5, w5 = wc := ⟨_, rfl⟩
    have X5 := Lib.hid (X4.out.below B5.out)
    have B6 := Lib.hid (B4.out.trans (B5.out.mono B4.out.size))
    clear IN8 GO
    go_wp2_with fail
    refine (pall_any id w5 WX.out X5.out).mono ?_
    rintro e w6 ⟨A6, n6, c6, rfl, o6, b6⟩
    obtain ⟨g1, _, _, _, g5⟩ := own_nil_zero o6 rfl
    have B7 := Lib.hid (B6.out.trans (b6.mono B6.out.size))
    have X7 := Lib.hid (X5.out.below b6)
    have OK : Hid (AllOk x.l id (allL x.l id)) := Lib.hid (all_ok WX.out id)
    have hal : (allL x.l id).length ≤ 200 := all_len WX.out id
    generalize allL x.l id = al at g1 g5 OK hal o6
    obtain rfl : n6 = al.length := g1.symm
    have G5 := Lib.hid g5
    obtain ⟨n6, hn6⟩ : ∃ n, al.length = n := ⟨_, rfl⟩
    have HN6 := Lib.hid hn6
    rw [hn6] at hal ⊢
    clear o6 b6 g1 g5 hn6
    go_wp2_with fail
    go_loopw [13] (fun i wr => InRel w6 n6 i wr) (fun i _ => n6 - (intOf i).toNat)
    case atStart => exact ⟨0, by omega, rfl, Lib.hid (Below.refl _ _)⟩
    case round =>
      obtain ⟨i, hi, rfl, HB⟩ := hrel
      by_cases hlt : i < n6
      · have hil : i < al.length := by have := HN6.out; omega
        obtain ⟨gb, go, rfl, hgb, hc6⟩ := cell_int G5.out hil
        have hc : wr.cell? ⟨gb, go + i, none⟩ = some (.int .i64 al[i]) := (HB.out.cell (p := ⟨gb, go + i, none⟩) hgb).trans hc6
        have HC6 := Lib.hid hc6
        have hmem : al[i] ∈ al := List.getElem_mem hil
        have XR := Lib.hid (X7.out.below HB.out)
        have IN9 : Hid (Calls Try.prog 32 #[.pointer (some ⟨p, 0, none⟩), .int .i64 al[i], .int .i64 id] wr fun e w' => e = .returned (.bool true) ∧ Below wr.heap.size wr w') := Lib.hid (by
          have := pinside_any al[i] id wr WX.out XR.out
          rw [OK.out.ins _ hmem] at this
          exact this)
        obtain ⟨k, hk, hy, _⟩ := XR.out.place (OK.out.has _ hmem)
        obtain ⟨q1, q2, q3, q4, q5⟩ := wf_kids WX.out XR.out hk hy
        obtain ⟨nd, hnd⟩ : ∃ nd, x.rs[k].nd = nd := ⟨_, rfl⟩
        rw [hnd] at q2 q4 q5
        have HND := Lib.hid hnd
        have HYK := Lib.hid hy
        have HME : Hid (metB al i nd.par i = true) := Lib.hid (by rw [q2]; exact met_end OK.out hil)
        have HNE : Hid (∀ (k : Nat) (h : k < al.length), k < i → al[k] ≠ al[i]) := Lib.hid (fun k h hki => (List.pairwise_iff_getElem.1 OK.out.nod) k i h hil hki)
        clear hc6 hmem hnd hy q1 q2 q3
        generalize hali : al[i] = ali at hc IN9 HYK HNE HC6
        have HAI := Lib.hid hali
        clear hali
        go_wp2_with fail
        refine IN9.out.mono ?_
        rintro e w7 ⟨rfl, b7⟩
        have B8 := Lib.hid (HB.out.trans (b7.mono HB.out.size))
        have X8 := Lib.hid (XR.out.below b7)
        have hc7 : w7.cell? ⟨gb, go + i, none⟩ = some (.int .i64 ali) := (B8.out.cell (p := ⟨gb, go + i, none⟩) hgb).trans HC6.out
        clear b7 hc
        go_wp2_with fail
        refine (tell_yes ali (k := k) (nd := nd) w7 hk HYK.out HND.out q4 q5 X8.out).mono ?_
        rintro e w8 ⟨A7, n7, c7, A8, n8, c8, rfl, _, _, b8⟩
        have N9 : Hid (NdB (w8.alloc (.cells #[.int .i64 nd.id, .int .i64 nd.par, .string nd.tag, .string nd.txt, .string nd.key, .slice A7 n7 c7, .slice A8 n8 c8, .int .i64 nd.note] 52)) w8.heap.size nd A7 n7 c7 A8 n8 c8) := Lib.hid (NdB.new _ _ _ _ _ _ _ _)
        have B9 : Hid (Below w6.heap.size w6 (w8.alloc (.cells #[.int .i64 nd.id, .int .i64 nd.par, .string nd.tag, .string nd.txt, .string nd.key, .slice A7 n7 c7, .slice A8 n8 c8, .int .i64 nd.note] 52))) := Lib.hid ((B8.out.trans (b8.mono B8.out.size)).alloc (by have := B8.out.size; have := b8.size; omega) _)
        clear b8 hc7
        go_upto_region 17 with fail
        generalize w8.alloc (.cells #[.int .i64 nd.id, .int .i64 nd.par, .string nd.tag, .string nd.txt, .string nd.key, .slice A7 n7 c7, .slice A8 n8 c8, .int .i64 nd.note] 52) = w9 at N9 B9 ⊢
        generalize w8.heap.size = g9 at N9 ⊢
        go_wp2_with fail
        obtain ⟨wo, rfl⟩ : ∃ wo : World, wo = wr := ⟨_, rfl⟩
        go_loopw [16, 17] (fun s16 s17 wi => MetRel w9 al i nd.par s16 s17 wi) (fun _ s17 _ => i - (intOf s17).toNat)
        case atStart => exact ⟨0, decide (i = 0), by omega, rfl, (by rw [show ((i : Int) == 0) = decide (i = 0) by rw [Bool.eq_iff_iff]; simp]), Lib.hid (by unfold metB; simp), Lib.hid (Below.refl _ _)⟩
        case round =>
          obtain ⟨k2, met, hk2, rfl, rfl, HM, HBi⟩ := hrel
          by_cases hki : k2 < i
          · have hk2l : k2 < al.length := by omega
            obtain ⟨gb', go', hA', hgb', hd6⟩ := cell_int G5.out hk2l
            injection hA' with hA'
            injection hA' with e1 e2
            subst e1; subst e2
            have hBB := B9.out.trans (HBi.out.mono B9.out.size)
            have hd : wr.cell? ⟨gb, go + k2, none⟩ = some (.int .i64 al[k2]) := (hBB.cell (p := ⟨gb, go + k2, none⟩) hgb).trans hd6
            have hci : wr.cell? ⟨gb, go + i, none⟩ = some (.int .i64 ali) := (hBB.cell (p := ⟨gb, go + i, none⟩) hgb).trans HC6.out
            have hne : (al[k2] == ali) = false := beq_eq_false_iff_ne.2 (HNE.out k2 hk2l hki)
            have hp1 : wr.cell? ⟨g9, 1, none⟩ = some (.int .i64 nd.par) := (N9.out.below HBi.out N9.out.lt).c1
            have HSU : Hid (metB al i nd.par (k2 + 1) = (metB al i nd.par k2 || al[k2] == nd.par)) := Lib.hid (met_succ hk2l)
            clear hd6 hBB hgb'
            generalize al[k2] = ak at hd hne HSU
            go_wp2_with fail
            go_quiet (fail)
            have hd' : (wr.drewN nq).cell? ⟨gb, go + k2, none⟩ = some (.int .i64 ak) := hd
            have hp' : (wr.drewN nq).cell? ⟨g9, 1, none⟩ = some (.int .i64 nd.par) := hp1
            have BQ := Lib.hid (Below_drewN HBi.out nq)
            clear hd hci hp1
            generalize wr.drewN nq = wq at hd' hp' BQ ⊢
            cases met with
            | true =>
              have HM2 : Hid (true = metB al i nd.par (k2 + 1)) := Lib.hid (by rw [HSU.out, ← HM.out]; rfl)
              go_wp2_with fail
              go_quiet (fail)
              go_wp2_with fail
              go_roundw
              case rel => exact ⟨k2 + 1, true, by omega, by go_num, rfl, HM2, Lib.hid (Below_drewN BQ.out _)⟩
              case measure => simp [intOf]; omega
            | false =>
              obtain ⟨eq, heq⟩ : ∃ eq, (ak == nd.par) = eq := ⟨_, rfl⟩
              have HM2 : Hid (eq = metB al i nd.par (k2 + 1)) := Lib.hid (by rw [HSU.out, ← HM.out, heq]; rfl)
              cases eq <;>
              · go_wp2_with fail
                go_quiet (fail)
                go_wp2_with fail
                go_roundw
                case rel => exact ⟨k2 + 1, _, by omega, by go_num, rfl, HM2, Lib.hid (Below_drewN BQ.out _)⟩
                case measure => simp [intOf]; omega
          · obtain rfl : k2 = i := by omega
            obtain rfl : met = true := by rw [HM.out]; exact HME.out
            have BE := Lib.hid (B9.out.trans (HBi.out.mono B9.out.size))
            go_wp2_with fail
            go_roundw
            case rel => exact ⟨k2 + 1, by omega, by go_num, BE⟩
            case measure => simp [intOf]; omega
      · go_wp2_with fail
        go_ret
        exact ⟨rfl, B7.out.trans (HB.out.mono B7.out.size)⟩
end Go.Proofs.Ytmcnmgkfloidpaa.P6
