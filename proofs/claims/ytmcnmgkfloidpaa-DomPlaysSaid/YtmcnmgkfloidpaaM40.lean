/- The walk of DomPlays: it answers true, for every room and all deeds. -/
import Derived.Test.YtmcnmgkfloidpaaM23
import Derived.Test.YtmcnmgkfloidpaaM39
namespace Go.Proofs.Ytmcnmgkfloidpaa.P5
open Go.RowKit Kd P4
theorem size_x : (⟨#[120]⟩ : ByteArray).size ≤ maxLen := by unfold maxLen; decide
theorem Rf.base_le {w : World} {B B' q : Nat} {y : Rx} (h : Rf w B q y) (hB : B' ≤ B) : Rf w B' q y := ⟨h.blk, Nat.le_trans hB h.base, h.own.base_le hB, fun r hr => ⟨(h.nodes r hr).att, (h.nodes r hr).kids.base_le hB⟩⟩
def Cut5 (w : World) (q g : Nat) (d : RE) (k : Nat) (v : Value) (wx : World) : Prop := ∃ (p : Nat) (x : Dx) (y : Rx), v = .pointer (some ⟨p, 0, none⟩) ∧ Par wx w.heap.size p q x y ∧ x.d = y.d ∧ WF x.d ∧ x.n ≤ (k : Int) + 2 ∧ DE wx g d ∧ Below w.heap.size w wx
set_option maxHeartbeats 40000000 in
set_option maxRecDepth 100000 in
theorem plays_any (room : Int) (ds : List RE) (A : Option Addr) (m c : Nat) (w : World) (hm : ds.length = m) (hmc : m ≤ c) (hcm : c ≤ maxLen) (hwf : ∀ d ∈ ds, DeedOk w d) (H : kE.Holds w w.heap.size A ds) :
    Calls Try.prog 3 #[.int .i64 room, .slice A m c] w fun e w' => e = .returned (.bool true) ∧ Below w.heap.size w w' := by
  have HH := Lib.hid H
  have HM := Lib.hid hm
  have HF := Lib.hid hwf
  have hmx : m ≤ maxLen := by omega
  clear H hm hwf
  have q1 := err_eql_nil
  have q2 := err_eql
  have q3 := err_neq_nil
  have q4 := nil_eql_nil
  have q5 := nil_neq_nil
  go_enter Try.func3, Try.ntmps3
  go_wp2_with fail
  refine (up_any _).mono ?_
  rintro e w1 ⟨rfl, b1⟩
  have B1 := Lib.hid b1
  clear b1
  by_cases hr : room < 1
  · go_wp2_with fail
    refine (newDoc_no room _ (.inl hr)).mono ?_
    rintro e w' ⟨rfl, rfl⟩
    go_wp2_with fail
    go_ret
    exact ⟨rfl, B1.out⟩
  by_cases hr2 : 200 < room
  · go_wp2_with fail
    refine (newDoc_no room _ (.inr hr2)).mono ?_
    rintro e w' ⟨rfl, rfl⟩
    go_wp2_with fail
    go_ret
    exact ⟨rfl, B1.out⟩
  obtain ⟨R, rfl⟩ := Int.eq_ofNat_of_zero_le (show 0 ≤ room by omega)
  have hR1 : 1 ≤ R := by omega
  have hR2 : R ≤ 200 := by omega
  clear hr hr2
  go_wp2_with fail
  refine (newDoc_yes R _ hR1 hR2).mono ?_
  rintro e w2 ⟨p, x0, rfl, dc0, hd0, b2⟩
  have D0 := Lib.hid (dc0.base_le B1.out.size)
  have E0 := Lib.hid hd0
  have B2 := Lib.hid (B1.out.trans (b2.mono B1.out.size))
  clear dc0 hd0 b2
  go_wp2_with fail
  refine (few5_any ds A m c _ HM.out hmx (HH.out.on B2.out) (fun d hd => (HF.out d hd).below B2.out)).mono ?_
  rintro e w3 ⟨f, rfl, hf, b3⟩
  have B3 := Lib.hid (B2.out.trans (b3.mono B2.out.size))
  have D3 := Lib.hid (D0.out.below b3)
  clear b3
  rcases hf with rfl | ⟨rfl, hm60, h20⟩
  · go_wp2_with fail
    go_ret
    exact ⟨rfl, B3.out⟩
  rw [HM.out] at hm60
  have H20 := Lib.hid h20
  have W0 : Hid (WF x0.d) := Lib.hid (by rw [E0.out]; exact wf_newD hR1 hR2)
  have N0 : Hid (x0.n = 1) := Lib.hid (by have : x0.d.n = 1 := by rw [E0.out]; rfl
                                          exact this)
  clear h20
  go_wp2_with fail
  refine (rnew_any R w3).mono ?_
  rintro e w4 ⟨q, y0, rfl, rf4, hy4, b4⟩
  have P4' : Hid (Par w4 w.heap.size p q x0 y0) := Lib.hid ⟨D3.out.below b4, rf4.base_le B3.out.size, fun i hi hr => by have := D3.out.lt hi; have := rf4.ge hr; omega⟩
  have E4 : Hid (x0.d = y0.d) := Lib.hid (by rw [E0.out, hy4])
  have B4 := Lib.hid (B3.out.trans (b4.mono B3.out.size))
  clear rf4 hy4 b4
  go_wp2_with fail
  go_loopw [6, 9] (fun s6 i wr => ∃ (k p : Nat) (x : Dx) (y : Rx), k ≤ m ∧ i = .int .i64 k ∧ s6 = .pointer (some ⟨p, 0, none⟩) ∧ x.n ≤ (k : Int) + 1 ∧ Hid (Par wr w.heap.size p q x y) ∧ Hid (x.d = y.d) ∧ Hid (WF x.d) ∧ Hid (Below w.heap.size w wr)) (fun _ i _ => m - (intOf i).toNat)
  case atStart => exact ⟨0, p, x0, y0, by omega, rfl, rfl, by have := N0.out; omega, P4', E4, W0, B4⟩
  case round =>
    obtain ⟨k, p, x, y, hk, rfl, rfl, hnk, HX, HE, HWF, HW⟩ := hrel
    by_cases hkm : k < m
    · have hkl : k < ds.length := by have := HM.out; omega
      obtain ⟨b0, o0, rfl, hb0, g0, g1, g2, g3, g4, g5, g6, g7, g8, g9, g10, g11⟩ := cell_of_deeds (HH.out.on HW.out) hkl
      have hdk := Lib.hid (HF.out _ (List.getElem_mem hkl))
      have h20k : ds[k].va.n ≤ 20 := H20.out _ (List.getElem_mem hkl)
      generalize ds[k] = d at g0 g1 g2 g3 g4 g5 g6 g7 g8 g9 g10 g11 hdk h20k
      have hn100 : x.n ≤ 100000 := by omega
      go_upto_region 12 with fail
      have DB := Lib.hid (DE.new wr d)
      have HP := Lib.hid (HX.out.below ((Below.refl _ _).alloc (Nat.le_refl _) (.cells #[.int .i64 d.what, .bool d.next, .int .i64 d.op, .int .i64 d.rid, .int .i64 d.par, .int .i64 d.bef, .string d.tag, .string d.txt, .string d.key, .slice d.va.A d.va.n d.va.c, .int .i64 d.id, .int .i64 d.n] 37)))
      have WA := Lib.hid (HW.out.alloc HW.out.size (.cells #[.int .i64 d.what, .bool d.next, .int .i64 d.op, .int .i64 d.rid, .int .i64 d.par, .int .i64 d.bef, .string d.tag, .string d.txt, .string d.key, .slice d.va.A d.va.n d.va.c, .int .i64 d.id, .int .i64 d.n] 37))
      generalize wr.alloc (.cells #[.int .i64 d.what, .bool d.next, .int .i64 d.op, .int .i64 d.rid, .int .i64 d.par, .int .i64 d.bef, .string d.tag, .string d.txt, .string d.key, .slice d.va.A d.va.n d.va.c, .int .i64 d.id, .int .i64 d.n] 37) = wa at DB HP WA ⊢
      generalize wr.heap.size = g at DB ⊢
      clear g0 g1 g2 g3 g4 g5 g6 g7 g8 g9 g10 g11 HX HW hb0
      have c0 := DB.out.c0
      go_wp2_with fail
      refine (pick_any d.what _ hdk.out.what1 hdk.out.what2).mono ?_
      rintro e w' ⟨rfl, rfl⟩
      have hq0 := pickA_range d.what
      generalize pickA d.what 8 = qq at hq0 ⊢
      obtain ⟨hqa, hqb⟩ := hq0
      clear c0
      go_upto_block 2 with (fail)
      go_cut [6] (fun s6 wx => Cut5 w q g d k s6 wx)
      case first =>
        rcases (show qq = 0 ∨ qq = 1 ∨ qq = 2 ∨ qq = 3 ∨ qq = 4 ∨ qq = 5 ∨ qq = 6 ∨ qq = 7 by omega) with rfl | rfl | rfl | rfl | rfl | rfl | rfl | rfl
        · as_aux_lemma =>
            have e0 := DB.out.c0
            have e1 := DB.out.c1
            have e2 := DB.out.c2
            have e3 := DB.out.c3
            have e4 := DB.out.c4
            have e5 := DB.out.c5
            have e6 := DB.out.c6
            have e7 := DB.out.c7
            have e8 := DB.out.c8
            have e9 := DB.out.c9
            have e10 := DB.out.c10
            have e11 := DB.out.c11
            go_wp2_with fail
            refine (rec_any d wa hn100 HP.out.dc).mono ?_
            rintro e w4 ⟨rfl, b4⟩
            generalize hrid : (if d.next = true ∧ d.op = 1 then x.n + 1 else d.rid) = rid
            have B4 := Lib.hid b4
            obtain ⟨al, a1, a2, a3, a4, a5, a6⟩ := hdk.out.at_
            clear b4 hrid e0 e1 e2 e3 e4 e5 e6 e7 e8 e9 e10 e11
            have BA : Hid (Below wa.heap.size wa (w4.alloc (.cells #[.int .i64 d.op, .int .i64 rid, .int .i64 d.par, .int .i64 d.bef, .string d.tag, .string d.txt, .string d.key, .slice d.va.A d.va.n d.va.c] 35))) := Lib.hid (B4.out.alloc B4.out.size _)
            have NR : Hid (RcB (w4.alloc (.cells #[.int .i64 d.op, .int .i64 rid, .int .i64 d.par, .int .i64 d.bef, .string d.tag, .string d.txt, .string d.key, .slice d.va.A d.va.n d.va.c] 35)) w4.heap.size ⟨d.op, rid, d.par, d.bef, d.tag, d.txt, d.key, al⟩ d.va.A d.va.n d.va.c) := Lib.hid (RcB.new w4 ⟨d.op, rid, d.par, d.bef, d.tag, d.txt, d.key, al⟩ d.va.A d.va.n d.va.c)
            go_upto_region 14 with fail
            generalize w4.alloc (.cells #[.int .i64 d.op, .int .i64 rid, .int .i64 d.par, .int .i64 d.bef, .string d.tag, .string d.txt, .string d.key, .slice d.va.A d.va.n d.va.c] 35) = wb at BA NR ⊢
            have HPa := Lib.hid (HP.out.below BA.out)
            have DBa := Lib.hid (DB.out.below BA.out DB.out.lt)
            have WAa := Lib.hid (WA.out.trans (BA.out.mono WA.out.size))
            have AR : Hid (∀ w9, Below w.heap.size w w9 → ArgR w9 d.va.A d.va.n d.va.c ⟨d.op, rid, d.par, d.bef, d.tag, d.txt, d.key, al⟩) := Lib.hid (fun w9 hb => ⟨⟨a1, a2, a4, by omega, a6, a5.on hb⟩, hdk.out.tag, hdk.out.txt, hdk.out.key⟩)
            clear a1 a2 a3 a4 a5 a6 HP DB WA B4 BA
            have HP := HPa
            have DB := DBa
            have WA := WAa
            clear HPa DBa WAa
            have r0 := NR.out.c0
            have r1 := NR.out.c1
            have r2 := NR.out.c2
            have r3 := NR.out.c3
            have r4 := NR.out.c4
            have r5 := NR.out.c5
            have r6 := NR.out.c6
            have r7 := NR.out.c7
            simp only at r0 r1 r2 r3 r4 r5 r6 r7
            obtain ⟨cd, hcd⟩ : ∃ c, (applyD x.d ⟨d.op, rid, d.par, d.bef, d.tag, d.txt, d.key, al⟩).1 = c := ⟨_, rfl⟩
            have HCD := Lib.hid hcd
            have HCR : Hid ((applyD y.d ⟨d.op, rid, d.par, d.bef, d.tag, d.txt, d.key, al⟩).1 = cd) := Lib.hid (by rw [← HE.out]; exact hcd)
            have hcd0 : 0 ≤ cd := by rw [← hcd]; exact (apply_code _ _).1
            have hcd13 : cd ≤ 13 := by rw [← hcd]; exact (apply_code _ _).2
            have qcd : (cd != cd) = false := by simp
            clear hcd
            go_region_held3 (fun w' => w'.cell? ⟨w4.heap.size, 0, none⟩ = some (.int .i64 d.op) ∧ w'.cell? ⟨w4.heap.size, 1, none⟩ = some (.int .i64 rid) ∧ w'.cell? ⟨w4.heap.size, 2, none⟩ = some (.int .i64 d.par) ∧ w'.cell? ⟨w4.heap.size, 3, none⟩ = some (.int .i64 d.bef) ∧ w'.cell? ⟨w4.heap.size, 4, none⟩ = some (.string d.tag) ∧ w'.cell? ⟨w4.heap.size, 5, none⟩ = some (.string d.txt) ∧ w'.cell? ⟨w4.heap.size, 6, none⟩ = some (.string d.key) ∧ w'.cell? ⟨w4.heap.size, 7, none⟩ = some (.slice d.va.A d.va.n d.va.c)) (first | go_keep | exact K1 | exact K2) ((first
              | (go_at_call 18; refine (apply_c ⟨d.op, rid, d.par, d.bef, d.tag, d.txt, d.key, al⟩ d.va.A d.va.n d.va.c _ HCD.out HWF.out hn100 (AR.out _ (Below_drewN WA.out _)) (by exact (HP.out.drewN _).dc)).mono ?_; rintro e w5 ⟨rfl, x5, d5, hx5⟩; have P5 := Lib.hid ((HP.out.drewN _).did d5); have DB5 := Lib.hid (DE.did (w := wb.drewN _) DB.out (HP.out.dc.drewN _) d5); have NR5 := Lib.hid (RcB.did (w := wb.drewN _) NR.out (HP.out.dc.drewN _) d5); have K1 := And.intro NR5.out.c0 (And.intro NR5.out.c1 (And.intro NR5.out.c2 (And.intro NR5.out.c3 (And.intro NR5.out.c4 (And.intro NR5.out.c5 (And.intro NR5.out.c6 NR5.out.c7)))))); have HX5 := Lib.hid hx5; have W5 : Hid (Below w.heap.size w w5) := Lib.hid ((Below_drewN WA.out _).trans (d5.to_below (HP.out.dc.drewN _))); clear d5 hx5)
              | (go_at_call 12; refine (codeV_any cd hcd0 hcd13 _).mono ?_; rintro e w' ⟨rfl, rfl⟩)
              | (go_at_call 21; refine (rapply_c ⟨d.op, rid, d.par, d.bef, d.tag, d.txt, d.key, al⟩ d.va.A d.va.n d.va.c _ HCR.out (by rw [← HE.out]; exact HWF.out) (by have h1 := congrArg D.n HE.out; have h2 : x.n = y.n := h1; omega) (AR.out _ (by exact W5.out)) (by exact P5.out.rf)).mono ?_; rintro e w6 ⟨rfl, y6, d6, hy6⟩; have P6 := Lib.hid (P5.out.rdid d6); have DB6 := Lib.hid (DB5.out.rdid P5.out.rf d6); have NR6 := Lib.hid (NR5.out.by_ d6.but (fun e => by subst e; exact heap_ne P5.out.rf.blk NR5.out (by decide) rfl)); have K2 := And.intro NR6.out.c0 (And.intro NR6.out.c1 (And.intro NR6.out.c2 (And.intro NR6.out.c3 (And.intro NR6.out.c4 (And.intro NR6.out.c5 (And.intro NR6.out.c6 NR6.out.c7)))))); have HY6 := Lib.hid hy6; have W6 : Hid (Below w.heap.size w w6) := Lib.hid (W5.out.trans (d6.to_below P5.out.rf)); clear d6 hy6)
              | fail))

            have hn5 : x5.n ≤ (k : Int) + 2 := by have h1 := congrArg D.n HX5.out; have h2 := (apply_n x.d ⟨d.op, rid, d.par, d.bef, d.tag, d.txt, d.key, al⟩).2; rw [← h1] at h2; have h3 : x5.n ≤ x.n + 1 := h2; omega
            go_wp2_with fail
            go_meet
            exact ⟨p, x5, y6, rfl, P6.out, by rw [HX5.out, HY6.out, HE.out], by rw [HX5.out]; exact wf_apply HWF.out _, hn5, DB6.out, W6.out⟩
        · as_aux_lemma =>
            have e0 := DB.out.c0
            have e1 := DB.out.c1
            have e2 := DB.out.c2
            have e3 := DB.out.c3
            have e4 := DB.out.c4
            have e5 := DB.out.c5
            have e6 := DB.out.c6
            have e7 := DB.out.c7
            have e8 := DB.out.c8
            have e9 := DB.out.c9
            have e10 := DB.out.c10
            have e11 := DB.out.c11
            go_wp2_with fail
            refine (rec_any d wa hn100 HP.out.dc).mono ?_
            rintro e w4 ⟨rfl, b4⟩
            generalize hrid : (if d.next = true ∧ d.op = 1 then x.n + 1 else d.rid) = rid
            have B4 := Lib.hid b4
            obtain ⟨al, a1, a2, a3, a4, a5, a6⟩ := hdk.out.at_
            clear b4 hrid e0 e1 e2 e3 e4 e5 e6 e7 e8 e9 e10 e11
            have BA : Hid (Below wa.heap.size wa (w4.alloc (.cells #[.int .i64 d.op, .int .i64 rid, .int .i64 d.par, .int .i64 d.bef, .string d.tag, .string d.txt, .string d.key, .slice d.va.A d.va.n d.va.c] 35))) := Lib.hid (B4.out.alloc B4.out.size _)
            have NR : Hid (RcB (w4.alloc (.cells #[.int .i64 d.op, .int .i64 rid, .int .i64 d.par, .int .i64 d.bef, .string d.tag, .string d.txt, .string d.key, .slice d.va.A d.va.n d.va.c] 35)) w4.heap.size ⟨d.op, rid, d.par, d.bef, d.tag, d.txt, d.key, al⟩ d.va.A d.va.n d.va.c) := Lib.hid (RcB.new w4 ⟨d.op, rid, d.par, d.bef, d.tag, d.txt, d.key, al⟩ d.va.A d.va.n d.va.c)
            go_upto_region 14 with fail
            generalize w4.alloc (.cells #[.int .i64 d.op, .int .i64 rid, .int .i64 d.par, .int .i64 d.bef, .string d.tag, .string d.txt, .string d.key, .slice d.va.A d.va.n d.va.c] 35) = wb at BA NR ⊢
            have HPa := Lib.hid (HP.out.below BA.out)
            have DBa := Lib.hid (DB.out.below BA.out DB.out.lt)
            have WAa := Lib.hid (WA.out.trans (BA.out.mono WA.out.size))
            have AR : Hid (∀ w9, Below w.heap.size w w9 → ArgR w9 d.va.A d.va.n d.va.c ⟨d.op, rid, d.par, d.bef, d.tag, d.txt, d.key, al⟩) := Lib.hid (fun w9 hb => ⟨⟨a1, a2, a4, by omega, a6, a5.on hb⟩, hdk.out.tag, hdk.out.txt, hdk.out.key⟩)
            clear a1 a2 a3 a4 a5 a6 HP DB WA B4 BA
            have HP := HPa
            have DB := DBa
            have WA := WAa
            clear HPa DBa WAa
            have r0 := NR.out.c0
            have r1 := NR.out.c1
            have r2 := NR.out.c2
            have r3 := NR.out.c3
            have r4 := NR.out.c4
            have r5 := NR.out.c5
            have r6 := NR.out.c6
            have r7 := NR.out.c7
            simp only at r0 r1 r2 r3 r4 r5 r6 r7
            obtain ⟨cd, hcd⟩ : ∃ c, (applyD x.d ⟨d.op, rid, d.par, d.bef, d.tag, d.txt, d.key, al⟩).1 = c := ⟨_, rfl⟩
            have HCD := Lib.hid hcd
            have HCR : Hid ((applyD y.d ⟨d.op, rid, d.par, d.bef, d.tag, d.txt, d.key, al⟩).1 = cd) := Lib.hid (by rw [← HE.out]; exact hcd)
            have hcd0 : 0 ≤ cd := by rw [← hcd]; exact (apply_code _ _).1
            have hcd13 : cd ≤ 13 := by rw [← hcd]; exact (apply_code _ _).2
            have qcd : (cd != cd) = false := by simp
            clear hcd
            go_region_held3 (fun w' => w'.cell? ⟨w4.heap.size, 0, none⟩ = some (.int .i64 d.op) ∧ w'.cell? ⟨w4.heap.size, 1, none⟩ = some (.int .i64 rid) ∧ w'.cell? ⟨w4.heap.size, 2, none⟩ = some (.int .i64 d.par) ∧ w'.cell? ⟨w4.heap.size, 3, none⟩ = some (.int .i64 d.bef) ∧ w'.cell? ⟨w4.heap.size, 4, none⟩ = some (.string d.tag) ∧ w'.cell? ⟨w4.heap.size, 5, none⟩ = some (.string d.txt) ∧ w'.cell? ⟨w4.heap.size, 6, none⟩ = some (.string d.key) ∧ w'.cell? ⟨w4.heap.size, 7, none⟩ = some (.slice d.va.A d.va.n d.va.c)) (first | go_keep | exact K1 | exact K2) ((first
              | (go_at_call 18; refine (apply_c ⟨d.op, rid, d.par, d.bef, d.tag, d.txt, d.key, al⟩ d.va.A d.va.n d.va.c _ HCD.out HWF.out hn100 (AR.out _ (Below_drewN WA.out _)) (by exact (HP.out.drewN _).dc)).mono ?_; rintro e w5 ⟨rfl, x5, d5, hx5⟩; have P5 := Lib.hid ((HP.out.drewN _).did d5); have DB5 := Lib.hid (DE.did (w := wb.drewN _) DB.out (HP.out.dc.drewN _) d5); have NR5 := Lib.hid (RcB.did (w := wb.drewN _) NR.out (HP.out.dc.drewN _) d5); have K1 := And.intro NR5.out.c0 (And.intro NR5.out.c1 (And.intro NR5.out.c2 (And.intro NR5.out.c3 (And.intro NR5.out.c4 (And.intro NR5.out.c5 (And.intro NR5.out.c6 NR5.out.c7)))))); have HX5 := Lib.hid hx5; have W5 : Hid (Below w.heap.size w w5) := Lib.hid ((Below_drewN WA.out _).trans (d5.to_below (HP.out.dc.drewN _))); clear d5 hx5)
              | (go_at_call 12; refine (codeV_any cd hcd0 hcd13 _).mono ?_; rintro e w' ⟨rfl, rfl⟩)
              | (go_at_call 21; refine (rapply_c ⟨d.op, rid, d.par, d.bef, d.tag, d.txt, d.key, al⟩ d.va.A d.va.n d.va.c _ HCR.out (by rw [← HE.out]; exact HWF.out) (by have h1 := congrArg D.n HE.out; have h2 : x.n = y.n := h1; omega) (AR.out _ (by exact W5.out)) (by exact P5.out.rf)).mono ?_; rintro e w6 ⟨rfl, y6, d6, hy6⟩; have P6 := Lib.hid (P5.out.rdid d6); have DB6 := Lib.hid (DB5.out.rdid P5.out.rf d6); have NR6 := Lib.hid (NR5.out.by_ d6.but (fun e => by subst e; exact heap_ne P5.out.rf.blk NR5.out (by decide) rfl)); have K2 := And.intro NR6.out.c0 (And.intro NR6.out.c1 (And.intro NR6.out.c2 (And.intro NR6.out.c3 (And.intro NR6.out.c4 (And.intro NR6.out.c5 (And.intro NR6.out.c6 NR6.out.c7)))))); have HY6 := Lib.hid hy6; have W6 : Hid (Below w.heap.size w w6) := Lib.hid (W5.out.trans (d6.to_below P5.out.rf)); clear d6 hy6)
              | fail))

            have hn5 : x5.n ≤ (k : Int) + 2 := by have h1 := congrArg D.n HX5.out; have h2 := (apply_n x.d ⟨d.op, rid, d.par, d.bef, d.tag, d.txt, d.key, al⟩).2; rw [← h1] at h2; have h3 : x5.n ≤ x.n + 1 := h2; omega
            go_wp2_with fail
            go_meet
            exact ⟨p, x5, y6, rfl, P6.out, by rw [HX5.out, HY6.out, HE.out], by rw [HX5.out]; exact wf_apply HWF.out _, hn5, DB6.out, W6.out⟩
        · as_aux_lemma =>
            have e0 := DB.out.c0
            have e1 := DB.out.c1
            have e2 := DB.out.c2
            have e3 := DB.out.c3
            have e4 := DB.out.c4
            have e5 := DB.out.c5
            have e6 := DB.out.c6
            have e7 := DB.out.c7
            have e8 := DB.out.c8
            have e9 := DB.out.c9
            have e10 := DB.out.c10
            have e11 := DB.out.c11
            go_wp2_with fail
            refine (rec_any d wa hn100 HP.out.dc).mono ?_
            rintro e w4 ⟨rfl, b4⟩
            generalize hrid : (if d.next = true ∧ d.op = 1 then x.n + 1 else d.rid) = rid
            have B4 := Lib.hid b4
            obtain ⟨al, a1, a2, a3, a4, a5, a6⟩ := hdk.out.at_
            clear b4 hrid e0 e1 e2 e3 e4 e5 e6 e7 e8 e9 e10 e11
            have BA : Hid (Below wa.heap.size wa (w4.alloc (.cells #[.int .i64 d.op, .int .i64 rid, .int .i64 d.par, .int .i64 d.bef, .string d.tag, .string d.txt, .string d.key, .slice d.va.A d.va.n d.va.c] 35))) := Lib.hid (B4.out.alloc B4.out.size _)
            have NR : Hid (RcB (w4.alloc (.cells #[.int .i64 d.op, .int .i64 rid, .int .i64 d.par, .int .i64 d.bef, .string d.tag, .string d.txt, .string d.key, .slice d.va.A d.va.n d.va.c] 35)) w4.heap.size ⟨d.op, rid, d.par, d.bef, d.tag, d.txt, d.key, al⟩ d.va.A d.va.n d.va.c) := Lib.hid (RcB.new w4 ⟨d.op, rid, d.par, d.bef, d.tag, d.txt, d.key, al⟩ d.va.A d.va.n d.va.c)
            go_upto_region 14 with fail
            generalize w4.alloc (.cells #[.int .i64 d.op, .int .i64 rid, .int .i64 d.par, .int .i64 d.bef, .string d.tag, .string d.txt, .string d.key, .slice d.va.A d.va.n d.va.c] 35) = wb at BA NR ⊢
            have HPa := Lib.hid (HP.out.below BA.out)
            have DBa := Lib.hid (DB.out.below BA.out DB.out.lt)
            have WAa := Lib.hid (WA.out.trans (BA.out.mono WA.out.size))
            have AR : Hid (∀ w9, Below w.heap.size w w9 → ArgR w9 d.va.A d.va.n d.va.c ⟨d.op, rid, d.par, d.bef, d.tag, d.txt, d.key, al⟩) := Lib.hid (fun w9 hb => ⟨⟨a1, a2, a4, by omega, a6, a5.on hb⟩, hdk.out.tag, hdk.out.txt, hdk.out.key⟩)
            clear a1 a2 a3 a4 a5 a6 HP DB WA B4 BA
            have HP := HPa
            have DB := DBa
            have WA := WAa
            clear HPa DBa WAa
            have r0 := NR.out.c0
            have r1 := NR.out.c1
            have r2 := NR.out.c2
            have r3 := NR.out.c3
            have r4 := NR.out.c4
            have r5 := NR.out.c5
            have r6 := NR.out.c6
            have r7 := NR.out.c7
            simp only at r0 r1 r2 r3 r4 r5 r6 r7
            obtain ⟨cd, hcd⟩ : ∃ c, (applyD x.d ⟨d.op, rid, d.par, d.bef, d.tag, d.txt, d.key, al⟩).1 = c := ⟨_, rfl⟩
            have HCD := Lib.hid hcd
            have HCR : Hid ((applyD y.d ⟨d.op, rid, d.par, d.bef, d.tag, d.txt, d.key, al⟩).1 = cd) := Lib.hid (by rw [← HE.out]; exact hcd)
            have hcd0 : 0 ≤ cd := by rw [← hcd]; exact (apply_code _ _).1
            have hcd13 : cd ≤ 13 := by rw [← hcd]; exact (apply_code _ _).2
            have qcd : (cd != cd) = false := by simp
            clear hcd
            go_region_held3 (fun w' => w'.cell? ⟨w4.heap.size, 0, none⟩ = some (.int .i64 d.op) ∧ w'.cell? ⟨w4.heap.size, 1, none⟩ = some (.int .i64 rid) ∧ w'.cell? ⟨w4.heap.size, 2, none⟩ = some (.int .i64 d.par) ∧ w'.cell? ⟨w4.heap.size, 3, none⟩ = some (.int .i64 d.bef) ∧ w'.cell? ⟨w4.heap.size, 4, none⟩ = some (.string d.tag) ∧ w'.cell? ⟨w4.heap.size, 5, none⟩ = some (.string d.txt) ∧ w'.cell? ⟨w4.heap.size, 6, none⟩ = some (.string d.key) ∧ w'.cell? ⟨w4.heap.size, 7, none⟩ = some (.slice d.va.A d.va.n d.va.c)) (first | go_keep | exact K1 | exact K2) ((first
              | (go_at_call 18; refine (apply_c ⟨d.op, rid, d.par, d.bef, d.tag, d.txt, d.key, al⟩ d.va.A d.va.n d.va.c _ HCD.out HWF.out hn100 (AR.out _ (Below_drewN WA.out _)) (by exact (HP.out.drewN _).dc)).mono ?_; rintro e w5 ⟨rfl, x5, d5, hx5⟩; have P5 := Lib.hid ((HP.out.drewN _).did d5); have DB5 := Lib.hid (DE.did (w := wb.drewN _) DB.out (HP.out.dc.drewN _) d5); have NR5 := Lib.hid (RcB.did (w := wb.drewN _) NR.out (HP.out.dc.drewN _) d5); have K1 := And.intro NR5.out.c0 (And.intro NR5.out.c1 (And.intro NR5.out.c2 (And.intro NR5.out.c3 (And.intro NR5.out.c4 (And.intro NR5.out.c5 (And.intro NR5.out.c6 NR5.out.c7)))))); have HX5 := Lib.hid hx5; have W5 : Hid (Below w.heap.size w w5) := Lib.hid ((Below_drewN WA.out _).trans (d5.to_below (HP.out.dc.drewN _))); clear d5 hx5)
              | (go_at_call 12; refine (codeV_any cd hcd0 hcd13 _).mono ?_; rintro e w' ⟨rfl, rfl⟩)
              | (go_at_call 21; refine (rapply_c ⟨d.op, rid, d.par, d.bef, d.tag, d.txt, d.key, al⟩ d.va.A d.va.n d.va.c _ HCR.out (by rw [← HE.out]; exact HWF.out) (by have h1 := congrArg D.n HE.out; have h2 : x.n = y.n := h1; omega) (AR.out _ (by exact W5.out)) (by exact P5.out.rf)).mono ?_; rintro e w6 ⟨rfl, y6, d6, hy6⟩; have P6 := Lib.hid (P5.out.rdid d6); have DB6 := Lib.hid (DB5.out.rdid P5.out.rf d6); have NR6 := Lib.hid (NR5.out.by_ d6.but (fun e => by subst e; exact heap_ne P5.out.rf.blk NR5.out (by decide) rfl)); have K2 := And.intro NR6.out.c0 (And.intro NR6.out.c1 (And.intro NR6.out.c2 (And.intro NR6.out.c3 (And.intro NR6.out.c4 (And.intro NR6.out.c5 (And.intro NR6.out.c6 NR6.out.c7)))))); have HY6 := Lib.hid hy6; have W6 : Hid (Below w.heap.size w w6) := Lib.hid (W5.out.trans (d6.to_below P5.out.rf)); clear d6 hy6)
              | fail))

            have hn5 : x5.n ≤ (k : Int) + 2 := by have h1 := congrArg D.n HX5.out; have h2 := (apply_n x.d ⟨d.op, rid, d.par, d.bef, d.tag, d.txt, d.key, al⟩).2; rw [← h1] at h2; have h3 : x5.n ≤ x.n + 1 := h2; omega
            go_wp2_with fail
            go_meet
            exact ⟨p, x5, y6, rfl, P6.out, by rw [HX5.out, HY6.out, HE.out], by rw [HX5.out]; exact wf_apply HWF.out _, hn5, DB6.out, W6.out⟩
        · as_aux_lemma =>
            have e0 := DB.out.c0
            have e1 := DB.out.c1
            have e2 := DB.out.c2
            have e3 := DB.out.c3
            have e4 := DB.out.c4
            have e5 := DB.out.c5
            have e6 := DB.out.c6
            have e7 := DB.out.c7
            have e8 := DB.out.c8
            have e9 := DB.out.c9
            have e10 := DB.out.c10
            have e11 := DB.out.c11
            go_wp2_with fail
            refine (rec_any d wa hn100 HP.out.dc).mono ?_
            rintro e w4 ⟨rfl, b4⟩
            generalize hrid : (if d.next = true ∧ d.op = 1 then x.n + 1 else d.rid) = rid
            have B4 := Lib.hid b4
            obtain ⟨al, a1, a2, a3, a4, a5, a6⟩ := hdk.out.at_
            clear b4 hrid e0 e1 e2 e3 e4 e5 e6 e7 e8 e9 e10 e11
            have BA : Hid (Below wa.heap.size wa (w4.alloc (.cells #[.int .i64 d.op, .int .i64 rid, .int .i64 d.par, .int .i64 d.bef, .string d.tag, .string d.txt, .string d.key, .slice d.va.A d.va.n d.va.c] 35))) := Lib.hid (B4.out.alloc B4.out.size _)
            have NR : Hid (RcB (w4.alloc (.cells #[.int .i64 d.op, .int .i64 rid, .int .i64 d.par, .int .i64 d.bef, .string d.tag, .string d.txt, .string d.key, .slice d.va.A d.va.n d.va.c] 35)) w4.heap.size ⟨d.op, rid, d.par, d.bef, d.tag, d.txt, d.key, al⟩ d.va.A d.va.n d.va.c) := Lib.hid (RcB.new w4 ⟨d.op, rid, d.par, d.bef, d.tag, d.txt, d.key, al⟩ d.va.A d.va.n d.va.c)
            go_upto_region 14 with fail
            generalize w4.alloc (.cells #[.int .i64 d.op, .int .i64 rid, .int .i64 d.par, .int .i64 d.bef, .string d.tag, .string d.txt, .string d.key, .slice d.va.A d.va.n d.va.c] 35) = wb at BA NR ⊢
            have HPa := Lib.hid (HP.out.below BA.out)
            have DBa := Lib.hid (DB.out.below BA.out DB.out.lt)
            have WAa := Lib.hid (WA.out.trans (BA.out.mono WA.out.size))
            have AR : Hid (∀ w9, Below w.heap.size w w9 → ArgR w9 d.va.A d.va.n d.va.c ⟨d.op, rid, d.par, d.bef, d.tag, d.txt, d.key, al⟩) := Lib.hid (fun w9 hb => ⟨⟨a1, a2, a4, by omega, a6, a5.on hb⟩, hdk.out.tag, hdk.out.txt, hdk.out.key⟩)
            clear a1 a2 a3 a4 a5 a6 HP DB WA B4 BA
            have HP := HPa
            have DB := DBa
            have WA := WAa
            clear HPa DBa WAa
            have r0 := NR.out.c0
            have r1 := NR.out.c1
            have r2 := NR.out.c2
            have r3 := NR.out.c3
            have r4 := NR.out.c4
            have r5 := NR.out.c5
            have r6 := NR.out.c6
            have r7 := NR.out.c7
            simp only at r0 r1 r2 r3 r4 r5 r6 r7
            obtain ⟨cd, hcd⟩ : ∃ c, (applyD x.d ⟨d.op, rid, d.par, d.bef, d.tag, d.txt, d.key, al⟩).1 = c := ⟨_, rfl⟩
            have HCD := Lib.hid hcd
            have HCR : Hid ((applyD y.d ⟨d.op, rid, d.par, d.bef, d.tag, d.txt, d.key, al⟩).1 = cd) := Lib.hid (by rw [← HE.out]; exact hcd)
            have hcd0 : 0 ≤ cd := by rw [← hcd]; exact (apply_code _ _).1
            have hcd13 : cd ≤ 13 := by rw [← hcd]; exact (apply_code _ _).2
            have qcd : (cd != cd) = false := by simp
            clear hcd
            go_region_held3 (fun w' => w'.cell? ⟨w4.heap.size, 0, none⟩ = some (.int .i64 d.op) ∧ w'.cell? ⟨w4.heap.size, 1, none⟩ = some (.int .i64 rid) ∧ w'.cell? ⟨w4.heap.size, 2, none⟩ = some (.int .i64 d.par) ∧ w'.cell? ⟨w4.heap.size, 3, none⟩ = some (.int .i64 d.bef) ∧ w'.cell? ⟨w4.heap.size, 4, none⟩ = some (.string d.tag) ∧ w'.cell? ⟨w4.heap.size, 5, none⟩ = some (.string d.txt) ∧ w'.cell? ⟨w4.heap.size, 6, none⟩ = some (.string d.key) ∧ w'.cell? ⟨w4.heap.size, 7, none⟩ = some (.slice d.va.A d.va.n d.va.c)) (first | go_keep | exact K1 | exact K2) ((first
              | (go_at_call 18; refine (apply_c ⟨d.op, rid, d.par, d.bef, d.tag, d.txt, d.key, al⟩ d.va.A d.va.n d.va.c _ HCD.out HWF.out hn100 (AR.out _ (Below_drewN WA.out _)) (by exact (HP.out.drewN _).dc)).mono ?_; rintro e w5 ⟨rfl, x5, d5, hx5⟩; have P5 := Lib.hid ((HP.out.drewN _).did d5); have DB5 := Lib.hid (DE.did (w := wb.drewN _) DB.out (HP.out.dc.drewN _) d5); have NR5 := Lib.hid (RcB.did (w := wb.drewN _) NR.out (HP.out.dc.drewN _) d5); have K1 := And.intro NR5.out.c0 (And.intro NR5.out.c1 (And.intro NR5.out.c2 (And.intro NR5.out.c3 (And.intro NR5.out.c4 (And.intro NR5.out.c5 (And.intro NR5.out.c6 NR5.out.c7)))))); have HX5 := Lib.hid hx5; have W5 : Hid (Below w.heap.size w w5) := Lib.hid ((Below_drewN WA.out _).trans (d5.to_below (HP.out.dc.drewN _))); clear d5 hx5)
              | (go_at_call 12; refine (codeV_any cd hcd0 hcd13 _).mono ?_; rintro e w' ⟨rfl, rfl⟩)
              | (go_at_call 21; refine (rapply_c ⟨d.op, rid, d.par, d.bef, d.tag, d.txt, d.key, al⟩ d.va.A d.va.n d.va.c _ HCR.out (by rw [← HE.out]; exact HWF.out) (by have h1 := congrArg D.n HE.out; have h2 : x.n = y.n := h1; omega) (AR.out _ (by exact W5.out)) (by exact P5.out.rf)).mono ?_; rintro e w6 ⟨rfl, y6, d6, hy6⟩; have P6 := Lib.hid (P5.out.rdid d6); have DB6 := Lib.hid (DB5.out.rdid P5.out.rf d6); have NR6 := Lib.hid (NR5.out.by_ d6.but (fun e => by subst e; exact heap_ne P5.out.rf.blk NR5.out (by decide) rfl)); have K2 := And.intro NR6.out.c0 (And.intro NR6.out.c1 (And.intro NR6.out.c2 (And.intro NR6.out.c3 (And.intro NR6.out.c4 (And.intro NR6.out.c5 (And.intro NR6.out.c6 NR6.out.c7)))))); have HY6 := Lib.hid hy6; have W6 : Hid (Below w.heap.size w w6) := Lib.hid (W5.out.trans (d6.to_below P5.out.rf)); clear d6 hy6)
              | fail))

            have hn5 : x5.n ≤ (k : Int) + 2 := by have h1 := congrArg D.n HX5.out; have h2 := (apply_n x.d ⟨d.op, rid, d.par, d.bef, d.tag, d.txt, d.key, al⟩).2; rw [← h1] at h2; have h3 : x5.n ≤ x.n + 1 := h2; omega
            go_wp2_with fail
            go_meet
            exact ⟨p, x5, y6, rfl, P6.out, by rw [HX5.out, HY6.out, HE.out], by rw [HX5.out]; exact wf_apply HWF.out _, hn5, DB6.out, W6.out⟩
        · as_aux_lemma =>
            have e0 := DB.out.c0
            have e1 := DB.out.c1
            have e2 := DB.out.c2
            have e3 := DB.out.c3
            have e4 := DB.out.c4
            have e5 := DB.out.c5
            have e6 := DB.out.c6
            have e7 := DB.out.c7
            have e8 := DB.out.c8
            have e9 := DB.out.c9
            have e10 := DB.out.c10
            have e11 := DB.out.c11
            go_wp2_with fail
            refine (rec_any d wa hn100 HP.out.dc).mono ?_
            rintro e w4 ⟨rfl, b4⟩
            generalize hrid : (if d.next = true ∧ d.op = 1 then x.n + 1 else d.rid) = rid
            have B4 := Lib.hid b4
            obtain ⟨al, a1, a2, a3, a4, a5, a6⟩ := hdk.out.at_
            clear b4 hrid e0 e1 e2 e3 e4 e5 e6 e7 e8 e9 e10 e11
            have BA : Hid (Below wa.heap.size wa (w4.alloc (.cells #[.int .i64 d.op, .int .i64 rid, .int .i64 d.par, .int .i64 d.bef, .string d.tag, .string d.txt, .string d.key, .slice d.va.A d.va.n d.va.c] 35))) := Lib.hid (B4.out.alloc B4.out.size _)
            have NR : Hid (RcB (w4.alloc (.cells #[.int .i64 d.op, .int .i64 rid, .int .i64 d.par, .int .i64 d.bef, .string d.tag, .string d.txt, .string d.key, .slice d.va.A d.va.n d.va.c] 35)) w4.heap.size ⟨d.op, rid, d.par, d.bef, d.tag, d.txt, d.key, al⟩ d.va.A d.va.n d.va.c) := Lib.hid (RcB.new w4 ⟨d.op, rid, d.par, d.bef, d.tag, d.txt, d.key, al⟩ d.va.A d.va.n d.va.c)
            go_upto_region 14 with fail
            generalize w4.alloc (.cells #[.int .i64 d.op, .int .i64 rid, .int .i64 d.par, .int .i64 d.bef, .string d.tag, .string d.txt, .string d.key, .slice d.va.A d.va.n d.va.c] 35) = wb at BA NR ⊢
            have HPa := Lib.hid (HP.out.below BA.out)
            have DBa := Lib.hid (DB.out.below BA.out DB.out.lt)
            have WAa := Lib.hid (WA.out.trans (BA.out.mono WA.out.size))
            have AR : Hid (∀ w9, Below w.heap.size w w9 → ArgR w9 d.va.A d.va.n d.va.c ⟨d.op, rid, d.par, d.bef, d.tag, d.txt, d.key, al⟩) := Lib.hid (fun w9 hb => ⟨⟨a1, a2, a4, by omega, a6, a5.on hb⟩, hdk.out.tag, hdk.out.txt, hdk.out.key⟩)
            clear a1 a2 a3 a4 a5 a6 HP DB WA B4 BA
            have HP := HPa
            have DB := DBa
            have WA := WAa
            clear HPa DBa WAa
            have r0 := NR.out.c0
            have r1 := NR.out.c1
            have r2 := NR.out.c2
            have r3 := NR.out.c3
            have r4 := NR.out.c4
            have r5 := NR.out.c5
            have r6 := NR.out.c6
            have r7 := NR.out.c7
            simp only at r0 r1 r2 r3 r4 r5 r6 r7
            obtain ⟨cd, hcd⟩ : ∃ c, (applyD x.d ⟨d.op, rid, d.par, d.bef, d.tag, d.txt, d.key, al⟩).1 = c := ⟨_, rfl⟩
            have HCD := Lib.hid hcd
            have HCR : Hid ((applyD y.d ⟨d.op, rid, d.par, d.bef, d.tag, d.txt, d.key, al⟩).1 = cd) := Lib.hid (by rw [← HE.out]; exact hcd)
            have hcd0 : 0 ≤ cd := by rw [← hcd]; exact (apply_code _ _).1
            have hcd13 : cd ≤ 13 := by rw [← hcd]; exact (apply_code _ _).2
            have qcd : (cd != cd) = false := by simp
            clear hcd
            go_region_held3 (fun w' => w'.cell? ⟨w4.heap.size, 0, none⟩ = some (.int .i64 d.op) ∧ w'.cell? ⟨w4.heap.size, 1, none⟩ = some (.int .i64 rid) ∧ w'.cell? ⟨w4.heap.size, 2, none⟩ = some (.int .i64 d.par) ∧ w'.cell? ⟨w4.heap.size, 3, none⟩ = some (.int .i64 d.bef) ∧ w'.cell? ⟨w4.heap.size, 4, none⟩ = some (.string d.tag) ∧ w'.cell? ⟨w4.heap.size, 5, none⟩ = some (.string d.txt) ∧ w'.cell? ⟨w4.heap.size, 6, none⟩ = some (.string d.key) ∧ w'.cell? ⟨w4.heap.size, 7, none⟩ = some (.slice d.va.A d.va.n d.va.c)) (first | go_keep | exact K1 | exact K2) ((first
              | (go_at_call 18; refine (apply_c ⟨d.op, rid, d.par, d.bef, d.tag, d.txt, d.key, al⟩ d.va.A d.va.n d.va.c _ HCD.out HWF.out hn100 (AR.out _ (Below_drewN WA.out _)) (by exact (HP.out.drewN _).dc)).mono ?_; rintro e w5 ⟨rfl, x5, d5, hx5⟩; have P5 := Lib.hid ((HP.out.drewN _).did d5); have DB5 := Lib.hid (DE.did (w := wb.drewN _) DB.out (HP.out.dc.drewN _) d5); have NR5 := Lib.hid (RcB.did (w := wb.drewN _) NR.out (HP.out.dc.drewN _) d5); have K1 := And.intro NR5.out.c0 (And.intro NR5.out.c1 (And.intro NR5.out.c2 (And.intro NR5.out.c3 (And.intro NR5.out.c4 (And.intro NR5.out.c5 (And.intro NR5.out.c6 NR5.out.c7)))))); have HX5 := Lib.hid hx5; have W5 : Hid (Below w.heap.size w w5) := Lib.hid ((Below_drewN WA.out _).trans (d5.to_below (HP.out.dc.drewN _))); clear d5 hx5)
              | (go_at_call 12; refine (codeV_any cd hcd0 hcd13 _).mono ?_; rintro e w' ⟨rfl, rfl⟩)
              | (go_at_call 21; refine (rapply_c ⟨d.op, rid, d.par, d.bef, d.tag, d.txt, d.key, al⟩ d.va.A d.va.n d.va.c _ HCR.out (by rw [← HE.out]; exact HWF.out) (by have h1 := congrArg D.n HE.out; have h2 : x.n = y.n := h1; omega) (AR.out _ (by exact W5.out)) (by exact P5.out.rf)).mono ?_; rintro e w6 ⟨rfl, y6, d6, hy6⟩; have P6 := Lib.hid (P5.out.rdid d6); have DB6 := Lib.hid (DB5.out.rdid P5.out.rf d6); have NR6 := Lib.hid (NR5.out.by_ d6.but (fun e => by subst e; exact heap_ne P5.out.rf.blk NR5.out (by decide) rfl)); have K2 := And.intro NR6.out.c0 (And.intro NR6.out.c1 (And.intro NR6.out.c2 (And.intro NR6.out.c3 (And.intro NR6.out.c4 (And.intro NR6.out.c5 (And.intro NR6.out.c6 NR6.out.c7)))))); have HY6 := Lib.hid hy6; have W6 : Hid (Below w.heap.size w w6) := Lib.hid (W5.out.trans (d6.to_below P5.out.rf)); clear d6 hy6)
              | fail))

            have hn5 : x5.n ≤ (k : Int) + 2 := by have h1 := congrArg D.n HX5.out; have h2 := (apply_n x.d ⟨d.op, rid, d.par, d.bef, d.tag, d.txt, d.key, al⟩).2; rw [← h1] at h2; have h3 : x5.n ≤ x.n + 1 := h2; omega
            go_wp2_with fail
            go_meet
            exact ⟨p, x5, y6, rfl, P6.out, by rw [HX5.out, HY6.out, HE.out], by rw [HX5.out]; exact wf_apply HWF.out _, hn5, DB6.out, W6.out⟩
        · as_aux_lemma =>
            have e3 := DB.out.c10
            obtain ⟨cd, hcd⟩ : ∃ c, (focusD x.d d.id).1 = c := ⟨_, rfl⟩
            have HCD := Lib.hid hcd
            have HCR : Hid ((focusD y.d d.id).1 = cd) := Lib.hid (by rw [← HE.out]; exact hcd)
            have hcd0 : 0 ≤ cd := by rw [← hcd]; exact (focus_code _ _).1
            have hcd13 : cd ≤ 13 := by rw [← hcd]; exact (focus_code _ _).2
            have qcd : (cd != cd) = false := by simp
            clear hcd
            go_wp2_with fail
            go_region_held3 (fun w' => w'.cell? ⟨g, 10, none⟩ = some (.int .i64 d.id)) (first | go_keep | exact K1 | exact K2) ((first
              | (go_at_call 13; refine (setFocus_c d.id _ HCD.out (by exact (HP.out.drewN _).dc)).mono ?_; rintro e w5 ⟨rfl, x5, d5, hx5⟩; have P5 := Lib.hid ((HP.out.drewN _).did d5); have DB5 := Lib.hid (DE.did (w := wa.drewN _) DB.out (HP.out.dc.drewN _) d5); have K1 := DB5.out.c10; have HX5 := Lib.hid hx5; have W5 : Hid (Below w.heap.size w w5) := Lib.hid ((Below_drewN WA.out _).trans (d5.to_below (HP.out.dc.drewN _))); clear d5 hx5)
              | (go_at_call 12; refine (codeV_any cd hcd0 hcd13 _).mono ?_; rintro e w' ⟨rfl, rfl⟩)
              | (go_at_call 14; refine (rfocus_c d.id _ HCR.out (by rw [← HE.out]; exact HWF.out) (by exact P5.out.rf)).mono ?_; rintro e w6 ⟨rfl, y6, d6, hy6⟩; have P6 := Lib.hid (P5.out.rdid d6); have DB6 := Lib.hid (DB5.out.rdid P5.out.rf d6); have K2 := DB6.out.c10; have HY6 := Lib.hid hy6; have W6 : Hid (Below w.heap.size w w6) := Lib.hid (W5.out.trans (d6.to_below P5.out.rf)); clear d6 hy6)
              | fail))

            have hn5 : x5.n ≤ (k : Int) + 2 := by have h1 := congrArg D.n HX5.out; rw [focus_n] at h1; have h2 : x5.n = x.n := h1; omega
            go_wp2_with fail
            go_meet
            exact ⟨p, x5, y6, rfl, P6.out, by rw [HX5.out, HY6.out, HE.out], by rw [HX5.out]; exact wf_focus HWF.out _, hn5, DB6.out, W6.out⟩
        · as_aux_lemma =>
            have e3 := DB.out.c10
            have e4 := DB.out.c11
            obtain ⟨cd, hcd⟩ : ∃ c, (noteD x.d d.id d.n).1 = c := ⟨_, rfl⟩
            have HCD := Lib.hid hcd
            have HCR : Hid ((noteD y.d d.id d.n).1 = cd) := Lib.hid (by rw [← HE.out]; exact hcd)
            have hcd0 : 0 ≤ cd := by rw [← hcd]; exact (note_code _ _ _).1
            have hcd13 : cd ≤ 13 := by rw [← hcd]; exact (note_code _ _ _).2
            have qcd : (cd != cd) = false := by simp
            clear hcd
            go_wp2_with fail
            go_region_held3 (fun w' => w'.cell? ⟨g, 10, none⟩ = some (.int .i64 d.id) ∧ w'.cell? ⟨g, 11, none⟩ = some (.int .i64 d.n)) (first | go_keep | exact K1 | exact K2) ((first
              | (go_at_call 15; refine (note_c d.id d.n _ HCD.out (by exact (HP.out.drewN _).dc)).mono ?_; rintro e w5 ⟨rfl, x5, d5, hx5⟩; have P5 := Lib.hid ((HP.out.drewN _).did d5); have DB5 := Lib.hid (DE.did (w := wa.drewN _) DB.out (HP.out.dc.drewN _) d5); have K1 := And.intro DB5.out.c10 DB5.out.c11; have HX5 := Lib.hid hx5; have W5 : Hid (Below w.heap.size w w5) := Lib.hid ((Below_drewN WA.out _).trans (d5.to_below (HP.out.dc.drewN _))); clear d5 hx5)
              | (go_at_call 12; refine (codeV_any cd hcd0 hcd13 _).mono ?_; rintro e w' ⟨rfl, rfl⟩)
              | (go_at_call 16; refine (rnote_c d.id d.n _ HCR.out (by rw [← HE.out]; exact HWF.out) (by exact P5.out.rf)).mono ?_; rintro e w6 ⟨rfl, y6, d6, hy6⟩; have P6 := Lib.hid (P5.out.rdid d6); have DB6 := Lib.hid (DB5.out.rdid P5.out.rf d6); have K2 := And.intro DB6.out.c10 DB6.out.c11; have HY6 := Lib.hid hy6; have W6 : Hid (Below w.heap.size w w6) := Lib.hid (W5.out.trans (d6.to_below P5.out.rf)); clear d6 hy6)
              | fail))

            have hn5 : x5.n ≤ (k : Int) + 2 := by have h1 := congrArg D.n HX5.out; rw [note_n] at h1; have h2 : x5.n = x.n := h1; omega
            go_wp2_with fail
            go_meet
            exact ⟨p, x5, y6, rfl, P6.out, by rw [HX5.out, HY6.out, HE.out], by rw [HX5.out]; exact wf_note HWF.out _ _, hn5, DB6.out, W6.out⟩
        · as_aux_lemma =>
            go_wp2_with fail
            refine (dclone_any wa HWF.out HP.out.dc).mono ?_
            rintro e w5 ⟨p', x', rfl, dc5, hx5, b5⟩
            have P5 := Lib.hid (HP.out.fresh b5 dc5)
            have G5 : Hid (∀ i, foot p' x' i → wa.heap.size ≤ i) := Lib.hid (fun i hi => dc5.ge hi)
            have O5 : Hid (∀ i, foot p x i → i < wa.heap.size) := Lib.hid (fun i hi => HP.out.dc.lt hi)
            have AP5 : Hid (∀ i, foot p x i → ¬ rfoot q y i) := Lib.hid HP.out.ap
            have X5 := Lib.hid (HP.out.dc.below b5)
            have DB5 := Lib.hid (DB.out.below b5 DB.out.lt)
            have HX5 := Lib.hid hx5
            have W5 := Lib.hid (WA.out.trans (b5.mono WA.out.size))
            clear dc5 hx5 b5
            go_wp2_with fail
            refine (next_any w5 hn100 rfl X5.out).mono ?_
            rintro e w' ⟨rfl, rfl⟩
            go_wp2_with fail
            refine (apply_any ⟨1, x.n + 1, 0, 0, ⟨#[120]⟩, ⟨#[]⟩, ⟨#[]⟩, []⟩ none 0 0 w5 HWF.out hn100 ⟨argNil _, size_x, size_nil, size_nil⟩ X5.out).mono ?_
            rintro e w6 ⟨rfl, x6, d6, hx6⟩
            have P6 := Lib.hid (P5.out.old O5.out G5.out AP5.out X5.out d6)
            have DB6 := Lib.hid (DB5.out.did X5.out d6)
            have W6 := Lib.hid (W5.out.trans (d6.to_below X5.out))
            have X6 := Lib.hid d6.dc
            have FR6 : Hid (∀ i, foot p x6 i → ¬ rfoot q y i ∧ ¬ foot p' x' i) := Lib.hid (fun i hi => by
              rcases d6.ft i hi with e | e
              · exact ⟨AP5.out i e, fun hf => by have := O5.out i e; have := G5.out i hf; omega⟩
              · exact ⟨fun hr => by have := P5.out.rf.lt hr; omega, fun hf => by have := P5.out.dc.lt hf; omega⟩)
            generalize errV (applyD x.d ⟨1, x.n + 1, 0, 0, ⟨#[120]⟩, ⟨#[]⟩, ⟨#[]⟩, []⟩).1 = ev6
            clear d6 hx6
            go_wp2_with fail
            refine (note_any 1 99 w6 X6.out).mono ?_
            rintro e w7 ⟨rfl, x7, d7, hx7⟩
            have P7 : Hid (Par w7 w.heap.size p' q x' y) := Lib.hid ⟨P6.out.dc.but d7.but (fun i hi hf => (FR6.out i hf).2 hi) X6.out.noA, P6.out.rf.but d7.but (fun i hi hf => (FR6.out i hf).1 hi) X6.out.noA, P6.out.ap⟩
            have DB7 := Lib.hid (DB6.out.did X6.out d7)
            have W7 := Lib.hid (W6.out.trans (d7.to_below X6.out))
            generalize errV (noteD x6.d 1 99).1 = ev7
            clear d7 hx7
            have hn5 : x'.n ≤ (k : Int) + 2 := by have h1 := congrArg D.n HX5.out; have h2 : x'.n = x.n := h1; omega
            go_wp2_with fail
            go_meet
            exact ⟨p', x', y, rfl, P7.out, by rw [HX5.out, HE.out], by rw [HX5.out]; exact HWF.out, hn5, DB7.out, W7.out⟩

      case rest =>
        as_aux_lemma =>
          obtain ⟨p2, x2, y2, rfl, hp2, he2, hwf2, hn2, db2, wb2⟩ := hcut
          obtain ⟨w8, rfl⟩ : ∃ w8, w8 = wc := ⟨_, rfl⟩
          have P8 := Lib.hid hp2
          have E8 := Lib.hid he2
          have WF8 := Lib.hid hwf2
          have DB8 := Lib.hid db2
          have W8 := Lib.hid wb2
          have hn8 : x2.n ≤ 100000 := by omega
          have LY : Hid (y2.rs.length ≤ 1000) := Lib.hid (by have h1 := hwf2.len200; rw [he2, show y2.d.l = y2.l from rfl, rl_len] at h1; omega)
          have AY : Hid (Asc y2.l) := Lib.hid (by have h1 := hwf2.asc; rw [he2] at h1; exact h1)
          clear hp2 he2 hwf2 db2 wb2
          go_wp2_with fail
          refine (same_any w8 WF8.out hn8 E8.out P8.out.dc P8.out.rf).mono ?_
          rintro e w9 ⟨rfl, b9⟩
          have P9 := Lib.hid (P8.out.below b9)
          have DB9 := Lib.hid (DB8.out.below b9 DB8.out.lt)
          have W9 := Lib.hid (W8.out.trans (b9.mono W8.out.size))
          have e10 := DB9.out.c10
          clear b9
          cases hh : hasL x2.l d.id with
          | true =>
            have hhy : hasL y2.l d.id = true := by rw [← show x2.l = y2.l from congrArg D.l E8.out]; exact hh
            obtain ⟨kx, hkx, hyx, _⟩ := P9.out.dc.place hh
            obtain ⟨ky, hky, hyy, _⟩ := rplace AY.out hhy
            obtain ⟨f1, f2, _, _, _, _, _⟩ := nd_kids P9.out.dc WF8.out hkx
            have HYX := Lib.hid hyx
            have HYY := Lib.hid hyy
            obtain ⟨nd, hnd⟩ : ∃ nd, x2.rs[kx].nd = nd := ⟨_, rfl⟩
            have HND := Lib.hid hnd
            rw [hnd] at f1 f2
            clear hh hhy hyx hyy hnd
            go_wp2_with fail
            refine (tell_yes d.id (k := kx) (nd := nd) w9 hkx HYX.out HND.out f1 f2 P9.out.dc).mono ?_
            rintro e w10 ⟨A7, n7, c7, A8, n8, c8, rfl, ha, ho, b10⟩
            have BB : Hid (Below w9.heap.size w9 (w10.alloc (.cells #[.int .i64 nd.id, .int .i64 nd.par, .string nd.tag, .string nd.txt, .string nd.key, .slice A7 n7 c7, .slice A8 n8 c8, .int .i64 nd.note] 52))) := Lib.hid (b10.alloc b10.size _)
            clear ha ho b10 e10
            go_upto_region 32 with fail
            generalize w10.alloc (.cells #[.int .i64 nd.id, .int .i64 nd.par, .string nd.tag, .string nd.txt, .string nd.key, .slice A7 n7 c7, .slice A8 n8 c8, .int .i64 nd.note] 52) = w11 at BB ⊢
            have P11 := Lib.hid (P9.out.below BB.out)
            have DB11 := Lib.hid (DB9.out.below BB.out DB9.out.lt)
            have W11 := Lib.hid (W9.out.trans (BB.out.mono W9.out.size))
            have e11 := DB11.out.c10
            go_wp2_with fail
            refine (at_yes d.id w11 AY.out LY.out hky HYY.out P11.out.rf).mono ?_
            rintro e w' ⟨rfl, rfl⟩
            go_wp2_with fail
            go_roundw
            case rel => exact ⟨k + 1, p2, x2, y2, by omega, by go_num, rfl, by omega, P11, E8, WF8, W11⟩
            case measure => simp [intOf]; omega
          | false =>
            have hhy : hasL y2.l d.id = false := by rw [← show x2.l = y2.l from congrArg D.l E8.out]; exact hh
            have HH2 := Lib.hid hh
            have HHY := Lib.hid hhy
            clear hh hhy
            go_wp2_with fail
            refine (tell_no d.id w9 HH2.out P9.out.dc).mono ?_
            rintro e w10 ⟨rfl, b10⟩
            have BB : Hid (Below w9.heap.size w9 (w10.alloc (.cells #[.int .i64 0, .int .i64 0, .string ⟨#[]⟩, .string ⟨#[]⟩, .string ⟨#[]⟩, .slice none 0 0, .slice none 0 0, .int .i64 0] 52))) := Lib.hid (b10.alloc b10.size _)
            clear b10 e10
            go_upto_region 32 with fail
            generalize w10.alloc (.cells #[.int .i64 0, .int .i64 0, .string ⟨#[]⟩, .string ⟨#[]⟩, .string ⟨#[]⟩, .slice none 0 0, .slice none 0 0, .int .i64 0] 52) = w11 at BB ⊢
            have P11 := Lib.hid (P9.out.below BB.out)
            have DB11 := Lib.hid (DB9.out.below BB.out DB9.out.lt)
            have W11 := Lib.hid (W9.out.trans (BB.out.mono W9.out.size))
            have e11 := DB11.out.c10
            go_wp2_with fail
            refine (at_no d.id w11 LY.out HHY.out P11.out.rf).mono ?_
            rintro e w' ⟨rfl, rfl⟩
            go_wp2_with fail
            go_roundw
            case rel => exact ⟨k + 1, p2, x2, y2, by omega, by go_num, rfl, by omega, P11, E8, WF8, W11⟩
            case measure => simp [intOf]; omega
    · obtain rfl : k = m := by omega
      go_wp2_with fail
      go_ret
      exact ⟨rfl, HW.out⟩
end Go.Proofs.Ytmcnmgkfloidpaa.P5
