/- The reference's put: it is done. -/
import Derived.Test.YtihjdmdafiifhaaGreatM24
set_option linter.unusedVariables false
set_option linter.unusedSimpArgs false
set_option linter.unusedVariables false
set_option linter.unusedSimpArgs false
namespace Go.Proofs.YtihjdmdafiifhaaGreat.P5
open Go.RowKit Kd P4
variable {B q : Nat} {y : Rx}
set_option maxRecDepth 100000 in
set_option maxHeartbeats 20000000 in
theorem rput_y0 (r : Rc) (A : Option Addr) (n c : Nat) (w : World) (ha : Asc y.l) (hl : y.rs.length ≤ 1000) (hi : hasL y.l r.id = true) (hp : hasL y.l r.par = true) (hq : (r.bef != 0) = false) (h1 : (r.id == 1) = false) (hwf : WF y.d) (hnk : noKids (tagOf y.l r.par) = false) (hin : inside y.l r.par r.id = false) (hb0 : r.bef = 0) (h : Rf w B q y) : Calls Tryz.prog 36 #[.pointer (some ⟨q, 0, none⟩), .agg #[.int .i64 r.op, .int .i64 r.id, .int .i64 r.par, .int .i64 r.bef, .string r.tag, .string r.txt, .string r.key, .slice A n c]] w (RMade w B q y 0 { y.d with l := putL y.l r.id r.par r.bef }) := by
  have B1 : Hid (Below w.heap.size w (w.alloc (.cells #[.int .i64 r.op, .int .i64 r.id, .int .i64 r.par, .int .i64 r.bef, .string r.tag, .string r.txt, .string r.key, .slice A n c] 54))) := Lib.hid ((Below.refl _ _).alloc (Nat.le_refl _) _)
  have N1 : Hid (RcB (w.alloc (.cells #[.int .i64 r.op, .int .i64 r.id, .int .i64 r.par, .int .i64 r.bef, .string r.tag, .string r.txt, .string r.key, .slice A n c] 54)) w.heap.size r A n c) := Lib.hid (RcB.new w r A n c)
  have H0 := Lib.hid h
  have HA := Lib.hid ha
  obtain ⟨ki, hki, hyki, _⟩ := rplace ha hi
  have HYki := Lib.hid hyki
  have HB0 := Lib.hid hb0
  clear h hb0
  go_enter Tryz.func36, Tryz.ntmps36
  go_upto_region 1 with fail
  generalize w.alloc (.cells #[.int .i64 r.op, .int .i64 r.id, .int .i64 r.par, .int .i64 r.bef, .string r.tag, .string r.txt, .string r.key, .slice A n c] 54) = W at B1 N1 ⊢
  have H := Lib.hid (H0.out.below B1.out)
  have b1 := N1.out.c1
  have b2 := N1.out.c2
  have b3 := N1.out.c3
  obtain ⟨k, hk, hy, _⟩ := rplace HA.out hp
  obtain ⟨b, o, cl, A1, nn, ca, A2, n2, c2', hv, hcl, hb, d0, L, hva, hvk⟩ := H.out.lies hk
  have HVA := Lib.hid hva
  have HVK := Lib.hid hvk
  have HY := Lib.hid hy
  obtain ⟨nl, hnl⟩ : ∃ nl, y.rs.length = nl := ⟨_, rfl⟩
  have HNL := Lib.hid hnl
  have hkn : k < nl := by omega
  have hl2 : nl ≤ 1000 := by omega
  rw [hnl] at d0 hcl
  obtain ⟨m, hm⟩ : ∃ m, y.rs[k].nd = m := ⟨_, rfl⟩
  have HM := Lib.hid hm
  rw [hm] at L
  have l0 := L.c0
  have l1 := L.c1
  have l2 := L.c2
  have l3 := L.c3
  have l4 := L.c4
  have l5 := L.c5
  have l6 := L.c6
  have l7 := L.c7
  have hqlt := heap_lt H.out.blk
  have hgA : ∀ g, (Value.slice A2 n2 c2').ownBlock = some g → rfoot q y g := fun g hg => .inr (.inr ⟨_, List.getElem_mem hk, by rw [hvk]; exact hg⟩)
  have HGA := Lib.hid hgA
  have hR := H.out.nodes _ (List.getElem_mem hk)
  rw [show y.rs[k] = (⟨⟨A1, nn, ca⟩, ⟨A2, n2, c2'⟩, m⟩ : Rn) by cases e : y.rs[k]; rw [e] at hva hvk hm; cases hva; cases hvk; cases hm; rfl] at hR
  have HR := Lib.hid hR
  clear hv hva hvk hnl hm L hgA hR
  have HNK : Hid (noKids m.tag = false) := Lib.hid (by rw [← HM.out, ← (rtag_at HA.out hk HY.out).1]; exact hnk)
  clear hnk
  have HPH := Lib.hid hp
  have HIH := Lib.hid hi
  have HWF := Lib.hid hwf
  clear hwf
  go_wp2_with fail
  refine (at_yes r.id W HA.out hl hki HYki.out H.out).mono ?_
  rintro e w' ⟨rfl, rfl⟩
  go_wp2_with fail
  refine (at_yes r.par W HA.out hl hk HY.out H.out).mono ?_
  rintro e w' ⟨rfl, rfl⟩
  go_upto_region 5 with fail
  go_cut [5] (fun s5 wx => s5 = .pointer (some ⟨W.heap.size, 0, none⟩) ∧ Hid (Below W.heap.size W wx) ∧ Hid (NdB wx W.heap.size m A1 nn ca A2 n2 c2'))
  case first =>
    go_region_held3 (fun w' => w'.cell? ⟨q, 0, none⟩ = some (.slice (some ⟨b, o, none⟩) nl cl) ∧ w'.cell? ⟨b, o + k * 8, none⟩ = some (.int .i64 m.id) ∧ w'.cell? ⟨b, o + k * 8 + 1, none⟩ = some (.int .i64 m.par) ∧ w'.cell? ⟨b, o + k * 8 + 2, none⟩ = some (.string m.tag) ∧ w'.cell? ⟨b, o + k * 8 + 3, none⟩ = some (.string m.txt) ∧ w'.cell? ⟨b, o + k * 8 + 4, none⟩ = some (.string m.key) ∧ w'.cell? ⟨b, o + k * 8 + 5, none⟩ = some (.slice A1 nn ca) ∧ w'.cell? ⟨b, o + k * 8 + 6, none⟩ = some (.slice A2 n2 c2') ∧ w'.cell? ⟨b, o + k * 8 + 7, none⟩ = some (.int .i64 m.note) ∧ w'.cell? ⟨w.heap.size, 2, none⟩ = some (.int .i64 r.par)) (go_keep) ((first
      | (go_at_call 8; refine (at_yes r.par _ HA.out hl hk HY.out (by exact H.out.drewN _)).mono ?_; rintro e w3 ⟨rfl, rfl⟩)
      | (go_at_call 8; refine (at_yes r.par _ HA.out hl hk HY.out (by exact (H.out.alloc _).drewN _)).mono ?_; rintro e w3 ⟨rfl, rfl⟩)
      | fail))
    all_goals
      go_wp2_with fail
      go_meet
      exact ⟨rfl, Lib.hid (((Below.refl _ _).alloc (Nat.le_refl _) _).drew), Lib.hid (heap_drew (NdB.new W m A1 nn ca A2 n2 c2'))⟩
  case rest =>
    obtain ⟨rfl, B2, N2⟩ := hcut
    obtain ⟨w2, rfl⟩ : ∃ w2, w2 = wc := ⟨_, rfl⟩
    clear l0 l1 l2 l3 l4 l5 l6 l7 d0 b1 b2 b3
    have a2 := N2.out.c2
    have BB2 := Lib.hid (B1.out.trans (B2.out.mono B1.out.size))
    have H2 := Lib.hid (H0.out.below BB2.out)
    have R2 := Lib.hid (N1.out.below B2.out N1.out.lt)
    have hz2 : W.heap.size < w2.heap.size := N2.out.lt
    go_wp2_with fail
    refine (P1.rvoid_any m.tag w2).mono ?_
    rintro e w' ⟨rfl, rfl⟩
    have tE : m.tag.toList.isEmpty = false := by
      cases e : m.tag.toList.isEmpty with
      | false => rfl
      | true =>
        have := HNK.out
        unfold noKids at this
        rw [List.isEmpty_iff] at e
        simp [e] at this
    have hv : P1.voidB m.tag.data.toList = false := by
      cases e : P1.voidB m.tag.data.toList with
      | false => rfl
      | true =>
        have := HNK.out
        unfold noKids at this
        simp [e] at this
    rw [hv]
    have c1 := R2.out.c1
    have c2 := R2.out.c2
    have c3 := R2.out.c3
    go_wp2_with fail
    go_quiet (fail)
    go_wp2_with fail
    have BN := Lib.hid (Below_drewN BB2.out nq)
    refine (rinside_any r.par r.id _ HA.out hl (by exact H2.out.drewN nq)).mono ?_
    rintro e w5 ⟨rfl, b5⟩
    have B5 := Lib.hid (BN.out.trans (b5.mono (by exact BB2.out.size)))
    have N5 : Hid (NdB w5 W.heap.size m A1 nn ca A2 n2 c2') := Lib.hid (NdB.below (w := w2.drewN nq) N2.out b5 hz2)
    have R5 : Hid (RcB w5 w.heap.size r A n c) := Lib.hid (RcB.below (w := w2.drewN nq) R2.out b5 R2.out.lt)
    have hz5 : w2.heap.size ≤ w5.heap.size := b5.size
    have hzw : w.heap.size < W.heap.size := N1.out.lt
    rw [hin]
    clear b5 c1 c2 c3 a2
    have e1 := R5.out.c1
    go_wp2_with fail
    refine (rleave_any r.id w5 HWF.out HIH.out (H0.out.below B5.out)).mono ?_
    rintro e w6 ⟨rfl, v6, rs6, r6, l6⟩
    obtain ⟨y6, hy6⟩ : ∃ y6 : Rx, y6 = { y with v := v6, rs := rs6 } := ⟨_, rfl⟩
    have L6 : Hid (y6.l = leaveL y.l r.id) := Lib.hid (by rw [hy6]; exact l6)
    have F6 : Hid (y6.n = y.n ∧ y6.R = y.R ∧ y6.foc = y.foc) := Lib.hid (by rw [hy6]; exact ⟨rfl, rfl, rfl⟩)
    rw [← hy6] at r6
    have NF6 : Hid (¬ rfoot q y6 W.heap.size) := Lib.hid (fun hf => by
      rcases r6.ft _ hf with e | e
      · have := H0.out.lt e; omega
      · omega)
    have NR6 : Hid (¬ rfoot q y6 w.heap.size) := Lib.hid (fun hf => by
      rcases r6.ft _ hf with e | e
      · have := H0.out.lt e; omega
      · omega)
    have hqlt0 : q < w.heap.size := heap_lt H0.out.blk
    have N6 := Lib.hid (N5.out.by_ r6.but (by omega))
    have R6 := Lib.hid (R5.out.by_ r6.but (by omega))
    have D6 := Lib.hid ((Rdid.below_ H0.out B5.out).trans r6)
    have HA6 : Hid (Asc y6.l) := Lib.hid (by rw [L6.out]; exact asc_of_ids HA.out (leave_ids _ _))
    have hl6 : y6.rs.length ≤ 1000 := by
      have := len_ids (leave_ids y.l r.id)
      rw [← L6.out, rl_len, rl_len] at this
      omega
    obtain ⟨k6, hk6, hy6', _⟩ := rplace HA6.out (i := r.par) (by rw [L6.out, leave_has]; exact HPH.out)
    have HY6 := Lib.hid hy6'
    have HKK : Hid (kidsOf (leaveL y.l r.id) r.par = y6.rs[k6].nd.kids) := Lib.hid (by rw [← L6.out]; exact (rtag_at HA6.out hk6 hy6').2.2)
    have hkl : y6.rs[k6].nd.kids.length ≤ 1000 := by have := (leave_kids_len HWF.out r.id r.par).1; rw [show y.d.l = y.l from rfl, HKK.out] at this; exact this
    have HK0 : Hid ((0 : Int) ∉ y6.rs[k6].nd.kids) := Lib.hid (by have := (leave_kids_len HWF.out r.id r.par).2; rw [show y.d.l = y.l from rfl, HKK.out] at this; exact this)
    clear r6 l6 hy6 hy6' e1
    obtain ⟨b, o, cl, Ap, np, cap, A2p, n2p, c2p, hv, hcl, hb, d0, L, hva, hvk⟩ := D6.out.rf.lies hk6
    have HBF6 := Lib.hid (D6.out.rf.vblock hv)
    have HVA6 := Lib.hid hva
    have HVK6 := Lib.hid hvk
    obtain ⟨nl, hnl⟩ : ∃ nl, y6.rs.length = nl := ⟨_, rfl⟩
    have hkn6 : k6 < nl := by omega
    have hnl6 : nl ≤ 1000 := by omega
    rw [hnl] at d0 hcl
    obtain ⟨mp, hm⟩ : ∃ m, y6.rs[k6].nd = m := ⟨_, rfl⟩
    have HM6 := Lib.hid hm
    rw [hm] at L
    have l0 := L.c0
    have l1 := L.c1
    have l2 := L.c2
    have l3 := L.c3
    have l4 := L.c4
    have l5 := L.c5
    have l6 := L.c6
    have l7 := L.c7
    rw [hm] at hkl HK0
    clear hv hva hvk hnl hm L
    have far : ∀ (V : World) (i j : Nat) (v : Value), (V.setCell ⟨W.heap.size, i, none⟩ v).cell? ⟨q, j, none⟩ = V.cell? ⟨q, j, none⟩ := fun V i j v => World.cell?_setCell_far _ _ _ _ (by show W.heap.size ≠ q; omega)
    have far2 : ∀ (V : World) (i j : Nat) (v : Value), (V.setCell ⟨W.heap.size, i, none⟩ v).cell? ⟨b, j, none⟩ = V.cell? ⟨b, j, none⟩ := fun V i j v => World.cell?_setCell_far _ _ _ _ (by show W.heap.size ≠ b; rintro rfl; exact NF6.out HBF6.out)
    have far3 : ∀ (V : World) (i j : Nat) (v : Value), (V.setCell ⟨W.heap.size, i, none⟩ v).cell? ⟨w.heap.size, j, none⟩ = V.cell? ⟨w.heap.size, j, none⟩ := fun V i j v => World.cell?_setCell_far _ _ _ _ (by show W.heap.size ≠ w.heap.size; omega)
    have p2 := R6.out.c2
    have u0 := N6.out.c0
    have z0 := N6.out.frozen 0
    have u1 := N6.out.c1
    have z1 := N6.out.frozen 1
    have u2 := N6.out.c2
    have z2 := N6.out.frozen 2
    have u3 := N6.out.c3
    have z3 := N6.out.frozen 3
    have u4 := N6.out.c4
    have z4 := N6.out.frozen 4
    have u5 := N6.out.c5
    have z5 := N6.out.frozen 5
    have u6 := N6.out.c6
    have z6 := N6.out.frozen 6
    have u7 := N6.out.c7
    have z7 := N6.out.frozen 7
    go_upto_region 15 with fail
    go_region_held3 (fun w' => w'.cell? ⟨q, 0, none⟩ = some (.slice (some ⟨b, o, none⟩) nl cl) ∧ w'.cell? ⟨b, o + k6 * 8, none⟩ = some (.int .i64 mp.id) ∧ w'.cell? ⟨b, o + k6 * 8 + 1, none⟩ = some (.int .i64 mp.par) ∧ w'.cell? ⟨b, o + k6 * 8 + 2, none⟩ = some (.string mp.tag) ∧ w'.cell? ⟨b, o + k6 * 8 + 3, none⟩ = some (.string mp.txt) ∧ w'.cell? ⟨b, o + k6 * 8 + 4, none⟩ = some (.string mp.key) ∧ w'.cell? ⟨b, o + k6 * 8 + 5, none⟩ = some (.slice Ap np cap) ∧ w'.cell? ⟨b, o + k6 * 8 + 6, none⟩ = some (.slice A2p n2p c2p) ∧ w'.cell? ⟨b, o + k6 * 8 + 7, none⟩ = some (.int .i64 mp.note) ∧ w'.cell? ⟨w.heap.size, 2, none⟩ = some (.int .i64 r.par)) (first | go_keep | (simp only [World.cell?_drew, far, far2, far3]; exact ⟨d0, l0, l1, l2, l3, l4, l5, l6, l7, p2⟩)) ((first
      | (go_at_call 8; refine (at_yes r.par _ HA6.out hl6 hk6 HY6.out (by exact D6.out.rf.drewN _)).mono ?_; rintro e w3 ⟨rfl, rfl⟩)
      | (go_at_call 8; refine (at_yes r.par _ HA6.out hl6 hk6 HY6.out (by exact (D6.out.rf.alloc _).drewN _)).mono ?_; rintro e w3 ⟨rfl, rfl⟩)
      | fail))
    have N7 : Hid (NdB (((((((((w6.setCell ⟨W.heap.size, 0, none⟩ (.int .i64 mp.id)).setCell ⟨W.heap.size, 1, none⟩ (.int .i64 mp.par)).setCell ⟨W.heap.size, 2, none⟩ (.string mp.tag)).setCell ⟨W.heap.size, 3, none⟩ (.string mp.txt)).setCell ⟨W.heap.size, 4, none⟩ (.string mp.key)).setCell ⟨W.heap.size, 5, none⟩ (.slice Ap np cap)).setCell ⟨W.heap.size, 6, none⟩ (.slice A2p n2p c2p)).setCell ⟨W.heap.size, 7, none⟩ (.int .i64 mp.note)).drew) W.heap.size mp Ap np cap A2p n2p c2p) := Lib.hid (heap_drew (N6.out.set8 (nd' := mp)))
    have D7 : Hid (Rdid w B q y y6 (((((((((w6.setCell ⟨W.heap.size, 0, none⟩ (.int .i64 mp.id)).setCell ⟨W.heap.size, 1, none⟩ (.int .i64 mp.par)).setCell ⟨W.heap.size, 2, none⟩ (.string mp.tag)).setCell ⟨W.heap.size, 3, none⟩ (.string mp.txt)).setCell ⟨W.heap.size, 4, none⟩ (.string mp.key)).setCell ⟨W.heap.size, 5, none⟩ (.slice Ap np cap)).setCell ⟨W.heap.size, 6, none⟩ (.slice A2p n2p c2p)).setCell ⟨W.heap.size, 7, none⟩ (.int .i64 mp.note)).drew)) := Lib.hid (D6.out.outcells (g := W.heap.size) (by omega) NF6.out N6.out.noA 0 [.int .i64 mp.id, .int .i64 mp.par, .string mp.tag, .string mp.txt, .string mp.key, .slice Ap np cap, .slice A2p n2p c2p, .int .i64 mp.note])
    have R7 : Hid (RcB (((((((((w6.setCell ⟨W.heap.size, 0, none⟩ (.int .i64 mp.id)).setCell ⟨W.heap.size, 1, none⟩ (.int .i64 mp.par)).setCell ⟨W.heap.size, 2, none⟩ (.string mp.tag)).setCell ⟨W.heap.size, 3, none⟩ (.string mp.txt)).setCell ⟨W.heap.size, 4, none⟩ (.string mp.key)).setCell ⟨W.heap.size, 5, none⟩ (.slice Ap np cap)).setCell ⟨W.heap.size, 6, none⟩ (.slice A2p n2p c2p)).setCell ⟨W.heap.size, 7, none⟩ (.int .i64 mp.note)).drew) w.heap.size r A n c) := Lib.hid (R6.out.by_ (S := fun i => i = W.heap.size) (But.setCells (S := fun i => i = W.heap.size) (a := w6) (g := W.heap.size) (But.refl _ _) (fun _ => rfl) 0 [.int .i64 mp.id, .int .i64 mp.par, .string mp.tag, .string mp.txt, .string mp.key, .slice Ap np cap, .slice A2p n2p c2p, .int .i64 mp.note]).drew (by omega))
    generalize ((((((((w6.setCell ⟨W.heap.size, 0, none⟩ (.int .i64 mp.id)).setCell ⟨W.heap.size, 1, none⟩ (.int .i64 mp.par)).setCell ⟨W.heap.size, 2, none⟩ (.string mp.tag)).setCell ⟨W.heap.size, 3, none⟩ (.string mp.txt)).setCell ⟨W.heap.size, 4, none⟩ (.string mp.key)).setCell ⟨W.heap.size, 5, none⟩ (.slice Ap np cap)).setCell ⟨W.heap.size, 6, none⟩ (.slice A2p n2p c2p)).setCell ⟨W.heap.size, 7, none⟩ (.int .i64 mp.note)).drew = W7 at N7 D7 R7 ⊢
    clear far far2 far3 d0 l0 l1 l2 l3 l4 l5 l6 l7 p2 u0 u1 u2 u3 u4 u5 u6 u7 z0 z1 z2 z3 z4 z5 z6 z7 hcl hb N6 R6 D6
    have OK7 : kI.Own W7 B (.slice A2p n2p c2p) mp.kids := by have := (D7.out.rf.nodes _ (List.getElem_mem hk6)).kids; rw [HVK6.out, HM6.out] at this; exact this
    obtain ⟨g1, g2, g3, g4, g5⟩ := own_nil_zero OK7 rfl
    have HK := Lib.hid g5
    have HN := Lib.hid g1
    have hn2p : n2p ≤ 1000 := by omega
    have hz7 : W.heap.size < W7.heap.size := N7.out.lt
    have hzr7 : w.heap.size < W7.heap.size := by omega
    clear OK7 g1 g2 g3 g4 g5
    go_wp2_with fail
    go_loopw [8, 9] (fun s8 s9 wr => ∃ j : Nat, j ≤ n2p ∧ s9 = .int .i64 j ∧ Hid (kI.Own wr W7.heap.size s8 (insF r.id r.bef (mp.kids.take j))) ∧ Hid (Below W7.heap.size W7 wr)) (fun _ s9 _ => n2p - (intOf s9).toNat)
    case atStart => exact ⟨0, by omega, rfl, Lib.hid (by simpa [insF] using Kind.Own.nil kI W7 W7.heap.size), Lib.hid (Below.refl _ _)⟩
    case round =>
      obtain ⟨j, hj, rfl, HO, HW⟩ := hrel
      obtain ⟨A8, n8, c8, rfl, h8, _⟩ := HO.out.slice
      have hz8 := HW.out.size
      have N8 := Lib.hid (N7.out.below HW.out hz7)
      have R8 := Lib.hid (R7.out.below HW.out hzr7)
      have x6 := N8.out.c6
      have x1 := R8.out.c1
      have x3 := R8.out.c3
      have HL : Hid ((insF r.id r.bef (mp.kids.take j)).length ≤ 2000) := Lib.hid (by have := insF_len r.id r.bef (mp.kids.take j); rw [List.length_take] at this; omega)
      clear h8
      by_cases hjn : j < n2p
      · have hjl : j < mp.kids.length := by have := HN.out; omega
        obtain ⟨gb, go, rfl, hgb7, hc7⟩ := cell_int HK.out hjl
        have hc : wr.cell? ⟨gb, go + j, none⟩ = some (.int .i64 mp.kids[j]) := (HW.out.cell (p := ⟨gb, go + j, none⟩) hgb7).trans hc7
        have HT1 := Lib.hid (insF_take (i := r.id) (b := r.bef) hjl)
        have HGB := Lib.hid hgb7
        have HC7 := Lib.hid hc7
        clear hgb7 hc7
        by_cases he : mp.kids[j] = r.bef
        · have hqb : (mp.kids[j] == r.bef) = true := by simpa using he
          have HT2 : Hid (insF r.id r.bef (mp.kids.take (j + 1)) = (insF r.id r.bef (mp.kids.take j) ++ [r.id]) ++ [mp.kids[j]]) := Lib.hid (by rw [HT1.out, if_pos he, List.append_assoc]; rfl)
          clear he
          generalize mp.kids[j] = kd at hc hqb HT2 HC7
          go_wp2_with fail
          go_quiet (fail)
          have HOq : Hid (kI.Own (wr.drewN nq) W7.heap.size (.slice A8 n8 c8) (insF r.id r.bef (mp.kids.take j))) := Lib.hid (HO.out.drewN nq)
          have BQ : Hid (Below W7.heap.size W7 (wr.drewN nq)) := Lib.hid (Below_drewN HW.out nq)
          have y6' : (wr.drewN nq).cell? ⟨W.heap.size, 6, none⟩ = some (.slice (some ⟨gb, go, none⟩) n2p c2p) := x6
          have y1' : (wr.drewN nq).cell? ⟨w.heap.size, 1, none⟩ = some (.int .i64 r.id) := x1
          have yc : (wr.drewN nq).cell? ⟨gb, go + j, none⟩ = some (.int .i64 kd) := hc
          have hz8q : W7.heap.size ≤ (wr.drewN nq).heap.size := hz8
          clear x6 x1 x3 hc N8 R8
          generalize wr.drewN nq = wq at HOq BQ y6' y1' yc hz8q ⊢
          go_upto_region 22 with (at_builtin; refine kI.wp_app rfl _ _ rfl (v := .slice A8 n8 c8) (l := insF r.id r.bef (mp.kids.take j)) (m := [r.id]) (B := W7.heap.size) rfl (HOq.out.alloc _) rfl rfl (fun e => by cases e) (Kind.Holds.lit (heap_alloc_new _ _) rfl) (by have := HL.out; simp; omega) (by simp; omega) ?_; intro v' w3 hown hgrow hat; obtain ⟨A9, n9, c9, rfl, _, _, _, _, _⟩ := hown.slice)
          have HO3 := Lib.hid hown
          have BW3 : Hid (Below W7.heap.size W7 w3) := Lib.hid ((BQ.out.alloc hz8q _).grown hgrow (by simp; omega) (fun k hk => (HOq.out.lt hk).1))
          have N8 := Lib.hid (N7.out.below BW3.out hz7)
          have z6 := N8.out.c6
          have hc3 : w3.cell? ⟨gb, go + j, none⟩ = some (.int .i64 kd) := (BW3.out.cell (p := ⟨gb, go + j, none⟩) HGB.out).trans HC7.out
          clear hown hgrow hat y6' y1' yc
          have hz3 := BW3.out.size
          go_wp2_with (at_builtin; refine kI.wp_app rfl _ _ rfl (v := .slice A9 n9 c9) (l := insF r.id r.bef (mp.kids.take j) ++ [r.id]) (m := [kd]) (B := W7.heap.size) rfl (HO3.out.alloc _) rfl rfl (fun e => by cases e) (Kind.Holds.lit (heap_alloc_new _ _) rfl) (by have := HL.out; simp; omega) (by simp; omega) ?_; intro v' w4 hown hgrow hat; obtain ⟨A10, n10, c10, rfl, _, _, _, _, _⟩ := hown.slice)
          have HO4 : Hid (kI.Own w4 W7.heap.size (.slice A10 n10 c10) (insF r.id r.bef (mp.kids.take (j + 1)))) := Lib.hid (by rw [HT2.out]; exact hown)
          have BW4 : Hid (Below W7.heap.size W7 w4) := Lib.hid ((BW3.out.alloc hz3 _).grown hgrow (by simp; omega) (fun k hk => (HO3.out.lt hk).1))
          clear hown hgrow hat z6 hc3
          go_wp2_with fail
          go_roundw
          case rel => exact ⟨j + 1, by omega, by go_num, HO4, BW4⟩
          case measure => simp [intOf]; omega
        · have hqb : (mp.kids[j] == r.bef) = false := by simpa using he
          have HT2 : Hid (insF r.id r.bef (mp.kids.take (j + 1)) = insF r.id r.bef (mp.kids.take j) ++ [mp.kids[j]]) := Lib.hid (by rw [HT1.out, if_neg he])
          clear he
          generalize mp.kids[j] = kd at hc hqb HT2 HC7
          go_wp2_with fail
          go_quiet (fail)
          have HOq : Hid (kI.Own (wr.drewN nq) W7.heap.size (.slice A8 n8 c8) (insF r.id r.bef (mp.kids.take j))) := Lib.hid (HO.out.drewN nq)
          have BQ : Hid (Below W7.heap.size W7 (wr.drewN nq)) := Lib.hid (Below_drewN HW.out nq)
          have y6' : (wr.drewN nq).cell? ⟨W.heap.size, 6, none⟩ = some (.slice (some ⟨gb, go, none⟩) n2p c2p) := x6
          have yc : (wr.drewN nq).cell? ⟨gb, go + j, none⟩ = some (.int .i64 kd) := hc
          have hz8q : W7.heap.size ≤ (wr.drewN nq).heap.size := hz8
          clear x6 x1 x3 hc N8 R8
          generalize wr.drewN nq = wq at HOq BQ y6' yc hz8q ⊢
          go_wp2_with (at_builtin; refine kI.wp_app rfl _ _ rfl (v := .slice A8 n8 c8) (l := insF r.id r.bef (mp.kids.take j)) (m := [kd]) (B := W7.heap.size) rfl (HOq.out.alloc _) rfl rfl (fun e => by cases e) (Kind.Holds.lit (heap_alloc_new _ _) rfl) (by have := HL.out; simp; omega) (by simp; omega) ?_; intro v' w3 hown hgrow hat; obtain ⟨A9, n9, c9, rfl, _, _, _, _, _⟩ := hown.slice)
          have HO4 : Hid (kI.Own w3 W7.heap.size (.slice A9 n9 c9) (insF r.id r.bef (mp.kids.take (j + 1)))) := Lib.hid (by rw [HT2.out]; exact hown)
          have BW4 : Hid (Below W7.heap.size W7 w3) := Lib.hid ((BQ.out.alloc hz8q _).grown hgrow (by simp; omega) (fun k hk => (HOq.out.lt hk).1))
          clear hown hgrow hat y6' yc
          go_wp2_with fail
          go_roundw
          case rel => exact ⟨j + 1, by omega, by go_num, HO4, BW4⟩
          case measure => simp [intOf]; omega
      · obtain rfl : j = n2p := by omega
        have HO2 : Hid (kI.Own wr W7.heap.size (.slice A8 n8 c8) (insF r.id r.bef mp.kids)) := Lib.hid (by have := HO.out; rw [← HN.out, List.take_length] at this; exact this)
        have HE0 : Hid (insF r.id r.bef mp.kids ++ [r.id] = insA r.id r.bef mp.kids) := Lib.hid (by rw [HB0.out]; exact insF_end HK0.out)
        have HL2 : Hid ((insF r.id r.bef mp.kids).length ≤ 2000) := Lib.hid (by have := insF_len r.id r.bef mp.kids; omega)
        have hq0 : (r.bef == 0) = true := by have := HB0.out; simpa using this
        clear hjn
        go_upto_region 25 with (at_builtin; refine kI.wp_app rfl _ _ rfl (v := .slice A8 n8 c8) (l := insF r.id r.bef mp.kids) (m := [r.id]) (B := W7.heap.size) rfl (HO2.out.alloc _) rfl rfl (fun e => by cases e) (Kind.Holds.lit (heap_alloc_new _ _) rfl) (by have := HL2.out; simp; omega) (by simp; omega) ?_; intro v' w3 hown hgrow hat; obtain ⟨A9, n9, c9, rfl, _, _, _, _, _⟩ := hown.slice)
        have HO3 : Hid (kI.Own w3 W7.heap.size (.slice A9 n9 c9) (insA r.id r.bef mp.kids)) := Lib.hid (by rw [← HE0.out]; exact hown)
        have BW3 : Hid (Below W7.heap.size W7 w3) := Lib.hid ((HW.out.alloc hz8 _).grown hgrow (by simp; omega) (fun k hk => (HO2.out.lt hk).1))
        clear hown hgrow hat x6 x1 x3 N8 R8
        have N8 := Lib.hid (N7.out.below BW3.out hz7)
        have R8 := Lib.hid (R7.out.below BW3.out hzr7)
        have f6 := N8.out.frozen 6
        have x6 := N8.out.c6
        have hz3 := BW3.out.size
        have N9 : Hid (NdB (w3.setCell ⟨W.heap.size, 6, none⟩ (.slice A9 n9 c9)) W.heap.size (withKids (insA r.id r.bef) mp) Ap np cap A9 n9 c9) := Lib.hid (heap_set N8.out 6 (.slice A9 n9 c9))
        have R9 : Hid (RcB (w3.setCell ⟨W.heap.size, 6, none⟩ (.slice A9 n9 c9)) w.heap.size r A n c) := Lib.hid ((Below.heap_setCell w3 ⟨W.heap.size, 6, none⟩ (.slice A9 n9 c9) w.heap.size (by simp only; omega)).trans R8.out)
        have O9 : Hid (kI.Own (w3.setCell ⟨W.heap.size, 6, none⟩ (.slice A9 n9 c9)) W7.heap.size (.slice A9 n9 c9) (insA r.id r.bef mp.kids)) := Lib.hid (HO3.out.keep fun g hg => Below.heap_setCell _ _ _ _ (by have := (HO3.out.lt hg).1; simp only [ne_eq]; omega))
        have D9 : Hid (Rdid w B q y y6 (w3.setCell ⟨W.heap.size, 6, none⟩ (.slice A9 n9 c9))) := Lib.hid ((D7.out.below BW3.out).set_out (by omega) NF6.out N8.out.noA 6 _)
        go_upto_region 26 with fail
        generalize w3.setCell ⟨W.heap.size, 6, none⟩ (.slice A9 n9 c9) = W9 at N9 R9 O9 D9 ⊢
        clear N8 R8 x6 f6 HO3 BW3 HO2 HW
        have a0 := N9.out.c0
        have a1 := N9.out.c1
        have a2 := N9.out.c2
        have a3 := N9.out.c3
        have a4 := N9.out.c4
        have a5 := N9.out.c5
        have a6 := N9.out.c6
        have a7 := N9.out.c7
        go_wp2_with fail
        refine (set_any k6 (withKids (insA r.id r.bef) mp) Ap np cap A9 n9 c9 W9 HA6.out hl6 hk6 (by rw [HM6.out]; rfl) ⟨by
          have := (D9.out.rf.nodes _ (List.getElem_mem hk6)).att
          rw [HVA6.out, HM6.out] at this
          exact this, O9.out.base_le (by have := H0.out.base; omega)⟩ D9.out.rf).mono ?_
        rintro e w10 ⟨rfl, v10, r10⟩
        obtain ⟨y10, hy10⟩ : ∃ y10 : Rx, y10 = { y6 with v := v10, rs := y6.rs.set k6 ⟨⟨Ap, np, cap⟩, ⟨A9, n9, c9⟩, withKids (insA r.id r.bef) mp⟩ } := ⟨_, rfl⟩
        rw [← hy10] at r10
        have L10 : Hid (y10.l = upd y6.l r.par (withKids (insA r.id r.bef))) := Lib.hid (by rw [hy10]; exact set_list HA6.out hk6 HY6.out (withKids (insA r.id r.bef)) (by rw [HM6.out]))
        have F10 : Hid (y10.n = y.n ∧ y10.R = y.R ∧ y10.foc = y.foc) := Lib.hid (by rw [hy10]; exact F6.out)
        have D10 : Hid (Rdid w B q y y10 w10) := Lib.hid (D9.out.then_set r10 (fun g hg => .inr (by have := (O9.out.lt hg).1; omega)))
        have R10 : Hid (RcB w10 w.heap.size r A n c) := Lib.hid (R9.out.by_ r10.but (by omega))
        have HA10 : Hid (Asc y10.l) := Lib.hid (by rw [L10.out]; exact asc_of_ids HA6.out (ids_wk _ _ _))
        have hl10 : y10.rs.length ≤ 1000 := by rw [hy10]; simpa using hl6
        obtain ⟨k10, hk10, hy10', _⟩ := rplace HA10.out (i := r.id) (by rw [L10.out, has_wk, L6.out, leave_has]; exact HIH.out)
        have HY10 := Lib.hid hy10'
        clear r10 hy10 hy10' a0 a1 a2 a3 a4 a5 a6 a7 D9 R9 N9
        obtain ⟨b, o, cl, Ai, ni, cai, A2i, n2i, c2i, hv, hcl, hb, d0, L, hva, hvk⟩ := D10.out.rf.lies hk10
        have HBF10 := Lib.hid (D10.out.rf.vblock hv)
        have HVA10 := Lib.hid hva
        have HVK10 := Lib.hid hvk
        obtain ⟨nl, hnl⟩ : ∃ nl, y10.rs.length = nl := ⟨_, rfl⟩
        have hkn10 : k10 < nl := by omega
        have hnl10 : nl ≤ 1000 := by omega
        rw [hnl] at d0 hcl
        obtain ⟨mi, hm⟩ : ∃ m, y10.rs[k10].nd = m := ⟨_, rfl⟩
        have HM10 := Lib.hid hm
        rw [hm] at L
        have l0 := L.c0
        have l1 := L.c1
        have l2 := L.c2
        have l3 := L.c3
        have l4 := L.c4
        have l5 := L.c5
        have l6 := L.c6
        have l7 := L.c7
        clear hv hva hvk hnl hm L
        have p1 := R10.out.c1
        go_upto_region 27 with fail
        go_cut [10] (fun s10 wx => s10 = .pointer (some ⟨w10.heap.size, 0, none⟩) ∧ Hid (Below w10.heap.size w10 wx) ∧ Hid (NdB wx w10.heap.size mi Ai ni cai A2i n2i c2i))
        case first =>
          go_region_held3 (fun w' => w'.cell? ⟨q, 0, none⟩ = some (.slice (some ⟨b, o, none⟩) nl cl) ∧ w'.cell? ⟨b, o + k10 * 8, none⟩ = some (.int .i64 mi.id) ∧ w'.cell? ⟨b, o + k10 * 8 + 1, none⟩ = some (.int .i64 mi.par) ∧ w'.cell? ⟨b, o + k10 * 8 + 2, none⟩ = some (.string mi.tag) ∧ w'.cell? ⟨b, o + k10 * 8 + 3, none⟩ = some (.string mi.txt) ∧ w'.cell? ⟨b, o + k10 * 8 + 4, none⟩ = some (.string mi.key) ∧ w'.cell? ⟨b, o + k10 * 8 + 5, none⟩ = some (.slice Ai ni cai) ∧ w'.cell? ⟨b, o + k10 * 8 + 6, none⟩ = some (.slice A2i n2i c2i) ∧ w'.cell? ⟨b, o + k10 * 8 + 7, none⟩ = some (.int .i64 mi.note) ∧ w'.cell? ⟨w.heap.size, 1, none⟩ = some (.int .i64 r.id)) (go_keep) ((first
              | (go_at_call 8; refine (at_yes r.id _ HA10.out hl10 hk10 HY10.out (by exact D10.out.rf.drewN _)).mono ?_; rintro e w3 ⟨rfl, rfl⟩)
              | (go_at_call 8; refine (at_yes r.id _ HA10.out hl10 hk10 HY10.out (by exact (D10.out.rf.alloc _).drewN _)).mono ?_; rintro e w3 ⟨rfl, rfl⟩)
              | fail))
          all_goals
            go_wp2_with fail
            go_meet
            exact ⟨rfl, Lib.hid (((Below.refl _ _).alloc (Nat.le_refl _) _).drew), Lib.hid (heap_drew (NdB.new w10 mi Ai ni cai A2i n2i c2i))⟩
        case rest =>
          obtain ⟨rfl, B11, N11⟩ := hcut
          obtain ⟨w11, rfl⟩ : ∃ w11, w11 = wc := ⟨_, rfl⟩
          have hz11 : w10.heap.size < w11.heap.size := N11.out.lt
          have D11 := Lib.hid (D10.out.below B11.out)
          have R11 := Lib.hid (R10.out.below B11.out R10.out.lt)
          have hzs : w.heap.size < w10.heap.size := R10.out.lt
          clear d0 l0 l1 l2 l3 l4 l5 l6 l7 hcl hb p1
          have p2 := R11.out.c2
          have q1 := N11.out.c1
          have f1 := N11.out.frozen 1
          have NF11 : Hid (¬ rfoot q y10 w10.heap.size) := Lib.hid (fun hf => by have := D10.out.rf.lt hf; omega)
          have D12 := Lib.hid (D11.out.set_out (by omega) NF11.out N11.out.noA 1 (.int .i64 r.par))
          have N12 : Hid (NdB (w11.setCell ⟨w10.heap.size, 1, none⟩ (.int .i64 r.par)) w10.heap.size (withPar r.par mi) Ai ni cai A2i n2i c2i) := Lib.hid (heap_set N11.out 1 (.int .i64 r.par))
          go_upto_region 29 with fail
          generalize w11.setCell ⟨w10.heap.size, 1, none⟩ (.int .i64 r.par) = W12 at N12 D12 ⊢
          clear p2 q1 f1 D11 R11 N11
          have a0 := N12.out.c0
          have a1 := N12.out.c1
          have a2 := N12.out.c2
          have a3 := N12.out.c3
          have a4 := N12.out.c4
          have a5 := N12.out.c5
          have a6 := N12.out.c6
          have a7 := N12.out.c7
          go_wp2_with fail
          refine (set_any k10 (withPar r.par mi) Ai ni cai A2i n2i c2i W12 HA10.out hl10 hk10 (by rw [HM10.out]; rfl) ⟨by
            have := (D12.out.rf.nodes _ (List.getElem_mem hk10)).att
            rw [HVA10.out, HM10.out] at this
            exact this, by
            have := (D12.out.rf.nodes _ (List.getElem_mem hk10)).kids
            rw [HVK10.out, HM10.out] at this
            exact this⟩ D12.out.rf).mono ?_
          rintro e w13 ⟨rfl, v13, r13⟩
          have D13 := Lib.hid (D12.out.then_set r13 (fun g hg => .inl (.inr (.inr ⟨_, List.getElem_mem hk10, by rw [HVK10.out]; exact hg⟩))))
          have L13 : Hid ((y10.rs.set k10 ⟨⟨Ai, ni, cai⟩, ⟨A2i, n2i, c2i⟩, withPar r.par mi⟩).map (·.nd) = putL y.l r.id r.par r.bef) := Lib.hid (by rw [set_list HA10.out hk10 HY10.out (withPar r.par) (by rw [HM10.out]), L10.out, L6.out]; rfl)
          clear r13 a0 a1 a2 a3 a4 a5 a6 a7
          go_wp2_with fail
          go_ret
          refine ⟨rfl, _, D13.out, ?_⟩
          show D.mk ((y10.rs.set k10 _).map (·.nd)) y10.n y10.R y10.foc = D.mk _ _ _ _
          rw [L13.out, F10.out.1, F10.out.2.1, F10.out.2.2]
          rfl
end Go.Proofs.YtihjdmdafiifhaaGreat.P5
