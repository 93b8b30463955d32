/- The walk of DomStands: it answers true, for every room and all deeds. -/
import Derived.Test.YtopnadaedcpaaaaTold5
namespace Go.Proofs.Ytopnadaedcpaaaa.P5
open Go.RowKit Kd P4
variable {B p : Nat} {x : Dx}

set_option maxHeartbeats 20000000 in
set_option maxRecDepth 100000 in
theorem stands_any (room : Int) (ds : List RE) (A : Option Addr) (m c : Nat) (w : World) (hm : ds.length = m) (hmc : m ≤ c) (hcm : c ≤ maxLen) (hwf : ∀ d ∈ ds, DeedOk w d) (H : kE.Holds w w.heap.size A ds) :
    Calls Try.prog 4 #[.int .i64 room, .slice A m c] w fun e w' => e = .returned (.bool true) ∧ Below w.heap.size w w' := by
  have HH := Lib.hid H
  have HM := Lib.hid hm
  have HF := Lib.hid hwf
  have hmx : m ≤ maxLen := by omega
  clear H hm hwf
  have q1 := err_eql_nil
  have q2 := err_eql
  have q3 := err_neq_nil
  have q4 := nil_eql_nil
  have q5 := nil_neq_nil
  go_enter Try.func4, Try.ntmps4
  go_wp2_with fail
  refine (up_any _).mono ?_
  rintro e w1 ⟨rfl, b1⟩
  have B1 := Lib.hid b1
  clear b1
  by_cases hr : room < 1 ∨ 200 < room
  · have HR := Lib.hid hr
    clear hr
    go_wp2_with fail
    refine (newDoc_no room _ HR.out).mono ?_
    rintro e w' ⟨rfl, rfl⟩
    go_wp2_with fail
    go_ret
    exact ⟨rfl, B1.out⟩
  obtain ⟨R, rfl⟩ := Int.eq_ofNat_of_zero_le (show 0 ≤ room by omega)
  have hR1 : 1 ≤ R := by omega
  have hR2 : R ≤ 200 := by omega
  clear hr
  go_wp2_with fail
  refine (newDoc_yes R _ hR1 hR2).mono ?_
  rintro e w2 ⟨p, x0, rfl, dc0, hd0, b2⟩
  have D0 := Lib.hid (dc0.base_le B1.out.size)
  have E0 := Lib.hid hd0
  have B2 := Lib.hid (B1.out.trans (b2.mono B1.out.size))
  clear dc0 hd0 b2
  go_wp2_with fail
  refine (few5_any ds A m c _ HM.out hmx (HH.out.on B2.out) (fun d hd => (HF.out d hd).below B2.out)).mono ?_
  rintro e w3 ⟨f, rfl, hf, b3⟩
  have B3 := Lib.hid (B2.out.trans (b3.mono B2.out.size))
  have D3 := Lib.hid (D0.out.below b3)
  clear b3
  rcases hf with rfl | ⟨rfl, hm60, h20⟩
  · go_wp2_with fail
    go_ret
    exact ⟨rfl, B3.out⟩
  rw [HM.out] at hm60
  have H20 := Lib.hid h20
  have W0 : Hid (WF x0.d) := Lib.hid (by rw [E0.out]; exact wf_newD hR1 hR2)
  have N0 : x0.n = 1 := by have : x0.d.n = 1 := by rw [E0.out]; rfl
                           exact this
  have N00 := Lib.hid N0
  clear h20 N0
  go_wp2_with fail
  go_loopw [8] (fun i wr => ∃ (k : Nat) (x : Dx), k ≤ m ∧ i = .int .i64 k ∧ x.n ≤ (k : Int) + 1 ∧ Hid (Dc wr w.heap.size p x) ∧ Hid (WF x.d) ∧ Hid (Below w.heap.size w wr)) (fun i _ => m - (intOf i).toNat)
  case atStart => exact ⟨0, x0, by omega, rfl, by have := N00.out; omega, D3, W0, B3⟩
  case round =>
    obtain ⟨k, x, hk, rfl, hnk, HX, HWF, HW⟩ := hrel
    by_cases hkm : k < m
    · have hkl : k < ds.length := by have := HM.out; omega
      obtain ⟨b0, o0, rfl, hb0, g0, g1, g2, g3, g4, g5, g6, g7, g8, g9, g10, g11⟩ := cell_of_deeds (HH.out.on HW.out) hkl
      obtain ⟨b0', o0', hA', hb0', _, _, _, _, _, _, _, _, _, _, k10, _⟩ := cell_of_deeds HH.out hkl
      injection hA' with hA'
      injection hA' with hA1 hA2
      subst hA1; subst hA2
      have hdk := Lib.hid (HF.out _ (List.getElem_mem hkl))
      have h20k : ds[k].va.n ≤ 20 := H20.out _ (List.getElem_mem hkl)
      have K10 := Lib.hid k10
      clear k10
      generalize ds[k] = d at g0 g1 g2 g3 g4 g5 g6 g7 g8 g9 g10 g11 hdk h20k K10
      have hn100 : x.n ≤ 100000 := by omega
      go_wp2_with fail
      refine (next_any _ hn100 rfl HX.out).mono ?_
      rintro e w' ⟨rfl, rfl⟩
      go_wp2_with fail
      refine (rec_any d _ hn100 HX.out).mono ?_
      rintro e w4 ⟨rfl, b4⟩
      generalize hrid : (if d.next = true ∧ d.op = 1 then x.n + 1 else d.rid) = rid
      have W4 := Lib.hid (HW.out.trans (b4.mono HW.out.size))
      have X4 := Lib.hid (HX.out.below b4)
      clear b4 hrid g0 g1 g2 g3 g4 g5 g6 g7 g8 g9 g10 g11
      obtain ⟨al, a1, a2, a3, a4, a5, a6⟩ := hdk.out.at_
      have AR : Hid (ArgR w4 d.va.A d.va.n d.va.c ⟨d.op, rid, d.par, d.bef, d.tag, d.txt, d.key, al⟩) := Lib.hid ⟨⟨a1, a2, a4, by omega, a6, a5.on W4.out⟩, hdk.out.tag, hdk.out.txt, hdk.out.key⟩
      clear a1 a2 a3 a4 a5 a6
      go_wp2_with fail
      refine (apply_any ⟨d.op, rid, d.par, d.bef, d.tag, d.txt, d.key, al⟩ d.va.A d.va.n d.va.c w4 HWF.out hn100 AR.out X4.out).mono ?_
      rintro e w5 ⟨rfl, x5, d5, hx5⟩
      have hn5 := apply_n x.d ⟨d.op, rid, d.par, d.bef, d.tag, d.txt, d.key, al⟩
      have WF5 := wf_apply HWF.out ⟨d.op, rid, d.par, d.bef, d.tag, d.txt, d.key, al⟩
      rw [← hx5] at hn5 WF5
      have hn5a : x.n ≤ x5.n := hn5.1
      have hn5b : x5.n ≤ x.n + 1 := hn5.2
      have X5 := Lib.hid d5.dc
      have HWF5 := Lib.hid WF5
      have W5 := Lib.hid (W4.out.trans (d5.to_below X4.out |>.mono (Nat.le_refl _)))
      have c10 : w5.cell? ⟨b0, o0 + k * 12 + 10, none⟩ = some (.int .i64 d.id) := (W5.out.cell (p := ⟨b0, _, none⟩) hb0').trans K10.out
      generalize errV (applyD x.d ⟨d.op, rid, d.par, d.bef, d.tag, d.txt, d.key, al⟩).1 = ev5
      clear d5 hx5 hn5 WF5
      go_wp2_with fail
      refine (setFocus_any d.id w5 X5.out).mono ?_
      rintro e w6 ⟨rfl, x6, d6, hx6⟩
      have hn6 : x6.n = x5.n := by have := congrArg D.n hx6; rw [focus_n] at this; exact this
      have WF6 := wf_focus HWF5.out d.id
      rw [← hx6] at WF6
      have X6 := Lib.hid d6.dc
      have HWF6 := Lib.hid WF6
      have W6 := Lib.hid (W5.out.trans (d6.to_below X5.out))
      have hn6a : x.n ≤ x6.n := by omega
      have hn6b : x6.n ≤ x.n + 1 := by omega
      generalize errV (focusD x5.d d.id).1 = ev6
      clear d6 hx6 hn6 WF6 c10
      go_wp2_with fail
      refine (next_any w6 (by omega) rfl X6.out).mono ?_
      rintro e w' ⟨rfl, rfl⟩
      go_wp2_with fail
      have hR6 : x6.rs.length ≤ 200 := by have h1 := X6.out.ar.len; have h2 := X6.out.ar.room; rw [List.length_map] at h1; omega
      refine (ids_any w6 (by omega) X6.out).mono ?_
      rintro e wc ⟨Ai, ni, ci, rfl, oi, bi⟩
      obtain ⟨i1, i2, i3, i4, i5⟩ := own_nil_zero oi rfl
      have hni : ni = x6.rs.length := by rw [← i1]; simp [idsOf, Dx.l]
      have HNI := Lib.hid hni
      have HI := Lib.hid i5
      have XC := Lib.hid (X6.out.below bi)
      have WC := Lib.hid (W6.out.trans (bi.mono W6.out.size))
      have hni2 : ni ≤ 200 := by omega
      clear oi bi i1 i2 i3 i4 i5 hni
      go_wp2_with fail
      obtain ⟨wo1, rfl⟩ : ∃ wo : World, wo = wr := ⟨_, rfl⟩
      go_loopw [11] (fun i wi => ∃ k2 : Nat, k2 ≤ ni ∧ i = .int .i64 k2 ∧ Hid (Below wc.heap.size wc wi)) (fun i _ => ni - (intOf i).toNat)
      case atStart => exact ⟨0, by omega, rfl, Lib.hid (Below.refl _ _)⟩
      case round =>
        obtain ⟨k2, hk2, rfl, HB⟩ := hrel
        obtain ⟨wi, rfl⟩ : ∃ wi : World, wi = wr := ⟨_, rfl⟩
        have XB := Lib.hid (XC.out.below HB.out)
        by_cases hlt : k2 < ni
        · have hk2l : k2 < x6.rs.length := by have := HNI.out; omega
          obtain ⟨ib, io, rfl, hib, hic⟩ := cell_int HI.out (k := k2) (by simp [idsOf, Dx.l]; exact hk2l)
          obtain ⟨nd, hnd⟩ : ∃ nd, x6.rs[k2].nd = nd := ⟨_, rfl⟩
          have hidk : (idsOf x6.l)[k2]'(by simp [idsOf, Dx.l]; exact hk2l) = nd.id := by rw [← hnd]; simp [idsOf, Dx.l]
          rw [hidk] at hic
          have hic2 : wi.cell? ⟨ib, io + k2, none⟩ = some (.int .i64 nd.id) := (HB.out.cell (p := ⟨ib, _, none⟩) hib).trans hic
          obtain ⟨f1, f2, f3, f4, f5, f6, f7⟩ := nd_kids XB.out HWF6.out hk2l
          rw [hnd] at f1 f2 f3 f4 f5 f6 f7
          have HND := Lib.hid hnd
          have F3 := Lib.hid f3
          have F4 := Lib.hid f4
          have F7 := Lib.hid f7
          have HIC := Lib.hid hic
          clear f3 f4 f7 hnd hidk hic
          go_wp2_with fail
          refine (tell_yes nd.id (k := k2) (nd := nd) wi hk2l (by rw [HND.out]) HND.out f1 f2 XB.out).mono ?_
          rintro e w7 ⟨A7, n7, c7, A8, n8, c8, rfl, ha, ho, b7⟩
          obtain ⟨j1, j2, j3, j4, j5⟩ := own_nil_zero ho rfl
          have SE : Hid (Seen wc w7.heap.size nd A7 n7 c7 A8 n8 c8 (w7.alloc (.cells #[.int .i64 nd.id, .int .i64 nd.par, .string nd.tag, .string nd.txt, .string nd.key, .slice A7 n7 c7, .slice A8 n8 c8, .int .i64 nd.note] 52))) :=
            Lib.hid ⟨NdB.new _ _ _ _ _ _ _ _, j5.on ((Below.refl _ _).alloc (Nat.le_refl _) _), (HB.out.trans (b7.mono HB.out.size)).alloc (by have := HB.out.size; have := b7.size; omega) _⟩
          have HN8 := Lib.hid j1
          have hn8 : n8 ≤ 1000 := by omega
          have hn8c : n8 ≤ c8 := j2
          have HG : Hid (wc.heap.size ≤ w7.heap.size) := Lib.hid (by have := HB.out.size; have := b7.size; omega)
          clear ha ho b7 j1 j2 j3 j4 j5 hic2
          cases he : nd.tag.toList.isEmpty
          all_goals
            have hz8 : nd.tag.toList.isEmpty = true → n8 ≤ 0 := fun h => by have h1 := F7.out ((empty_iff _).1 h); have h2 := HN8.out; rw [h1] at h2; simp at h2; omega
            have hz9 : n8 ≤ 0 ∨ nd.tag.toList.isEmpty = false := by
              cases h : nd.tag.toList.isEmpty
              · exact .inr rfl
              · exact .inl (hz8 h)
            clear hz8
            first
              | (have hz : n8 ≤ 0 := by
                  rcases hz9 with h | h
                  · exact h
                  · rw [he] at h; cases h
                 have hzb : decide (0 < n8) = false := by rw [decide_eq_false_iff_not]; omega
                 have HZ8 := Lib.hid hz
                 clear hz)
              | skip
            clear hz9
            go_wp2_with fail
            generalize hW : w7.alloc (.cells #[.int .i64 nd.id, .int .i64 nd.par, .string nd.tag, .string nd.txt, .string nd.key, .slice A7 n7 c7, .slice A8 n8 c8, .int .i64 nd.note] 52) = W at SE ⊢
            generalize hg : w7.heap.size = g at SE HG ⊢
            clear hW hg
            have e0 := SE.out.nb.c0
            have e2 := SE.out.nb.c2
            have e6 := SE.out.nb.c6
            have ei : W.cell? ⟨ib, io + k2, none⟩ = some (.int .i64 nd.id) := (SE.out.bl.cell (p := ⟨ib, _, none⟩) hib).trans HIC.out
            have hge1 : decide (x6.n + 1 ≤ nd.id) = false := by rw [decide_eq_false_iff_not]; omega
            have hge2 : decide (x6.n < nd.id) = false := by rw [decide_eq_false_iff_not]; omega
            have QN := Lib.hid (next_quiet W (by omega) (XC.out.below SE.out.bl))
            go_quiet ((go_at_call 17; exact QN.out _))
            clear e0 e2 e6 ei QN hge1 hge2
            go_wp2_with fail
            first
              | clear hzb
              | skip
            go_loopw [14] (fun j wj => ∃ j3 : Nat, j3 ≤ n8 ∧ j = .int .i64 j3 ∧ Hid (Seen wc g nd A7 n7 c7 A8 n8 c8 wj)) (fun j _ => n8 - (intOf j).toNat)
            case atStart => exact ⟨0, by omega, rfl, Lib.hid (SE.out.drewN _)⟩
            case round =>
              obtain ⟨j3, hj3, rfl, HS⟩ := hrel
              obtain ⟨wj, rfl⟩ : ∃ wj : World, wj = wr := ⟨_, rfl⟩
              by_cases hj : j3 < n8
              · first
                  | (exact absurd hj (by have := HZ8.out; omega))
                  | skip
                all_goals
                  have hjl : j3 < nd.kids.length := by have := HN8.out; omega
                  obtain ⟨kb, ko, rfl, hkb, hkc⟩ := cell_int HS.out.hk hjl
                  obtain ⟨jj, hjj, p1, p2⟩ := F4.out _ (List.getElem_mem hjl)
                  obtain ⟨kd, hkd⟩ : ∃ kd, nd.kids[j3] = kd := ⟨_, rfl⟩
                  rw [hkd] at hkc p1
                  obtain ⟨l1, l2, _⟩ := nd_kids (XC.out.below HS.out.bl) HWF6.out hjj
                  obtain ⟨nk, hnk⟩ : ∃ nk, x6.rs[jj].nd = nk := ⟨_, rfl⟩
                  rw [hnk] at p1 p2 l1 l2
                  have HKD := Lib.hid hkd
                  have HNK := Lib.hid hnk
                  have P1 := Lib.hid p1
                  have hp2 : (nk.par != nd.id) = false := by rw [p2]; simp
                  have d6 := HS.out.nb.c6
                  have hgj := HS.out.nb.lt
                  clear hkd hnk p1 p2
                  go_wp2_with fail
                  refine (tell_yes kd (k := jj) (nd := nk) wj hjj (by rw [HNK.out]; exact P1.out) HNK.out l1 l2 (XC.out.below HS.out.bl)).mono ?_
                  rintro e w9 ⟨A9, n9, c9, Aa, na, ca, rfl, ha9, ho9, b9⟩
                  have S9 := Lib.hid (HS.out.below b9)
                  have SJ := Lib.hid (S9.out.below ((Below.refl _ _).alloc (Nat.le_refl _) (.cells #[.int .i64 nk.id, .int .i64 nk.par, .string nk.tag, .string nk.txt, .string nk.key, .slice A9 n9 c9, .slice Aa na ca, .int .i64 nk.note] 52)))
                  have e0 := S9.out.nb.c0
                  have hg9 : g < w9.heap.size := S9.out.nb.lt
                  clear ha9 ho9 b9 d6 hkc hkb
                  go_wp2_with fail
                  go_loopw [17] (fun q wq => ∃ q4 : Nat, q4 ≤ j3 ∧ q = .int .i64 q4 ∧ Hid (Seen wc g nd A7 n7 c7 (some ⟨kb, ko, none⟩) n8 c8 wq)) (fun q _ => j3 - (intOf q).toNat)
                  case atStart => exact ⟨0, by omega, rfl, SJ⟩
                  case round =>
                    obtain ⟨q4, hq4, rfl, HQ⟩ := hrel
                    by_cases hq : q4 < j3
                    · have hql : q4 < nd.kids.length := by omega
                      obtain ⟨qb, qo, hqA, _, hqc⟩ := cell_int HQ.out.hk hql
                      obtain ⟨jb, jo, hjA, _, hjc⟩ := cell_int HQ.out.hk hjl
                      injection hqA with hqA
                      injection hqA with hq1 hq2
                      subst hq1; subst hq2
                      injection hjA with hjA
                      injection hjA with hq1 hq2
                      subst hq1; subst hq2
                      have hne := one_of F3.out hql hjl hq
                      have d6 := HQ.out.nb.c6
                      go_wp2_with fail
                      go_quiet (fail)
                      go_wp2_with fail
                      go_roundw
                      case rel => exact ⟨q4 + 1, by omega, by go_num, Lib.hid (HQ.out.drewN _)⟩
                      case measure => simp [intOf]; omega
                    · go_wp2_with fail
                      go_roundw
                      case rel => exact ⟨j3 + 1, by omega, by go_num, HQ⟩
                      case measure => simp [intOf]; omega
              · have u0 := HS.out.nb.c0
                have u1 := HS.out.nb.c1
                have u2 := HS.out.nb.c2
                have u3 := HS.out.nb.c3
                have u4 := HS.out.nb.c4
                have u5 := HS.out.nb.c5
                have u6 := HS.out.nb.c6
                have u7 := HS.out.nb.c7
                go_wp2_with fail
                have U0 : Hid (UpAt wc x6 wj.heap.size 0 ni (wj.alloc (.cells #[.int .i64 nd.id, .int .i64 nd.par, .string nd.tag, .string nd.txt, .string nd.key, .slice A7 n7 c7, .slice A8 n8 c8, .int .i64 nd.note] 52))) := Lib.hid (by
                  refine ⟨k2, hk2l, A7, n7, c7, A8, n8, c8, by rw [HND.out]; exact NdB.new _ _ _ _ _ _ _ _, ?_, HS.out.bl.alloc HS.out.bl.size _, HS.out.bl.size⟩
                  have h1 := dep_len (l := x6.l) HWF6.out.tr (y := x6.rs[k2].nd.id) (has_iff.2 ⟨_, List.mem_map.2 ⟨_, List.getElem_mem hk2l, rfl⟩, rfl⟩)
                  rw [l_len] at h1
                  have := HNI.out
                  omega)
                clear u0 u1 u2 u3 u4 u5 u6 u7
                generalize wj.heap.size = g2 at U0 ⊢
                go_loopw [19] (fun s ws => ∃ s5 : Nat, s5 ≤ ni ∧ s = .int .i64 s5 ∧ Hid (UpAt wc x6 g2 s5 ni ws)) (fun s _ => ni + 1 - (intOf s).toNat)
                case atStart => exact ⟨0, by omega, rfl, U0⟩
                case round =>
                  obtain ⟨s5, hs5, rfl, HU⟩ := hrel
                  obtain ⟨j, hj', Ap, np', cp, Aq, nq, cq, nb, hdep, bl, hg2⟩ := HU.out
                  obtain ⟨np, hnp⟩ : ∃ np, x6.rs[j].nd = np := ⟨_, rfl⟩
                  have XU := Lib.hid (XC.out.below bl)
                  have NB : Hid (NdB wr g2 np Ap np' cp Aq nq cq) := Lib.hid (by rw [← hnp]; exact nb)
                  have BL := Lib.hid bl
                  have HNP := Lib.hid hnp
                  rw [hnp] at hdep
                  have d1 := NB.out.c1
                  clear nb bl hnp HU
                  by_cases h0 : np.par = 0
                  · have hq0 : (np.par != 0) = false := by simpa using h0
                    clear h0
                    go_wp2_with fail
                    go_roundw
                    case rel => exact ⟨k2 + 1, by omega, by go_num, BL⟩
                    case measure => simp [intOf]; omega
                  · have hq0 : (np.par != 0) = true := by simpa using h0
                    obtain ⟨jp, hjp, ejp⟩ := par_place XU.out HWF6.out hj' (by rw [HNP.out]; exact h0)
                    rw [HNP.out] at ejp
                    obtain ⟨l1, l2, _⟩ := nd_kids XU.out HWF6.out hjp
                    obtain ⟨nk, hnk⟩ : ∃ nk, x6.rs[jp].nd = nk := ⟨_, rfl⟩
                    rw [hnk] at ejp l1 l2
                    have HNK := Lib.hid hnk
                    have EJP := Lib.hid ejp
                    have hlt5 : depOf (parOf x6.l) np.par < depOf (parOf x6.l) np.id := by
                      have hpar := (tag_at XU.out hj' rfl).2.1
                      rw [HNP.out] at hpar
                      have hid0 : np.id ≠ 0 := by
                        have := (nd_kids XU.out HWF6.out hj').2.2.2.2.1
                        rw [HNP.out] at this
                        omega
                      have := depOf_lt (l := x6.l) HWF6.out.tr hid0
                      rwa [hpar] at this
                    have hs6 : s5 < ni := by omega
                    clear hnk ejp h0
                    go_wp2_with fail
                    refine (tell_yes np.par (k := jp) (nd := nk) wr hjp (by rw [HNK.out]; exact EJP.out) HNK.out l1 l2 XU.out).mono ?_
                    rintro e w10 ⟨A9, n9, c9, Aa, na, ca, rfl, ha9, ho9, b10⟩
                    have NB2 := Lib.hid (NB.out.below b10 NB.out.lt)
                    have BL2 := Lib.hid (BL.out.trans (b10.mono BL.out.size))
                    have r0 := NB2.out.c0
                    have r1 := NB2.out.c1
                    have r2 := NB2.out.c2
                    have r3 := NB2.out.c3
                    have r4 := NB2.out.c4
                    have r5 := NB2.out.c5
                    have r6 := NB2.out.c6
                    have r7 := NB2.out.c7
                    have rf := NB2.out.frozen
                    clear ha9 ho9 b10 d1
                    go_wp2_with fail
                    go_roundw
                    case rel =>
                      have UN : Hid (UpAt wc x6 g2 (s5 + 1) ni _) := Lib.hid ⟨jp, hjp, A9, n9, c9, Aa, na, ca, (by rw [HNK.out]; exact NdB.set8 NB2.out), (by rw [HNK.out, EJP.out]; omega), (Below.setCell (Below.setCell (Below.setCell (Below.setCell (Below.setCell (Below.setCell (Below.setCell (Below.setCell (BL2.out) hg2 _) hg2 _) hg2 _) hg2 _) hg2 _) hg2 _) hg2 _) hg2 _), hg2⟩
                      exact ⟨s5 + 1, by omega, by go_num, UN⟩
                    case measure => simp [intOf]; omega
        · obtain rfl : k2 = ni := by omega
          have hfoc : x6.foc = 0 ∨ hasL x6.l x6.foc = true := HWF6.out.foc
          have HFOC := Lib.hid hfoc
          clear hfoc
          by_cases hf0 : x6.foc = 0
          · have hq0 : (x6.foc != 0) = false := by simpa using hf0
            have HF0 := Lib.hid hf0
            clear hf0
            go_wp2_with fail
            refine (focus_any wi XB.out).mono ?_
            rintro e w' ⟨rfl, rfl⟩
            go_wp2_with fail
            refine (tell_no x6.foc _ (by rw [HF0.out]; exact HWF6.out.no0) XB.out).mono ?_
            rintro e w8 ⟨rfl, b8⟩
            have B8 := Lib.hid ((HB.out.trans (b8.mono HB.out.size)).alloc (by have := HB.out.size; have := b8.size; omega) (.cells #[.int .i64 0, .int .i64 0, .string ⟨#[]⟩, .string ⟨#[]⟩, .string ⟨#[]⟩, .slice none 0 0, .slice none 0 0, .int .i64 0] 52))
            clear b8
            go_wp2_with fail
            refine (focus_any _ (XC.out.below B8.out)).mono ?_
            rintro e w' ⟨rfl, rfl⟩
            go_wp2_with fail
            go_roundw
            case rel => exact ⟨k + 1, x6, by omega, by go_num, by omega, Lib.hid (XC.out.below B8.out), HWF6, Lib.hid (WC.out.trans (B8.out.mono WC.out.size))⟩
            case measure => simp [intOf]; omega
          · have hq0 : (x6.foc != 0) = true := by simpa using hf0
            obtain ⟨jf, hjf, ef, _⟩ := XB.out.place (HFOC.out.resolve_left hf0)
            obtain ⟨l1, l2, _⟩ := nd_kids XB.out HWF6.out hjf
            obtain ⟨nk, hnk⟩ : ∃ nk, x6.rs[jf].nd = nk := ⟨_, rfl⟩
            rw [hnk] at ef l1 l2
            have HNK := Lib.hid hnk
            have EF := Lib.hid ef
            clear hf0 hnk ef
            go_wp2_with fail
            refine (focus_any wi XB.out).mono ?_
            rintro e w' ⟨rfl, rfl⟩
            go_wp2_with fail
            refine (tell_yes x6.foc (k := jf) (nd := nk) _ hjf (by rw [HNK.out]; exact EF.out) HNK.out l1 l2 XB.out).mono ?_
            rintro e w8 ⟨A9, n9, c9, Aa, na, ca, rfl, ha9, ho9, b8⟩
            have B8 := Lib.hid ((HB.out.trans (b8.mono HB.out.size)).alloc (by have := HB.out.size; have := b8.size; omega) (.cells #[.int .i64 nk.id, .int .i64 nk.par, .string nk.tag, .string nk.txt, .string nk.key, .slice A9 n9 c9, .slice Aa na ca, .int .i64 nk.note] 52))
            clear b8 ha9 ho9
            go_wp2_with fail
            refine (focus_any _ (XC.out.below B8.out)).mono ?_
            rintro e w' ⟨rfl, rfl⟩
            go_wp2_with fail
            go_roundw
            case rel => exact ⟨k + 1, x6, by omega, by go_num, by omega, Lib.hid (XC.out.below B8.out), HWF6, Lib.hid (WC.out.trans (B8.out.mono WC.out.size))⟩
            case measure => simp [intOf]; omega
    · obtain rfl : k = m := by omega
      go_wp2_with fail
      go_ret
      exact ⟨rfl, HW.out⟩
end Go.Proofs.Ytopnadaedcpaaaa.P5
