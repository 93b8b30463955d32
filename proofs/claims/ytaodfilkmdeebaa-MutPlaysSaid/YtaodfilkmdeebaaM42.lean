/- The walk of MutPlays: it answers true, for every room and all deeds. -/
import Derived.Test.YtaodfilkmdeebaaM41
set_option linter.unusedVariables false
set_option linter.unusedSimpArgs false
namespace Go.Proofs.Ytaodfilkmdeebaa.P7
open Go.RowKit Kd P4 P5
theorem Rf.base_le {w : World} {B B' q : Nat} {y : Rx} (h : Rf w B q y) (hB : B' ≤ B) : Rf w B' q y := ⟨h.blk, Nat.le_trans hB h.base, h.own.base_le hB, fun r hr => ⟨(h.nodes r hr).att, (h.nodes r hr).kids.base_le hB⟩⟩
/-- a change whose attributes lie in what was handed in -/
def Told (w : World) (a : RR) : Prop := a.r.attrs.length = a.va.n ∧ ∀ w9, Below w.heap.size w w9 → kA.Holds w9 w9.heap.size a.va.A a.r.attrs
def MutRel (w : World) (p q g m : Nat) (s i : Value) (wr : World) : Prop := ∃ (k : Nat) (x : Dx) (y : Rx) (vd : Value) (rs : List RR) (A10 : Option Addr) (n10 c10 : Nat) (ms : List RR),
  k ≤ m ∧ i = .int .i64 k ∧ s = .slice A10 n10 c10 ∧ x.n ≤ (k : Int) + 1 ∧ rs.length ≤ k ∧ Hid (Par wr w.heap.size p q x y) ∧ Hid (x.d = y.d) ∧ Hid (WF x.d) ∧ Hid (Lg wr w.heap.size g p vd rs) ∧ Hid (kR.Own wr w.heap.size (.slice A10 n10 c10) ms) ∧ Hid (rs.map (·.r) = ms.map (·.r)) ∧ Hid (∀ a ∈ ms, Told w a) ∧ Hid (Apart (.slice A10 n10 c10) vd) ∧ Hid (Below w.heap.size w wr)
theorem Rdid.rec_ {w w' : World} {B q s n c : Nat} {y y' : Rx} {r : Rc} {A : Option Addr} (hy : Rf w B q y) (k : Rdid w B q y y' w') (h : RcB w s r A n c) : RcB w' s r A n c := (k.but.block s h.lt (fun e => by subst e; exact heap_ne hy.blk h (by decide) rfl)).trans h
theorem Rdid.own_ {w w' : World} {B C q : Nat} {y y' : Rx} {v : Value} {m : List RR} (hy : Rf w B q y) (k : Rdid w B q y y' w') (h : kR.Own w C v m) : kR.Own w' C v m := h.but k.but (fun i hi e => by
  subst e
  obtain ⟨d, hd⟩ := h.ty hi
  exact heap_ne hd hy.blk (by decide) rfl)
set_option maxHeartbeats 40000000 in
set_option maxRecDepth 100000 in
theorem plays_any (room : Int) (ds : List RE) (A : Option Addr) (m c : Nat) (w : World) (hm : ds.length = m) (hmc : m ≤ c) (hcm : c ≤ maxLen) (hwf : ∀ d ∈ ds, DeedOk w d) (H : kE.Holds w w.heap.size A ds) :
    Calls Try.prog 4 #[.int .i64 room, .slice A m c] w fun e w' => e = .returned (.bool true) ∧ Below w.heap.size w w' := by
  have HH := Lib.hid H
  have HM := Lib.hid hm
  have HF := Lib.hid hwf
  have hmx : m ≤ maxLen := by omega
  clear H hm hwf
  have q1 := err_eql_nil
  have q2 := err_eql
  have q3 := err_neq_nil
  have q4 := nil_eql_nil
  have q5 := nil_neq_nil
  go_enter Try.func4, Try.ntmps4
  go_wp2_with fail
  refine (up_any _).mono ?_
  rintro e w1 ⟨rfl, b1⟩
  have B1 := Lib.hid b1
  clear b1
  by_cases hr : room < 1
  · go_wp2_with fail
    refine (newDoc_no room _ (.inl hr)).mono ?_
    rintro e w' ⟨rfl, rfl⟩
    go_wp2_with fail
    go_ret
    exact ⟨rfl, B1.out⟩
  by_cases hr2 : 200 < room
  · go_wp2_with fail
    refine (newDoc_no room _ (.inr hr2)).mono ?_
    rintro e w' ⟨rfl, rfl⟩
    go_wp2_with fail
    go_ret
    exact ⟨rfl, B1.out⟩
  obtain ⟨R, rfl⟩ := Int.eq_ofNat_of_zero_le (show 0 ≤ room by omega)
  have hR1 : 1 ≤ R := by omega
  have hR2 : R ≤ 200 := by omega
  clear hr hr2
  go_wp2_with fail
  refine (newDoc_yes R _ hR1 hR2).mono ?_
  rintro e w2 ⟨p, x0, rfl, dc0, hd0, b2⟩
  have D0 := Lib.hid (dc0.base_le B1.out.size)
  have E0 := Lib.hid hd0
  have B2 := Lib.hid (B1.out.trans (b2.mono B1.out.size))
  clear dc0 hd0 b2
  go_wp2_with fail
  refine (few5_any ds A m c _ HM.out hmx (HH.out.on B2.out) (fun d hd => (HF.out d hd).below B2.out)).mono ?_
  rintro e w3 ⟨f, rfl, hf, b3⟩
  have B3 := Lib.hid (B2.out.trans (b3.mono B2.out.size))
  have D3 := Lib.hid (D0.out.below b3)
  clear b3
  rcases hf with rfl | ⟨rfl, hm60, h20⟩
  · go_wp2_with fail
    go_ret
    exact ⟨rfl, B3.out⟩
  rw [HM.out] at hm60
  have H20 := Lib.hid h20
  have W0 : Hid (WF x0.d) := Lib.hid (by rw [E0.out]; exact wf_newD hR1 hR2)
  have N0 : Hid (x0.n = 1) := Lib.hid (by have : x0.d.n = 1 := by rw [E0.out]; rfl
                                          exact this)
  clear h20
  go_wp2_with fail
  refine (new_any (some ⟨p, 0, none⟩) w3).mono ?_
  rintro e w3a ⟨rfl, hw3⟩
  have L3 : Hid (Lg w3a w.heap.size w3.heap.size p (.slice none 0 0) []) := Lib.hid (by rw [hw3]; exact Lg.new B3.out.size p)
  have b3a : Below w3.heap.size w3 w3a := by rw [hw3]; exact (Below.refl _ _).alloc (Nat.le_refl _) _
  have D3a := Lib.hid (D3.out.below b3a)
  have B3a := Lib.hid (B3.out.trans (b3a.mono B3.out.size))
  clear hw3 b3a D3 B3
  generalize w3.heap.size = g at L3 ⊢
  go_wp2_with fail
  refine (rnew_any R w3a).mono ?_
  rintro e w4 ⟨q, y0, rfl, rf4, hy4, b4⟩
  have P4' : Hid (Par w4 w.heap.size p q x0 y0) := Lib.hid ⟨D3a.out.below b4, Rf.base_le rf4 B3a.out.size, fun i hi hr => by have := D3a.out.lt hi; have := rf4.ge hr; omega⟩
  have E4 : Hid (x0.d = y0.d) := Lib.hid (by rw [E0.out, hy4])
  have L4 := Lib.hid (L3.out.below b4)
  have B4 := Lib.hid (B3a.out.trans (b4.mono B3a.out.size))
  clear rf4 hy4 b4
  go_wp2_with fail
  go_loopw [10, 11] (fun s i wr => MutRel w p q g m s i wr) (fun _ i _ => m - (intOf i).toNat)
  case atStart => exact ⟨0, x0, y0, _, [], none, 0, 0, [], by omega, rfl, rfl, by have := N0.out; omega, by simp, P4', E4, W0, L4, Lib.hid (Kind.Own.nil _ _ _), Lib.hid rfl, Lib.hid (fun a ha => by cases ha), Lib.hid (fun i hi => by cases hi), B4⟩
  case round =>
    obtain ⟨k, x, y, vd, rs, A10, n10, c10, ms, hk, rfl, rfl, hnk, hrk, HX, HE, HWF, HLg, HO, HMP, HTo, HAp, HW⟩ := hrel
    by_cases hkm : k < m
    · have hkl : k < ds.length := by have := HM.out; omega
      obtain ⟨b0, o0, rfl, hb0, g0, g1, g2, g3, g4, g5, g6, g7, g8, g9, g10, g11⟩ := cell_of_deeds (HH.out.on HW.out) hkl
      have hdk := Lib.hid (HF.out _ (List.getElem_mem hkl))
      have h20k : ds[k].va.n ≤ 20 := H20.out _ (List.getElem_mem hkl)
      generalize ds[k] = d at g0 g1 g2 g3 g4 g5 g6 g7 g8 g9 g10 g11 hdk h20k
      have hn100 : x.n ≤ 100000 := by omega
      go_wp2_with fail
      refine (rec_any d wr hn100 HX.out.dc).mono ?_
      rintro e w4b ⟨rfl, b4⟩
      generalize hrid : (if d.next = true ∧ d.op = 1 then x.n + 1 else d.rid) = rid
      obtain ⟨al, a1, a2, a3, a4, a5, a6⟩ := hdk.out.at_
      have BA : Hid (Below wr.heap.size wr (w4b.alloc (.cells #[.int .i64 d.op, .int .i64 rid, .int .i64 d.par, .int .i64 d.bef, .string d.tag, .string d.txt, .string d.key, .slice d.va.A d.va.n d.va.c] 35))) := Lib.hid (b4.alloc b4.size _)
      have NR : Hid (RcB (w4b.alloc (.cells #[.int .i64 d.op, .int .i64 rid, .int .i64 d.par, .int .i64 d.bef, .string d.tag, .string d.txt, .string d.key, .slice d.va.A d.va.n d.va.c] 35)) w4b.heap.size ⟨d.op, rid, d.par, d.bef, d.tag, d.txt, d.key, al⟩ d.va.A d.va.n d.va.c) := Lib.hid (RcB.new w4b ⟨d.op, rid, d.par, d.bef, d.tag, d.txt, d.key, al⟩ d.va.A d.va.n d.va.c)
      have hsg : wr.heap.size ≤ w4b.heap.size := b4.size
      clear b4 hrid g0 g1 g2 g3 g4 g5 g6 g7 g8 g9 g10 g11
      go_upto_region 14 with fail
      generalize w4b.alloc (.cells #[.int .i64 d.op, .int .i64 rid, .int .i64 d.par, .int .i64 d.bef, .string d.tag, .string d.txt, .string d.key, .slice d.va.A d.va.n d.va.c] 35) = wb at BA NR ⊢
      generalize w4b.heap.size = sR at NR hsg ⊢
      have HP := Lib.hid (HX.out.below BA.out)
      have LA := Lib.hid (HLg.out.below BA.out)
      have OA : Hid (kR.Own wb w.heap.size (.slice A10 n10 c10) ms) := Lib.hid (HO.out.below BA.out (Nat.le_refl _))
      have WA := Lib.hid (HW.out.trans (BA.out.mono HW.out.size))
      have hsR : vd.ownBlock ≠ some sR := fun e => by have := HLg.out.lt (.inr e); omega
      have hsO : (Value.slice A10 n10 c10).ownBlock ≠ some sR := fun e => by have := (HO.out.lt e).2; omega
      have AR : Hid (∀ w9, Below w.heap.size w w9 → ArgR w9 d.va.A d.va.n d.va.c ⟨d.op, rid, d.par, d.bef, d.tag, d.txt, d.key, al⟩) := Lib.hid (fun w9 hb => ⟨⟨a1, a2, a4, by omega, a6, a5.on hb⟩, hdk.out.tag, hdk.out.txt, hdk.out.key⟩)
      have TO : Hid (Told w ⟨⟨d.op, rid, d.par, d.bef, d.tag, d.txt, d.key, al⟩, d.va⟩) := Lib.hid ⟨a1, fun w9 hb => a5.on hb⟩
      clear a1 a2 a3 a4 a5 a6 HX HLg HO HW BA hsg
      have r0 := NR.out.c0
      have r1 := NR.out.c1
      have r2 := NR.out.c2
      have r3 := NR.out.c3
      have r4 := NR.out.c4
      have r5 := NR.out.c5
      have r6 := NR.out.c6
      have r7 := NR.out.c7
      simp only at r0 r1 r2 r3 r4 r5 r6 r7
      obtain ⟨cd, hcd⟩ : ∃ c, (applyD x.d ⟨d.op, rid, d.par, d.bef, d.tag, d.txt, d.key, al⟩).1 = c := ⟨_, rfl⟩
      have HCD := Lib.hid hcd
      have HCR : Hid ((applyD y.d ⟨d.op, rid, d.par, d.bef, d.tag, d.txt, d.key, al⟩).1 = cd) := Lib.hid (by rw [← HE.out]; exact hcd)
      have hcd0 : 0 ≤ cd := by rw [← hcd]; exact (apply_code _ _).1
      have hcd13 : cd ≤ 13 := by rw [← hcd]; exact (apply_code _ _).2
      have qcd : (cd != cd) = false := by simp
      clear hcd
      go_wp2_with fail
      refine (rapply_c ⟨d.op, rid, d.par, d.bef, d.tag, d.txt, d.key, al⟩ d.va.A d.va.n d.va.c wb HCR.out (by rw [← HE.out]; exact HWF.out) (by have h1 := congrArg D.n HE.out; have h2 : x.n = y.n := h1; omega) (AR.out _ WA.out) HP.out.rf).mono ?_
      rintro e w5 ⟨rfl, y5, d5, hy5⟩
      have P5' := Lib.hid (HP.out.rdid d5)
      have L5 := Lib.hid (LA.out.rdid HP.out.rf d5)
      have O5 := Lib.hid (Rdid.own_ HP.out.rf d5 OA.out)
      have N5 := Lib.hid (Rdid.rec_ HP.out.rf d5 NR.out)
      have W5 : Hid (Below w.heap.size w w5) := Lib.hid (WA.out.trans (d5.to_below HP.out.rf))
      have HY5 := Lib.hid hy5
      clear d5 hy5 r0 r1 r2 r3 r4 r5 r6 r7 HP LA OA NR WA
      have r0 := N5.out.c0
      have r1 := N5.out.c1
      have r2 := N5.out.c2
      have r3 := N5.out.c3
      have r4 := N5.out.c4
      have r5 := N5.out.c5
      have r6 := N5.out.c6
      have r7 := N5.out.c7
      simp only at r0 r1 r2 r3 r4 r5 r6 r7
      go_wp2_with fail
      refine (do_any (c' := cd) ⟨d.op, rid, d.par, d.bef, d.tag, d.txt, d.key, al⟩ d.va.A d.va.n d.va.c w5 HCD.out HWF.out hn100 (fun w9 hb => AR.out w9 (W5.out.trans hb)) (by omega) P5'.out.dc L5.out).mono ?_
      rintro e w6 ⟨rfl, x6, vd6, rs6, l6, hx6, hm6, hl6⟩
      have P6 := Lib.hid (Par.ldid P5'.out L5.out l6)
      have L6 := Lib.hid l6.lg
      have O6 := Lib.hid (l6.own P5'.out.dc L5.out O5.out HAp.out)
      have AP6 := Lib.hid (l6.apart O5.out HAp.out)
      have N6 := Lib.hid (l6.rec_ P5'.out.dc L5.out N5.out hsR)
      have W6 : Hid (Below w.heap.size w w6) := Lib.hid (W5.out.trans (l6.to_below P5'.out.dc L5.out))
      have HX6 := Lib.hid hx6
      have HM6 := Lib.hid hm6
      have hrs6 : rs6.length ≤ 1000 := by omega
      clear l6 hx6 hm6 r0 r1 r2 r3 r4 r5 r6 r7 P5' L5 O5 N5 W5 HAp
      have r0 := N6.out.c0
      have r1 := N6.out.c1
      have r2 := N6.out.c2
      have r3 := N6.out.c3
      have r4 := N6.out.c4
      have r5 := N6.out.c5
      have r6 := N6.out.c6
      have r7 := N6.out.c7
      simp only at r0 r1 r2 r3 r4 r5 r6 r7
      go_wp2_with fail
      refine (codeV_any cd hcd0 hcd13 _).mono ?_
      rintro e w' ⟨rfl, rfl⟩
      by_cases hc0 : cd = 0
      · have HC0 := Lib.hid hc0
        have qc0 : (cd == 0) = true := by simpa using hc0
        clear hc0
        have hl10 : ms.length ≤ 1000 := by have h1 := congrArg List.length HMP.out; simp at h1; omega
        have hBw : w.heap.size ≤ w6.heap.size := W6.out.size
        go_wp2_with (at_builtin; refine kR.wp_app rfl _ _ rfl (v := .slice A10 n10 c10) (l := ms) (m := [⟨⟨d.op, rid, d.par, d.bef, d.tag, d.txt, d.key, al⟩, d.va⟩]) (B := w.heap.size) (A := some ⟨w6.heap.size, 0, none⟩) (n := 1) (c := 1) rfl (O6.out.alloc _) rfl rfl (fun e => by cases e) (Kind.Holds.lit (heap_alloc_new _ _) rfl) (by simp; omega) (by simp; omega) ?_; intro v8 w8 hown8 hgrow8 hat8; obtain ⟨A8, n8, c8, rfl, _, _, _, _, _⟩ := hown8.slice; have O8 := Lib.hid hown8; have G8 := Lib.hid hgrow8; have AT8 := Lib.hid hat8; clear hown8 hgrow8 hat8 r0 r1 r2 r3 r4 r5 r6 r7)
        have b8 : But (fun i => (Value.slice A10 n10 c10).ownBlock = some i) w6 w8 := (But.alloc (But.refl _ _) _).trans (But.of_grown (S := fun i => (Value.slice A10 n10 c10).ownBlock = some i) G8.out (fun i hi _ => hi)) (fun _ _ h => h)
        have nd8 : ∀ i, (Value.slice A10 n10 c10).ownBlock = some i → ∃ cur, w6.heap[i]? = some (.cells cur 35 (0, 0)) := fun i hi => O6.out.ty hi
        have na8 : NoA w6 (fun i => (Value.slice A10 n10 c10).ownBlock = some i) := by
          intro i cur fr hi hc
          obtain ⟨d2, hd2⟩ := nd8 i hi
          exact heap_ne hc hd2 (by decide) rfl
        have P8 : Hid (Par w8 w.heap.size p q x6 y5) := Lib.hid ⟨P6.out.dc.but b8 (fun i hi e => by
            obtain ⟨d2, hd2⟩ := nd8 i e
            exact P6.out.dc.other hd2 (by decide) (by decide) (by decide) (by decide) (by decide) hi) na8, P6.out.rf.but b8 (fun i hi e => by
            obtain ⟨d2, hd2⟩ := nd8 i e
            obtain ⟨c2, t2, h3, h4⟩ := Rf.ty P6.out.rf hi
            rcases h4 with rfl | rfl | rfl <;> exact heap_ne hd2 h3 (by decide) rfl) na8, P6.out.ap⟩
        have L8 : Hid (Lg w8 w.heap.size g p vd6 rs6) := Lib.hid (L6.out.but b8 (fun i hi e => by
            rcases hi with rfl | hi
            · obtain ⟨d2, hd2⟩ := nd8 i e
              exact heap_ne hd2 L6.out.blk (by decide) rfl
            · exact AP6.out i e hi) na8)
        have W8 : Hid (Below w.heap.size w w8) := Lib.hid (W6.out.trans (b8.to_below (fun i _ hi => (O6.out.lt hi).1) hBw))
        have AP8 : Hid (Apart (.slice A8 n8 c8) vd6) := Lib.hid (fun i hi e => by
          rcases AT8.out with e2 | e2
          · rw [e2] at hi; exact AP6.out i hi e
          · rw [e2] at hi
            injection hi with hi
            have := L6.out.lt (.inr e)
            simp at hi
            omega)
        have M8 : Hid (rs6.map (·.r) = (ms ++ [(⟨⟨d.op, rid, d.par, d.bef, d.tag, d.txt, d.key, al⟩, d.va⟩ : RR)]).map (·.r)) := Lib.hid (by rw [HM6.out, if_pos HC0.out, HMP.out, List.map_append]; rfl)
        have Q8 : Hid (∀ a ∈ ms ++ [(⟨⟨d.op, rid, d.par, d.bef, d.tag, d.txt, d.key, al⟩, d.va⟩ : RR)], Told w a) := Lib.hid (fun a ha => by
          rcases List.mem_append.1 ha with ha | ha
          · exact HTo.out a ha
          · rw [List.mem_singleton] at ha
            subst ha
            exact TO.out)
        clear b8 nd8 na8 G8 AT8 P6 L6 W6 AP6 O6 N6 hl10 hBw
        generalize ms ++ [(⟨⟨d.op, rid, d.par, d.bef, d.tag, d.txt, d.key, al⟩, d.va⟩ : RR)] = ms8 at O8 M8 Q8

        have hn6 : x6.n ≤ (k : Int) + 2 := by have h1 := congrArg D.n HX6.out; have h2 := (apply_n x.d ⟨d.op, rid, d.par, d.bef, d.tag, d.txt, d.key, al⟩).2; rw [← h1] at h2; have h3 : x6.n ≤ x.n + 1 := h2; omega
        have E6 : Hid (x6.d = y5.d) := Lib.hid (by rw [HX6.out, HY5.out, HE.out])
        have WF6 : Hid (WF x6.d) := Lib.hid (by rw [HX6.out]; exact wf_apply HWF.out _)
        go_wp2_with fail
        refine (same_any w8 WF6.out (by omega) E6.out P8.out.dc P8.out.rf).mono ?_
        rintro e w9 ⟨rfl, b9⟩
        have P9 := Lib.hid (P8.out.below b9)
        have L9 := Lib.hid (L8.out.below b9)
        have O9 : Hid (kR.Own w9 w.heap.size (.slice A8 n8 c8) ms8) := Lib.hid (O8.out.below b9 (Nat.le_refl _))
        have W9 := Lib.hid (W8.out.trans (b9.mono W8.out.size))
        clear b9
        go_wp2_with fail
        refine (all_any w9 hrs6 L9.out).mono ?_
        rintro e w10 ⟨A, n, c, rs', rfl, o, hm, hr, b10⟩
        have P10 := Lib.hid (P9.out.below b10)
        have L10 := Lib.hid (L9.out.below b10)
        have O10 : Hid (kR.Own w10 w.heap.size (.slice A8 n8 c8) ms8) := Lib.hid (O9.out.below b10 (Nat.le_refl _))
        have W10 := Lib.hid (W9.out.trans (b10.mono W9.out.size))
        obtain ⟨_, _, _, hv, hl', hnc', _, _, hh'⟩ := own_r o
        injection hv with e1 e2 e3
        subst e1; subst e2; subst e3
        obtain ⟨_, _, _, hv, hl8, hnc8, _, _, hh8⟩ := own_r O10.out
        injection hv with e1 e2 e3
        subst e1; subst e2; subst e3
        have hmm : rs'.map (·.r) = ms8.map (·.r) := hm.trans M8.out
        obtain rfl : n8 = n := by rw [← hl', ← hl8]; have := congrArg List.length hmm; simp at this; exact this.symm
        have hrl : rs'.length = rs6.length := by have := congrArg List.length hm; simpa using this
        have HL' := Lib.hid hl'
        have HMM := Lib.hid hmm
        have HH' := Lib.hid hh'
        have HH8 := Lib.hid hh8
        have HR' : Hid (∀ a ∈ rs', a.r.attrs.length = a.va.n ∧ a.va.n ≤ 1000000 ∧ kA.Holds w10 w10.heap.size a.va.A a.r.attrs) := Lib.hid (fun a ha => ⟨(hr a ha).att.len, (hr a ha).few, (hr a ha).att.holds⟩)
        have HR8 : Hid (∀ a ∈ ms8, a.r.attrs.length = a.va.n ∧ kA.Holds w10 w10.heap.size a.va.A a.r.attrs) := Lib.hid (fun a ha => ⟨(Q8.out a ha).1, (Q8.out a ha).2 _ W10.out⟩)
        have hn8 : n8 ≤ 1000 := by omega
        clear o hm hr b10 hl' hnc' hh' hl8 hnc8 hh8 hmm hrl
        go_wp2_with fail
        refine (rrecs_eq rs' ms8 A A8 n8 c c8 w10 HL'.out HMM.out hn8 HH'.out HH8.out HR'.out HR8.out).mono ?_
        rintro e w11 ⟨rfl, b11⟩
        have P11 := Lib.hid (P10.out.below b11)
        have L11 := Lib.hid (L10.out.below b11)
        have O11 : Hid (kR.Own w11 w.heap.size (.slice A8 n8 c8) ms8) := Lib.hid (O10.out.below b11 (Nat.le_refl _))
        have W11 := Lib.hid (W10.out.trans (b11.mono W10.out.size))
        clear b11
        go_wp2_with fail
        go_roundw
        case rel => exact ⟨k + 1, x6, y5, vd6, rs6, A8, n8, c8, ms8, by omega, by go_num, rfl, by omega, by omega, P11, E6, WF6, L11, O11, M8, Q8, AP8, W11⟩
        case measure => simp [intOf]; omega
      · have HC0 := Lib.hid hc0
        have qc0 : (cd == 0) = false := by simpa using hc0
        clear hc0 r0 r1 r2 r3 r4 r5 r6 r7
        obtain ⟨w8, rfl⟩ : ∃ w8, w8 = w6 := ⟨_, rfl⟩
        obtain ⟨A8, rfl⟩ : ∃ A8, A8 = A10 := ⟨_, rfl⟩
        obtain ⟨n8, rfl⟩ : ∃ n8, n8 = n10 := ⟨_, rfl⟩
        obtain ⟨c8, rfl⟩ : ∃ c8, c8 = c10 := ⟨_, rfl⟩
        obtain ⟨ms8, rfl⟩ : ∃ ms8, ms8 = ms := ⟨_, rfl⟩
        have P8 := P6
        have L8 := L6
        have O8 := O6
        have W8 := W6
        have AP8 := AP6
        have Q8 := HTo
        have M8 : Hid (rs6.map (·.r) = ms8.map (·.r)) := Lib.hid (by rw [HM6.out, if_neg HC0.out, HMP.out])
        clear P6 L6 O6 W6 AP6 N6
        have hn6 : x6.n ≤ (k : Int) + 2 := by have h1 := congrArg D.n HX6.out; have h2 := (apply_n x.d ⟨d.op, rid, d.par, d.bef, d.tag, d.txt, d.key, al⟩).2; rw [← h1] at h2; have h3 : x6.n ≤ x.n + 1 := h2; omega
        have E6 : Hid (x6.d = y5.d) := Lib.hid (by rw [HX6.out, HY5.out, HE.out])
        have WF6 : Hid (WF x6.d) := Lib.hid (by rw [HX6.out]; exact wf_apply HWF.out _)
        go_wp2_with fail
        refine (same_any w8 WF6.out (by omega) E6.out P8.out.dc P8.out.rf).mono ?_
        rintro e w9 ⟨rfl, b9⟩
        have P9 := Lib.hid (P8.out.below b9)
        have L9 := Lib.hid (L8.out.below b9)
        have O9 : Hid (kR.Own w9 w.heap.size (.slice A8 n8 c8) ms8) := Lib.hid (O8.out.below b9 (Nat.le_refl _))
        have W9 := Lib.hid (W8.out.trans (b9.mono W8.out.size))
        clear b9
        go_wp2_with fail
        refine (all_any w9 hrs6 L9.out).mono ?_
        rintro e w10 ⟨A, n, c, rs', rfl, o, hm, hr, b10⟩
        have P10 := Lib.hid (P9.out.below b10)
        have L10 := Lib.hid (L9.out.below b10)
        have O10 : Hid (kR.Own w10 w.heap.size (.slice A8 n8 c8) ms8) := Lib.hid (O9.out.below b10 (Nat.le_refl _))
        have W10 := Lib.hid (W9.out.trans (b10.mono W9.out.size))
        obtain ⟨_, _, _, hv, hl', hnc', _, _, hh'⟩ := own_r o
        injection hv with e1 e2 e3
        subst e1; subst e2; subst e3
        obtain ⟨_, _, _, hv, hl8, hnc8, _, _, hh8⟩ := own_r O10.out
        injection hv with e1 e2 e3
        subst e1; subst e2; subst e3
        have hmm : rs'.map (·.r) = ms8.map (·.r) := hm.trans M8.out
        obtain rfl : n8 = n := by rw [← hl', ← hl8]; have := congrArg List.length hmm; simp at this; exact this.symm
        have hrl : rs'.length = rs6.length := by have := congrArg List.length hm; simpa using this
        have HL' := Lib.hid hl'
        have HMM := Lib.hid hmm
        have HH' := Lib.hid hh'
        have HH8 := Lib.hid hh8
        have HR' : Hid (∀ a ∈ rs', a.r.attrs.length = a.va.n ∧ a.va.n ≤ 1000000 ∧ kA.Holds w10 w10.heap.size a.va.A a.r.attrs) := Lib.hid (fun a ha => ⟨(hr a ha).att.len, (hr a ha).few, (hr a ha).att.holds⟩)
        have HR8 : Hid (∀ a ∈ ms8, a.r.attrs.length = a.va.n ∧ kA.Holds w10 w10.heap.size a.va.A a.r.attrs) := Lib.hid (fun a ha => ⟨(Q8.out a ha).1, (Q8.out a ha).2 _ W10.out⟩)
        have hn8 : n8 ≤ 1000 := by omega
        clear o hm hr b10 hl' hnc' hh' hl8 hnc8 hh8 hmm hrl
        go_wp2_with fail
        refine (rrecs_eq rs' ms8 A A8 n8 c c8 w10 HL'.out HMM.out hn8 HH'.out HH8.out HR'.out HR8.out).mono ?_
        rintro e w11 ⟨rfl, b11⟩
        have P11 := Lib.hid (P10.out.below b11)
        have L11 := Lib.hid (L10.out.below b11)
        have O11 : Hid (kR.Own w11 w.heap.size (.slice A8 n8 c8) ms8) := Lib.hid (O10.out.below b11 (Nat.le_refl _))
        have W11 := Lib.hid (W10.out.trans (b11.mono W10.out.size))
        clear b11
        go_wp2_with fail
        go_roundw
        case rel => exact ⟨k + 1, x6, y5, vd6, rs6, A8, n8, c8, ms8, by omega, by go_num, rfl, by omega, by omega, P11, E6, WF6, L11, O11, M8, Q8, AP8, W11⟩
        case measure => simp [intOf]; omega
    · obtain rfl : k = m := by omega
      go_wp2_with fail
      go_ret
      exact ⟨rfl, HW.out⟩
end Go.Proofs.Ytaodfilkmdeebaa.P7
