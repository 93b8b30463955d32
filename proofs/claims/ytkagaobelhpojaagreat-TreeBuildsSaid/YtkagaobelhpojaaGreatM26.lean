/- The reference's Apply: what is no change; a text's data. -/
import Derived.Deep.RegionHeld3
import Derived.Test.YtkagaobelhpojaaGreatM20
set_option linter.unusedVariables false
set_option linter.unusedSimpArgs false
namespace Go.Proofs.YtkagaobelhpojaaGreat.P5
open Go.RowKit Kd P4
variable {B q : Nat} {y : Rx}
set_option maxRecDepth 100000 in
set_option maxHeartbeats 1000000 in
theorem rapply_none (r : Rc) (A : Option Addr) (n c : Nat) (w : World) (q1 : (r.op == 1) = false) (q2 : (r.op == 2) = false) (q3 : (r.op == 3) = false) (q4 : (r.op != 4) = true) (q5 : (r.op != 5) = true) (h : Rf w B q y) : Calls Tryz.prog 28 #[.pointer (some ⟨q, 0, none⟩), .agg #[.int .i64 r.op, .int .i64 r.id, .int .i64 r.par, .int .i64 r.bef, .string r.tag, .string r.txt, .string r.key, .slice A n c]] w (RMade w B q y 1 y.d) := by
  have B1 : Hid (Below w.heap.size w (w.alloc (.cells #[.int .i64 r.op, .int .i64 r.id, .int .i64 r.par, .int .i64 r.bef, .string r.tag, .string r.txt, .string r.key, .slice A n c] 57))) := Lib.hid ((Below.refl _ _).alloc (Nat.le_refl _) _)
  have N1 : Hid (RcB (w.alloc (.cells #[.int .i64 r.op, .int .i64 r.id, .int .i64 r.par, .int .i64 r.bef, .string r.tag, .string r.txt, .string r.key, .slice A n c] 57)) w.heap.size r A n c) := Lib.hid (RcB.new w r A n c)
  have H0 := Lib.hid h
  clear h
  go_enter Tryz.func28, Tryz.ntmps28
  go_upto_region 1 with fail
  generalize w.alloc (.cells #[.int .i64 r.op, .int .i64 r.id, .int .i64 r.par, .int .i64 r.bef, .string r.tag, .string r.txt, .string r.key, .slice A n c] 57) = W at B1 N1 ⊢
  have H := Lib.hid (H0.out.below B1.out)
  have b0 := N1.out.c0
  have b1 := N1.out.c1
  have b5 := N1.out.c5
  have b7 := N1.out.c7
  go_wp2_with fail
  go_ret
  exact RMade.same H0.out B1.out rfl
set_option maxRecDepth 100000 in
set_option maxHeartbeats 4000000 in
theorem rapply_data (r : Rc) (A : Option Addr) (n c : Nat) (w : World) (ha : Asc y.l) (hl : y.rs.length ≤ 1000) (ht : r.txt.size ≤ maxLen) (q1 : (r.op == 1) = false) (q2 : (r.op == 2) = false) (q3 : (r.op == 3) = false) (q4 : (r.op != 4) = true) (q5 : (r.op != 5) = false) (q6 : (r.op == 4) = false) (h : Rf w B q y) : Calls Tryz.prog 28 #[.pointer (some ⟨q, 0, none⟩), .agg #[.int .i64 r.op, .int .i64 r.id, .int .i64 r.par, .int .i64 r.bef, .string r.tag, .string r.txt, .string r.key, .slice A n c]] w (RMade w B q y (dataD y.d r.id r.txt).1 (dataD y.d r.id r.txt).2) := by
  have B1 : Hid (Below w.heap.size w (w.alloc (.cells #[.int .i64 r.op, .int .i64 r.id, .int .i64 r.par, .int .i64 r.bef, .string r.tag, .string r.txt, .string r.key, .slice A n c] 57))) := Lib.hid ((Below.refl _ _).alloc (Nat.le_refl _) _)
  have N1 : Hid (RcB (w.alloc (.cells #[.int .i64 r.op, .int .i64 r.id, .int .i64 r.par, .int .i64 r.bef, .string r.tag, .string r.txt, .string r.key, .slice A n c] 57)) w.heap.size r A n c) := Lib.hid (RcB.new w r A n c)
  have H0 := Lib.hid h
  have HA := Lib.hid ha
  clear h
  cases hi : hasL y.l r.id with
  | false =>
    have HD : Hid (dataD y.d r.id r.txt = (2, y.d)) := Lib.hid (by unfold dataD; rw [if_pos (show hasL y.d.l r.id = false from hi)])
    have HI := Lib.hid hi
    clear ha hi
    go_enter Tryz.func28, Tryz.ntmps28
    go_upto_region 1 with fail
    generalize w.alloc (.cells #[.int .i64 r.op, .int .i64 r.id, .int .i64 r.par, .int .i64 r.bef, .string r.tag, .string r.txt, .string r.key, .slice A n c] 57) = W at B1 N1 ⊢
    have H := Lib.hid (H0.out.below B1.out)
    have b0 := N1.out.c0
    have b1 := N1.out.c1
    have b5 := N1.out.c5
    have b7 := N1.out.c7
    go_wp2_with fail
    refine (at_no r.id W hl HI.out H.out).mono ?_
    rintro e w' ⟨rfl, rfl⟩
    go_wp2_with fail
    go_ret
    rw [HD.out]
    exact RMade.same H0.out B1.out rfl
  | true =>
    go_enter Tryz.func28, Tryz.ntmps28
    go_upto_region 1 with fail
    generalize w.alloc (.cells #[.int .i64 r.op, .int .i64 r.id, .int .i64 r.par, .int .i64 r.bef, .string r.tag, .string r.txt, .string r.key, .slice A n c] 57) = W at B1 N1 ⊢
    have H := Lib.hid (H0.out.below B1.out)
    have b0 := N1.out.c0
    have b1 := N1.out.c1
    have b5 := N1.out.c5
    have b7 := N1.out.c7
    have hh : ¬ hasL y.d.l r.id = false := by rw [show y.d.l = y.l from rfl, hi]; simp
    obtain ⟨k, hk, hy, _⟩ := rplace HA.out hi
    obtain ⟨b, o, cl, A1, nn, ca, A2, n2, c2, hv, hcl, hb, d0, L, hva, hvk⟩ := H.out.lies hk
    have HVA := Lib.hid hva
    have HVK := Lib.hid hvk
    have HY := Lib.hid hy
    obtain ⟨nl, hnl⟩ : ∃ nl, y.rs.length = nl := ⟨_, rfl⟩
    have HNL := Lib.hid hnl
    have hkn : k < nl := by omega
    have hl2 : nl ≤ 1000 := by omega
    rw [hnl] at d0 hcl
    obtain ⟨m, hm⟩ : ∃ m, y.rs[k].nd = m := ⟨_, rfl⟩
    have HM := Lib.hid hm
    rw [hm] at L
    have l0 := L.c0
    have l1 := L.c1
    have l2 := L.c2
    have l3 := L.c3
    have l4 := L.c4
    have l5 := L.c5
    have l6 := L.c6
    have l7 := L.c7
    have hqlt := heap_lt H.out.blk
    have hgA : ∀ g, (Value.slice A2 n2 c2).ownBlock = some g → rfoot q y g := fun g hg => .inr (.inr ⟨_, List.getElem_mem hk, by rw [hvk]; exact hg⟩)
    have HGA := Lib.hid hgA
    have hR := H.out.nodes _ (List.getElem_mem hk)
    rw [show y.rs[k] = (⟨⟨A1, nn, ca⟩, ⟨A2, n2, c2⟩, m⟩ : Rn) by cases e : y.rs[k]; rw [e] at hva hvk hm; cases hva; cases hvk; cases hm; rfl] at hR
    have HR := Lib.hid hR
    clear hv hva hvk hnl hm L hgA hR
    have htg : tagOf y.d.l r.id = m.tag := by rw [← HM.out]; exact (rtag_at HA.out hk HY.out).1
    have HTG := Lib.hid htg
    have HH := Lib.hid hh
    clear ha hi hy htg hh
    have N2 : Hid (NdB (W.alloc (.cells #[.int .i64 m.id, .int .i64 m.par, .string m.tag, .string m.txt, .string m.key, .slice A1 nn ca, .slice A2 n2 c2, .int .i64 m.note] 81)) W.heap.size m A1 nn ca A2 n2 c2) := Lib.hid (NdB.new W m A1 nn ca A2 n2 c2)
    have B2 : Hid (Below w.heap.size w (W.alloc (.cells #[.int .i64 m.id, .int .i64 m.par, .string m.tag, .string m.txt, .string m.key, .slice A1 nn ca, .slice A2 n2 c2, .int .i64 m.note] 81))) := Lib.hid (B1.out.alloc B1.out.size _)
    have BW : Hid (Below W.heap.size W (W.alloc (.cells #[.int .i64 m.id, .int .i64 m.par, .string m.tag, .string m.txt, .string m.key, .slice A1 nn ca, .slice A2 n2 c2, .int .i64 m.note] 81))) := Lib.hid ((Below.refl _ _).alloc (Nat.le_refl _) _)
    have N3 : Hid (RcB (W.alloc (.cells #[.int .i64 m.id, .int .i64 m.par, .string m.tag, .string m.txt, .string m.key, .slice A1 nn ca, .slice A2 n2 c2, .int .i64 m.note] 81)) w.heap.size r A n c) := Lib.hid (heap_up N1.out)
    go_wp2_with fail
    refine (at_yes r.id W HA.out hl hk HY.out H.out).mono ?_
    rintro e w' ⟨rfl, rfl⟩
    go_upto_region 14 with fail
    generalize W.alloc (.cells #[.int .i64 m.id, .int .i64 m.par, .string m.tag, .string m.txt, .string m.key, .slice A1 nn ca, .slice A2 n2 c2, .int .i64 m.note] 81) = W2 at N2 B2 BW N3 ⊢
    clear l0 l1 l2 l3 l4 l5 l6 l7 d0 b0 b1 b5 b7
    have b0 := N3.out.c0
    have b5 := N3.out.c5
    have a2 := N2.out.c2
    have a3 := N2.out.c3
    have f3 := N2.out.frozen 3
    obtain ⟨bt, hbt⟩ : ∃ bt, P1.textB r.txt.data.toList = bt := ⟨_, rfl⟩
    have HBT := Lib.hid hbt
    clear hbt
    go_wp2_with fail
    refine (P3.rtext_at r.txt W2 HBT.out ht).mono ?_
    rintro e w' ⟨rfl, rfl⟩
    cases tE : m.tag.toList.isEmpty with
    | false =>
      have HD : Hid (dataD y.d r.id r.txt = (3, y.d)) := Lib.hid (by unfold dataD; rw [if_neg HH.out, if_pos]; rw [HTG.out]; intro e; rw [e] at tE; cases tE)
      go_wp2_with fail
      go_ret
      rw [HD.out]
      exact RMade.same H0.out B2.out rfl
    | true =>
      have HE : Hid (¬ (tagOf y.d.l r.id).toList ≠ []) := Lib.hid (by rw [HTG.out]; simpa using tE)
      cases bt with
      | false =>
        have HD : Hid (dataD y.d r.id r.txt = (1, y.d)) := Lib.hid (by unfold dataD; rw [if_neg HH.out, if_neg HE.out, if_pos HBT.out])
        go_wp2_with fail
        go_ret
        rw [HD.out]
        exact RMade.same H0.out B2.out rfl
      | true =>
        have HD : Hid (dataD y.d r.id r.txt = (0, { y.d with l := upd y.l r.id (withTxt r.txt) })) := Lib.hid (by unfold dataD; rw [if_neg HH.out, if_neg HE.out, if_neg (by rw [HBT.out]; simp)]; rfl)
        have N4 : Hid (NdB (W2.setCell ⟨W.heap.size, 3, none⟩ (.string r.txt)) W.heap.size (withTxt r.txt m) A1 nn ca A2 n2 c2) := Lib.hid (heap_set N2.out 3 (.string r.txt))
        have B4 : Hid (Below w.heap.size w (W2.setCell ⟨W.heap.size, 3, none⟩ (.string r.txt))) := Lib.hid (Below.setCell B2.out (by exact B1.out.size) _)
        have BW4 : Hid (Below W.heap.size W (W2.setCell ⟨W.heap.size, 3, none⟩ (.string r.txt))) := Lib.hid (Below.setCell BW.out (by exact Nat.le_refl _) _)
        go_upto_region 27 with fail
        generalize W2.setCell ⟨W.heap.size, 3, none⟩ (.string r.txt) = W4 at N4 B4 BW4 ⊢
        clear a2 a3 f3 b0 b5
        have a0 := N4.out.c0
        have a1 := N4.out.c1
        have a2 := N4.out.c2
        have a3 := N4.out.c3
        have a4 := N4.out.c4
        have a5 := N4.out.c5
        have a6 := N4.out.c6
        have a7 := N4.out.c7
        go_wp2_with fail
        refine (set_any k (withTxt r.txt m) A1 nn ca A2 n2 c2 W4 HA.out hl hk (by rw [HM.out]; rfl) ⟨(HR.out.below BW4.out).att, (HR.out.below BW4.out).kids⟩ (H0.out.below B4.out)).mono ?_
        rintro e w5 ⟨rfl, v5, r5⟩
        have R5 := Lib.hid (r5.made B4.out HGA.out HA.out hk HY.out (withTxt r.txt) (by rw [HM.out]))
        clear r5
        go_wp2_with fail
        go_ret
        rw [HD.out]
        exact ⟨rfl, R5.out⟩
set_option maxRecDepth 100000 in
set_option maxHeartbeats 4000000 in
theorem rapply_attrs (r : Rc) (A : Option Addr) (n c : Nat) (w : World) (ha : Asc y.l) (hl : y.rs.length ≤ 1000) (ht : ArgA w A n c r.attrs) (q1 : (r.op == 1) = false) (q2 : (r.op == 2) = false) (q3 : (r.op == 3) = false) (q4 : (r.op != 4) = false) (q6 : (r.op == 4) = true) (h : Rf w B q y) : Calls Tryz.prog 28 #[.pointer (some ⟨q, 0, none⟩), .agg #[.int .i64 r.op, .int .i64 r.id, .int .i64 r.par, .int .i64 r.bef, .string r.tag, .string r.txt, .string r.key, .slice A n c]] w (RMade w B q y (attrsD y.d r.id r.attrs).1 (attrsD y.d r.id r.attrs).2) := by
  have B1 : Hid (Below w.heap.size w (w.alloc (.cells #[.int .i64 r.op, .int .i64 r.id, .int .i64 r.par, .int .i64 r.bef, .string r.tag, .string r.txt, .string r.key, .slice A n c] 57))) := Lib.hid ((Below.refl _ _).alloc (Nat.le_refl _) _)
  have N1 : Hid (RcB (w.alloc (.cells #[.int .i64 r.op, .int .i64 r.id, .int .i64 r.par, .int .i64 r.bef, .string r.tag, .string r.txt, .string r.key, .slice A n c] 57)) w.heap.size r A n c) := Lib.hid (RcB.new w r A n c)
  have H0 := Lib.hid h
  have HA := Lib.hid ha
  have HT := Lib.hid ht
  clear h ht
  cases hi : hasL y.l r.id with
  | false =>
    have HD : Hid (attrsD y.d r.id r.attrs = (2, y.d)) := Lib.hid (by unfold attrsD; rw [if_pos (show hasL y.d.l r.id = false from hi)])
    have HI := Lib.hid hi
    clear ha hi
    go_enter Tryz.func28, Tryz.ntmps28
    go_upto_region 1 with fail
    generalize w.alloc (.cells #[.int .i64 r.op, .int .i64 r.id, .int .i64 r.par, .int .i64 r.bef, .string r.tag, .string r.txt, .string r.key, .slice A n c] 57) = W at B1 N1 ⊢
    have H := Lib.hid (H0.out.below B1.out)
    have b0 := N1.out.c0
    have b1 := N1.out.c1
    have b5 := N1.out.c5
    have b7 := N1.out.c7
    go_wp2_with fail
    refine (at_no r.id W hl HI.out H.out).mono ?_
    rintro e w' ⟨rfl, rfl⟩
    go_wp2_with fail
    go_ret
    rw [HD.out]
    exact RMade.same H0.out B1.out rfl
  | true =>
    go_enter Tryz.func28, Tryz.ntmps28
    go_upto_region 1 with fail
    generalize w.alloc (.cells #[.int .i64 r.op, .int .i64 r.id, .int .i64 r.par, .int .i64 r.bef, .string r.tag, .string r.txt, .string r.key, .slice A n c] 57) = W at B1 N1 ⊢
    have H := Lib.hid (H0.out.below B1.out)
    have b0 := N1.out.c0
    have b1 := N1.out.c1
    have b5 := N1.out.c5
    have b7 := N1.out.c7
    have hh : ¬ hasL y.d.l r.id = false := by rw [show y.d.l = y.l from rfl, hi]; simp
    obtain ⟨k, hk, hy, _⟩ := rplace HA.out hi
    obtain ⟨b, o, cl, A1, nn, ca, A2, n2, c2, hv, hcl, hb, d0, L, hva, hvk⟩ := H.out.lies hk
    have HVA := Lib.hid hva
    have HVK := Lib.hid hvk
    have HY := Lib.hid hy
    obtain ⟨nl, hnl⟩ : ∃ nl, y.rs.length = nl := ⟨_, rfl⟩
    have HNL := Lib.hid hnl
    have hkn : k < nl := by omega
    have hl2 : nl ≤ 1000 := by omega
    rw [hnl] at d0 hcl
    obtain ⟨m, hm⟩ : ∃ m, y.rs[k].nd = m := ⟨_, rfl⟩
    have HM := Lib.hid hm
    rw [hm] at L
    have l0 := L.c0
    have l1 := L.c1
    have l2 := L.c2
    have l3 := L.c3
    have l4 := L.c4
    have l5 := L.c5
    have l6 := L.c6
    have l7 := L.c7
    have hqlt := heap_lt H.out.blk
    have hgA : ∀ g, (Value.slice A2 n2 c2).ownBlock = some g → rfoot q y g := fun g hg => .inr (.inr ⟨_, List.getElem_mem hk, by rw [hvk]; exact hg⟩)
    have HGA := Lib.hid hgA
    have hR := H.out.nodes _ (List.getElem_mem hk)
    rw [show y.rs[k] = (⟨⟨A1, nn, ca⟩, ⟨A2, n2, c2⟩, m⟩ : Rn) by cases e : y.rs[k]; rw [e] at hva hvk hm; cases hva; cases hvk; cases hm; rfl] at hR
    have HR := Lib.hid hR
    clear hv hva hvk hnl hm L hgA hR
    have htg : tagOf y.d.l r.id = m.tag := by rw [← HM.out]; exact (rtag_at HA.out hk HY.out).1
    have HTG := Lib.hid htg
    have HH := Lib.hid hh
    clear ha hi hy htg hh
    have N2 : Hid (NdB (W.alloc (.cells #[.int .i64 m.id, .int .i64 m.par, .string m.tag, .string m.txt, .string m.key, .slice A1 nn ca, .slice A2 n2 c2, .int .i64 m.note] 81)) W.heap.size m A1 nn ca A2 n2 c2) := Lib.hid (NdB.new W m A1 nn ca A2 n2 c2)
    have B2 : Hid (Below w.heap.size w (W.alloc (.cells #[.int .i64 m.id, .int .i64 m.par, .string m.tag, .string m.txt, .string m.key, .slice A1 nn ca, .slice A2 n2 c2, .int .i64 m.note] 81))) := Lib.hid (B1.out.alloc B1.out.size _)
    have BW : Hid (Below W.heap.size W (W.alloc (.cells #[.int .i64 m.id, .int .i64 m.par, .string m.tag, .string m.txt, .string m.key, .slice A1 nn ca, .slice A2 n2 c2, .int .i64 m.note] 81))) := Lib.hid ((Below.refl _ _).alloc (Nat.le_refl _) _)
    have N3 : Hid (RcB (W.alloc (.cells #[.int .i64 m.id, .int .i64 m.par, .string m.tag, .string m.txt, .string m.key, .slice A1 nn ca, .slice A2 n2 c2, .int .i64 m.note] 81)) w.heap.size r A n c) := Lib.hid (heap_up N1.out)
    go_wp2_with fail
    refine (at_yes r.id W HA.out hl hk HY.out H.out).mono ?_
    rintro e w' ⟨rfl, rfl⟩
    go_upto_region 14 with fail
    generalize W.alloc (.cells #[.int .i64 m.id, .int .i64 m.par, .string m.tag, .string m.txt, .string m.key, .slice A1 nn ca, .slice A2 n2 c2, .int .i64 m.note] 81) = W2 at N2 B2 BW N3 ⊢
    clear l0 l1 l2 l3 l4 l5 l6 l7 d0 b0 b1 b5 b7
    have b0 := N3.out.c0
    have b7 := N3.out.c7
    obtain ⟨bt, hbt⟩ : ∃ bt, P3.mayA r.attrs = bt := ⟨_, rfl⟩
    have HBT := Lib.hid hbt
    clear hbt
    go_wp2_with fail
    refine (P3.rmay_any r.attrs A n c W2 HT.out.len HT.out.few HT.out.wf (p3holds (HT.out.below B2.out).holds)).mono ?_
    rintro e w3 ⟨rfl, bb3⟩
    rw [HBT.out]
    have B3 := Lib.hid (B2.out.trans (bb3.mono B2.out.size))
    have N5 := Lib.hid (N2.out.below bb3 N2.out.lt)
    have R5 := Lib.hid (N3.out.below bb3 N3.out.lt)
    have BW3 := Lib.hid (BW.out.trans (bb3.mono BW.out.size))
    have hg3 : W.heap.size < w3.heap.size := N5.out.lt
    clear bb3 b0 b7
    have a2 := N5.out.c2
    cases tE : m.tag.toList.isEmpty with
    | true =>
      have HD : Hid (attrsD y.d r.id r.attrs = (3, y.d)) := Lib.hid (by unfold attrsD; rw [if_neg HH.out, if_pos]; rw [HTG.out]; simpa using tE)
      go_wp2_with fail
      go_ret
      rw [HD.out]
      exact RMade.same H0.out B3.out rfl
    | false =>
      have HE : Hid (¬ (tagOf y.d.l r.id).toList = []) := Lib.hid (by rw [HTG.out]; intro e; rw [e] at tE; cases tE)
      cases bt with
      | false =>
        have HD : Hid (attrsD y.d r.id r.attrs = (1, y.d)) := Lib.hid (by unfold attrsD; rw [if_neg HH.out, if_neg HE.out, if_pos HBT.out])
        go_wp2_with fail
        go_ret
        rw [HD.out]
        exact RMade.same H0.out B3.out rfl
      | true =>
        have HD : Hid (attrsD y.d r.id r.attrs = (0, { y.d with l := upd y.l r.id (withAttrs r.attrs) })) := Lib.hid (by unfold attrsD; rw [if_neg HH.out, if_neg HE.out, if_neg (by rw [HBT.out]; simp)]; rfl)
        have OM : Hid (kA.Own (w3.alloc (.cells #[] 88)) w3.heap.size (.slice (some ⟨w3.heap.size, 0, none⟩) 0 0) []) := Lib.hid (Kind.Own.made kA w3 w3.heap.size (Nat.le_refl _))
        have b7 : (w3.alloc (.cells #[] 88)).cell? ⟨w.heap.size, 7, none⟩ = some (.slice A n c) := RcB.c7 (heap_up R5.out)
        have HHA := Lib.hid ((HT.out.below B3.out).holds.below ((Below.refl w3.heap.size w3).alloc (Nat.le_refl _) (.cells #[] 88)) (Nat.le_refl _))
        have hfew := HT.out.few
        go_upto_region 27 with (at_builtin; refine kA.wp_app rfl _ _ rfl (v := .slice (some ⟨w3.heap.size, 0, none⟩) 0 0) (l := []) (m := r.attrs) (B := w3.heap.size) rfl OM.out rfl HT.out.len HT.out.nil HHA.out (by simp; omega) (by simp) ?_; intro v' w4 hown hgrow hat; obtain ⟨A6, n6, c6, rfl, _, _, _, _, _⟩ := hown.slice; have B34 : Hid (Below w3.heap.size w3 w4) := Lib.hid (Below.grown ((Below.refl _ _).alloc (Nat.le_refl _) _) hgrow (by simp) (fun k hk => by simp [Value.ownBlock] at hk; omega)); have HOA := Lib.hid hown; clear hown hgrow hat; have N6 := Lib.hid (N5.out.below B34.out hg3); have f5 := N6.out.frozen 5; have a5 := N6.out.c5)
        have HAO : Hid (AOk w4 ⟨A6, n6, c6⟩ r.attrs) := Lib.hid (by
          obtain ⟨s, hs, h2⟩ := AOk.own HOA.out
          obtain ⟨sA, sn, sc⟩ := s
          cases hs
          exact h2)
        have N4 : Hid (NdB (w4.setCell ⟨W.heap.size, 5, none⟩ (.slice A6 n6 c6)) W.heap.size (withAttrs r.attrs m) A6 n6 c6 A2 n2 c2) := Lib.hid (heap_set N6.out 5 (.slice A6 n6 c6))
        have B4 : Hid (Below w.heap.size w (w4.setCell ⟨W.heap.size, 5, none⟩ (.slice A6 n6 c6))) := Lib.hid (Below.setCell (B3.out.trans (B34.out.mono B3.out.size)) (by exact B1.out.size) _)
        have BW4 : Hid (Below W.heap.size W (w4.setCell ⟨W.heap.size, 5, none⟩ (.slice A6 n6 c6))) := Lib.hid (Below.setCell (BW3.out.trans (B34.out.mono BW3.out.size)) (by exact Nat.le_refl _) _)
        have HA4 : Hid (AOk (w4.setCell ⟨W.heap.size, 5, none⟩ (.slice A6 n6 c6)) ⟨A6, n6, c6⟩ r.attrs) := Lib.hid (HAO.out.but (But.setCell (S := fun k => k = W.heap.size) (p := ⟨W.heap.size, 5, none⟩) (But.refl _ _) (fun _ => rfl) _) N6.out.noA)
        generalize w4.setCell ⟨W.heap.size, 5, none⟩ (.slice A6 n6 c6) = W4 at N4 B4 BW4 HA4 ⊢
        clear a2 a5 f5 b7
        have a0 := N4.out.c0
        have a1 := N4.out.c1
        have a2 := N4.out.c2
        have a3 := N4.out.c3
        have a4 := N4.out.c4
        have a5 := N4.out.c5
        have a6 := N4.out.c6
        have a7 := N4.out.c7
        go_wp2_with fail
        refine (set_any k (withAttrs r.attrs m) A6 n6 c6 A2 n2 c2 W4 HA.out hl hk (by rw [HM.out]; rfl) ⟨HA4.out, (HR.out.below BW4.out).kids⟩ (H0.out.below B4.out)).mono ?_
        rintro e w5 ⟨rfl, v5, r5⟩
        have R6 := Lib.hid (r5.made B4.out HGA.out HA.out hk HY.out (withAttrs r.attrs) (by rw [HM.out]))
        clear r5
        go_wp2_with fail
        go_ret
        rw [HD.out]
        exact ⟨rfl, R6.out⟩
end Go.Proofs.YtkagaobelhpojaaGreat.P5

/- A region that draws its order, of which one operation waits for all others: that one may be done behind the region without it. No condition on the program. -/
namespace Go.Proofs.YtkagaobelhpojaaGreat.Tl
open Go

section
variable {P : Program} {ops : Array Oper} {Q : Exit → Act → World → Prop} {md : Region.Mode} {L : Nat} {oL : Oper}

/-- an operation that does nothing, in the place of another one -/
def idle (o : Oper) : Oper := { o with op := .assign (.const (.bool true)) }
/-- the last operation, done behind the others -/
def LastDo (P : Program) (ops : Array Oper) (oL : Oper) (Q : Exit → Act → World → Prop) : Exit → Act → World → Prop
  | .normal, a, w => ∀ K : Act → World → Prop, (∀ a w, Q .normal a w → K a w) → if Region.wanted oL (yielded ops a.tmps) = true then Oper.wp P oL a w K Q else K (a.put oL.dst undef) w
  | e, a, w => Q e a w
theorem lets (h : LetsOut (LastDo P ops oL Q)) : LetsOut Q := h
theorem idle_at (hL : ops[L]? = some oL) (j : Nat) : (ops.setIfInBounds L (idle oL))[j]? = (ops[j]?).map fun o => if j = L then idle oL else o := by
  rw [Array.getElem?_setIfInBounds]
  by_cases e : L = j
  · subst e
    rw [if_pos rfl, hL]
    simp [(Array.getElem?_eq_some_iff.1 hL).1]
  · rw [if_neg e]
    cases ops[j]? <;> simp [Ne.symm e]
theorem idle_after (hL : ops[L]? = some oL) (j : Nat) : ((ops.setIfInBounds L (idle oL))[j]?).map (·.after) = (ops[j]?).map (·.after) := by
  rw [idle_at hL]
  by_cases e : j = L
  · subst e; rw [hL]; simp [idle]
  · cases ops[j]? <;> simp [e]
theorem idle_dst (hL : ops[L]? = some oL) (j : Nat) : ((ops.setIfInBounds L (idle oL))[j]?).bind (·.dst) = (ops[j]?).bind (·.dst) := by
  rw [idle_at hL]
  by_cases e : j = L
  · subst e; rw [hL]; simp [idle]
  · cases ops[j]? <;> simp [e]
theorem idle_yielded (hL : ops[L]? = some oL) (t : Array Value) : yielded (ops.setIfInBounds L (idle oL)) t = yielded ops t := by
  funext j
  unfold yielded
  rw [idle_dst hL]
theorem idle_ready (hL : ops[L]? = some oL) (listed : Array Bool) : Region.ready md (ops.setIfInBounds L (idle oL)) listed = Region.ready md ops listed := by
  unfold Region.ready
  rw [Array.size_setIfInBounds]
  congr 1
  funext i
  have := idle_after hL i
  have e : ∀ x : Option Oper, (x.map fun o => o.after.all fun e => !Region.binds md e || listed.getD e.on false) = (x.map (·.after)).map fun a => a.all fun e => !Region.binds md e || listed.getD e.on false := fun x => by cases x <;> rfl
  rw [e, e, this]

/-- each operation but number L is waited for by a later one, and waits for earlier ones alone -/
def lastB (md : Region.Mode) (ops : Array Oper) (L : Nat) : Bool :=
  (List.range ops.size).all fun k => (k == L || (List.range ops.size).any fun j => decide (k < j) && ((ops[j]?).map fun o => o.after.any fun e => Region.binds md e && e.on == k).getD false) && ((ops[k]?).map fun o => o.after.all fun e => !Region.binds md e || decide (e.on < k)).getD false && decide (k ≤ L)
structure Last (md : Region.Mode) (ops : Array Oper) (L : Nat) : Prop where
  next : ∀ k, k < ops.size → k ≠ L → ∃ j o, k < j ∧ ops[j]? = some o ∧ ∃ e ∈ o.after, Region.binds md e = true ∧ e.on = k
  prev : ∀ (k : Nat) (o : Oper), ops[k]? = some o → ∀ e ∈ o.after, Region.binds md e = true → e.on < k
  last : ∀ k, k < ops.size → k ≤ L
theorem lastB_spec (h : lastB md ops L = true) : Last md ops L := by
  unfold lastB at h
  rw [List.all_eq_true] at h
  refine ⟨fun k hk hne => ?_, fun k o ho e he hb => ?_, fun k hk => ?_⟩
  · have := h k (List.mem_range.2 hk)
    simp only [Bool.and_eq_true, Bool.or_eq_true, beq_iff_eq, hne, false_or] at this
    obtain ⟨j, hj, hk2⟩ := List.any_eq_true.1 this.1.1
    simp only [Bool.and_eq_true, decide_eq_true_eq] at hk2
    obtain ⟨hkj, hk3⟩ := hk2
    rw [List.mem_range] at hj
    rw [Array.getElem?_eq_getElem hj] at hk3
    simp only [Option.map_some, Option.getD_some] at hk3
    obtain ⟨e, he, hb⟩ := Array.any_eq_true'.1 hk3
    simp only [Bool.and_eq_true, beq_iff_eq] at hb
    exact ⟨j, ops[j], hkj, Array.getElem?_eq_getElem hj, e, he, hb.1, hb.2⟩
  · have hk := (Array.getElem?_eq_some_iff.1 ho).1
    have := h k (List.mem_range.2 hk)
    simp only [Bool.and_eq_true, ho, Option.map_some, Option.getD_some] at this
    have h2 := Array.all_eq_true_iff_forall_mem.1 this.1.2 e he
    simpa [hb] using h2
  · have := h k (List.mem_range.2 hk)
    simp only [Bool.and_eq_true, decide_eq_true_eq] at this
    exact this.2

def Closed (md : Region.Mode) (ops : Array Oper) (listed : Array Bool) : Prop := ∀ j o, ops[j]? = some o → listed.getD j false = true → ∀ e ∈ o.after, Region.binds md e = true → listed.getD e.on false = true
theorem Closed.set {listed : Array Bool} (h : Closed md ops listed) {i : Nat} (hi : i ∈ Region.ready md ops listed) : Closed md ops (listed.setIfInBounds i true) := by
  intro j o ho hj e he hb
  by_cases hji : i = j
  · subst hji
    obtain ⟨_, o2, ho2, h2⟩ := mem_ready.1 hi
    rw [ho] at ho2
    injection ho2 with ho2
    subst ho2
    exact getD_set_true (h2 e he hb)
  · rw [getD_set_ne false hji] at hj
    exact getD_set_true (h j o ho hj e he hb)
/-- where the last one may come up all others have -/
theorem all_listed (hl : Last md ops L) {listed : Array Bool} (hc : Closed md ops listed) (hr : L ∈ Region.ready md ops listed) : ∀ n k, n + k = L → k < ops.size → k ≠ L → listed.getD k false = true := by
  obtain ⟨_, oL, hL, ha⟩ := mem_ready.1 hr
  intro n
  induction n using Nat.strongRecOn with
  | ind n ih =>
    intro k hn hk hne
    obtain ⟨j, o, hkj, ho, e, he, hb, rfl⟩ := hl.next k hk hne
    have hj := (Array.getElem?_eq_some_iff.1 ho).1
    by_cases hjL : j = L
    · subst hjL
      rw [hL] at ho
      injection ho with ho
      subst ho
      exact ha e he hb
    · have := hl.last j hj
      exact hc j o ho (ih (L - j) (by omega) j (by omega) hj hjL) e he hb
theorem getD_two {listed : Array Bool} {k : Nat} (h : listed.getD k false = true) (d : Bool) : listed.getD k d = true := by
  simp only [Array.getD_eq_getD_getElem?] at h ⊢
  cases e : listed[k]? with
  | none => rw [e] at h; simp at h
  | some v => rw [e] at h; simpa using h
theorem some_ready (hl : Last md ops L) {listed : Array Bool} (hs : listed.size = ops.size) (k : Nat) : k < ops.size → listed.getD k true = false → Region.ready md ops listed ≠ [] := by
  induction k using Nat.strongRecOn with
  | ind k ih =>
    intro hk hu
    by_cases hall : ∀ e ∈ (ops[k]'hk).after, Region.binds md e = true → listed.getD e.on false = true
    · intro h0
      have : k ∈ Region.ready md ops listed := mem_ready.2 ⟨hu, _, Array.getElem?_eq_getElem hk, hall⟩
      rw [h0] at this
      cases this
    · simp only [Classical.not_forall] at hall
      obtain ⟨e, he, hb, hn⟩ := hall
      have hlt := hl.prev k _ (Array.getElem?_eq_getElem hk) e he hb
      refine ih e.on hlt (by omega) ?_
      have hlt2 : e.on < listed.size := by omega
      simp only [Array.getD_eq_getD_getElem?, Array.getElem?_eq_getElem hlt2, Option.getD_some, Bool.not_eq_true] at hn ⊢
      exact hn
theorem none_ready {listed : Array Bool} (h : ∀ k, k < ops.size → listed.getD k true = true) : Region.ready md ops listed = [] := by
  rw [List.eq_nil_iff_forall_not_mem]
  intro k hk
  obtain ⟨h0, o, ho, _⟩ := mem_ready.1 hk
  rw [h k (Array.getElem?_eq_some_iff.1 ho).1] at h0
  cases h0
theorem upon_imp {o : Oper} {a : Act} {K K' : Act → World → Prop} {Q' : Exit → Act → World → Prop} (hK : ∀ a w, K a w → K' a w) (hp : ∀ c a w, Q' (.panic c) a w → Q (.panic c) a w) (hl : LetsOut Q' → LetsOut Q) {r : Result Next} (h : o.upon P a K Q' r) : o.upon P a K' Q r := by
  cases r with
  | ok n w' =>
    cases n with
    | value v => exact hK _ _ h
    | skip => exact hK _ _ h
    | defer d => exact hK _ _ h
    | enter f args =>
      refine Calls.mono (h : Calls P f args w' _) fun e w'' he => ?_
      cases e with
      | returned v => exact hK _ _ he
      | panicked c => exact hp _ _ _ he
      | outgrown => exact hl he
    | row row args => exact Rows.mono (h : Rows P row args w' _) fun _ _ he => hK _ _ he
    | _ => exact (h : False).elim
  | halt x w' => cases x <;> first | exact hp _ _ _ h | exact (h : False).elim
theorem idle_run {a : Act} {w : World} (hd : oL.dst = none) {K : Act → World → Prop} {Q' : Exit → Act → World → Prop} (h : (idle oL).wp P a w K Q' ∨ ((idle oL).asks P a w ∧ LetsOut Q')) : K a w := by
  rcases h with h | h
  · unfold Oper.wp idle at h
    simp only [execOp, Act.eval] at h
    simpa [Act.put, hd, Oper.upon] using h
  · exfalso
    have h1 := h.1.1
    unfold idle at h1
    simp only [execOp, Act.eval] at h1
    have h2 : noRoomEvent ∈ (#[] : Array Event) := h1
    simp at h2
theorem wpAny_last (hL : ops[L]? = some oL) (hd : oL.dst = none) (hg : oL.guard = none) (hl : Last md ops L) : ∀ (fuel : Nat) (listed : Array Bool) (a : Act) (w : World), listed.size = ops.size → Closed md ops listed → listed.getD L true = false →
    (∀ k, k < ops.size → listed.getD k true = false → fuel ≠ 0) → (listed.toList.countP (!·)) ≤ fuel →
    wpAny P md (ops.setIfInBounds L (idle oL)) (LastDo P ops oL Q) fuel listed a w → wpAny P md ops Q fuel listed a w := by
  have hLs := (Array.getElem?_eq_some_iff.1 hL).1
  intro fuel
  induction fuel with
  | zero => intro listed a w _ _ hu h0 _ _; exact absurd rfl (h0 L hLs hu)
  | succ fuel ih =>
    intro listed a w hs hc hu _ hcnt h
    obtain ⟨h1, h2⟩ := h
    refine ⟨fun h0 => absurd h0 (some_ready hl hs L hLs hu), fun i hi => ?_⟩
    have hi2 := h2 i (by rw [idle_ready hL]; exact hi)
    have hset : (listed.setIfInBounds i true).size = ops.size := by rw [Array.size_setIfInBounds]; exact hs
    by_cases hiL : i = L
    · subst hiL
      have hdone : Region.ready md ops (listed.setIfInBounds i true) = [] := none_ready fun k hk => by
        by_cases e : i = k
        · subst e
          simp [hs, hk]
        · rw [getD_set_ne true e]
          exact getD_two (all_listed hl hc hi (i - k) k (by have := hl.last k hk; omega) hk (Ne.symm e)) true
      have hlast : LastDo P ops oL Q .normal a w := by
        unfold wpOp at hi2
        rw [idle_at hL, hL] at hi2
        simp only [Option.map_some, if_true] at hi2
        have hw : Region.wanted (idle oL) (yielded (ops.setIfInBounds i (idle oL)) a.tmps) = true := by simp [Region.wanted, idle, hg]
        rw [if_pos hw] at hi2
        have := idle_run hd hi2
        cases fuel with
        | zero => exact this.2
        | succ fuel => exact this.1 (by rw [idle_ready hL]; exact hdone)
      have := hlast (wpAny P md ops Q fuel (listed.setIfInBounds i true)) fun a w hq => wpAny_done hdone hq fuel
      unfold wpOp
      rw [hL]
      simp only
      split
      · rename_i hw; rw [if_pos hw] at this; exact .inl this
      · rename_i hw; rw [if_neg hw] at this; exact this
    · have hmem := mem_ready.1 hi
      have hun : (listed.setIfInBounds i true).getD L true = false := by rw [getD_set_ne true hiL]; exact hu
      have hcnt2 : (listed.setIfInBounds i true).toList.countP (!·) ≤ fuel := by
        have hlt : i < listed.size := by
          obtain ⟨_, o, ho, _⟩ := hmem
          have := (Array.getElem?_eq_some_iff.1 ho).1
          omega
        have hf : listed.toList[i]'(by simpa using hlt) = false := by
          have := hmem.1
          simpa [hlt] using this
        rw [Array.toList_setIfInBounds, List.countP_set (by simpa using hlt), hf]
        simp only [Bool.not_false, Bool.not_true, if_true, Bool.false_eq_true, if_false]
        omega
      have hpos : ∀ k, k < ops.size → (listed.setIfInBounds i true).getD k true = false → fuel ≠ 0 := by
        rintro k hk hk2 rfl
        have hlt : k < (listed.setIfInBounds i true).toList.length := by simpa using (by omega : k < listed.size)
        have : 0 < (listed.setIfInBounds i true).toList.countP (!·) := by
          rw [List.countP_pos_iff]
          refine ⟨(listed.setIfInBounds i true).toList[k], List.getElem_mem hlt, ?_⟩
          have h3 : k < (listed.setIfInBounds i true).size := by simpa using hlt
          have : (listed.setIfInBounds i true)[k] = false := by
            simpa [Array.getD_eq_getD_getElem?, Array.getElem?_eq_getElem h3] using hk2
          rw [Array.getElem_toList, this]
          rfl
        omega
      have step := fun a' w' => ih (listed.setIfInBounds i true) a' w' hset (hc.set hi) hun hpos hcnt2
      unfold wpOp at hi2 ⊢
      rw [idle_at hL] at hi2
      obtain ⟨o, ho⟩ : ∃ o, ops[i]? = some o := by obtain ⟨_, o, ho, _⟩ := hmem; exact ⟨o, ho⟩
      rw [ho] at hi2 ⊢
      simp only [Option.map_some, if_neg hiL, idle_yielded hL] at hi2 ⊢
      split
      · rename_i hw
        rw [if_pos hw] at hi2
        rcases hi2 with h | h
        · exact .inl (upon_imp step (fun _ _ _ h => h) lets h)
        · exact .inr ⟨h.1, lets h.2⟩
      · rename_i hw
        rw [if_neg hw] at hi2
        exact step _ _ hi2
/-- THE BEGINNING: the region without its last operation, under a condition S; the last one is done behind it. -/
theorem region_last {S : World → Prop} {id : Nat} {a : Act} {w : World} (hm : P.follows .mixedOrders = true) (L : Nat) (oL : Oper) (hL : ops[L]? = some oL) (hd : oL.dst = none) (hg : oL.guard = none) (hl : lastB .any ops L = true) (hS : S w.drew)
    (h : S w.drew → wpAnyH P .any (ops.setIfInBounds L (idle oL)) (LastDo P ops oL Q) S ops.size (Array.replicate ops.size false) a w.drew) : (Code.region id ops true).wp P Q a w := by
  have hLs := (Array.getElem?_eq_some_iff.1 hL).1
  refine wp_region_any hm (wpAny_last hL hd hg (lastB_spec hl) _ _ _ _ (by simp) ?_ (by simp [hLs]) (fun k hk _ => by omega) ?_ (wpAny_of_held _ _ _ _ (h hS)))
  · intro j o ho hj
    have hlt := (Array.getElem?_eq_some_iff.1 ho).1
    simp [hlt] at hj
  · rw [Array.toList_replicate, List.countP_replicate]; simp
end
end Go.Proofs.YtkagaobelhpojaaGreat.Tl
