/- The reference's Apply: what is no change; a text's data. -/
import Derived.Test.YtihjdmdafiifhaaGreatM22
set_option linter.unusedVariables false
set_option linter.unusedSimpArgs false
set_option linter.unusedVariables false
set_option linter.unusedSimpArgs false
namespace Go.Proofs.YtihjdmdafiifhaaGreat.P5
open Go.RowKit Kd P4
variable {B q : Nat} {y : Rx}
set_option maxRecDepth 100000 in
set_option maxHeartbeats 1000000 in
theorem rapply_none (r : Rc) (A : Option Addr) (n c : Nat) (w : World) (q1 : (r.op == 1) = false) (q2 : (r.op == 2) = false) (q3 : (r.op == 3) = false) (q4 : (r.op != 4) = true) (q5 : (r.op != 5) = true) (h : Rf w B q y) : Calls Tryz.prog 20 #[.pointer (some ⟨q, 0, none⟩), .agg #[.int .i64 r.op, .int .i64 r.id, .int .i64 r.par, .int .i64 r.bef, .string r.tag, .string r.txt, .string r.key, .slice A n c]] w (RMade w B q y 1 y.d) := by
  have B1 : Hid (Below w.heap.size w (w.alloc (.cells #[.int .i64 r.op, .int .i64 r.id, .int .i64 r.par, .int .i64 r.bef, .string r.tag, .string r.txt, .string r.key, .slice A n c] 54))) := Lib.hid ((Below.refl _ _).alloc (Nat.le_refl _) _)
  have N1 : Hid (RcB (w.alloc (.cells #[.int .i64 r.op, .int .i64 r.id, .int .i64 r.par, .int .i64 r.bef, .string r.tag, .string r.txt, .string r.key, .slice A n c] 54)) w.heap.size r A n c) := Lib.hid (RcB.new w r A n c)
  have H0 := Lib.hid h
  clear h
  go_enter Tryz.func20, Tryz.ntmps20
  go_upto_region 1 with fail
  generalize w.alloc (.cells #[.int .i64 r.op, .int .i64 r.id, .int .i64 r.par, .int .i64 r.bef, .string r.tag, .string r.txt, .string r.key, .slice A n c] 54) = W at B1 N1 ⊢
  have H := Lib.hid (H0.out.below B1.out)
  have b0 := N1.out.c0
  have b1 := N1.out.c1
  have b5 := N1.out.c5
  have b7 := N1.out.c7
  go_wp2_with fail
  go_ret
  exact RMade.same H0.out B1.out rfl
set_option maxRecDepth 100000 in
set_option maxHeartbeats 4000000 in
theorem rapply_data (r : Rc) (A : Option Addr) (n c : Nat) (w : World) (ha : Asc y.l) (hl : y.rs.length ≤ 1000) (ht : r.txt.size ≤ maxLen) (q1 : (r.op == 1) = false) (q2 : (r.op == 2) = false) (q3 : (r.op == 3) = false) (q4 : (r.op != 4) = true) (q5 : (r.op != 5) = false) (q6 : (r.op == 4) = false) (h : Rf w B q y) : Calls Tryz.prog 20 #[.pointer (some ⟨q, 0, none⟩), .agg #[.int .i64 r.op, .int .i64 r.id, .int .i64 r.par, .int .i64 r.bef, .string r.tag, .string r.txt, .string r.key, .slice A n c]] w (RMade w B q y (dataD y.d r.id r.txt).1 (dataD y.d r.id r.txt).2) := by
  have B1 : Hid (Below w.heap.size w (w.alloc (.cells #[.int .i64 r.op, .int .i64 r.id, .int .i64 r.par, .int .i64 r.bef, .string r.tag, .string r.txt, .string r.key, .slice A n c] 54))) := Lib.hid ((Below.refl _ _).alloc (Nat.le_refl _) _)
  have N1 : Hid (RcB (w.alloc (.cells #[.int .i64 r.op, .int .i64 r.id, .int .i64 r.par, .int .i64 r.bef, .string r.tag, .string r.txt, .string r.key, .slice A n c] 54)) w.heap.size r A n c) := Lib.hid (RcB.new w r A n c)
  have H0 := Lib.hid h
  have HA := Lib.hid ha
  clear h
  cases hi : hasL y.l r.id with
  | false =>
    have HD : Hid (dataD y.d r.id r.txt = (2, y.d)) := Lib.hid (by unfold dataD; rw [if_pos (show hasL y.d.l r.id = false from hi)])
    have HI := Lib.hid hi
    clear ha hi
    go_enter Tryz.func20, Tryz.ntmps20
    go_upto_region 1 with fail
    generalize w.alloc (.cells #[.int .i64 r.op, .int .i64 r.id, .int .i64 r.par, .int .i64 r.bef, .string r.tag, .string r.txt, .string r.key, .slice A n c] 54) = W at B1 N1 ⊢
    have H := Lib.hid (H0.out.below B1.out)
    have b0 := N1.out.c0
    have b1 := N1.out.c1
    have b5 := N1.out.c5
    have b7 := N1.out.c7
    go_wp2_with fail
    refine (at_no r.id W hl HI.out H.out).mono ?_
    rintro e w' ⟨rfl, rfl⟩
    go_wp2_with fail
    go_ret
    rw [HD.out]
    exact RMade.same H0.out B1.out rfl
  | true =>
    go_enter Tryz.func20, Tryz.ntmps20
    go_upto_region 1 with fail
    generalize w.alloc (.cells #[.int .i64 r.op, .int .i64 r.id, .int .i64 r.par, .int .i64 r.bef, .string r.tag, .string r.txt, .string r.key, .slice A n c] 54) = W at B1 N1 ⊢
    have H := Lib.hid (H0.out.below B1.out)
    have b0 := N1.out.c0
    have b1 := N1.out.c1
    have b5 := N1.out.c5
    have b7 := N1.out.c7
    have hh : ¬ hasL y.d.l r.id = false := by rw [show y.d.l = y.l from rfl, hi]; simp
    obtain ⟨k, hk, hy, _⟩ := rplace HA.out hi
    obtain ⟨b, o, cl, A1, nn, ca, A2, n2, c2, hv, hcl, hb, d0, L, hva, hvk⟩ := H.out.lies hk
    have HVA := Lib.hid hva
    have HVK := Lib.hid hvk
    have HY := Lib.hid hy
    obtain ⟨nl, hnl⟩ : ∃ nl, y.rs.length = nl := ⟨_, rfl⟩
    have HNL := Lib.hid hnl
    have hkn : k < nl := by omega
    have hl2 : nl ≤ 1000 := by omega
    rw [hnl] at d0 hcl
    obtain ⟨m, hm⟩ : ∃ m, y.rs[k].nd = m := ⟨_, rfl⟩
    have HM := Lib.hid hm
    rw [hm] at L
    have l0 := L.c0
    have l1 := L.c1
    have l2 := L.c2
    have l3 := L.c3
    have l4 := L.c4
    have l5 := L.c5
    have l6 := L.c6
    have l7 := L.c7
    have hqlt := heap_lt H.out.blk
    have hgA : ∀ g, (Value.slice A2 n2 c2).ownBlock = some g → rfoot q y g := fun g hg => .inr (.inr ⟨_, List.getElem_mem hk, by rw [hvk]; exact hg⟩)
    have HGA := Lib.hid hgA
    have hR := H.out.nodes _ (List.getElem_mem hk)
    rw [show y.rs[k] = (⟨⟨A1, nn, ca⟩, ⟨A2, n2, c2⟩, m⟩ : Rn) by cases e : y.rs[k]; rw [e] at hva hvk hm; cases hva; cases hvk; cases hm; rfl] at hR
    have HR := Lib.hid hR
    clear hv hva hvk hnl hm L hgA hR
    have htg : tagOf y.d.l r.id = m.tag := by rw [← HM.out]; exact (rtag_at HA.out hk HY.out).1
    have HTG := Lib.hid htg
    have HH := Lib.hid hh
    clear ha hi hy htg hh
    have N2 : Hid (NdB (W.alloc (.cells #[.int .i64 m.id, .int .i64 m.par, .string m.tag, .string m.txt, .string m.key, .slice A1 nn ca, .slice A2 n2 c2, .int .i64 m.note] 34)) W.heap.size m A1 nn ca A2 n2 c2) := Lib.hid (NdB.new W m A1 nn ca A2 n2 c2)
    have B2 : Hid (Below w.heap.size w (W.alloc (.cells #[.int .i64 m.id, .int .i64 m.par, .string m.tag, .string m.txt, .string m.key, .slice A1 nn ca, .slice A2 n2 c2, .int .i64 m.note] 34))) := Lib.hid (B1.out.alloc B1.out.size _)
    have BW : Hid (Below W.heap.size W (W.alloc (.cells #[.int .i64 m.id, .int .i64 m.par, .string m.tag, .string m.txt, .string m.key, .slice A1 nn ca, .slice A2 n2 c2, .int .i64 m.note] 34))) := Lib.hid ((Below.refl _ _).alloc (Nat.le_refl _) _)
    have N3 : Hid (RcB (W.alloc (.cells #[.int .i64 m.id, .int .i64 m.par, .string m.tag, .string m.txt, .string m.key, .slice A1 nn ca, .slice A2 n2 c2, .int .i64 m.note] 34)) w.heap.size r A n c) := Lib.hid (heap_up N1.out)
    go_wp2_with fail
    refine (at_yes r.id W HA.out hl hk HY.out H.out).mono ?_
    rintro e w' ⟨rfl, rfl⟩
    go_upto_region 14 with fail
    generalize W.alloc (.cells #[.int .i64 m.id, .int .i64 m.par, .string m.tag, .string m.txt, .string m.key, .slice A1 nn ca, .slice A2 n2 c2, .int .i64 m.note] 34) = W2 at N2 B2 BW N3 ⊢
    clear l0 l1 l2 l3 l4 l5 l6 l7 d0 b0 b1 b5 b7
    have b0 := N3.out.c0
    have b5 := N3.out.c5
    have a2 := N2.out.c2
    have a3 := N2.out.c3
    have f3 := N2.out.frozen 3
    obtain ⟨bt, hbt⟩ : ∃ bt, P1.textB r.txt.data.toList = bt := ⟨_, rfl⟩
    have HBT := Lib.hid hbt
    clear hbt
    go_wp2_with fail
    refine (P3.rtext_at r.txt W2 HBT.out ht).mono ?_
    rintro e w' ⟨rfl, rfl⟩
    cases tE : m.tag.toList.isEmpty with
    | false =>
      have HD : Hid (dataD y.d r.id r.txt = (3, y.d)) := Lib.hid (by unfold dataD; rw [if_neg HH.out, if_pos]; rw [HTG.out]; intro e; rw [e] at tE; cases tE)
      go_wp2_with fail
      go_ret
      rw [HD.out]
      exact RMade.same H0.out B2.out rfl
    | true =>
      have HE : Hid (¬ (tagOf y.d.l r.id).toList ≠ []) := Lib.hid (by rw [HTG.out]; simpa using tE)
      cases bt with
      | false =>
        have HD : Hid (dataD y.d r.id r.txt = (1, y.d)) := Lib.hid (by unfold dataD; rw [if_neg HH.out, if_neg HE.out, if_pos HBT.out])
        go_wp2_with fail
        go_ret
        rw [HD.out]
        exact RMade.same H0.out B2.out rfl
      | true =>
        have HD : Hid (dataD y.d r.id r.txt = (0, { y.d with l := upd y.l r.id (withTxt r.txt) })) := Lib.hid (by unfold dataD; rw [if_neg HH.out, if_neg HE.out, if_neg (by rw [HBT.out]; simp)]; rfl)
        have N4 : Hid (NdB (W2.setCell ⟨W.heap.size, 3, none⟩ (.string r.txt)) W.heap.size (withTxt r.txt m) A1 nn ca A2 n2 c2) := Lib.hid (heap_set N2.out 3 (.string r.txt))
        have B4 : Hid (Below w.heap.size w (W2.setCell ⟨W.heap.size, 3, none⟩ (.string r.txt))) := Lib.hid (Below.setCell B2.out (by exact B1.out.size) _)
        have BW4 : Hid (Below W.heap.size W (W2.setCell ⟨W.heap.size, 3, none⟩ (.string r.txt))) := Lib.hid (Below.setCell BW.out (by exact Nat.le_refl _) _)
        go_upto_region 27 with fail
        generalize W2.setCell ⟨W.heap.size, 3, none⟩ (.string r.txt) = W4 at N4 B4 BW4 ⊢
        clear a2 a3 f3 b0 b5
        have a0 := N4.out.c0
        have a1 := N4.out.c1
        have a2 := N4.out.c2
        have a3 := N4.out.c3
        have a4 := N4.out.c4
        have a5 := N4.out.c5
        have a6 := N4.out.c6
        have a7 := N4.out.c7
        go_wp2_with fail
        refine (set_any k (withTxt r.txt m) A1 nn ca A2 n2 c2 W4 HA.out hl hk (by rw [HM.out]; rfl) ⟨(HR.out.below BW4.out).att, (HR.out.below BW4.out).kids⟩ (H0.out.below B4.out)).mono ?_
        rintro e w5 ⟨rfl, v5, r5⟩
        have R5 := Lib.hid (r5.made B4.out HGA.out HA.out hk HY.out (withTxt r.txt) (by rw [HM.out]))
        clear r5
        go_wp2_with fail
        go_ret
        rw [HD.out]
        exact ⟨rfl, R5.out⟩
set_option maxRecDepth 100000 in
set_option maxHeartbeats 4000000 in
theorem rapply_attrs (r : Rc) (A : Option Addr) (n c : Nat) (w : World) (ha : Asc y.l) (hl : y.rs.length ≤ 1000) (ht : ArgA w A n c r.attrs) (q1 : (r.op == 1) = false) (q2 : (r.op == 2) = false) (q3 : (r.op == 3) = false) (q4 : (r.op != 4) = false) (q6 : (r.op == 4) = true) (h : Rf w B q y) : Calls Tryz.prog 20 #[.pointer (some ⟨q, 0, none⟩), .agg #[.int .i64 r.op, .int .i64 r.id, .int .i64 r.par, .int .i64 r.bef, .string r.tag, .string r.txt, .string r.key, .slice A n c]] w (RMade w B q y (attrsD y.d r.id r.attrs).1 (attrsD y.d r.id r.attrs).2) := by
  have B1 : Hid (Below w.heap.size w (w.alloc (.cells #[.int .i64 r.op, .int .i64 r.id, .int .i64 r.par, .int .i64 r.bef, .string r.tag, .string r.txt, .string r.key, .slice A n c] 54))) := Lib.hid ((Below.refl _ _).alloc (Nat.le_refl _) _)
  have N1 : Hid (RcB (w.alloc (.cells #[.int .i64 r.op, .int .i64 r.id, .int .i64 r.par, .int .i64 r.bef, .string r.tag, .string r.txt, .string r.key, .slice A n c] 54)) w.heap.size r A n c) := Lib.hid (RcB.new w r A n c)
  have H0 := Lib.hid h
  have HA := Lib.hid ha
  have HT := Lib.hid ht
  clear h ht
  cases hi : hasL y.l r.id with
  | false =>
    have HD : Hid (attrsD y.d r.id r.attrs = (2, y.d)) := Lib.hid (by unfold attrsD; rw [if_pos (show hasL y.d.l r.id = false from hi)])
    have HI := Lib.hid hi
    clear ha hi
    go_enter Tryz.func20, Tryz.ntmps20
    go_upto_region 1 with fail
    generalize w.alloc (.cells #[.int .i64 r.op, .int .i64 r.id, .int .i64 r.par, .int .i64 r.bef, .string r.tag, .string r.txt, .string r.key, .slice A n c] 54) = W at B1 N1 ⊢
    have H := Lib.hid (H0.out.below B1.out)
    have b0 := N1.out.c0
    have b1 := N1.out.c1
    have b5 := N1.out.c5
    have b7 := N1.out.c7
    go_wp2_with fail
    refine (at_no r.id W hl HI.out H.out).mono ?_
    rintro e w' ⟨rfl, rfl⟩
    go_wp2_with fail
    go_ret
    rw [HD.out]
    exact RMade.same H0.out B1.out rfl
  | true =>
    go_enter Tryz.func20, Tryz.ntmps20
    go_upto_region 1 with fail
    generalize w.alloc (.cells #[.int .i64 r.op, .int .i64 r.id, .int .i64 r.par, .int .i64 r.bef, .string r.tag, .string r.txt, .string r.key, .slice A n c] 54) = W at B1 N1 ⊢
    have H := Lib.hid (H0.out.below B1.out)
    have b0 := N1.out.c0
    have b1 := N1.out.c1
    have b5 := N1.out.c5
    have b7 := N1.out.c7
    have hh : ¬ hasL y.d.l r.id = false := by rw [show y.d.l = y.l from rfl, hi]; simp
    obtain ⟨k, hk, hy, _⟩ := rplace HA.out hi
    obtain ⟨b, o, cl, A1, nn, ca, A2, n2, c2, hv, hcl, hb, d0, L, hva, hvk⟩ := H.out.lies hk
    have HVA := Lib.hid hva
    have HVK := Lib.hid hvk
    have HY := Lib.hid hy
    obtain ⟨nl, hnl⟩ : ∃ nl, y.rs.length = nl := ⟨_, rfl⟩
    have HNL := Lib.hid hnl
    have hkn : k < nl := by omega
    have hl2 : nl ≤ 1000 := by omega
    rw [hnl] at d0 hcl
    obtain ⟨m, hm⟩ : ∃ m, y.rs[k].nd = m := ⟨_, rfl⟩
    have HM := Lib.hid hm
    rw [hm] at L
    have l0 := L.c0
    have l1 := L.c1
    have l2 := L.c2
    have l3 := L.c3
    have l4 := L.c4
    have l5 := L.c5
    have l6 := L.c6
    have l7 := L.c7
    have hqlt := heap_lt H.out.blk
    have hgA : ∀ g, (Value.slice A2 n2 c2).ownBlock = some g → rfoot q y g := fun g hg => .inr (.inr ⟨_, List.getElem_mem hk, by rw [hvk]; exact hg⟩)
    have HGA := Lib.hid hgA
    have hR := H.out.nodes _ (List.getElem_mem hk)
    rw [show y.rs[k] = (⟨⟨A1, nn, ca⟩, ⟨A2, n2, c2⟩, m⟩ : Rn) by cases e : y.rs[k]; rw [e] at hva hvk hm; cases hva; cases hvk; cases hm; rfl] at hR
    have HR := Lib.hid hR
    clear hv hva hvk hnl hm L hgA hR
    have htg : tagOf y.d.l r.id = m.tag := by rw [← HM.out]; exact (rtag_at HA.out hk HY.out).1
    have HTG := Lib.hid htg
    have HH := Lib.hid hh
    clear ha hi hy htg hh
    have N2 : Hid (NdB (W.alloc (.cells #[.int .i64 m.id, .int .i64 m.par, .string m.tag, .string m.txt, .string m.key, .slice A1 nn ca, .slice A2 n2 c2, .int .i64 m.note] 34)) W.heap.size m A1 nn ca A2 n2 c2) := Lib.hid (NdB.new W m A1 nn ca A2 n2 c2)
    have B2 : Hid (Below w.heap.size w (W.alloc (.cells #[.int .i64 m.id, .int .i64 m.par, .string m.tag, .string m.txt, .string m.key, .slice A1 nn ca, .slice A2 n2 c2, .int .i64 m.note] 34))) := Lib.hid (B1.out.alloc B1.out.size _)
    have BW : Hid (Below W.heap.size W (W.alloc (.cells #[.int .i64 m.id, .int .i64 m.par, .string m.tag, .string m.txt, .string m.key, .slice A1 nn ca, .slice A2 n2 c2, .int .i64 m.note] 34))) := Lib.hid ((Below.refl _ _).alloc (Nat.le_refl _) _)
    have N3 : Hid (RcB (W.alloc (.cells #[.int .i64 m.id, .int .i64 m.par, .string m.tag, .string m.txt, .string m.key, .slice A1 nn ca, .slice A2 n2 c2, .int .i64 m.note] 34)) w.heap.size r A n c) := Lib.hid (heap_up N1.out)
    go_wp2_with fail
    refine (at_yes r.id W HA.out hl hk HY.out H.out).mono ?_
    rintro e w' ⟨rfl, rfl⟩
    go_upto_region 14 with fail
    generalize W.alloc (.cells #[.int .i64 m.id, .int .i64 m.par, .string m.tag, .string m.txt, .string m.key, .slice A1 nn ca, .slice A2 n2 c2, .int .i64 m.note] 34) = W2 at N2 B2 BW N3 ⊢
    clear l0 l1 l2 l3 l4 l5 l6 l7 d0 b0 b1 b5 b7
    have b0 := N3.out.c0
    have b7 := N3.out.c7
    obtain ⟨bt, hbt⟩ : ∃ bt, P3.mayA r.attrs = bt := ⟨_, rfl⟩
    have HBT := Lib.hid hbt
    clear hbt
    go_wp2_with fail
    refine (P3.rmay_any r.attrs A n c W2 HT.out.len HT.out.few HT.out.wf (p3holds (HT.out.below B2.out).holds)).mono ?_
    rintro e w3 ⟨rfl, bb3⟩
    rw [HBT.out]
    have B3 := Lib.hid (B2.out.trans (bb3.mono B2.out.size))
    have N5 := Lib.hid (N2.out.below bb3 N2.out.lt)
    have R5 := Lib.hid (N3.out.below bb3 N3.out.lt)
    have BW3 := Lib.hid (BW.out.trans (bb3.mono BW.out.size))
    have hg3 : W.heap.size < w3.heap.size := N5.out.lt
    clear bb3 b0 b7
    have a2 := N5.out.c2
    cases tE : m.tag.toList.isEmpty with
    | true =>
      have HD : Hid (attrsD y.d r.id r.attrs = (3, y.d)) := Lib.hid (by unfold attrsD; rw [if_neg HH.out, if_pos]; rw [HTG.out]; simpa using tE)
      go_wp2_with fail
      go_ret
      rw [HD.out]
      exact RMade.same H0.out B3.out rfl
    | false =>
      have HE : Hid (¬ (tagOf y.d.l r.id).toList = []) := Lib.hid (by rw [HTG.out]; intro e; rw [e] at tE; cases tE)
      cases bt with
      | false =>
        have HD : Hid (attrsD y.d r.id r.attrs = (1, y.d)) := Lib.hid (by unfold attrsD; rw [if_neg HH.out, if_neg HE.out, if_pos HBT.out])
        go_wp2_with fail
        go_ret
        rw [HD.out]
        exact RMade.same H0.out B3.out rfl
      | true =>
        have HD : Hid (attrsD y.d r.id r.attrs = (0, { y.d with l := upd y.l r.id (withAttrs r.attrs) })) := Lib.hid (by unfold attrsD; rw [if_neg HH.out, if_neg HE.out, if_neg (by rw [HBT.out]; simp)]; rfl)
        have OM : Hid (kA.Own (w3.alloc (.cells #[] 102)) w3.heap.size (.slice (some ⟨w3.heap.size, 0, none⟩) 0 0) []) := Lib.hid (Kind.Own.made kA w3 w3.heap.size (Nat.le_refl _))
        have b7 : (w3.alloc (.cells #[] 102)).cell? ⟨w.heap.size, 7, none⟩ = some (.slice A n c) := RcB.c7 (heap_up R5.out)
        have HHA := Lib.hid ((HT.out.below B3.out).holds.below ((Below.refl w3.heap.size w3).alloc (Nat.le_refl _) (.cells #[] 102)) (Nat.le_refl _))
        have hfew := HT.out.few
        go_upto_region 27 with (at_builtin; refine kA.wp_app rfl _ _ rfl (v := .slice (some ⟨w3.heap.size, 0, none⟩) 0 0) (l := []) (m := r.attrs) (B := w3.heap.size) rfl OM.out rfl HT.out.len HT.out.nil HHA.out (by simp; omega) (by simp) ?_; intro v' w4 hown hgrow hat; obtain ⟨A6, n6, c6, rfl, _, _, _, _, _⟩ := hown.slice; have B34 : Hid (Below w3.heap.size w3 w4) := Lib.hid (Below.grown ((Below.refl _ _).alloc (Nat.le_refl _) _) hgrow (by simp) (fun k hk => by simp [Value.ownBlock] at hk; omega)); have HOA := Lib.hid hown; clear hown hgrow hat; have N6 := Lib.hid (N5.out.below B34.out hg3); have f5 := N6.out.frozen 5; have a5 := N6.out.c5)
        have HAO : Hid (AOk w4 ⟨A6, n6, c6⟩ r.attrs) := Lib.hid (by
          obtain ⟨s, hs, h2⟩ := AOk.own HOA.out
          obtain ⟨sA, sn, sc⟩ := s
          cases hs
          exact h2)
        have N4 : Hid (NdB (w4.setCell ⟨W.heap.size, 5, none⟩ (.slice A6 n6 c6)) W.heap.size (withAttrs r.attrs m) A6 n6 c6 A2 n2 c2) := Lib.hid (heap_set N6.out 5 (.slice A6 n6 c6))
        have B4 : Hid (Below w.heap.size w (w4.setCell ⟨W.heap.size, 5, none⟩ (.slice A6 n6 c6))) := Lib.hid (Below.setCell (B3.out.trans (B34.out.mono B3.out.size)) (by exact B1.out.size) _)
        have BW4 : Hid (Below W.heap.size W (w4.setCell ⟨W.heap.size, 5, none⟩ (.slice A6 n6 c6))) := Lib.hid (Below.setCell (BW3.out.trans (B34.out.mono BW3.out.size)) (by exact Nat.le_refl _) _)
        have HA4 : Hid (AOk (w4.setCell ⟨W.heap.size, 5, none⟩ (.slice A6 n6 c6)) ⟨A6, n6, c6⟩ r.attrs) := Lib.hid (HAO.out.but (But.setCell (S := fun k => k = W.heap.size) (p := ⟨W.heap.size, 5, none⟩) (But.refl _ _) (fun _ => rfl) _) N6.out.noA)
        generalize w4.setCell ⟨W.heap.size, 5, none⟩ (.slice A6 n6 c6) = W4 at N4 B4 BW4 HA4 ⊢
        clear a2 a5 f5 b7
        have a0 := N4.out.c0
        have a1 := N4.out.c1
        have a2 := N4.out.c2
        have a3 := N4.out.c3
        have a4 := N4.out.c4
        have a5 := N4.out.c5
        have a6 := N4.out.c6
        have a7 := N4.out.c7
        go_wp2_with fail
        refine (set_any k (withAttrs r.attrs m) A6 n6 c6 A2 n2 c2 W4 HA.out hl hk (by rw [HM.out]; rfl) ⟨HA4.out, (HR.out.below BW4.out).kids⟩ (H0.out.below B4.out)).mono ?_
        rintro e w5 ⟨rfl, v5, r5⟩
        have R6 := Lib.hid (r5.made B4.out HGA.out HA.out hk HY.out (withAttrs r.attrs) (by rw [HM.out]))
        clear r5
        go_wp2_with fail
        go_ret
        rw [HD.out]
        exact ⟨rfl, R6.out⟩
end Go.Proofs.YtihjdmdafiifhaaGreat.P5
