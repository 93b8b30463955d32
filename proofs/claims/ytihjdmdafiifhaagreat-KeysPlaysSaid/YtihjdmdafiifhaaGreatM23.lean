/- The reference's put: what it refuses first. -/
import Derived.Test.YtihjdmdafiifhaaGreatM22
set_option linter.unusedVariables false
set_option linter.unusedSimpArgs false
set_option linter.unusedVariables false
set_option linter.unusedSimpArgs false
namespace Go.Proofs.YtihjdmdafiifhaaGreat.P5
open Go.RowKit Kd P4
variable {B q : Nat} {y : Rx}
set_option maxRecDepth 100000 in
set_option maxHeartbeats 1000000 in
theorem rput_2a (r : Rc) (A : Option Addr) (n c : Nat) (w : World) (ha : Asc y.l) (hl : y.rs.length ≤ 1000) (hi : hasL y.l r.id = false) (h : Rf w B q y) : Calls Tryz.prog 36 #[.pointer (some ⟨q, 0, none⟩), .agg #[.int .i64 r.op, .int .i64 r.id, .int .i64 r.par, .int .i64 r.bef, .string r.tag, .string r.txt, .string r.key, .slice A n c]] w (RMade w B q y 2 y.d) := by
  have B1 : Hid (Below w.heap.size w (w.alloc (.cells #[.int .i64 r.op, .int .i64 r.id, .int .i64 r.par, .int .i64 r.bef, .string r.tag, .string r.txt, .string r.key, .slice A n c] 54))) := Lib.hid ((Below.refl _ _).alloc (Nat.le_refl _) _)
  have N1 : Hid (RcB (w.alloc (.cells #[.int .i64 r.op, .int .i64 r.id, .int .i64 r.par, .int .i64 r.bef, .string r.tag, .string r.txt, .string r.key, .slice A n c] 54)) w.heap.size r A n c) := Lib.hid (RcB.new w r A n c)
  have H0 := Lib.hid h
  have HA := Lib.hid ha
  have HI := Lib.hid hi
  clear h
  go_enter Tryz.func36, Tryz.ntmps36
  go_upto_region 1 with fail
  generalize w.alloc (.cells #[.int .i64 r.op, .int .i64 r.id, .int .i64 r.par, .int .i64 r.bef, .string r.tag, .string r.txt, .string r.key, .slice A n c] 54) = W at B1 N1 ⊢
  have H := Lib.hid (H0.out.below B1.out)
  have b1 := N1.out.c1
  have b2 := N1.out.c2
  have b3 := N1.out.c3
  go_wp2_with fail
  refine (at_no r.id W hl HI.out H.out).mono ?_
  rintro e w' ⟨rfl, rfl⟩
  go_wp2_with fail
  go_ret
  exact RMade.same H0.out B1.out rfl
set_option maxRecDepth 100000 in
set_option maxHeartbeats 1000000 in
theorem rput_2b (r : Rc) (A : Option Addr) (n c : Nat) (w : World) (ha : Asc y.l) (hl : y.rs.length ≤ 1000) (hi : hasL y.l r.id = true) (hp : hasL y.l r.par = false) (h : Rf w B q y) : Calls Tryz.prog 36 #[.pointer (some ⟨q, 0, none⟩), .agg #[.int .i64 r.op, .int .i64 r.id, .int .i64 r.par, .int .i64 r.bef, .string r.tag, .string r.txt, .string r.key, .slice A n c]] w (RMade w B q y 2 y.d) := by
  have B1 : Hid (Below w.heap.size w (w.alloc (.cells #[.int .i64 r.op, .int .i64 r.id, .int .i64 r.par, .int .i64 r.bef, .string r.tag, .string r.txt, .string r.key, .slice A n c] 54))) := Lib.hid ((Below.refl _ _).alloc (Nat.le_refl _) _)
  have N1 : Hid (RcB (w.alloc (.cells #[.int .i64 r.op, .int .i64 r.id, .int .i64 r.par, .int .i64 r.bef, .string r.tag, .string r.txt, .string r.key, .slice A n c] 54)) w.heap.size r A n c) := Lib.hid (RcB.new w r A n c)
  have H0 := Lib.hid h
  have HA := Lib.hid ha
  obtain ⟨ki, hki, hyki, _⟩ := rplace ha hi
  have HYki := Lib.hid hyki
  have HI := Lib.hid hp
  clear h
  go_enter Tryz.func36, Tryz.ntmps36
  go_upto_region 1 with fail
  generalize w.alloc (.cells #[.int .i64 r.op, .int .i64 r.id, .int .i64 r.par, .int .i64 r.bef, .string r.tag, .string r.txt, .string r.key, .slice A n c] 54) = W at B1 N1 ⊢
  have H := Lib.hid (H0.out.below B1.out)
  have b1 := N1.out.c1
  have b2 := N1.out.c2
  have b3 := N1.out.c3
  go_wp2_with fail
  refine (at_yes r.id W HA.out hl hki HYki.out H.out).mono ?_
  rintro e w' ⟨rfl, rfl⟩
  go_wp2_with fail
  refine (at_no r.par W hl HI.out H.out).mono ?_
  rintro e w' ⟨rfl, rfl⟩
  go_wp2_with fail
  go_ret
  exact RMade.same H0.out B1.out rfl
set_option maxRecDepth 100000 in
set_option maxHeartbeats 1000000 in
theorem rput_2c (r : Rc) (A : Option Addr) (n c : Nat) (w : World) (ha : Asc y.l) (hl : y.rs.length ≤ 1000) (hi : hasL y.l r.id = true) (hp : hasL y.l r.par = true) (hq : (r.bef != 0) = true) (hb : hasL y.l r.bef = false) (h : Rf w B q y) : Calls Tryz.prog 36 #[.pointer (some ⟨q, 0, none⟩), .agg #[.int .i64 r.op, .int .i64 r.id, .int .i64 r.par, .int .i64 r.bef, .string r.tag, .string r.txt, .string r.key, .slice A n c]] w (RMade w B q y 2 y.d) := by
  have B1 : Hid (Below w.heap.size w (w.alloc (.cells #[.int .i64 r.op, .int .i64 r.id, .int .i64 r.par, .int .i64 r.bef, .string r.tag, .string r.txt, .string r.key, .slice A n c] 54))) := Lib.hid ((Below.refl _ _).alloc (Nat.le_refl _) _)
  have N1 : Hid (RcB (w.alloc (.cells #[.int .i64 r.op, .int .i64 r.id, .int .i64 r.par, .int .i64 r.bef, .string r.tag, .string r.txt, .string r.key, .slice A n c] 54)) w.heap.size r A n c) := Lib.hid (RcB.new w r A n c)
  have H0 := Lib.hid h
  have HA := Lib.hid ha
  obtain ⟨ki, hki, hyki, _⟩ := rplace ha hi
  have HYki := Lib.hid hyki
  obtain ⟨kp, hkp, hykp, _⟩ := rplace ha hp
  have HYkp := Lib.hid hykp
  have HI := Lib.hid hb
  clear h
  go_enter Tryz.func36, Tryz.ntmps36
  go_upto_region 1 with fail
  generalize w.alloc (.cells #[.int .i64 r.op, .int .i64 r.id, .int .i64 r.par, .int .i64 r.bef, .string r.tag, .string r.txt, .string r.key, .slice A n c] 54) = W at B1 N1 ⊢
  have H := Lib.hid (H0.out.below B1.out)
  have b1 := N1.out.c1
  have b2 := N1.out.c2
  have b3 := N1.out.c3
  go_wp2_with fail
  refine (at_yes r.id W HA.out hl hki HYki.out H.out).mono ?_
  rintro e w' ⟨rfl, rfl⟩
  go_wp2_with fail
  refine (at_yes r.par W HA.out hl hkp HYkp.out H.out).mono ?_
  rintro e w' ⟨rfl, rfl⟩
  go_wp2_with fail
  refine (at_no r.bef W hl HI.out H.out).mono ?_
  rintro e w' ⟨rfl, rfl⟩
  go_wp2_with fail
  go_ret
  exact RMade.same H0.out B1.out rfl
set_option maxRecDepth 100000 in
set_option maxHeartbeats 1000000 in
theorem rput_40 (r : Rc) (A : Option Addr) (n c : Nat) (w : World) (ha : Asc y.l) (hl : y.rs.length ≤ 1000) (hi : hasL y.l r.id = true) (hp : hasL y.l r.par = true) (hq : (r.bef != 0) = false) (h1 : (r.id == 1) = true) (h : Rf w B q y) : Calls Tryz.prog 36 #[.pointer (some ⟨q, 0, none⟩), .agg #[.int .i64 r.op, .int .i64 r.id, .int .i64 r.par, .int .i64 r.bef, .string r.tag, .string r.txt, .string r.key, .slice A n c]] w (RMade w B q y 4 y.d) := by
  have B1 : Hid (Below w.heap.size w (w.alloc (.cells #[.int .i64 r.op, .int .i64 r.id, .int .i64 r.par, .int .i64 r.bef, .string r.tag, .string r.txt, .string r.key, .slice A n c] 54))) := Lib.hid ((Below.refl _ _).alloc (Nat.le_refl _) _)
  have N1 : Hid (RcB (w.alloc (.cells #[.int .i64 r.op, .int .i64 r.id, .int .i64 r.par, .int .i64 r.bef, .string r.tag, .string r.txt, .string r.key, .slice A n c] 54)) w.heap.size r A n c) := Lib.hid (RcB.new w r A n c)
  have H0 := Lib.hid h
  have HA := Lib.hid ha
  obtain ⟨ki, hki, hyki, _⟩ := rplace ha hi
  have HYki := Lib.hid hyki
  obtain ⟨kp, hkp, hykp, _⟩ := rplace ha hp
  have HYkp := Lib.hid hykp
  clear h
  go_enter Tryz.func36, Tryz.ntmps36
  go_upto_region 1 with fail
  generalize w.alloc (.cells #[.int .i64 r.op, .int .i64 r.id, .int .i64 r.par, .int .i64 r.bef, .string r.tag, .string r.txt, .string r.key, .slice A n c] 54) = W at B1 N1 ⊢
  have H := Lib.hid (H0.out.below B1.out)
  have b1 := N1.out.c1
  have b2 := N1.out.c2
  have b3 := N1.out.c3
  go_wp2_with fail
  refine (at_yes r.id W HA.out hl hki HYki.out H.out).mono ?_
  rintro e w' ⟨rfl, rfl⟩
  go_wp2_with fail
  refine (at_yes r.par W HA.out hl hkp HYkp.out H.out).mono ?_
  rintro e w' ⟨rfl, rfl⟩
  go_wp2_with fail
  go_ret
  exact RMade.same H0.out B1.out rfl
set_option maxRecDepth 100000 in
set_option maxHeartbeats 1000000 in
theorem rput_41 (r : Rc) (A : Option Addr) (n c : Nat) (w : World) (ha : Asc y.l) (hl : y.rs.length ≤ 1000) (hi : hasL y.l r.id = true) (hp : hasL y.l r.par = true) (hq : (r.bef != 0) = true) (hb : hasL y.l r.bef = true) (h1 : (r.id == 1) = true) (h : Rf w B q y) : Calls Tryz.prog 36 #[.pointer (some ⟨q, 0, none⟩), .agg #[.int .i64 r.op, .int .i64 r.id, .int .i64 r.par, .int .i64 r.bef, .string r.tag, .string r.txt, .string r.key, .slice A n c]] w (RMade w B q y 4 y.d) := by
  have B1 : Hid (Below w.heap.size w (w.alloc (.cells #[.int .i64 r.op, .int .i64 r.id, .int .i64 r.par, .int .i64 r.bef, .string r.tag, .string r.txt, .string r.key, .slice A n c] 54))) := Lib.hid ((Below.refl _ _).alloc (Nat.le_refl _) _)
  have N1 : Hid (RcB (w.alloc (.cells #[.int .i64 r.op, .int .i64 r.id, .int .i64 r.par, .int .i64 r.bef, .string r.tag, .string r.txt, .string r.key, .slice A n c] 54)) w.heap.size r A n c) := Lib.hid (RcB.new w r A n c)
  have H0 := Lib.hid h
  have HA := Lib.hid ha
  obtain ⟨ki, hki, hyki, _⟩ := rplace ha hi
  have HYki := Lib.hid hyki
  obtain ⟨kp, hkp, hykp, _⟩ := rplace ha hp
  have HYkp := Lib.hid hykp
  obtain ⟨kb, hkb, hykb, _⟩ := rplace ha hb
  have HYkb := Lib.hid hykb
  clear h
  go_enter Tryz.func36, Tryz.ntmps36
  go_upto_region 1 with fail
  generalize w.alloc (.cells #[.int .i64 r.op, .int .i64 r.id, .int .i64 r.par, .int .i64 r.bef, .string r.tag, .string r.txt, .string r.key, .slice A n c] 54) = W at B1 N1 ⊢
  have H := Lib.hid (H0.out.below B1.out)
  have b1 := N1.out.c1
  have b2 := N1.out.c2
  have b3 := N1.out.c3
  go_wp2_with fail
  refine (at_yes r.id W HA.out hl hki HYki.out H.out).mono ?_
  rintro e w' ⟨rfl, rfl⟩
  go_wp2_with fail
  refine (at_yes r.par W HA.out hl hkp HYkp.out H.out).mono ?_
  rintro e w' ⟨rfl, rfl⟩
  go_wp2_with fail
  refine (at_yes r.bef W HA.out hl hkb HYkb.out H.out).mono ?_
  rintro e w' ⟨rfl, rfl⟩
  go_wp2_with fail
  go_ret
  exact RMade.same H0.out B1.out rfl
set_option maxRecDepth 100000 in
set_option maxHeartbeats 2000000 in
theorem rput_30 (r : Rc) (A : Option Addr) (n c : Nat) (w : World) (ha : Asc y.l) (hl : y.rs.length ≤ 1000) (hi : hasL y.l r.id = true) (hp : hasL y.l r.par = true) (hq : (r.bef != 0) = false) (h1 : (r.id == 1) = false) (hnk : noKids (tagOf y.l r.par) = true) (h : Rf w B q y) : Calls Tryz.prog 36 #[.pointer (some ⟨q, 0, none⟩), .agg #[.int .i64 r.op, .int .i64 r.id, .int .i64 r.par, .int .i64 r.bef, .string r.tag, .string r.txt, .string r.key, .slice A n c]] w (RMade w B q y 3 y.d) := by
  have B1 : Hid (Below w.heap.size w (w.alloc (.cells #[.int .i64 r.op, .int .i64 r.id, .int .i64 r.par, .int .i64 r.bef, .string r.tag, .string r.txt, .string r.key, .slice A n c] 54))) := Lib.hid ((Below.refl _ _).alloc (Nat.le_refl _) _)
  have N1 : Hid (RcB (w.alloc (.cells #[.int .i64 r.op, .int .i64 r.id, .int .i64 r.par, .int .i64 r.bef, .string r.tag, .string r.txt, .string r.key, .slice A n c] 54)) w.heap.size r A n c) := Lib.hid (RcB.new w r A n c)
  have H0 := Lib.hid h
  have HA := Lib.hid ha
  obtain ⟨ki, hki, hyki, _⟩ := rplace ha hi
  have HYki := Lib.hid hyki
  clear h
  go_enter Tryz.func36, Tryz.ntmps36
  go_upto_region 1 with fail
  generalize w.alloc (.cells #[.int .i64 r.op, .int .i64 r.id, .int .i64 r.par, .int .i64 r.bef, .string r.tag, .string r.txt, .string r.key, .slice A n c] 54) = W at B1 N1 ⊢
  have H := Lib.hid (H0.out.below B1.out)
  have b1 := N1.out.c1
  have b2 := N1.out.c2
  have b3 := N1.out.c3
  obtain ⟨k, hk, hy, _⟩ := rplace HA.out hp
  obtain ⟨b, o, cl, A1, nn, ca, A2, n2, c2, hv, hcl, hb, d0, L, hva, hvk⟩ := H.out.lies hk
  have HVA := Lib.hid hva
  have HVK := Lib.hid hvk
  have HY := Lib.hid hy
  obtain ⟨nl, hnl⟩ : ∃ nl, y.rs.length = nl := ⟨_, rfl⟩
  have HNL := Lib.hid hnl
  have hkn : k < nl := by omega
  have hl2 : nl ≤ 1000 := by omega
  rw [hnl] at d0 hcl
  obtain ⟨m, hm⟩ : ∃ m, y.rs[k].nd = m := ⟨_, rfl⟩
  have HM := Lib.hid hm
  rw [hm] at L
  have l0 := L.c0
  have l1 := L.c1
  have l2 := L.c2
  have l3 := L.c3
  have l4 := L.c4
  have l5 := L.c5
  have l6 := L.c6
  have l7 := L.c7
  have hqlt := heap_lt H.out.blk
  have hgA : ∀ g, (Value.slice A2 n2 c2).ownBlock = some g → rfoot q y g := fun g hg => .inr (.inr ⟨_, List.getElem_mem hk, by rw [hvk]; exact hg⟩)
  have HGA := Lib.hid hgA
  have hR := H.out.nodes _ (List.getElem_mem hk)
  rw [show y.rs[k] = (⟨⟨A1, nn, ca⟩, ⟨A2, n2, c2⟩, m⟩ : Rn) by cases e : y.rs[k]; rw [e] at hva hvk hm; cases hva; cases hvk; cases hm; rfl] at hR
  have HR := Lib.hid hR
  clear hv hva hvk hnl hm L hgA hR
  have HNK : Hid (noKids m.tag = true) := Lib.hid (by rw [← HM.out, ← (rtag_at HA.out hk HY.out).1]; exact hnk)
  clear hnk
  go_wp2_with fail
  refine (at_yes r.id W HA.out hl hki HYki.out H.out).mono ?_
  rintro e w' ⟨rfl, rfl⟩
  go_wp2_with fail
  refine (at_yes r.par W HA.out hl hk HY.out H.out).mono ?_
  rintro e w' ⟨rfl, rfl⟩
  go_upto_region 5 with fail
  go_cut [5] (fun s5 wx => s5 = .pointer (some ⟨W.heap.size, 0, none⟩) ∧ Hid (Below W.heap.size W wx) ∧ Hid (NdB wx W.heap.size m A1 nn ca A2 n2 c2))
  case first =>
    go_region_held3 (fun w' => w'.cell? ⟨q, 0, none⟩ = some (.slice (some ⟨b, o, none⟩) nl cl) ∧ w'.cell? ⟨b, o + k * 8, none⟩ = some (.int .i64 m.id) ∧ w'.cell? ⟨b, o + k * 8 + 1, none⟩ = some (.int .i64 m.par) ∧ w'.cell? ⟨b, o + k * 8 + 2, none⟩ = some (.string m.tag) ∧ w'.cell? ⟨b, o + k * 8 + 3, none⟩ = some (.string m.txt) ∧ w'.cell? ⟨b, o + k * 8 + 4, none⟩ = some (.string m.key) ∧ w'.cell? ⟨b, o + k * 8 + 5, none⟩ = some (.slice A1 nn ca) ∧ w'.cell? ⟨b, o + k * 8 + 6, none⟩ = some (.slice A2 n2 c2) ∧ w'.cell? ⟨b, o + k * 8 + 7, none⟩ = some (.int .i64 m.note) ∧ w'.cell? ⟨w.heap.size, 2, none⟩ = some (.int .i64 r.par)) (go_keep) ((first
      | (go_at_call 8; refine (at_yes r.par _ HA.out hl hk HY.out (by exact H.out.drewN _)).mono ?_; rintro e w3 ⟨rfl, rfl⟩)
      | (go_at_call 8; refine (at_yes r.par _ HA.out hl hk HY.out (by exact (H.out.alloc _).drewN _)).mono ?_; rintro e w3 ⟨rfl, rfl⟩)
      | fail))
    all_goals
      go_wp2_with fail
      go_meet
      exact ⟨rfl, Lib.hid (((Below.refl _ _).alloc (Nat.le_refl _) _).drew), Lib.hid (heap_drew (NdB.new W m A1 nn ca A2 n2 c2))⟩
  case rest =>
    obtain ⟨rfl, B2, N2⟩ := hcut
    obtain ⟨w2, rfl⟩ : ∃ w2, w2 = wc := ⟨_, rfl⟩
    clear l0 l1 l2 l3 l4 l5 l6 l7 d0 b1 b2 b3
    have a2 := N2.out.c2
    have BB2 := Lib.hid (B1.out.trans (B2.out.mono B1.out.size))
    have H2 := Lib.hid (H0.out.below BB2.out)
    have R2 := Lib.hid (N1.out.below B2.out N1.out.lt)
    have hz2 : W.heap.size < w2.heap.size := N2.out.lt
    go_wp2_with fail
    refine (P1.rvoid_any m.tag w2).mono ?_
    rintro e w' ⟨rfl, rfl⟩
    cases tE : m.tag.toList.isEmpty with
    | true =>
      go_wp2_with fail
      go_ret
      exact RMade.same H0.out BB2.out rfl
    | false =>
      have hv : P1.voidB m.tag.data.toList = true := by
        have := HNK.out
        unfold noKids at this
        rcases Bool.or_eq_true _ _ |>.mp this with e | e
        · rw [decide_eq_true_iff] at e; rw [e] at tE; cases tE
        · exact e
      rw [hv]
      go_wp2_with fail
      go_ret
      exact RMade.same H0.out BB2.out rfl
set_option maxRecDepth 100000 in
set_option maxHeartbeats 2000000 in
theorem rput_31 (r : Rc) (A : Option Addr) (n c : Nat) (w : World) (ha : Asc y.l) (hl : y.rs.length ≤ 1000) (hi : hasL y.l r.id = true) (hp : hasL y.l r.par = true) (hq : (r.bef != 0) = true) (hb : hasL y.l r.bef = true) (h1 : (r.id == 1) = false) (hnk : noKids (tagOf y.l r.par) = true) (h : Rf w B q y) : Calls Tryz.prog 36 #[.pointer (some ⟨q, 0, none⟩), .agg #[.int .i64 r.op, .int .i64 r.id, .int .i64 r.par, .int .i64 r.bef, .string r.tag, .string r.txt, .string r.key, .slice A n c]] w (RMade w B q y 3 y.d) := by
  have B1 : Hid (Below w.heap.size w (w.alloc (.cells #[.int .i64 r.op, .int .i64 r.id, .int .i64 r.par, .int .i64 r.bef, .string r.tag, .string r.txt, .string r.key, .slice A n c] 54))) := Lib.hid ((Below.refl _ _).alloc (Nat.le_refl _) _)
  have N1 : Hid (RcB (w.alloc (.cells #[.int .i64 r.op, .int .i64 r.id, .int .i64 r.par, .int .i64 r.bef, .string r.tag, .string r.txt, .string r.key, .slice A n c] 54)) w.heap.size r A n c) := Lib.hid (RcB.new w r A n c)
  have H0 := Lib.hid h
  have HA := Lib.hid ha
  obtain ⟨ki, hki, hyki, _⟩ := rplace ha hi
  have HYki := Lib.hid hyki
  obtain ⟨kb, hkb, hykb, _⟩ := rplace ha hb
  have HYkb := Lib.hid hykb
  clear h
  go_enter Tryz.func36, Tryz.ntmps36
  go_upto_region 1 with fail
  generalize w.alloc (.cells #[.int .i64 r.op, .int .i64 r.id, .int .i64 r.par, .int .i64 r.bef, .string r.tag, .string r.txt, .string r.key, .slice A n c] 54) = W at B1 N1 ⊢
  have H := Lib.hid (H0.out.below B1.out)
  have b1 := N1.out.c1
  have b2 := N1.out.c2
  have b3 := N1.out.c3
  obtain ⟨k, hk, hy, _⟩ := rplace HA.out hp
  obtain ⟨b, o, cl, A1, nn, ca, A2, n2, c2, hv, hcl, hb, d0, L, hva, hvk⟩ := H.out.lies hk
  have HVA := Lib.hid hva
  have HVK := Lib.hid hvk
  have HY := Lib.hid hy
  obtain ⟨nl, hnl⟩ : ∃ nl, y.rs.length = nl := ⟨_, rfl⟩
  have HNL := Lib.hid hnl
  have hkn : k < nl := by omega
  have hl2 : nl ≤ 1000 := by omega
  rw [hnl] at d0 hcl
  obtain ⟨m, hm⟩ : ∃ m, y.rs[k].nd = m := ⟨_, rfl⟩
  have HM := Lib.hid hm
  rw [hm] at L
  have l0 := L.c0
  have l1 := L.c1
  have l2 := L.c2
  have l3 := L.c3
  have l4 := L.c4
  have l5 := L.c5
  have l6 := L.c6
  have l7 := L.c7
  have hqlt := heap_lt H.out.blk
  have hgA : ∀ g, (Value.slice A2 n2 c2).ownBlock = some g → rfoot q y g := fun g hg => .inr (.inr ⟨_, List.getElem_mem hk, by rw [hvk]; exact hg⟩)
  have HGA := Lib.hid hgA
  have hR := H.out.nodes _ (List.getElem_mem hk)
  rw [show y.rs[k] = (⟨⟨A1, nn, ca⟩, ⟨A2, n2, c2⟩, m⟩ : Rn) by cases e : y.rs[k]; rw [e] at hva hvk hm; cases hva; cases hvk; cases hm; rfl] at hR
  have HR := Lib.hid hR
  clear hv hva hvk hnl hm L hgA hR
  have HNK : Hid (noKids m.tag = true) := Lib.hid (by rw [← HM.out, ← (rtag_at HA.out hk HY.out).1]; exact hnk)
  clear hnk
  go_wp2_with fail
  refine (at_yes r.id W HA.out hl hki HYki.out H.out).mono ?_
  rintro e w' ⟨rfl, rfl⟩
  go_wp2_with fail
  refine (at_yes r.par W HA.out hl hk HY.out H.out).mono ?_
  rintro e w' ⟨rfl, rfl⟩
  go_wp2_with fail
  refine (at_yes r.bef W HA.out hl hkb HYkb.out H.out).mono ?_
  rintro e w' ⟨rfl, rfl⟩
  go_upto_region 5 with fail
  go_cut [5] (fun s5 wx => s5 = .pointer (some ⟨W.heap.size, 0, none⟩) ∧ Hid (Below W.heap.size W wx) ∧ Hid (NdB wx W.heap.size m A1 nn ca A2 n2 c2))
  case first =>
    go_region_held3 (fun w' => w'.cell? ⟨q, 0, none⟩ = some (.slice (some ⟨b, o, none⟩) nl cl) ∧ w'.cell? ⟨b, o + k * 8, none⟩ = some (.int .i64 m.id) ∧ w'.cell? ⟨b, o + k * 8 + 1, none⟩ = some (.int .i64 m.par) ∧ w'.cell? ⟨b, o + k * 8 + 2, none⟩ = some (.string m.tag) ∧ w'.cell? ⟨b, o + k * 8 + 3, none⟩ = some (.string m.txt) ∧ w'.cell? ⟨b, o + k * 8 + 4, none⟩ = some (.string m.key) ∧ w'.cell? ⟨b, o + k * 8 + 5, none⟩ = some (.slice A1 nn ca) ∧ w'.cell? ⟨b, o + k * 8 + 6, none⟩ = some (.slice A2 n2 c2) ∧ w'.cell? ⟨b, o + k * 8 + 7, none⟩ = some (.int .i64 m.note) ∧ w'.cell? ⟨w.heap.size, 2, none⟩ = some (.int .i64 r.par)) (go_keep) ((first
      | (go_at_call 8; refine (at_yes r.par _ HA.out hl hk HY.out (by exact H.out.drewN _)).mono ?_; rintro e w3 ⟨rfl, rfl⟩)
      | (go_at_call 8; refine (at_yes r.par _ HA.out hl hk HY.out (by exact (H.out.alloc _).drewN _)).mono ?_; rintro e w3 ⟨rfl, rfl⟩)
      | fail))
    all_goals
      go_wp2_with fail
      go_meet
      exact ⟨rfl, Lib.hid (((Below.refl _ _).alloc (Nat.le_refl _) _).drew), Lib.hid (heap_drew (NdB.new W m A1 nn ca A2 n2 c2))⟩
  case rest =>
    obtain ⟨rfl, B2, N2⟩ := hcut
    obtain ⟨w2, rfl⟩ : ∃ w2, w2 = wc := ⟨_, rfl⟩
    clear l0 l1 l2 l3 l4 l5 l6 l7 d0 b1 b2 b3
    have a2 := N2.out.c2
    have BB2 := Lib.hid (B1.out.trans (B2.out.mono B1.out.size))
    have H2 := Lib.hid (H0.out.below BB2.out)
    have R2 := Lib.hid (N1.out.below B2.out N1.out.lt)
    have hz2 : W.heap.size < w2.heap.size := N2.out.lt
    go_wp2_with fail
    refine (P1.rvoid_any m.tag w2).mono ?_
    rintro e w' ⟨rfl, rfl⟩
    cases tE : m.tag.toList.isEmpty with
    | true =>
      go_wp2_with fail
      go_ret
      exact RMade.same H0.out BB2.out rfl
    | false =>
      have hv : P1.voidB m.tag.data.toList = true := by
        have := HNK.out
        unfold noKids at this
        rcases Bool.or_eq_true _ _ |>.mp this with e | e
        · rw [decide_eq_true_iff] at e; rw [e] at tE; cases tE
        · exact e
      rw [hv]
      go_wp2_with fail
      go_ret
      exact RMade.same H0.out BB2.out rfl
end Go.Proofs.YtihjdmdafiifhaaGreat.P5
