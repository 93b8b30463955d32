/- The reference's put: what it refuses last. -/
import Derived.Test.YtihjdmdafiifhaaGreatM23
set_option linter.unusedVariables false
set_option linter.unusedSimpArgs false
set_option linter.unusedVariables false
set_option linter.unusedSimpArgs false
namespace Go.Proofs.YtihjdmdafiifhaaGreat.P5
open Go.RowKit Kd P4
variable {B q : Nat} {y : Rx}
set_option maxRecDepth 100000 in
set_option maxHeartbeats 2000000 in
theorem rput_1a (r : Rc) (A : Option Addr) (n c : Nat) (w : World) (ha : Asc y.l) (hl : y.rs.length ≤ 1000) (hi : hasL y.l r.id = true) (hp : hasL y.l r.par = true) (hq : (r.bef != 0) = true) (hb : hasL y.l r.bef = true) (h1 : (r.id == 1) = false) (hnk : noKids (tagOf y.l r.par) = false) (hpp : (parOf y.l r.bef != r.par) = true) (h : Rf w B q y) : Calls Tryz.prog 36 #[.pointer (some ⟨q, 0, none⟩), .agg #[.int .i64 r.op, .int .i64 r.id, .int .i64 r.par, .int .i64 r.bef, .string r.tag, .string r.txt, .string r.key, .slice A n c]] w (RMade w B q y 1 y.d) := by
  have B1 : Hid (Below w.heap.size w (w.alloc (.cells #[.int .i64 r.op, .int .i64 r.id, .int .i64 r.par, .int .i64 r.bef, .string r.tag, .string r.txt, .string r.key, .slice A n c] 54))) := Lib.hid ((Below.refl _ _).alloc (Nat.le_refl _) _)
  have N1 : Hid (RcB (w.alloc (.cells #[.int .i64 r.op, .int .i64 r.id, .int .i64 r.par, .int .i64 r.bef, .string r.tag, .string r.txt, .string r.key, .slice A n c] 54)) w.heap.size r A n c) := Lib.hid (RcB.new w r A n c)
  have H0 := Lib.hid h
  have HA := Lib.hid ha
  obtain ⟨ki, hki, hyki, _⟩ := rplace ha hi
  have HYki := Lib.hid hyki
  obtain ⟨kb, hkb, hykb, _⟩ := rplace ha hb
  have HYkb := Lib.hid hykb
  clear h
  go_enter Tryz.func36, Tryz.ntmps36
  go_upto_region 1 with fail
  generalize w.alloc (.cells #[.int .i64 r.op, .int .i64 r.id, .int .i64 r.par, .int .i64 r.bef, .string r.tag, .string r.txt, .string r.key, .slice A n c] 54) = W at B1 N1 ⊢
  have H := Lib.hid (H0.out.below B1.out)
  have b1 := N1.out.c1
  have b2 := N1.out.c2
  have b3 := N1.out.c3
  obtain ⟨k, hk, hy, _⟩ := rplace HA.out hp
  obtain ⟨b, o, cl, A1, nn, ca, A2, n2, c2, hv, hcl, hb, d0, L, hva, hvk⟩ := H.out.lies hk
  have HVA := Lib.hid hva
  have HVK := Lib.hid hvk
  have HY := Lib.hid hy
  obtain ⟨nl, hnl⟩ : ∃ nl, y.rs.length = nl := ⟨_, rfl⟩
  have HNL := Lib.hid hnl
  have hkn : k < nl := by omega
  have hl2 : nl ≤ 1000 := by omega
  rw [hnl] at d0 hcl
  obtain ⟨m, hm⟩ : ∃ m, y.rs[k].nd = m := ⟨_, rfl⟩
  have HM := Lib.hid hm
  rw [hm] at L
  have l0 := L.c0
  have l1 := L.c1
  have l2 := L.c2
  have l3 := L.c3
  have l4 := L.c4
  have l5 := L.c5
  have l6 := L.c6
  have l7 := L.c7
  have hqlt := heap_lt H.out.blk
  have hgA : ∀ g, (Value.slice A2 n2 c2).ownBlock = some g → rfoot q y g := fun g hg => .inr (.inr ⟨_, List.getElem_mem hk, by rw [hvk]; exact hg⟩)
  have HGA := Lib.hid hgA
  have hR := H.out.nodes _ (List.getElem_mem hk)
  rw [show y.rs[k] = (⟨⟨A1, nn, ca⟩, ⟨A2, n2, c2⟩, m⟩ : Rn) by cases e : y.rs[k]; rw [e] at hva hvk hm; cases hva; cases hvk; cases hm; rfl] at hR
  have HR := Lib.hid hR
  clear hv hva hvk hnl hm L hgA hR
  have HNK : Hid (noKids m.tag = false) := Lib.hid (by rw [← HM.out, ← (rtag_at HA.out hk HY.out).1]; exact hnk)
  clear hnk
  go_wp2_with fail
  refine (at_yes r.id W HA.out hl hki HYki.out H.out).mono ?_
  rintro e w' ⟨rfl, rfl⟩
  go_wp2_with fail
  refine (at_yes r.par W HA.out hl hk HY.out H.out).mono ?_
  rintro e w' ⟨rfl, rfl⟩
  go_wp2_with fail
  refine (at_yes r.bef W HA.out hl hkb HYkb.out H.out).mono ?_
  rintro e w' ⟨rfl, rfl⟩
  go_upto_region 5 with fail
  go_cut [5] (fun s5 wx => s5 = .pointer (some ⟨W.heap.size, 0, none⟩) ∧ Hid (Below W.heap.size W wx) ∧ Hid (NdB wx W.heap.size m A1 nn ca A2 n2 c2))
  case first =>
    go_region_held3 (fun w' => w'.cell? ⟨q, 0, none⟩ = some (.slice (some ⟨b, o, none⟩) nl cl) ∧ w'.cell? ⟨b, o + k * 8, none⟩ = some (.int .i64 m.id) ∧ w'.cell? ⟨b, o + k * 8 + 1, none⟩ = some (.int .i64 m.par) ∧ w'.cell? ⟨b, o + k * 8 + 2, none⟩ = some (.string m.tag) ∧ w'.cell? ⟨b, o + k * 8 + 3, none⟩ = some (.string m.txt) ∧ w'.cell? ⟨b, o + k * 8 + 4, none⟩ = some (.string m.key) ∧ w'.cell? ⟨b, o + k * 8 + 5, none⟩ = some (.slice A1 nn ca) ∧ w'.cell? ⟨b, o + k * 8 + 6, none⟩ = some (.slice A2 n2 c2) ∧ w'.cell? ⟨b, o + k * 8 + 7, none⟩ = some (.int .i64 m.note) ∧ w'.cell? ⟨w.heap.size, 2, none⟩ = some (.int .i64 r.par)) (go_keep) ((first
      | (go_at_call 8; refine (at_yes r.par _ HA.out hl hk HY.out (by exact H.out.drewN _)).mono ?_; rintro e w3 ⟨rfl, rfl⟩)
      | (go_at_call 8; refine (at_yes r.par _ HA.out hl hk HY.out (by exact (H.out.alloc _).drewN _)).mono ?_; rintro e w3 ⟨rfl, rfl⟩)
      | fail))
    all_goals
      go_wp2_with fail
      go_meet
      exact ⟨rfl, Lib.hid (((Below.refl _ _).alloc (Nat.le_refl _) _).drew), Lib.hid (heap_drew (NdB.new W m A1 nn ca A2 n2 c2))⟩
  case rest =>
    obtain ⟨rfl, B2, N2⟩ := hcut
    obtain ⟨w2, rfl⟩ : ∃ w2, w2 = wc := ⟨_, rfl⟩
    clear l0 l1 l2 l3 l4 l5 l6 l7 d0 b1 b2 b3
    have a2 := N2.out.c2
    have BB2 := Lib.hid (B1.out.trans (B2.out.mono B1.out.size))
    have H2 := Lib.hid (H0.out.below BB2.out)
    have R2 := Lib.hid (N1.out.below B2.out N1.out.lt)
    have hz2 : W.heap.size < w2.heap.size := N2.out.lt
    go_wp2_with fail
    refine (P1.rvoid_any m.tag w2).mono ?_
    rintro e w' ⟨rfl, rfl⟩
    have tE : m.tag.toList.isEmpty = false := by
      cases e : m.tag.toList.isEmpty with
      | false => rfl
      | true =>
        have := HNK.out
        unfold noKids at this
        rw [List.isEmpty_iff] at e
        simp [e] at this
    have hv : P1.voidB m.tag.data.toList = false := by
      cases e : P1.voidB m.tag.data.toList with
      | false => rfl
      | true =>
        have := HNK.out
        unfold noKids at this
        simp [e] at this
    rw [hv]
    have c1 := R2.out.c1
    have c2 := R2.out.c2
    have c3 := R2.out.c3
    have QP : Hid (∀ k, Calls Tryz.prog 61 #[.pointer (some ⟨q, 0, none⟩), .int .i64 r.bef] (w2.drewN k) fun e w' => e = .returned (.int .i64 (parOf y.l r.bef)) ∧ ∃ m, w' = w2.drewN m) := Lib.hid (fun k => (parent_any r.bef _ HA.out hl (H2.out.drewN k)).mono fun _ _ ⟨he, hw⟩ => ⟨he, k, hw.symm⟩)
    go_wp2_with fail
    go_quiet ((first | (go_at_call 61; exact QP.out _)))
    go_wp2_with fail
    go_ret
    exact RMade.same H0.out (by exact Below_drewN BB2.out _) rfl
set_option maxRecDepth 100000 in
set_option maxHeartbeats 2000000 in
theorem rput_1b (r : Rc) (A : Option Addr) (n c : Nat) (w : World) (ha : Asc y.l) (hl : y.rs.length ≤ 1000) (hi : hasL y.l r.id = true) (hp : hasL y.l r.par = true) (hq : (r.bef != 0) = true) (hb : hasL y.l r.bef = true) (h1 : (r.id == 1) = false) (hnk : noKids (tagOf y.l r.par) = false) (hpp : (parOf y.l r.bef != r.par) = false) (hbi : (r.bef == r.id) = true) (h : Rf w B q y) : Calls Tryz.prog 36 #[.pointer (some ⟨q, 0, none⟩), .agg #[.int .i64 r.op, .int .i64 r.id, .int .i64 r.par, .int .i64 r.bef, .string r.tag, .string r.txt, .string r.key, .slice A n c]] w (RMade w B q y 1 y.d) := by
  have B1 : Hid (Below w.heap.size w (w.alloc (.cells #[.int .i64 r.op, .int .i64 r.id, .int .i64 r.par, .int .i64 r.bef, .string r.tag, .string r.txt, .string r.key, .slice A n c] 54))) := Lib.hid ((Below.refl _ _).alloc (Nat.le_refl _) _)
  have N1 : Hid (RcB (w.alloc (.cells #[.int .i64 r.op, .int .i64 r.id, .int .i64 r.par, .int .i64 r.bef, .string r.tag, .string r.txt, .string r.key, .slice A n c] 54)) w.heap.size r A n c) := Lib.hid (RcB.new w r A n c)
  have H0 := Lib.hid h
  have HA := Lib.hid ha
  obtain ⟨ki, hki, hyki, _⟩ := rplace ha hi
  have HYki := Lib.hid hyki
  obtain ⟨kb, hkb, hykb, _⟩ := rplace ha hb
  have HYkb := Lib.hid hykb
  clear h
  go_enter Tryz.func36, Tryz.ntmps36
  go_upto_region 1 with fail
  generalize w.alloc (.cells #[.int .i64 r.op, .int .i64 r.id, .int .i64 r.par, .int .i64 r.bef, .string r.tag, .string r.txt, .string r.key, .slice A n c] 54) = W at B1 N1 ⊢
  have H := Lib.hid (H0.out.below B1.out)
  have b1 := N1.out.c1
  have b2 := N1.out.c2
  have b3 := N1.out.c3
  obtain ⟨k, hk, hy, _⟩ := rplace HA.out hp
  obtain ⟨b, o, cl, A1, nn, ca, A2, n2, c2, hv, hcl, hb, d0, L, hva, hvk⟩ := H.out.lies hk
  have HVA := Lib.hid hva
  have HVK := Lib.hid hvk
  have HY := Lib.hid hy
  obtain ⟨nl, hnl⟩ : ∃ nl, y.rs.length = nl := ⟨_, rfl⟩
  have HNL := Lib.hid hnl
  have hkn : k < nl := by omega
  have hl2 : nl ≤ 1000 := by omega
  rw [hnl] at d0 hcl
  obtain ⟨m, hm⟩ : ∃ m, y.rs[k].nd = m := ⟨_, rfl⟩
  have HM := Lib.hid hm
  rw [hm] at L
  have l0 := L.c0
  have l1 := L.c1
  have l2 := L.c2
  have l3 := L.c3
  have l4 := L.c4
  have l5 := L.c5
  have l6 := L.c6
  have l7 := L.c7
  have hqlt := heap_lt H.out.blk
  have hgA : ∀ g, (Value.slice A2 n2 c2).ownBlock = some g → rfoot q y g := fun g hg => .inr (.inr ⟨_, List.getElem_mem hk, by rw [hvk]; exact hg⟩)
  have HGA := Lib.hid hgA
  have hR := H.out.nodes _ (List.getElem_mem hk)
  rw [show y.rs[k] = (⟨⟨A1, nn, ca⟩, ⟨A2, n2, c2⟩, m⟩ : Rn) by cases e : y.rs[k]; rw [e] at hva hvk hm; cases hva; cases hvk; cases hm; rfl] at hR
  have HR := Lib.hid hR
  clear hv hva hvk hnl hm L hgA hR
  have HNK : Hid (noKids m.tag = false) := Lib.hid (by rw [← HM.out, ← (rtag_at HA.out hk HY.out).1]; exact hnk)
  clear hnk
  go_wp2_with fail
  refine (at_yes r.id W HA.out hl hki HYki.out H.out).mono ?_
  rintro e w' ⟨rfl, rfl⟩
  go_wp2_with fail
  refine (at_yes r.par W HA.out hl hk HY.out H.out).mono ?_
  rintro e w' ⟨rfl, rfl⟩
  go_wp2_with fail
  refine (at_yes r.bef W HA.out hl hkb HYkb.out H.out).mono ?_
  rintro e w' ⟨rfl, rfl⟩
  go_upto_region 5 with fail
  go_cut [5] (fun s5 wx => s5 = .pointer (some ⟨W.heap.size, 0, none⟩) ∧ Hid (Below W.heap.size W wx) ∧ Hid (NdB wx W.heap.size m A1 nn ca A2 n2 c2))
  case first =>
    go_region_held3 (fun w' => w'.cell? ⟨q, 0, none⟩ = some (.slice (some ⟨b, o, none⟩) nl cl) ∧ w'.cell? ⟨b, o + k * 8, none⟩ = some (.int .i64 m.id) ∧ w'.cell? ⟨b, o + k * 8 + 1, none⟩ = some (.int .i64 m.par) ∧ w'.cell? ⟨b, o + k * 8 + 2, none⟩ = some (.string m.tag) ∧ w'.cell? ⟨b, o + k * 8 + 3, none⟩ = some (.string m.txt) ∧ w'.cell? ⟨b, o + k * 8 + 4, none⟩ = some (.string m.key) ∧ w'.cell? ⟨b, o + k * 8 + 5, none⟩ = some (.slice A1 nn ca) ∧ w'.cell? ⟨b, o + k * 8 + 6, none⟩ = some (.slice A2 n2 c2) ∧ w'.cell? ⟨b, o + k * 8 + 7, none⟩ = some (.int .i64 m.note) ∧ w'.cell? ⟨w.heap.size, 2, none⟩ = some (.int .i64 r.par)) (go_keep) ((first
      | (go_at_call 8; refine (at_yes r.par _ HA.out hl hk HY.out (by exact H.out.drewN _)).mono ?_; rintro e w3 ⟨rfl, rfl⟩)
      | (go_at_call 8; refine (at_yes r.par _ HA.out hl hk HY.out (by exact (H.out.alloc _).drewN _)).mono ?_; rintro e w3 ⟨rfl, rfl⟩)
      | fail))
    all_goals
      go_wp2_with fail
      go_meet
      exact ⟨rfl, Lib.hid (((Below.refl _ _).alloc (Nat.le_refl _) _).drew), Lib.hid (heap_drew (NdB.new W m A1 nn ca A2 n2 c2))⟩
  case rest =>
    obtain ⟨rfl, B2, N2⟩ := hcut
    obtain ⟨w2, rfl⟩ : ∃ w2, w2 = wc := ⟨_, rfl⟩
    clear l0 l1 l2 l3 l4 l5 l6 l7 d0 b1 b2 b3
    have a2 := N2.out.c2
    have BB2 := Lib.hid (B1.out.trans (B2.out.mono B1.out.size))
    have H2 := Lib.hid (H0.out.below BB2.out)
    have R2 := Lib.hid (N1.out.below B2.out N1.out.lt)
    have hz2 : W.heap.size < w2.heap.size := N2.out.lt
    go_wp2_with fail
    refine (P1.rvoid_any m.tag w2).mono ?_
    rintro e w' ⟨rfl, rfl⟩
    have tE : m.tag.toList.isEmpty = false := by
      cases e : m.tag.toList.isEmpty with
      | false => rfl
      | true =>
        have := HNK.out
        unfold noKids at this
        rw [List.isEmpty_iff] at e
        simp [e] at this
    have hv : P1.voidB m.tag.data.toList = false := by
      cases e : P1.voidB m.tag.data.toList with
      | false => rfl
      | true =>
        have := HNK.out
        unfold noKids at this
        simp [e] at this
    rw [hv]
    have c1 := R2.out.c1
    have c2 := R2.out.c2
    have c3 := R2.out.c3
    have QP : Hid (∀ k, Calls Tryz.prog 61 #[.pointer (some ⟨q, 0, none⟩), .int .i64 r.bef] (w2.drewN k) fun e w' => e = .returned (.int .i64 (parOf y.l r.bef)) ∧ ∃ m, w' = w2.drewN m) := Lib.hid (fun k => (parent_any r.bef _ HA.out hl (H2.out.drewN k)).mono fun _ _ ⟨he, hw⟩ => ⟨he, k, hw.symm⟩)
    go_wp2_with fail
    go_quiet ((first | (go_at_call 61; exact QP.out _)))
    go_wp2_with fail
    go_ret
    exact RMade.same H0.out (by exact Below_drewN BB2.out _) rfl
set_option maxRecDepth 100000 in
set_option maxHeartbeats 2000000 in
theorem rput_50 (r : Rc) (A : Option Addr) (n c : Nat) (w : World) (ha : Asc y.l) (hl : y.rs.length ≤ 1000) (hi : hasL y.l r.id = true) (hp : hasL y.l r.par = true) (hq : (r.bef != 0) = false) (h1 : (r.id == 1) = false) (hnk : noKids (tagOf y.l r.par) = false) (hin : inside y.l r.par r.id = true) (h : Rf w B q y) : Calls Tryz.prog 36 #[.pointer (some ⟨q, 0, none⟩), .agg #[.int .i64 r.op, .int .i64 r.id, .int .i64 r.par, .int .i64 r.bef, .string r.tag, .string r.txt, .string r.key, .slice A n c]] w (RMade w B q y 5 y.d) := by
  have B1 : Hid (Below w.heap.size w (w.alloc (.cells #[.int .i64 r.op, .int .i64 r.id, .int .i64 r.par, .int .i64 r.bef, .string r.tag, .string r.txt, .string r.key, .slice A n c] 54))) := Lib.hid ((Below.refl _ _).alloc (Nat.le_refl _) _)
  have N1 : Hid (RcB (w.alloc (.cells #[.int .i64 r.op, .int .i64 r.id, .int .i64 r.par, .int .i64 r.bef, .string r.tag, .string r.txt, .string r.key, .slice A n c] 54)) w.heap.size r A n c) := Lib.hid (RcB.new w r A n c)
  have H0 := Lib.hid h
  have HA := Lib.hid ha
  obtain ⟨ki, hki, hyki, _⟩ := rplace ha hi
  have HYki := Lib.hid hyki
  clear h
  go_enter Tryz.func36, Tryz.ntmps36
  go_upto_region 1 with fail
  generalize w.alloc (.cells #[.int .i64 r.op, .int .i64 r.id, .int .i64 r.par, .int .i64 r.bef, .string r.tag, .string r.txt, .string r.key, .slice A n c] 54) = W at B1 N1 ⊢
  have H := Lib.hid (H0.out.below B1.out)
  have b1 := N1.out.c1
  have b2 := N1.out.c2
  have b3 := N1.out.c3
  obtain ⟨k, hk, hy, _⟩ := rplace HA.out hp
  obtain ⟨b, o, cl, A1, nn, ca, A2, n2, c2, hv, hcl, hb, d0, L, hva, hvk⟩ := H.out.lies hk
  have HVA := Lib.hid hva
  have HVK := Lib.hid hvk
  have HY := Lib.hid hy
  obtain ⟨nl, hnl⟩ : ∃ nl, y.rs.length = nl := ⟨_, rfl⟩
  have HNL := Lib.hid hnl
  have hkn : k < nl := by omega
  have hl2 : nl ≤ 1000 := by omega
  rw [hnl] at d0 hcl
  obtain ⟨m, hm⟩ : ∃ m, y.rs[k].nd = m := ⟨_, rfl⟩
  have HM := Lib.hid hm
  rw [hm] at L
  have l0 := L.c0
  have l1 := L.c1
  have l2 := L.c2
  have l3 := L.c3
  have l4 := L.c4
  have l5 := L.c5
  have l6 := L.c6
  have l7 := L.c7
  have hqlt := heap_lt H.out.blk
  have hgA : ∀ g, (Value.slice A2 n2 c2).ownBlock = some g → rfoot q y g := fun g hg => .inr (.inr ⟨_, List.getElem_mem hk, by rw [hvk]; exact hg⟩)
  have HGA := Lib.hid hgA
  have hR := H.out.nodes _ (List.getElem_mem hk)
  rw [show y.rs[k] = (⟨⟨A1, nn, ca⟩, ⟨A2, n2, c2⟩, m⟩ : Rn) by cases e : y.rs[k]; rw [e] at hva hvk hm; cases hva; cases hvk; cases hm; rfl] at hR
  have HR := Lib.hid hR
  clear hv hva hvk hnl hm L hgA hR
  have HNK : Hid (noKids m.tag = false) := Lib.hid (by rw [← HM.out, ← (rtag_at HA.out hk HY.out).1]; exact hnk)
  clear hnk
  go_wp2_with fail
  refine (at_yes r.id W HA.out hl hki HYki.out H.out).mono ?_
  rintro e w' ⟨rfl, rfl⟩
  go_wp2_with fail
  refine (at_yes r.par W HA.out hl hk HY.out H.out).mono ?_
  rintro e w' ⟨rfl, rfl⟩
  go_upto_region 5 with fail
  go_cut [5] (fun s5 wx => s5 = .pointer (some ⟨W.heap.size, 0, none⟩) ∧ Hid (Below W.heap.size W wx) ∧ Hid (NdB wx W.heap.size m A1 nn ca A2 n2 c2))
  case first =>
    go_region_held3 (fun w' => w'.cell? ⟨q, 0, none⟩ = some (.slice (some ⟨b, o, none⟩) nl cl) ∧ w'.cell? ⟨b, o + k * 8, none⟩ = some (.int .i64 m.id) ∧ w'.cell? ⟨b, o + k * 8 + 1, none⟩ = some (.int .i64 m.par) ∧ w'.cell? ⟨b, o + k * 8 + 2, none⟩ = some (.string m.tag) ∧ w'.cell? ⟨b, o + k * 8 + 3, none⟩ = some (.string m.txt) ∧ w'.cell? ⟨b, o + k * 8 + 4, none⟩ = some (.string m.key) ∧ w'.cell? ⟨b, o + k * 8 + 5, none⟩ = some (.slice A1 nn ca) ∧ w'.cell? ⟨b, o + k * 8 + 6, none⟩ = some (.slice A2 n2 c2) ∧ w'.cell? ⟨b, o + k * 8 + 7, none⟩ = some (.int .i64 m.note) ∧ w'.cell? ⟨w.heap.size, 2, none⟩ = some (.int .i64 r.par)) (go_keep) ((first
      | (go_at_call 8; refine (at_yes r.par _ HA.out hl hk HY.out (by exact H.out.drewN _)).mono ?_; rintro e w3 ⟨rfl, rfl⟩)
      | (go_at_call 8; refine (at_yes r.par _ HA.out hl hk HY.out (by exact (H.out.alloc _).drewN _)).mono ?_; rintro e w3 ⟨rfl, rfl⟩)
      | fail))
    all_goals
      go_wp2_with fail
      go_meet
      exact ⟨rfl, Lib.hid (((Below.refl _ _).alloc (Nat.le_refl _) _).drew), Lib.hid (heap_drew (NdB.new W m A1 nn ca A2 n2 c2))⟩
  case rest =>
    obtain ⟨rfl, B2, N2⟩ := hcut
    obtain ⟨w2, rfl⟩ : ∃ w2, w2 = wc := ⟨_, rfl⟩
    clear l0 l1 l2 l3 l4 l5 l6 l7 d0 b1 b2 b3
    have a2 := N2.out.c2
    have BB2 := Lib.hid (B1.out.trans (B2.out.mono B1.out.size))
    have H2 := Lib.hid (H0.out.below BB2.out)
    have R2 := Lib.hid (N1.out.below B2.out N1.out.lt)
    have hz2 : W.heap.size < w2.heap.size := N2.out.lt
    go_wp2_with fail
    refine (P1.rvoid_any m.tag w2).mono ?_
    rintro e w' ⟨rfl, rfl⟩
    have tE : m.tag.toList.isEmpty = false := by
      cases e : m.tag.toList.isEmpty with
      | false => rfl
      | true =>
        have := HNK.out
        unfold noKids at this
        rw [List.isEmpty_iff] at e
        simp [e] at this
    have hv : P1.voidB m.tag.data.toList = false := by
      cases e : P1.voidB m.tag.data.toList with
      | false => rfl
      | true =>
        have := HNK.out
        unfold noKids at this
        simp [e] at this
    rw [hv]
    have c1 := R2.out.c1
    have c2 := R2.out.c2
    have c3 := R2.out.c3
    go_wp2_with fail
    go_quiet (fail)
    go_wp2_with fail
    refine (rinside_any r.par r.id _ HA.out hl (by exact H2.out.drewN nq)).mono ?_
    rintro e w5 ⟨rfl, b5⟩
    have B5 := Lib.hid ((Below_drewN BB2.out nq).trans (b5.mono (by exact BB2.out.size)))
    rw [hin]
    clear b5
    go_wp2_with fail
    go_ret
    exact RMade.same H0.out B5.out rfl
set_option maxRecDepth 100000 in
set_option maxHeartbeats 2000000 in
theorem rput_51 (r : Rc) (A : Option Addr) (n c : Nat) (w : World) (ha : Asc y.l) (hl : y.rs.length ≤ 1000) (hi : hasL y.l r.id = true) (hp : hasL y.l r.par = true) (hq : (r.bef != 0) = true) (hb : hasL y.l r.bef = true) (h1 : (r.id == 1) = false) (hnk : noKids (tagOf y.l r.par) = false) (hpp : (parOf y.l r.bef != r.par) = false) (hbi : (r.bef == r.id) = false) (hin : inside y.l r.par r.id = true) (h : Rf w B q y) : Calls Tryz.prog 36 #[.pointer (some ⟨q, 0, none⟩), .agg #[.int .i64 r.op, .int .i64 r.id, .int .i64 r.par, .int .i64 r.bef, .string r.tag, .string r.txt, .string r.key, .slice A n c]] w (RMade w B q y 5 y.d) := by
  have B1 : Hid (Below w.heap.size w (w.alloc (.cells #[.int .i64 r.op, .int .i64 r.id, .int .i64 r.par, .int .i64 r.bef, .string r.tag, .string r.txt, .string r.key, .slice A n c] 54))) := Lib.hid ((Below.refl _ _).alloc (Nat.le_refl _) _)
  have N1 : Hid (RcB (w.alloc (.cells #[.int .i64 r.op, .int .i64 r.id, .int .i64 r.par, .int .i64 r.bef, .string r.tag, .string r.txt, .string r.key, .slice A n c] 54)) w.heap.size r A n c) := Lib.hid (RcB.new w r A n c)
  have H0 := Lib.hid h
  have HA := Lib.hid ha
  obtain ⟨ki, hki, hyki, _⟩ := rplace ha hi
  have HYki := Lib.hid hyki
  obtain ⟨kb, hkb, hykb, _⟩ := rplace ha hb
  have HYkb := Lib.hid hykb
  clear h
  go_enter Tryz.func36, Tryz.ntmps36
  go_upto_region 1 with fail
  generalize w.alloc (.cells #[.int .i64 r.op, .int .i64 r.id, .int .i64 r.par, .int .i64 r.bef, .string r.tag, .string r.txt, .string r.key, .slice A n c] 54) = W at B1 N1 ⊢
  have H := Lib.hid (H0.out.below B1.out)
  have b1 := N1.out.c1
  have b2 := N1.out.c2
  have b3 := N1.out.c3
  obtain ⟨k, hk, hy, _⟩ := rplace HA.out hp
  obtain ⟨b, o, cl, A1, nn, ca, A2, n2, c2, hv, hcl, hb, d0, L, hva, hvk⟩ := H.out.lies hk
  have HVA := Lib.hid hva
  have HVK := Lib.hid hvk
  have HY := Lib.hid hy
  obtain ⟨nl, hnl⟩ : ∃ nl, y.rs.length = nl := ⟨_, rfl⟩
  have HNL := Lib.hid hnl
  have hkn : k < nl := by omega
  have hl2 : nl ≤ 1000 := by omega
  rw [hnl] at d0 hcl
  obtain ⟨m, hm⟩ : ∃ m, y.rs[k].nd = m := ⟨_, rfl⟩
  have HM := Lib.hid hm
  rw [hm] at L
  have l0 := L.c0
  have l1 := L.c1
  have l2 := L.c2
  have l3 := L.c3
  have l4 := L.c4
  have l5 := L.c5
  have l6 := L.c6
  have l7 := L.c7
  have hqlt := heap_lt H.out.blk
  have hgA : ∀ g, (Value.slice A2 n2 c2).ownBlock = some g → rfoot q y g := fun g hg => .inr (.inr ⟨_, List.getElem_mem hk, by rw [hvk]; exact hg⟩)
  have HGA := Lib.hid hgA
  have hR := H.out.nodes _ (List.getElem_mem hk)
  rw [show y.rs[k] = (⟨⟨A1, nn, ca⟩, ⟨A2, n2, c2⟩, m⟩ : Rn) by cases e : y.rs[k]; rw [e] at hva hvk hm; cases hva; cases hvk; cases hm; rfl] at hR
  have HR := Lib.hid hR
  clear hv hva hvk hnl hm L hgA hR
  have HNK : Hid (noKids m.tag = false) := Lib.hid (by rw [← HM.out, ← (rtag_at HA.out hk HY.out).1]; exact hnk)
  clear hnk
  go_wp2_with fail
  refine (at_yes r.id W HA.out hl hki HYki.out H.out).mono ?_
  rintro e w' ⟨rfl, rfl⟩
  go_wp2_with fail
  refine (at_yes r.par W HA.out hl hk HY.out H.out).mono ?_
  rintro e w' ⟨rfl, rfl⟩
  go_wp2_with fail
  refine (at_yes r.bef W HA.out hl hkb HYkb.out H.out).mono ?_
  rintro e w' ⟨rfl, rfl⟩
  go_upto_region 5 with fail
  go_cut [5] (fun s5 wx => s5 = .pointer (some ⟨W.heap.size, 0, none⟩) ∧ Hid (Below W.heap.size W wx) ∧ Hid (NdB wx W.heap.size m A1 nn ca A2 n2 c2))
  case first =>
    go_region_held3 (fun w' => w'.cell? ⟨q, 0, none⟩ = some (.slice (some ⟨b, o, none⟩) nl cl) ∧ w'.cell? ⟨b, o + k * 8, none⟩ = some (.int .i64 m.id) ∧ w'.cell? ⟨b, o + k * 8 + 1, none⟩ = some (.int .i64 m.par) ∧ w'.cell? ⟨b, o + k * 8 + 2, none⟩ = some (.string m.tag) ∧ w'.cell? ⟨b, o + k * 8 + 3, none⟩ = some (.string m.txt) ∧ w'.cell? ⟨b, o + k * 8 + 4, none⟩ = some (.string m.key) ∧ w'.cell? ⟨b, o + k * 8 + 5, none⟩ = some (.slice A1 nn ca) ∧ w'.cell? ⟨b, o + k * 8 + 6, none⟩ = some (.slice A2 n2 c2) ∧ w'.cell? ⟨b, o + k * 8 + 7, none⟩ = some (.int .i64 m.note) ∧ w'.cell? ⟨w.heap.size, 2, none⟩ = some (.int .i64 r.par)) (go_keep) ((first
      | (go_at_call 8; refine (at_yes r.par _ HA.out hl hk HY.out (by exact H.out.drewN _)).mono ?_; rintro e w3 ⟨rfl, rfl⟩)
      | (go_at_call 8; refine (at_yes r.par _ HA.out hl hk HY.out (by exact (H.out.alloc _).drewN _)).mono ?_; rintro e w3 ⟨rfl, rfl⟩)
      | fail))
    all_goals
      go_wp2_with fail
      go_meet
      exact ⟨rfl, Lib.hid (((Below.refl _ _).alloc (Nat.le_refl _) _).drew), Lib.hid (heap_drew (NdB.new W m A1 nn ca A2 n2 c2))⟩
  case rest =>
    obtain ⟨rfl, B2, N2⟩ := hcut
    obtain ⟨w2, rfl⟩ : ∃ w2, w2 = wc := ⟨_, rfl⟩
    clear l0 l1 l2 l3 l4 l5 l6 l7 d0 b1 b2 b3
    have a2 := N2.out.c2
    have BB2 := Lib.hid (B1.out.trans (B2.out.mono B1.out.size))
    have H2 := Lib.hid (H0.out.below BB2.out)
    have R2 := Lib.hid (N1.out.below B2.out N1.out.lt)
    have hz2 : W.heap.size < w2.heap.size := N2.out.lt
    go_wp2_with fail
    refine (P1.rvoid_any m.tag w2).mono ?_
    rintro e w' ⟨rfl, rfl⟩
    have tE : m.tag.toList.isEmpty = false := by
      cases e : m.tag.toList.isEmpty with
      | false => rfl
      | true =>
        have := HNK.out
        unfold noKids at this
        rw [List.isEmpty_iff] at e
        simp [e] at this
    have hv : P1.voidB m.tag.data.toList = false := by
      cases e : P1.voidB m.tag.data.toList with
      | false => rfl
      | true =>
        have := HNK.out
        unfold noKids at this
        simp [e] at this
    rw [hv]
    have c1 := R2.out.c1
    have c2 := R2.out.c2
    have c3 := R2.out.c3
    have QP : Hid (∀ k, Calls Tryz.prog 61 #[.pointer (some ⟨q, 0, none⟩), .int .i64 r.bef] (w2.drewN k) fun e w' => e = .returned (.int .i64 (parOf y.l r.bef)) ∧ ∃ m, w' = w2.drewN m) := Lib.hid (fun k => (parent_any r.bef _ HA.out hl (H2.out.drewN k)).mono fun _ _ ⟨he, hw⟩ => ⟨he, k, hw.symm⟩)
    go_wp2_with fail
    go_quiet ((first | (go_at_call 61; exact QP.out _)))
    go_wp2_with fail
    refine (rinside_any r.par r.id _ HA.out hl (by exact H2.out.drewN nq)).mono ?_
    rintro e w5 ⟨rfl, b5⟩
    have B5 := Lib.hid ((Below_drewN BB2.out nq).trans (b5.mono (by exact BB2.out.size)))
    rw [hin]
    clear b5
    go_wp2_with fail
    go_ret
    exact RMade.same H0.out B5.out rfl
end Go.Proofs.YtihjdmdafiifhaaGreat.P5

/- The reference's put: all that it refuses. -/
set_option linter.unusedVariables false
set_option linter.unusedSimpArgs false
namespace Go.Proofs.YtihjdmdafiifhaaGreat.P5
open Go.RowKit Kd P4
variable {B q : Nat} {y : Rx}
theorem rput_no (r : Rc) (A : Option Addr) (n c : Nat) (w : World) (ha : Asc y.l) (hl : y.rs.length ≤ 1000) (h0 : putErr y.l r.id r.par r.bef ≠ 0) (h : Rf w B q y) : Calls Tryz.prog 36 #[.pointer (some ⟨q, 0, none⟩), .agg #[.int .i64 r.op, .int .i64 r.id, .int .i64 r.par, .int .i64 r.bef, .string r.tag, .string r.txt, .string r.key, .slice A n c]] w (RMade w B q y (putErr y.l r.id r.par r.bef) y.d) := by
  cases hi : hasL y.l r.id with
  | false =>
    have he : putErr y.l r.id r.par r.bef = 2 := by unfold putErr; rw [if_pos (.inl hi)]
    rw [he]; exact rput_2a r A n c w ha hl hi h
  | true =>
  cases hp : hasL y.l r.par with
  | false =>
    have he : putErr y.l r.id r.par r.bef = 2 := by unfold putErr; rw [if_pos (.inr (.inl hp))]
    rw [he]; exact rput_2b r A n c w ha hl hi hp h
  | true =>
  by_cases hbb : r.bef ≠ 0 ∧ hasL y.l r.bef = false
  · have he : putErr y.l r.id r.par r.bef = 2 := by unfold putErr; rw [if_pos (.inr (.inr hbb))]
    rw [he]; exact rput_2c r A n c w ha hl hi hp (by simpa using hbb.1) hbb.2 h
  have c1 : ¬ (hasL y.l r.id = false ∨ hasL y.l r.par = false ∨ r.bef ≠ 0 ∧ hasL y.l r.bef = false) := by rw [hi, hp]; simpa using hbb
  have hb0 : r.bef = 0 ∨ r.bef ≠ 0 ∧ hasL y.l r.bef = true := by
    by_cases e : r.bef = 0
    · exact .inl e
    · exact .inr ⟨e, by simpa [e] using hbb⟩
  by_cases h1 : r.id = 1
  · have he : putErr y.l r.id r.par r.bef = 4 := by unfold putErr; rw [if_neg c1, if_pos h1]
    rw [he]
    rcases hb0 with e | ⟨e, hb⟩
    · exact rput_40 r A n c w ha hl hi hp (by simpa using e) (by simpa using h1) h
    · exact rput_41 r A n c w ha hl hi hp (by simpa using e) hb (by simpa using h1) h
  have hi1 : (r.id == 1) = false := by simpa using h1
  cases hnk : noKids (tagOf y.l r.par) with
  | true =>
    have he : putErr y.l r.id r.par r.bef = 3 := by unfold putErr; rw [if_neg c1, if_neg h1, if_pos hnk]
    rw [he]
    rcases hb0 with e | ⟨e, hb⟩
    · exact rput_30 r A n c w ha hl hi hp (by simpa using e) hi1 hnk h
    · exact rput_31 r A n c w ha hl hi hp (by simpa using e) hb hi1 hnk h
  | false =>
  have c3 : ¬ noKids (tagOf y.l r.par) = true := by rw [hnk]; simp
  by_cases h4 : r.bef ≠ 0 ∧ (parOf y.l r.bef ≠ r.par ∨ r.bef = r.id)
  · have he : putErr y.l r.id r.par r.bef = 1 := by unfold putErr; rw [if_neg c1, if_neg h1, if_neg c3, if_pos h4]
    rw [he]
    obtain ⟨e, hb⟩ := hb0.resolve_left h4.1
    by_cases hpp : parOf y.l r.bef = r.par
    · exact rput_1b r A n c w ha hl hi hp (by simpa using e) hb hi1 hnk (by simpa using hpp) (by simpa using h4.2.resolve_left (fun k => k hpp)) h
    · exact rput_1a r A n c w ha hl hi hp (by simpa using e) hb hi1 hnk (by simpa using hpp) h
  cases hin : inside y.l r.par r.id with
  | true =>
    have he : putErr y.l r.id r.par r.bef = 5 := by unfold putErr; rw [if_neg c1, if_neg h1, if_neg c3, if_neg h4, if_pos hin]
    rw [he]
    rcases hb0 with e | ⟨e, hb⟩
    · exact rput_50 r A n c w ha hl hi hp (by simpa using e) hi1 hnk hin h
    · simp only [not_and, not_or] at h4
      exact rput_51 r A n c w ha hl hi hp (by simpa using e) hb hi1 hnk (by simpa using (h4 e).1) (by simpa using (h4 e).2) hin h
  | false => exact absurd (by unfold putErr; rw [if_neg c1, if_neg h1, if_neg c3, if_neg h4, if_neg (by rw [hin]; simp)]) h0
end Go.Proofs.YtihjdmdafiifhaaGreat.P5

/- The reference's put: what its done way stands on. -/
set_option linter.unusedVariables false
set_option linter.unusedSimpArgs false
namespace Go.Proofs.YtihjdmdafiifhaaGreat.P5
open Go.RowKit Kd P4
variable {B q : Nat} {y : Rx}
section
variable {w w' w2 : World} {y' y2 : Rx}
theorem Rdid.outcells (h : Rdid w B q y y' w') {g : Nat} (hge : w.heap.size ≤ g) (hf : ¬ rfoot q y' g) (hA : NoA w' (fun k => k = g)) (j : Nat) (vs : List Value) : Rdid w B q y y' (w'.setCells g j vs).drew := by
  have b := (But.setCells (S := fun i => i = g) (a := w') (g := g) (But.refl _ _) (fun _ => rfl) j vs).drew
  exact ⟨h.rf.but b (fun k hk e => hf (e ▸ hk)) hA, h.but.trans b (fun i hi e => by omega), h.ft⟩
theorem Rdid.then_set {r : Rn} (h : Rdid w B q y y' w') (k : Rset w' B q y' y2 r w2) (hg : ∀ g, r.vk.val.ownBlock = some g → rfoot q y' g ∨ w.heap.size ≤ g) : Rdid w B q y y2 w2 := by
  have hs := h.but.size
  refine ⟨k.rf, h.but.trans k.but (fun _ _ h => h), fun i hi => ?_⟩
  rcases k.ft i hi with e | e | e
  · exact h.ft i e
  · rcases hg i e with e | e
    · exact h.ft i e
    · exact .inr e
  · exact .inr (by omega)
theorem RcB.by_ {g : Nat} {r : Rc} {A : Option Addr} {n c : Nat} {S : Nat → Prop} (h : RcB w g r A n c) (hb : But S w w') (hS : ¬ S g) : RcB w' g r A n c := (hb.block g h.lt hS).trans h
theorem NdB.by_ {g : Nat} {nd : Nd} {A : Option Addr} {n c : Nat} {A2 : Option Addr} {n2 k2 : Nat} {S : Nat → Prop} (h : NdB w g nd A n c A2 n2 k2) (hb : But S w w') (hS : ¬ S g) : NdB w' g nd A n c A2 n2 k2 := (hb.block g h.lt hS).trans h
/-- the list's block is its own -/
theorem Rf.vblock (h : Rf w B q y) {b o n c : Nat} (hv : y.v = .slice (some ⟨b, o, none⟩) n c) : rfoot q y b := by
  rcases h.own.form with ⟨e, _⟩ | ⟨g, c', cur, e, e2, _⟩
  · rw [hv] at e; cases e
  · rw [hv] at e
    injection e with e1
    injection e1 with e1
    injection e1 with e1
    subst e1
    exact .inr (.inl e2)
end
def insF (i b : Int) (l : List Int) : List Int := l.flatMap fun c => if c = b then [i, c] else [c]
theorem insF_take {i b : Int} {l : List Int} {j : Nat} (hj : j < l.length) : insF i b (l.take (j + 1)) = insF i b (l.take j) ++ if l[j] = b then [i, l[j]] else [l[j]] := by
  unfold insF
  rw [List.take_succ_eq_append_getElem hj, List.flatMap_append]
  simp
theorem insF_len (i b : Int) (l : List Int) : (insF i b l).length ≤ 2 * l.length := by
  unfold insF
  induction l with
  | nil => simp
  | cons a l ih =>
    rw [List.flatMap_cons, List.length_append, List.length_cons]
    have e : ∀ x : List Int, (x = [i, a] ∨ x = [a]) → x.length ≤ 2 := fun x hx => by rcases hx with rfl | rfl <;> simp
    have := e (if a = b then [i, a] else [a]) (by split <;> simp)
    omega
theorem insF_none {i b : Int} {l : List Int} (h : b ∉ l) : insF i b l = l := by
  unfold insF
  induction l with
  | nil => rfl
  | cons a l ih =>
    rw [List.mem_cons, not_or] at h
    rw [List.flatMap_cons, if_neg (Ne.symm h.1), ih h.2]
    rfl
theorem insF_some {i b : Int} {l : List Int} (h : b ≠ 0) : insF i b l = insA i b l := by unfold insA; rw [if_neg h]; rfl
theorem insF_end {i : Int} {l : List Int} (h : (0 : Int) ∉ l) : insF i 0 l ++ [i] = insA i 0 l := by rw [insF_none h]; unfold insA; rw [if_pos rfl]
theorem leave_kids_len {d : D} (h : WF d) (i p : Int) : (kidsOf (leaveL d.l i) p).length ≤ 1000 ∧ (0 : Int) ∉ kidsOf (leaveL d.l i) p := by
  have ht := leave_tr (i := i) h.tr
  refine ⟨?_, fun h0 => ?_⟩
  · have h1 := nodup_len (kidsOf (leaveL d.l i) p) (idsOf (leaveL d.l i)) (ht.nod p) (fun c hc => has_ids.1 (ht.kid p c hc).2.1)
    rw [leave_ids] at h1
    have := h.len200
    simp only [idsOf, List.length_map] at h1
    omega
  · have h1 := (ht.kid p 0 h0).2.1
    rw [leave_has, h.no0] at h1
    cases h1
end Go.Proofs.YtihjdmdafiifhaaGreat.P5
