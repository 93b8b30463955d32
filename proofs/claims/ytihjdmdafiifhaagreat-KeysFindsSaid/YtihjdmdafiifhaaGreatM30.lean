/- The reference: a change as it lies in memory; a node that is made. -/
import Derived.Deep.DrawnRows
import Derived.Test.YtihjdmdafiifhaaGreatM22
import Derived.Test.YtihjdmdafiifhaaGreatM29
set_option linter.unusedVariables false
set_option linter.unusedSimpArgs false
set_option linter.unusedVariables false
set_option linter.unusedSimpArgs false
namespace Go.Proofs.YtihjdmdafiifhaaGreat.P5
open Go.RowKit Kd P4
variable {B q : Nat} {y : Rx}
attribute [local go_sem ↓] Go.wp_at_zero Go.wp_at_succ

theorem made_at {B : Nat} {w : World} {g : Nat} (hg : g = w.heap.size) (hB : B ≤ g) : kN.Own (w.alloc (.cells #[] 34)) B (.slice (some ⟨g, 0, none⟩) 0 0) [] := by subst hg; exact Kind.Own.made kN w B hB
theorem own_zeroN {w : World} {B' g : Nat} (hg : w.heap[g]? = some (.cells #[] 34 (0, 0))) (hB : B' ≤ g) : kN.Own w B' (.slice (some ⟨g, 0, none⟩) 0 0) [] :=
  Kind.own_mk (K := kN) (cur := #[]) rfl hB hg (Nat.le_refl _) (by simp [maxLen]) (by simp) (by simp [Kind.cells])
theorem rmade_end {w w5 : World} (h : Rf w B q y) (hb : Below w.heap.size w w5) {v : Value} {r : Rn} (hr : r.vk = ⟨none, 0, 0⟩) (hv : r.va = ⟨none, 0, 0⟩) (hk : r.nd.kids = []) (ha : r.nd.attrs = []) (ho : kN.Own w5 w.heap.size v ((y.rs ++ [r]).map Rn.rn)) :
    Rdid w B q y { y with v := v, rs := y.rs ++ [r] } (w5.setCell ⟨q, 0, none⟩ v) := by
  have hq := heap_lt h.blk
  have hbut : But (fun k => k = q) w (w5.setCell ⟨q, 0, none⟩ v) := But.setCell (S := fun k => k = q) (p := ⟨q, 0, none⟩) (But.of_below hb _) (fun _ => rfl) _
  refine ⟨⟨heap_set ((hb.block q hq).trans h.blk) 0 _, h.base, (ho.keep fun g hg => Below.heap_setCell _ _ _ _ ?_).base_le (by have := h.base; omega), fun s hs => ?_⟩, hbut, fun i hi => ?_⟩
  · rintro rfl
    have := (ho.lt hg).1
    omega
  · rcases List.mem_append.1 hs with hs | hs
    · have hs2 := h.nodes s hs
      refine ⟨hs2.att.but hbut (q_noA h), hs2.kids.keep fun g hg => hbut.block g (hs2.kids.lt hg).2 ?_⟩
      rintro rfl
      obtain ⟨d, hd⟩ := hs2.kids.ty hg
      exact heap_ne hd h.blk (by decide) rfl
    · rw [List.mem_singleton] at hs
      subst hs
      exact ⟨by rw [hv, ha]; exact AOk.nil_ _, by rw [hr, hk]; exact Kind.Own.nil _ _ _⟩
  · rcases hi with e | e | ⟨s, hs, e⟩
    · exact .inl (.inl e)
    · exact .inr (ho.lt e).1
    · rcases List.mem_append.1 hs with hs | hs
      · exact .inl (.inr (.inr ⟨s, hs, e⟩))
      · rw [List.mem_singleton] at hs
        subst hs
        rw [hr] at e
        cases e
theorem mayMake_eq (tag txt key : ByteArray) : mayMake tag txt key = if tag.toList.isEmpty then P1.textB txt.data.toList && key.toList.isEmpty else P1.nameB tag.data.toList && P1.textB key.data.toList && txt.toList.isEmpty := by
  have d : ∀ l : List UInt8, decide (l = []) = l.isEmpty := fun l => by cases l <;> simp
  unfold mayMake
  rw [d, d]
  cases h : tag.toList <;> simp
set_option maxRecDepth 100000 in
set_option maxHeartbeats 40000000 in
theorem rmake_any (r : Rc) (A : Option Addr) (n c : Nat) (w : World) (hwf : WF y.d) (hn : y.n ≤ 100000) (h1 : r.tag.size ≤ maxLen) (h2 : r.txt.size ≤ maxLen) (h3 : r.key.size ≤ maxLen) (h : Rf w B q y) :
    Calls Tryz.prog 35 #[.pointer (some ⟨q, 0, none⟩), .agg #[.int .i64 r.op, .int .i64 r.id, .int .i64 r.par, .int .i64 r.bef, .string r.tag, .string r.txt, .string r.key, .slice A n c]] w (RMade w B q y (makeD y.d r).1 (makeD y.d r).2) := by
  have H := Lib.hid h
  have hl : y.rs.length ≤ 1000 := by have := hwf.len200; rw [show y.d.l = y.l from rfl, rl_len] at this; omega
  have hRR : y.R ≤ 1000 := by have := hwf.room; rw [show y.d.R = y.R from rfl] at this; omega
  have hn0 : 1 ≤ y.n := hwf.n0
  have B1 : Hid (Below w.heap.size w (w.alloc (.cells #[.int .i64 r.op, .int .i64 r.id, .int .i64 r.par, .int .i64 r.bef, .string r.tag, .string r.txt, .string r.key, .slice A n c] 54))) := Lib.hid ((Below.refl _ _).alloc (Nat.le_refl _) _)
  have N1 : Hid (RcB (w.alloc (.cells #[.int .i64 r.op, .int .i64 r.id, .int .i64 r.par, .int .i64 r.bef, .string r.tag, .string r.txt, .string r.key, .slice A n c] 54)) w.heap.size r A n c) := Lib.hid (RcB.new w r A n c)
  clear h hwf
  go_enter Tryz.func35, Tryz.ntmps35
  go_upto_region 1 with fail
  generalize w.alloc (.cells #[.int .i64 r.op, .int .i64 r.id, .int .i64 r.par, .int .i64 r.bef, .string r.tag, .string r.txt, .string r.key, .slice A n c] 54) = W at B1 N1 ⊢
  have H1 := Lib.hid (H.out.below B1.out)
  have c1 := H1.out.c1
  have b1 := N1.out.c1
  have b4 := N1.out.c4
  have b5 := N1.out.c5
  have b6 := N1.out.c6
  by_cases hi : r.id = y.n + 1
  · have hi2 : (r.id != y.n + 1) = false := by simpa using hi
    obtain ⟨mm, hmm⟩ : ∃ mm, mayMake r.tag r.txt r.key = mm := ⟨_, rfl⟩
    have HMM := Lib.hid hmm
    rw [mayMake_eq] at hmm
    obtain ⟨ba, ha⟩ : ∃ a, P1.nameB r.tag.data.toList = a := ⟨_, rfl⟩
    obtain ⟨bb, hb⟩ : ∃ a, P1.textB r.key.data.toList = a := ⟨_, rfl⟩
    obtain ⟨bc, hc⟩ : ∃ a, P1.textB r.txt.data.toList = a := ⟨_, rfl⟩
    rw [ha, hb, hc] at hmm
    have HA := Lib.hid ha
    have HB := Lib.hid hb
    have HC := Lib.hid hc
    have HM := Lib.hid hmm
    have HII := Lib.hid hi
    clear hmm ha hb hc hi
    go_quiet (fail)
    go_wp2_with fail
    refine (P3.rname_at r.tag _ HA.out h1).mono ?_
    rintro e w' ⟨rfl, rfl⟩
    go_wp2_with fail
    refine (P3.rtext_at r.key _ HB.out h3).mono ?_
    rintro e w' ⟨rfl, rfl⟩
    go_wp2_with fail
    refine (P3.rtext_at r.txt _ HC.out h2).mono ?_
    rintro e w' ⟨rfl, rfl⟩
    go_upto_region 6 with fail
    go_cut [53] (fun s wx => s = .bool (!mm) ∧ Hid (Below w.heap.size w wx) ∧ Hid (RcB wx w.heap.size r A n c))
    case first =>
      have BD := Lib.hid (Below_drewN B1.out nq)
      have ND : Hid (RcB (W.drewN nq) w.heap.size r A n c) := Lib.hid N1.out
      cases tE : r.tag.toList.isEmpty with
      | true =>
        cases bc with
        | false =>
          go_wp2_with fail
          go_meet
          exact ⟨by rw [← HM.out, tE]; rfl, BD, ND⟩
        | true =>
          cases kE : r.key.toList.isEmpty
          all_goals
            go_wp2_with fail
            go_meet
            exact ⟨by rw [← HM.out, tE, kE]; rfl, BD, ND⟩
      | false =>
        cases ba with
        | false =>
          go_wp2_with fail
          go_meet
          exact ⟨by rw [← HM.out, tE]; rfl, BD, ND⟩
        | true =>
          cases bb with
          | false =>
            go_wp2_with fail
            go_meet
            exact ⟨by rw [← HM.out, tE]; rfl, BD, ND⟩
          | true =>
            cases xE : r.txt.toList.isEmpty
            all_goals
              go_wp2_with fail
              go_meet
              exact ⟨by rw [← HM.out, tE, xE]; rfl, BD, ND⟩
    case rest =>
      obtain ⟨rfl, B2, N2⟩ := hcut
      obtain ⟨w2, rfl⟩ : ∃ w2, w2 = wc := ⟨_, rfl⟩
      cases mm with
      | false =>
        have HD : Hid (makeD y.d r = (1, y.d)) := Lib.hid (by unfold makeD; rw [if_pos (.inr HMM.out)])
        go_wp2_with fail
        go_ret
        rw [HD.out]
        exact RMade.same H.out B2.out rfl
      | true =>
        have H2 := Lib.hid (H.out.below B2.out)
        obtain ⟨AL, cL, hv, hcl, hcm, hz, hh⟩ := H2.out.slice
        have d0 := H2.out.c0
        rw [hv] at d0
        have d2 := H2.out.c2
        have HV := Lib.hid hv
        have HZ := Lib.hid hz
        have HH := Lib.hid hh
        obtain ⟨nl, hnl⟩ : ∃ nl, y.rs.length = nl := ⟨_, rfl⟩
        have HNL := Lib.hid hnl
        rw [hnl] at d0 hl hcl
        have c1 : ¬ (r.id ≠ y.d.n + 1 ∨ mayMake r.tag r.txt r.key = false) := by
          rintro (e | e)
          · exact e HII.out
          · rw [HMM.out] at e; cases e
        have HC1 := Lib.hid c1
        clear hv hz hh hnl c1 hcm
        by_cases hg : y.R ≤ nl
        · have HD : Hid (makeD y.d r = (6, y.d)) := Lib.hid (by unfold makeD; rw [if_neg HC1.out, if_pos]; show y.R ≤ y.l.length; rw [rl_len, HNL.out]; exact hg)
          have q1 : decide ((y.R : Int) ≤ (nl : Int)) = true := by simp; omega
          have q2 : decide ((nl : Int) < (y.R : Int)) = false := by simp; omega
          have q3 : decide (y.R ≤ nl) = true := by simp; omega
          go_wp2_with fail
          go_quiet (fail)
          go_wp2_with fail
          go_ret
          rw [HD.out]
          exact RMade.same H.out (by exact Below_drewN B2.out _) rfl
        · have HD : Hid (makeD y.d r = (0, { y.d with l := y.d.l ++ [newN r.id r.tag r.txt r.key], n := y.d.n + 1 })) := Lib.hid (by unfold makeD; rw [if_neg HC1.out, if_neg]; show ¬ y.R ≤ y.l.length; rw [rl_len, HNL.out]; exact hg)
          have q1 : decide ((y.R : Int) ≤ (nl : Int)) = false := by simp; omega
          have q2 : decide ((nl : Int) < (y.R : Int)) = true := by simp; omega
          have q3 : decide (y.R ≤ nl) = false := by simp; omega
          have q4 : nl < y.R := by omega
          clear hg
          go_wp2_with fail
          go_quiet (fail)
          go_upto_region 10 with fail
          have B3 := Lib.hid (Below_drewN B2.out nq)
          have N3 : Hid (RcB (w2.drewN nq) w.heap.size r A n c) := Lib.hid N2.out
          have HH3 : Hid (kN.Holds (w2.drewN nq) (w2.drewN nq).heap.size AL (y.rs.map Rn.rn)) := Lib.hid (HH.out.drewN nq)
          have H3 := Lib.hid (H2.out.drewN nq)
          have d3 : (w2.drewN nq).cell? ⟨q, 0, none⟩ = some (.slice AL nl cL) := d0
          clear d0 d2 q1 q2 q3 q4 B2 N2 HH H2 H1 B1 N1 c1 b1 b4 b5 b6
          generalize w2.drewN nq = W3 at B3 N3 HH3 H3 d3 ⊢
          have f3 := H3.out.frozen 0
          have b1 := N3.out.c1
          have b4 := N3.out.c4
          have b5 := N3.out.c5
          have b6 := N3.out.c6
          have hq3 : q < W3.heap.size := heap_lt H3.out.blk
          have hne : ¬ q = w.heap.size := by have := heap_lt H.out.blk; omega
          have far : ∀ (W : World) (j : Nat) (v : Value), (W.setCell ⟨q, 0, none⟩ v).cell? ⟨w.heap.size, j, none⟩ = W.cell? ⟨w.heap.size, j, none⟩ := fun W j v => World.cell?_setCell_far _ _ _ _ hne
          refine Tl.region_last (S := (fun w' => w'.cell? ⟨q, 0, none⟩ = some (.slice AL nl cL) ∧ w'.cell? ⟨w.heap.size, 1, none⟩ = some (.int .i64 r.id) ∧ w'.cell? ⟨w.heap.size, 4, none⟩ = some (.string r.tag) ∧ w'.cell? ⟨w.heap.size, 5, none⟩ = some (.string r.txt) ∧ w'.cell? ⟨w.heap.size, 6, none⟩ = some (.string r.key))) (by kernel_rfl) 20 _ rfl rfl rfl (by kernel_rfl) (by go_keep) (fun hHeld => ?_)
          simp only [List.setIfInBounds_toArray, List.set_cons_zero, List.set_cons_succ, Tl.idle]
          refine wpAnyH_take (i := 0) (v := ?v1) rfl (by kernel_rfl) (by kernel_rfl) (by kernel_rfl) (fun _ _ _ h => h) (Or.inl ⟨by rfl, ?hy1⟩) (by assumption) ?hr1
          case hy1 => (intro w' hSw; (try dsimp only at hSw); go_simp; try with_reducible rfl)
          (try simp only [Act.put, List.setIfInBounds_toArray, List.set_cons_zero, List.set_cons_succ])
          refine wpAnyH_take (i := 2) (v := ?v2) rfl (by kernel_rfl) (by kernel_rfl) (by kernel_rfl) (fun _ _ _ h => h) (Or.inl ⟨by rfl, ?hy2⟩) (by assumption) ?hr2
          case hy2 => (intro w' hSw; (try dsimp only at hSw); go_simp; try with_reducible rfl)
          (try simp only [Act.put, List.setIfInBounds_toArray, List.set_cons_zero, List.set_cons_succ])
          refine wpAnyH_take (i := 3) (v := ?v3) rfl (by kernel_rfl) (by kernel_rfl) (by kernel_rfl) (fun _ _ _ h => h) (Or.inl ⟨by rfl, ?hy3⟩) (by assumption) ?hr3
          case hy3 => (intro w' hSw; (try dsimp only at hSw); go_simp; try with_reducible rfl)
          (try simp only [Act.put, List.setIfInBounds_toArray, List.set_cons_zero, List.set_cons_succ])
          refine wpAnyH_take (i := 4) (v := ?v4) rfl (by kernel_rfl) (by kernel_rfl) (by kernel_rfl) (fun _ _ _ h => h) (Or.inl ⟨by rfl, ?hy4⟩) (by assumption) ?hr4
          case hy4 => (intro w' hSw; (try dsimp only at hSw); go_simp; try with_reducible rfl)
          (try simp only [Act.put, List.setIfInBounds_toArray, List.set_cons_zero, List.set_cons_succ])
          refine wpAnyH_take (i := 5) (v := ?v5) rfl (by kernel_rfl) (by kernel_rfl) (by kernel_rfl) (fun _ _ _ h => h) (Or.inl ⟨by rfl, ?hy5⟩) (by assumption) ?hr5
          case hy5 => (intro w' hSw; (try dsimp only at hSw); go_simp; try with_reducible rfl)
          (try simp only [Act.put, List.setIfInBounds_toArray, List.set_cons_zero, List.set_cons_succ])
          refine wpAnyH_take (i := 7) (v := ?v6) rfl (by kernel_rfl) (by kernel_rfl) (by kernel_rfl) (fun _ _ _ h => h) (Or.inl ⟨by rfl, ?hy6⟩) (by assumption) ?hr6
          case hy6 => (intro w' hSw; (try dsimp only at hSw); go_simp; try with_reducible rfl)
          (try simp only [Act.put, List.setIfInBounds_toArray, List.set_cons_zero, List.set_cons_succ])
          refine wpAnyH_take (i := 8) (v := ?v7) rfl (by kernel_rfl) (by kernel_rfl) (by kernel_rfl) (fun _ _ _ h => h) (Or.inl ⟨by rfl, ?hy7⟩) (by assumption) ?hr7
          case hy7 => (intro w' hSw; (try dsimp only at hSw); go_simp; try with_reducible rfl)
          (try simp only [Act.put, List.setIfInBounds_toArray, List.set_cons_zero, List.set_cons_succ])
          refine wpAnyH_take (i := 9) (v := ?v8) rfl (by kernel_rfl) (by kernel_rfl) (by kernel_rfl) (fun _ _ _ h => h) (Or.inl ⟨by rfl, ?hy8⟩) (by assumption) ?hr8
          case hy8 => (intro w' hSw; (try dsimp only at hSw); go_simp; try with_reducible rfl)
          (try simp only [Act.put, List.setIfInBounds_toArray, List.set_cons_zero, List.set_cons_succ])
          refine wpAnyH_take (i := 10) (v := ?v9) rfl (by kernel_rfl) (by kernel_rfl) (by kernel_rfl) (fun _ _ _ h => h) (Or.inl ⟨by rfl, ?hy9⟩) (by assumption) ?hr9
          case hy9 => (intro w' hSw; (try dsimp only at hSw); go_simp; try with_reducible rfl)
          (try simp only [Act.put, List.setIfInBounds_toArray, List.set_cons_zero, List.set_cons_succ])
          refine wpAnyH_take (i := 11) (v := ?v10) rfl (by kernel_rfl) (by kernel_rfl) (by kernel_rfl) (fun _ _ _ h => h) (Or.inl ⟨by rfl, ?hy10⟩) (by assumption) ?hr10
          case hy10 => (intro w' hSw; (try dsimp only at hSw); go_simp; try with_reducible rfl)
          (try simp only [Act.put, List.setIfInBounds_toArray, List.set_cons_zero, List.set_cons_succ])
          refine wpAnyH_take (i := 12) (v := ?v11) rfl (by kernel_rfl) (by kernel_rfl) (by kernel_rfl) (fun _ _ _ h => h) (Or.inl ⟨by rfl, ?hy11⟩) (by assumption) ?hr11
          case hy11 => (intro w' hSw; (try dsimp only at hSw); go_simp; try with_reducible rfl)
          (try simp only [Act.put, List.setIfInBounds_toArray, List.set_cons_zero, List.set_cons_succ])
          refine wpAnyH_take (i := 13) (v := ?v12) rfl (by kernel_rfl) (by kernel_rfl) (by kernel_rfl) (fun _ _ _ h => h) (Or.inl ⟨by rfl, ?hy12⟩) (by assumption) ?hr12
          case hy12 => (intro w' hSw; (try dsimp only at hSw); go_simp; try with_reducible rfl)
          (try simp only [Act.put, List.setIfInBounds_toArray, List.set_cons_zero, List.set_cons_succ])
          refine wpAnyH_take (i := 14) (v := ?v13) rfl (by kernel_rfl) (by kernel_rfl) (by kernel_rfl) (fun _ _ _ h => h) (Or.inl ⟨by rfl, ?hy13⟩) (by assumption) ?hr13
          case hy13 => (intro w' hSw; (try dsimp only at hSw); go_simp; try with_reducible rfl)
          (try simp only [Act.put, List.setIfInBounds_toArray, List.set_cons_zero, List.set_cons_succ])
          refine wpAnyH_take (i := 15) (v := ?v14) rfl (by kernel_rfl) (by kernel_rfl) (by kernel_rfl) (fun _ _ _ h => h) (Or.inl ⟨by rfl, ?hy14⟩) (by assumption) ?hr14
          case hy14 => (intro w' hSw; (try dsimp only at hSw); go_simp; try with_reducible rfl)
          (try simp only [Act.put, List.setIfInBounds_toArray, List.set_cons_zero, List.set_cons_succ])
          refine wpAnyH_ready (rs := [1, 16]) (by kernel_rfl) (by simp) ?_
          refine AllReadyH.cons rfl (fun K hK => ?_) ?_
          · go_simp
            refine hK.out _ _ ?_ (fun hHeld => ?_)
            · go_keep
            clear hK K
            (try simp only [Act.put, List.setIfInBounds_toArray, List.set_cons_zero, List.set_cons_succ])
            refine wpAnyH_ready (rs := [6, 16]) (by kernel_rfl) (by simp) ?_
            refine AllReadyH.cons rfl (fun K hK => ?_) ?_
            · refine kN.step_app rfl (.tmp 65) (.tmp 69) rfl (v := .slice (some ⟨_, 0, Option.none⟩) 0 0) (l := []) (m := y.rs.map Rn.rn) (B := W3.heap.size) rfl (own_zeroN (by first | exact heap_drew (heap_top (by simp)) | exact heap_drew (heap_up (heap_top (by simp)))) (by first | exact Nat.le_refl _ | (simp; done) | (simp; omega))) rfl (by rw [List.length_map]; exact HNL.out) HZ.out (HH3.out.on (by repeat (first | exact Below.refl _ _ | refine Below.drew ?_ | refine Below.alloc ?_ (by first | exact Nat.le_refl _ | (simp; done) | (simp; omega)) _))) (by simp; omega) (by first | exact Nat.le_refl _ | (simp; done) | (simp; omega)) ?_; intro v4 w4 hown4 hgrow4 hat4; have O4 := Lib.hid hown4; have B4 : Hid (Below W3.heap.size W3 w4) := Lib.hid (Below.grown (a := W3) (by repeat (first | exact Below.refl _ _ | refine Below.drew ?_ | refine Below.alloc ?_ (by first | exact Nat.le_refl _ | (simp; done) | (simp; omega)) _)) hgrow4 (by first | exact Nat.le_refl _ | (simp; done) | (simp; omega)) (fun k hk => by simp [Value.ownBlock] at hk; omega)); have d4 : w4.cell? ⟨q, 0, Option.none⟩ = some (.slice AL nl cL) := (B4.out.cell (by exact hq3)).trans d3; have g41 := (N3.out.below B4.out N3.out.lt).c1; have g44 := (N3.out.below B4.out N3.out.lt).c4; have g45 := (N3.out.below B4.out N3.out.lt).c5; have g46 := (N3.out.below B4.out N3.out.lt).c6; have hz4 := B4.out.size; have GR4 := Lib.hid hgrow4; clear hown4 hgrow4 hat4
              refine hK.out _ _ ?_ (fun hHeld => ?_)
              · exact ⟨d4, g41, g44, g45, g46⟩
              clear hK K
              (try simp only [Act.put, List.setIfInBounds_toArray, List.set_cons_zero, List.set_cons_succ])
              refine wpAnyH_ready (rs := [16]) (by kernel_rfl) (by simp) ?_
              refine AllReadyH.cons rfl (fun K hK => ?_) ?_
              · go_simp
                refine hK.out _ _ ?_ (fun hHeld => ?_)
                · go_keep
                clear hK K
                (try simp only [Act.put, List.setIfInBounds_toArray, List.set_cons_zero, List.set_cons_succ])
                refine wpAnyH_ready (rs := [17]) (by kernel_rfl) (by simp) ?_
                refine AllReadyH.cons rfl (fun K hK => ?_) ?_
                · refine kN.step_app rfl (.tmp 70) (.tmp 80) rfl (v := v4) (l := [] ++ y.rs.map Rn.rn) (m := [⟨r.id, 0, r.tag, r.txt, r.key, ⟨none, 0, 0⟩, ⟨none, 0, 0⟩, 0⟩]) (B := W3.heap.size) rfl (by first | exact O4.out | exact O4.out.alloc _) rfl rfl (fun e => by cases e) (by first | exact Kind.Holds.lit (heap_alloc_new _ _) rfl | exact Kind.Holds.lit ((GR4.out.block _ (by first | (simp; done) | (simp; omega)) (by simp [Value.ownBlock])).trans (heap_drew (heap_top (by simp)))) rfl | exact Kind.Holds.lit ((GR4.out.block _ (by first | (simp; done) | (simp; omega)) (by simp [Value.ownBlock])).trans (heap_drew (heap_up (heap_top (by simp))))) rfl) (by have := HNL.out; simp; omega) (by first | exact hz4 | (simp; omega)) ?_; intro v5 w5 hown5 hgrow5 hat5; obtain ⟨A7, n7, c7, rfl, _, _, _, _, _⟩ := hown5.slice; have O5 := Lib.hid hown5; have B5 : Hid (Below W3.heap.size W3 w5) := Lib.hid (Below.grown (a := W3) (by first | exact B4.out | exact B4.out.alloc hz4 _) hgrow5 (by first | exact hz4 | (simp; omega)) (fun k hk => (O4.out.lt hk).1)); have d5 : w5.cell? ⟨q, 0, Option.none⟩ = some (.slice AL nl cL) := (B5.out.cell (by exact hq3)).trans d3; have f5 : w5.frozen? ⟨q, 0, Option.none⟩ = false := (H3.out.below B5.out).frozen 0; have g51 := (N3.out.below B5.out N3.out.lt).c1; have g54 := (N3.out.below B5.out N3.out.lt).c4; have g55 := (N3.out.below B5.out N3.out.lt).c5; have g56 := (N3.out.below B5.out N3.out.lt).c6; clear hown5 hgrow5 hat5
                  refine hK.out _ _ ?_ (fun hHeld => ?_)
                  · exact ⟨d5, g51, g54, g55, g56⟩
                  clear hK K
                  (try simp only [Act.put, List.setIfInBounds_toArray, List.set_cons_zero, List.set_cons_succ])
                  refine wpAnyH_take (i := 18) (v := ?v15) rfl (by kernel_rfl) (by kernel_rfl) (by kernel_rfl) (fun _ _ _ h => h) (Or.inl ⟨by rfl, ?hy15⟩) (by assumption) ?hr15
                  case hy15 => (intro w' hSw; (try dsimp only at hSw); go_simp; try with_reducible rfl)
                  (try simp only [Act.put, List.setIfInBounds_toArray, List.set_cons_zero, List.set_cons_succ])
                  refine wpAnyH_take (i := 19) (v := ?v16) rfl (by kernel_rfl) (by kernel_rfl) (by kernel_rfl) (fun _ _ _ h => h) (Or.inl ⟨by rfl, ?hy16⟩) (by assumption) ?hr16
                  case hy16 => (intro w' hSw; (try dsimp only at hSw); go_simp; try with_reducible rfl)
                  (try simp only [Act.put, List.setIfInBounds_toArray, List.set_cons_zero, List.set_cons_succ])
                  refine wpAnyH_take (i := 20) (v := ?v17) rfl (by kernel_rfl) (by kernel_rfl) (by kernel_rfl) (fun _ _ _ h => h) (Or.inl ⟨by rfl, ?hy17⟩) (by assumption) ?hr17
                  case hy17 => (intro w' hSw; (try dsimp only at hSw); go_simp; try with_reducible rfl)
                  (try simp only [Act.put, List.setIfInBounds_toArray, List.set_cons_zero, List.set_cons_succ])
                  refine wpAnyH_done (by kernel_rfl) ?_ _
                  intro K hK
                  go_simp
                  refine hK _ _ ?_
                  clear hK K
                  have D5 := Lib.hid (rmade_end (r := ⟨⟨none, 0, 0⟩, ⟨none, 0, 0⟩, newN r.id r.tag r.txt r.key⟩) H3.out B5.out rfl rfl rfl rfl (by rw [List.map_append]; exact O5.out))
                  generalize w5.setCell ⟨q, 0, none⟩ (.slice A7 n7 c7) = W7 at D5 ⊢
                  clear d5 f5 g51 g54 g55 g56 d4 g41 g44 g45 g46 O4 B4 hz4 GR4 O5 B5
                  have e1 := D5.out.rf.c1
                  have f1 := D5.out.rf.frozen 1
                  have RD := Lib.hid (((Rdid.below_ H.out B3.out).trans D5.out).trans (D5.out.rf.next (y.n + 1)))
                  clear D5
                  simp only at e1
                  go_wp2_with fail
                  go_ret
                  rw [HD.out]
                  refine ⟨rfl, _, RD.out, ?_⟩
                  show D.mk ((y.rs ++ [(⟨⟨none, 0, 0⟩, ⟨none, 0, 0⟩, newN r.id r.tag r.txt r.key⟩ : Rn)]).map (·.nd)) _ _ _ = D.mk _ _ _ _
                  rw [List.map_append]
                  rfl
                exact AllReadyH.nil
              exact AllReadyH.nil
            refine AllReadyH.cons rfl (fun K hK => ?_) ?_
            · go_simp
              refine hK.out _ _ ?_ (fun hHeld => ?_)
              · go_keep
              clear hK K
              (try simp only [Act.put, List.setIfInBounds_toArray, List.set_cons_zero, List.set_cons_succ])
              refine wpAnyH_ready (rs := [6]) (by kernel_rfl) (by simp) ?_
              refine AllReadyH.cons rfl (fun K hK => ?_) ?_
              · refine kN.step_app rfl (.tmp 65) (.tmp 69) rfl (v := .slice (some ⟨_, 0, Option.none⟩) 0 0) (l := []) (m := y.rs.map Rn.rn) (B := W3.heap.size) rfl (own_zeroN (by first | exact heap_drew (heap_top (by simp)) | exact heap_drew (heap_up (heap_top (by simp)))) (by first | exact Nat.le_refl _ | (simp; done) | (simp; omega))) rfl (by rw [List.length_map]; exact HNL.out) HZ.out (HH3.out.on (by repeat (first | exact Below.refl _ _ | refine Below.drew ?_ | refine Below.alloc ?_ (by first | exact Nat.le_refl _ | (simp; done) | (simp; omega)) _))) (by simp; omega) (by first | exact Nat.le_refl _ | (simp; done) | (simp; omega)) ?_; intro v4 w4 hown4 hgrow4 hat4; have O4 := Lib.hid hown4; have B4 : Hid (Below W3.heap.size W3 w4) := Lib.hid (Below.grown (a := W3) (by repeat (first | exact Below.refl _ _ | refine Below.drew ?_ | refine Below.alloc ?_ (by first | exact Nat.le_refl _ | (simp; done) | (simp; omega)) _)) hgrow4 (by first | exact Nat.le_refl _ | (simp; done) | (simp; omega)) (fun k hk => by simp [Value.ownBlock] at hk; omega)); have d4 : w4.cell? ⟨q, 0, Option.none⟩ = some (.slice AL nl cL) := (B4.out.cell (by exact hq3)).trans d3; have g41 := (N3.out.below B4.out N3.out.lt).c1; have g44 := (N3.out.below B4.out N3.out.lt).c4; have g45 := (N3.out.below B4.out N3.out.lt).c5; have g46 := (N3.out.below B4.out N3.out.lt).c6; have hz4 := B4.out.size; have GR4 := Lib.hid hgrow4; clear hown4 hgrow4 hat4
                refine hK.out _ _ ?_ (fun hHeld => ?_)
                · exact ⟨d4, g41, g44, g45, g46⟩
                clear hK K
                (try simp only [Act.put, List.setIfInBounds_toArray, List.set_cons_zero, List.set_cons_succ])
                refine wpAnyH_ready (rs := [17]) (by kernel_rfl) (by simp) ?_
                refine AllReadyH.cons rfl (fun K hK => ?_) ?_
                · refine kN.step_app rfl (.tmp 70) (.tmp 80) rfl (v := v4) (l := [] ++ y.rs.map Rn.rn) (m := [⟨r.id, 0, r.tag, r.txt, r.key, ⟨none, 0, 0⟩, ⟨none, 0, 0⟩, 0⟩]) (B := W3.heap.size) rfl (by first | exact O4.out | exact O4.out.alloc _) rfl rfl (fun e => by cases e) (by first | exact Kind.Holds.lit (heap_alloc_new _ _) rfl | exact Kind.Holds.lit ((GR4.out.block _ (by first | (simp; done) | (simp; omega)) (by simp [Value.ownBlock])).trans (heap_drew (heap_top (by simp)))) rfl | exact Kind.Holds.lit ((GR4.out.block _ (by first | (simp; done) | (simp; omega)) (by simp [Value.ownBlock])).trans (heap_drew (heap_up (heap_top (by simp))))) rfl) (by have := HNL.out; simp; omega) (by first | exact hz4 | (simp; omega)) ?_; intro v5 w5 hown5 hgrow5 hat5; obtain ⟨A7, n7, c7, rfl, _, _, _, _, _⟩ := hown5.slice; have O5 := Lib.hid hown5; have B5 : Hid (Below W3.heap.size W3 w5) := Lib.hid (Below.grown (a := W3) (by first | exact B4.out | exact B4.out.alloc hz4 _) hgrow5 (by first | exact hz4 | (simp; omega)) (fun k hk => (O4.out.lt hk).1)); have d5 : w5.cell? ⟨q, 0, Option.none⟩ = some (.slice AL nl cL) := (B5.out.cell (by exact hq3)).trans d3; have f5 : w5.frozen? ⟨q, 0, Option.none⟩ = false := (H3.out.below B5.out).frozen 0; have g51 := (N3.out.below B5.out N3.out.lt).c1; have g54 := (N3.out.below B5.out N3.out.lt).c4; have g55 := (N3.out.below B5.out N3.out.lt).c5; have g56 := (N3.out.below B5.out N3.out.lt).c6; clear hown5 hgrow5 hat5
                  refine hK.out _ _ ?_ (fun hHeld => ?_)
                  · exact ⟨d5, g51, g54, g55, g56⟩
                  clear hK K
                  (try simp only [Act.put, List.setIfInBounds_toArray, List.set_cons_zero, List.set_cons_succ])
                  refine wpAnyH_take (i := 18) (v := ?v18) rfl (by kernel_rfl) (by kernel_rfl) (by kernel_rfl) (fun _ _ _ h => h) (Or.inl ⟨by rfl, ?hy18⟩) (by assumption) ?hr18
                  case hy18 => (intro w' hSw; (try dsimp only at hSw); go_simp; try with_reducible rfl)
                  (try simp only [Act.put, List.setIfInBounds_toArray, List.set_cons_zero, List.set_cons_succ])
                  refine wpAnyH_take (i := 19) (v := ?v19) rfl (by kernel_rfl) (by kernel_rfl) (by kernel_rfl) (fun _ _ _ h => h) (Or.inl ⟨by rfl, ?hy19⟩) (by assumption) ?hr19
                  case hy19 => (intro w' hSw; (try dsimp only at hSw); go_simp; try with_reducible rfl)
                  (try simp only [Act.put, List.setIfInBounds_toArray, List.set_cons_zero, List.set_cons_succ])
                  refine wpAnyH_take (i := 20) (v := ?v20) rfl (by kernel_rfl) (by kernel_rfl) (by kernel_rfl) (fun _ _ _ h => h) (Or.inl ⟨by rfl, ?hy20⟩) (by assumption) ?hr20
                  case hy20 => (intro w' hSw; (try dsimp only at hSw); go_simp; try with_reducible rfl)
                  (try simp only [Act.put, List.setIfInBounds_toArray, List.set_cons_zero, List.set_cons_succ])
                  refine wpAnyH_done (by kernel_rfl) ?_ _
                  intro K hK
                  go_simp
                  refine hK _ _ ?_
                  clear hK K
                  have D5 := Lib.hid (rmade_end (r := ⟨⟨none, 0, 0⟩, ⟨none, 0, 0⟩, newN r.id r.tag r.txt r.key⟩) H3.out B5.out rfl rfl rfl rfl (by rw [List.map_append]; exact O5.out))
                  generalize w5.setCell ⟨q, 0, none⟩ (.slice A7 n7 c7) = W7 at D5 ⊢
                  clear d5 f5 g51 g54 g55 g56 d4 g41 g44 g45 g46 O4 B4 hz4 GR4 O5 B5
                  have e1 := D5.out.rf.c1
                  have f1 := D5.out.rf.frozen 1
                  have RD := Lib.hid (((Rdid.below_ H.out B3.out).trans D5.out).trans (D5.out.rf.next (y.n + 1)))
                  clear D5
                  simp only at e1
                  go_wp2_with fail
                  go_ret
                  rw [HD.out]
                  refine ⟨rfl, _, RD.out, ?_⟩
                  show D.mk ((y.rs ++ [(⟨⟨none, 0, 0⟩, ⟨none, 0, 0⟩, newN r.id r.tag r.txt r.key⟩ : Rn)]).map (·.nd)) _ _ _ = D.mk _ _ _ _
                  rw [List.map_append]
                  rfl
                exact AllReadyH.nil
              exact AllReadyH.nil
            exact AllReadyH.nil
          refine AllReadyH.cons rfl (fun K hK => ?_) ?_
          · go_simp
            refine hK.out _ _ ?_ (fun hHeld => ?_)
            · go_keep
            clear hK K
            (try simp only [Act.put, List.setIfInBounds_toArray, List.set_cons_zero, List.set_cons_succ])
            refine wpAnyH_ready (rs := [1]) (by kernel_rfl) (by simp) ?_
            refine AllReadyH.cons rfl (fun K hK => ?_) ?_
            · go_simp
              refine hK.out _ _ ?_ (fun hHeld => ?_)
              · go_keep
              clear hK K
              (try simp only [Act.put, List.setIfInBounds_toArray, List.set_cons_zero, List.set_cons_succ])
              refine wpAnyH_ready (rs := [6]) (by kernel_rfl) (by simp) ?_
              refine AllReadyH.cons rfl (fun K hK => ?_) ?_
              · refine kN.step_app rfl (.tmp 65) (.tmp 69) rfl (v := .slice (some ⟨_, 0, Option.none⟩) 0 0) (l := []) (m := y.rs.map Rn.rn) (B := W3.heap.size) rfl (own_zeroN (by first | exact heap_drew (heap_top (by simp)) | exact heap_drew (heap_up (heap_top (by simp)))) (by first | exact Nat.le_refl _ | (simp; done) | (simp; omega))) rfl (by rw [List.length_map]; exact HNL.out) HZ.out (HH3.out.on (by repeat (first | exact Below.refl _ _ | refine Below.drew ?_ | refine Below.alloc ?_ (by first | exact Nat.le_refl _ | (simp; done) | (simp; omega)) _))) (by simp; omega) (by first | exact Nat.le_refl _ | (simp; done) | (simp; omega)) ?_; intro v4 w4 hown4 hgrow4 hat4; have O4 := Lib.hid hown4; have B4 : Hid (Below W3.heap.size W3 w4) := Lib.hid (Below.grown (a := W3) (by repeat (first | exact Below.refl _ _ | refine Below.drew ?_ | refine Below.alloc ?_ (by first | exact Nat.le_refl _ | (simp; done) | (simp; omega)) _)) hgrow4 (by first | exact Nat.le_refl _ | (simp; done) | (simp; omega)) (fun k hk => by simp [Value.ownBlock] at hk; omega)); have d4 : w4.cell? ⟨q, 0, Option.none⟩ = some (.slice AL nl cL) := (B4.out.cell (by exact hq3)).trans d3; have g41 := (N3.out.below B4.out N3.out.lt).c1; have g44 := (N3.out.below B4.out N3.out.lt).c4; have g45 := (N3.out.below B4.out N3.out.lt).c5; have g46 := (N3.out.below B4.out N3.out.lt).c6; have hz4 := B4.out.size; have GR4 := Lib.hid hgrow4; clear hown4 hgrow4 hat4
                refine hK.out _ _ ?_ (fun hHeld => ?_)
                · exact ⟨d4, g41, g44, g45, g46⟩
                clear hK K
                (try simp only [Act.put, List.setIfInBounds_toArray, List.set_cons_zero, List.set_cons_succ])
                refine wpAnyH_ready (rs := [17]) (by kernel_rfl) (by simp) ?_
                refine AllReadyH.cons rfl (fun K hK => ?_) ?_
                · refine kN.step_app rfl (.tmp 70) (.tmp 80) rfl (v := v4) (l := [] ++ y.rs.map Rn.rn) (m := [⟨r.id, 0, r.tag, r.txt, r.key, ⟨none, 0, 0⟩, ⟨none, 0, 0⟩, 0⟩]) (B := W3.heap.size) rfl (by first | exact O4.out | exact O4.out.alloc _) rfl rfl (fun e => by cases e) (by first | exact Kind.Holds.lit (heap_alloc_new _ _) rfl | exact Kind.Holds.lit ((GR4.out.block _ (by first | (simp; done) | (simp; omega)) (by simp [Value.ownBlock])).trans (heap_drew (heap_top (by simp)))) rfl | exact Kind.Holds.lit ((GR4.out.block _ (by first | (simp; done) | (simp; omega)) (by simp [Value.ownBlock])).trans (heap_drew (heap_up (heap_top (by simp))))) rfl) (by have := HNL.out; simp; omega) (by first | exact hz4 | (simp; omega)) ?_; intro v5 w5 hown5 hgrow5 hat5; obtain ⟨A7, n7, c7, rfl, _, _, _, _, _⟩ := hown5.slice; have O5 := Lib.hid hown5; have B5 : Hid (Below W3.heap.size W3 w5) := Lib.hid (Below.grown (a := W3) (by first | exact B4.out | exact B4.out.alloc hz4 _) hgrow5 (by first | exact hz4 | (simp; omega)) (fun k hk => (O4.out.lt hk).1)); have d5 : w5.cell? ⟨q, 0, Option.none⟩ = some (.slice AL nl cL) := (B5.out.cell (by exact hq3)).trans d3; have f5 : w5.frozen? ⟨q, 0, Option.none⟩ = false := (H3.out.below B5.out).frozen 0; have g51 := (N3.out.below B5.out N3.out.lt).c1; have g54 := (N3.out.below B5.out N3.out.lt).c4; have g55 := (N3.out.below B5.out N3.out.lt).c5; have g56 := (N3.out.below B5.out N3.out.lt).c6; clear hown5 hgrow5 hat5
                  refine hK.out _ _ ?_ (fun hHeld => ?_)
                  · exact ⟨d5, g51, g54, g55, g56⟩
                  clear hK K
                  (try simp only [Act.put, List.setIfInBounds_toArray, List.set_cons_zero, List.set_cons_succ])
                  refine wpAnyH_take (i := 18) (v := ?v21) rfl (by kernel_rfl) (by kernel_rfl) (by kernel_rfl) (fun _ _ _ h => h) (Or.inl ⟨by rfl, ?hy21⟩) (by assumption) ?hr21
                  case hy21 => (intro w' hSw; (try dsimp only at hSw); go_simp; try with_reducible rfl)
                  (try simp only [Act.put, List.setIfInBounds_toArray, List.set_cons_zero, List.set_cons_succ])
                  refine wpAnyH_take (i := 19) (v := ?v22) rfl (by kernel_rfl) (by kernel_rfl) (by kernel_rfl) (fun _ _ _ h => h) (Or.inl ⟨by rfl, ?hy22⟩) (by assumption) ?hr22
                  case hy22 => (intro w' hSw; (try dsimp only at hSw); go_simp; try with_reducible rfl)
                  (try simp only [Act.put, List.setIfInBounds_toArray, List.set_cons_zero, List.set_cons_succ])
                  refine wpAnyH_take (i := 20) (v := ?v23) rfl (by kernel_rfl) (by kernel_rfl) (by kernel_rfl) (fun _ _ _ h => h) (Or.inl ⟨by rfl, ?hy23⟩) (by assumption) ?hr23
                  case hy23 => (intro w' hSw; (try dsimp only at hSw); go_simp; try with_reducible rfl)
                  (try simp only [Act.put, List.setIfInBounds_toArray, List.set_cons_zero, List.set_cons_succ])
                  refine wpAnyH_done (by kernel_rfl) ?_ _
                  intro K hK
                  go_simp
                  refine hK _ _ ?_
                  clear hK K
                  have D5 := Lib.hid (rmade_end (r := ⟨⟨none, 0, 0⟩, ⟨none, 0, 0⟩, newN r.id r.tag r.txt r.key⟩) H3.out B5.out rfl rfl rfl rfl (by rw [List.map_append]; exact O5.out))
                  generalize w5.setCell ⟨q, 0, none⟩ (.slice A7 n7 c7) = W7 at D5 ⊢
                  clear d5 f5 g51 g54 g55 g56 d4 g41 g44 g45 g46 O4 B4 hz4 GR4 O5 B5
                  have e1 := D5.out.rf.c1
                  have f1 := D5.out.rf.frozen 1
                  have RD := Lib.hid (((Rdid.below_ H.out B3.out).trans D5.out).trans (D5.out.rf.next (y.n + 1)))
                  clear D5
                  simp only at e1
                  go_wp2_with fail
                  go_ret
                  rw [HD.out]
                  refine ⟨rfl, _, RD.out, ?_⟩
                  show D.mk ((y.rs ++ [(⟨⟨none, 0, 0⟩, ⟨none, 0, 0⟩, newN r.id r.tag r.txt r.key⟩ : Rn)]).map (·.nd)) _ _ _ = D.mk _ _ _ _
                  rw [List.map_append]
                  rfl
                exact AllReadyH.nil
              exact AllReadyH.nil
            exact AllReadyH.nil
          exact AllReadyH.nil
  · have hi2 : (r.id != y.n + 1) = true := by simpa using hi
    have HD : Hid (makeD y.d r = (1, y.d)) := Lib.hid (by unfold makeD; rw [if_pos (.inl hi)])
    go_quiet (fail)
    go_wp2_with fail
    go_ret
    rw [HD.out]
    exact RMade.same H.out (by exact Below_drewN B1.out _) rfl
end Go.Proofs.YtihjdmdafiifhaaGreat.P5
