/- The walk of ArenaPlays: it answers true, for every room and all deeds. -/
import Derived.Test.YtfenfenhihmmiaaSt4
import Derived.Deep.DeepCutAuto
import Derived.Deep.CutBlock
import Derived.Deep.RegionLaw
namespace Go.Proofs.Ytfenfenhihmmiaa.P4
open Go.RowKit Kd

/-- what the law's switch leaves -/
def Cut4 (w : World) (R k : Nat) (a ids mm nx : Value) (wx : World) : Prop :=
  ∃ (p : Nat) (n : Int) (v : Value) (l : List (Sl Int)), a = .pointer (some ⟨p, 0, none⟩) ∧ nx = .int .i64 (n + 1) ∧ n ≤ (k : Int) + 1 ∧ St wx w.heap.size p R n v ids mm l ∧ Below w.heap.size w wx
/-- 'zs[k+1:]', at whatever capacity -/
theorem cut_at {zs : List Int} {g c k : Nat} (hk : zs.length ≤ c) : ∃ A : Addr, (if c = k + 1 then some (⟨g, 0, none⟩ : Addr) else some ⟨g, k + 1, none⟩) = some A ∧ Hid (∀ W : World, kI.Holds W W.heap.size (some ⟨g, 0, none⟩) zs → kI.Holds W W.heap.size (some A) (zs.drop (k + 1))) := by
  by_cases h : c = k + 1
  · refine ⟨⟨g, 0, none⟩, if_pos h, fun W _ => ?_⟩
    rw [List.drop_eq_nil_of_le (by omega)]
    exact Kind.Holds.nil _ _ _
  · refine ⟨⟨g, k + 1, none⟩, if_neg h, fun W hW => ?_⟩
    have := hW.drop (k + 1)
    have e : 0 + (k + 1) * kI.size = k + 1 := by show 0 + (k + 1) * 1 = k + 1; omega
    rwa [e] at this

set_option maxHeartbeats 20000000 in
set_option maxRecDepth 100000 in
theorem plays_any (room : Int) (ds : List Deed) (A : Option Addr) (m c : Nat) (w : World) (hm : ds.length = m) (hmc : m ≤ c) (_hcm : c ≤ maxLen) (hwf : ∀ d ∈ ds, WfD d) (H : kD.Holds w w.heap.size A ds) :
    Calls Try.prog 3 #[.int .i64 room, .slice A m c] w fun e w' => e = .returned (.bool true) ∧ Below w.heap.size w w' := by
  unfold maxLen at _hcm
  have HH := Lib.hid H
  have HM := Lib.hid hm
  have HF := Lib.hid hwf
  clear H hm hwf
  have q1 := err_eql_nil
  have q2 := err_eql
  have q3 := err_neq_nil
  have q4 := nil_eql_nil
  have q5 := nil_neq_nil
  go_enter Try.func3, Try.ntmps3
  go_wp2_with fail
  refine (up_any _).mono ?_
  rintro e w1 ⟨rfl, b1⟩
  have B1 := Lib.hid b1
  clear b1
  by_cases hr1 : room < 1
  · go_wp2_with fail
    refine (newI_no room _ (.inl hr1)).mono ?_
    rintro e w' ⟨rfl, rfl⟩
    go_wp2_with fail
    go_ret
    exact ⟨rfl, B1.out⟩
  by_cases hr2 : 200 < room
  · go_wp2_with fail
    refine (newI_no room _ (.inr hr2)).mono ?_
    rintro e w' ⟨rfl, rfl⟩
    go_wp2_with fail
    go_ret
    exact ⟨rfl, B1.out⟩
  obtain ⟨R, rfl⟩ := Int.eq_ofNat_of_zero_le (show 0 ≤ room by omega)
  have hR1 : 1 ≤ R := by omega
  have hR2 : R ≤ 200 := by omega
  go_wp2_with fail
  refine (newI_yes (R : Int) _ (by omega) (by omega)).mono ?_
  rintro e w2 ⟨p0, rfl, a2, b2⟩
  rw [Int.toNat_natCast] at a2
  have A2 := Lib.hid (a2.base_le B1.out.size)
  have B2 := Lib.hid (B1.out.trans (b2.mono B1.out.size))
  clear a2 b2
  by_cases hm120 : 120 < m
  · go_wp2_with fail
    go_ret
    exact ⟨rfl, B2.out⟩
  go_wp2_with fail
  go_loopw [6, 8, 9, 10, 11] (fun a ids mm next i wr => ∃ (k p : Nat) (n : Int) (v : Value) (l : List (Sl Int)), k ≤ m ∧ i = .int .i64 k ∧ a = .pointer (some ⟨p, 0, none⟩) ∧ next = .int .i64 (n + 1) ∧ n ≤ k ∧
      Hid (St wr w.heap.size p R n v ids mm l) ∧ Hid (Below w.heap.size w wr)) (fun _ _ _ _ i _ => m - (intOf i).toNat)
  case atStart => exact ⟨0, p0, 0, _, [], by omega, rfl, rfl, rfl, by omega, Lib.hid ⟨A2.out, Kind.Own.nil _ _ _, Kind.Own.nil _ _ _, fun g hg => by simp [Value.ownBlock] at hg⟩, B2⟩
  case round =>
    obtain ⟨k, p, n, v, l, hk, rfl, rfl, rfl, hnk, HS, HW⟩ := hrel
    have hn0 : 0 ≤ n := HS.out.ar.pos
    have hlR : l.length ≤ R := HS.out.ar.len
    by_cases hkm : k < m
    · have hkl : k < ds.length := by have := HM.out; omega
      obtain ⟨b0, o0, rfl, hb0, g0, g1, g2⟩ := cell_of_deeds (HH.out.on HW.out) hkl
      have hwd : WfD ds[k] := HF.out _ (List.getElem_mem hkl)
      generalize ds[k] = d at g0 g1 g2 hwd
      obtain ⟨hwd1, hwd2⟩ := hwd
      obtain ⟨A8, n8, c8, rfl, hn8, hc8, hm8, hz8, h8⟩ := HS.out.ids.slice
      obtain ⟨A9, n9, c9, rfl, hn9, hc9, hm9, hz9, h9⟩ := HS.out.vals.slice
      have HN8 : Hid (l.length = n8) := Lib.hid (by rw [← hn8, idsA_len])
      have HN9 : Hid (l.length = n9) := Lib.hid (by rw [← hn9, valsA_len])
      have hs8 : n8 ≤ 200 := by have := HN8.out; omega
      have hs9 : n9 ≤ 200 := by have := HN9.out; omega
      clear hn8 hc8 hm8 hz8 h8 hn9 hc9 hm9 hz9 h9
      go_wp2_with fail
      have D0 := Lib.hid (Dd.new wr d)
      have S0 := Lib.hid (HS.out.below ((Below.refl _ _).alloc (Nat.le_refl _) (.cells #[.int .i64 d.what, .int .i64 d.id, .int .i64 d.n] 32)) (Nat.le_refl _))
      have W0 := Lib.hid (HW.out.alloc HW.out.size (.cells #[.int .i64 d.what, .int .i64 d.id, .int .i64 d.n] 32))
      generalize wr.alloc (.cells #[.int .i64 d.what, .int .i64 d.id, .int .i64 d.n] 32) = wa at D0 S0 W0 ⊢
      generalize wr.heap.size = g at D0 ⊢
      clear g0 g1 g2 HS HW hb0
      obtain ⟨wo, rfl⟩ : ∃ wo : World, wo = wr := ⟨_, rfl⟩
      go_loopw [13, 14] (fun at' k2 wi => ∃ j : Nat, j ≤ n8 ∧ k2 = .int .i64 j ∧ at' = .int .i64 (seenA l d.id j) ∧ Hid (Below wa.heap.size wa wi)) (fun _ k2 _ => n8 - (intOf k2).toNat)
      case atStart => exact ⟨0, by omega, rfl, by rw [seen_zero], Lib.hid (Below.refl _ _)⟩
      case round =>
        obtain ⟨j, hj, rfl, rfl, HA⟩ := hrel
        have S1 := Lib.hid (S0.out.below HA.out (Nat.le_refl _))
        have D1 := Lib.hid (D0.out.below HA.out (Nat.le_refl _))
        by_cases hjn : j < n8
        · have hjl : j < l.length := by have := HN8.out; omega
          obtain ⟨g8, rfl, _, hc8⟩ := ids_cell S1.out.ids hjl
          have hx := D1.out.c1
          by_cases he : l[j].id = d.id
          · have hq : (l[j].id == d.id) = true := beq_iff_eq.2 he
            have HE := Lib.hid he
            clear he
            go_wp2_with fail
            go_quiet (fail)
            go_wp2_with fail
            go_roundw
            case rel => exact ⟨j + 1, by omega, by go_num, by rw [seen_yes S0.out.ar.asc hjl HE.out], Lib.hid (Below_drewN HA.out _)⟩
            case measure => simp [intOf]; omega
          · have hq : (l[j].id == d.id) = false := beq_eq_false_iff_ne.2 he
            have HE := Lib.hid he
            clear he
            go_wp2_with fail
            go_quiet (fail)
            go_wp2_with fail
            go_roundw
            case rel => exact ⟨j + 1, by omega, by go_num, by rw [seen_no hjl HE.out], Lib.hid (Below_drewN HA.out _)⟩
            case measure => simp [intOf]; omega
        · obtain rfl : n8 = j := by omega
          obtain ⟨sv, hsv⟩ : ∃ sv, sv = seenA l d.id n8 := ⟨_, rfl⟩
          rw [← hsv]
          have SV := Lib.hid hsv
          have WB := Lib.hid (W0.out.trans (HA.out.mono W0.out.size))
          have c0 := D1.out.c0
          have c1 := D1.out.c1
          clear hsv S0 D0 W0 HA
          go_wp2_with fail
          refine (pick_any d.what _ hwd1 hwd2).mono ?_
          rintro e w' ⟨rfl, rfl⟩
          have hq0 := pickA_range d.what
          generalize pickA d.what 8 = q at hq0 ⊢
          obtain ⟨hqa, hqb⟩ := hq0
          go_upto_block 4 with (fail)
          go_cut [6, 8, 9, 10] (fun a ids mm nx wx => Cut4 w R k a ids mm nx wx)
          case first =>
            rcases (show q = 0 ∨ q = 1 ∨ q = 2 ∨ q = 3 ∨ q = 4 ∨ q = 5 ∨ q = 6 ∨ q = 7 by omega) with rfl | rfl | rfl | rfl | rfl | rfl | rfl | rfl
            · as_aux_lemma =>
                have c2 := D1.out.c2
                rcases Nat.lt_or_ge l.length R with hlt | hge0
                · have hlt8 : n8 < R := by have := HN8.out; omega
                  go_wp2_with fail
                  refine (putI_yes d.n _ hlt (by omega) S1.out.ar).mono ?_
                  rintro e w3 ⟨rfl, v3, a3, b3⟩
                  have A3 := Lib.hid a3
                  have I3 := Lib.hid (own_armI S1.out.ids S1.out.ar b3)
                  have V3 := Lib.hid (own_armI S1.out.vals S1.out.ar b3)
                  have D3 := Lib.hid (D1.out.arm S1.out.ar b3)
                  have W3 := Lib.hid (WB.out.trans (S1.out.ar.step b3))
                  clear a3 b3 c2
                  go_wp2_with (first
                    | (at_builtin; refine kI.wp_app rfl (.tmp 131) (.tmp 132) rfl (v := .slice (some ⟨w3.heap.size, 0, Option.none⟩) 0 0) (l := []) (m := idsA l) (B := w3.heap.size) rfl (Kind.Own.made kI w3 _ (Nat.le_refl _)) rfl (own_holds I3.out).1 (own_holds I3.out).2.2.2.1 ((own_holds I3.out).2.2.2.2.on ((Below.refl _ _).alloc (Nat.le_refl _) _)) (by simp; omega) (by simp) ?_; intro v4 w4 hown4 hgrow4 hat4; have O4 := Lib.hid hown4; have B4 : Hid (Below w3.heap.size w3 w4) := Lib.hid (((Below.refl _ _).alloc (Nat.le_refl _) _).grown hgrow4 (by simp) (fun k hk => by simp [Value.ownBlock] at hk; omega)); have hz4 := B4.out.size; clear hown4 hgrow4 hat4)
                    | (at_builtin; refine kI.wp_app rfl (.tmp 133) (.tmp 135) rfl (v := v4) (l := [] ++ idsA l) (m := [n + 1]) (B := w3.heap.size) rfl (O4.out.alloc _) rfl rfl (fun e => by cases e) (Kind.Holds.lit (heap_alloc_new _ _) rfl) (by have := (own_holds I3.out).1; simp; omega) (by simp; omega) ?_; intro v5 w5 hown5 hgrow5 hat5; have O5 := Lib.hid hown5; have B5 : Hid (Below w3.heap.size w3 w5) := Lib.hid ((B4.out.alloc B4.out.size _).grown hgrow5 (by simp; omega) (fun k hk => (O4.out.lt hk).1)); clear hown5 hgrow5 hat5)
                    | fail)
                  have D5 := Lib.hid (D3.out.below B5.out (Nat.le_refl _))
                  have V5 := Lib.hid (V3.out.below B5.out (Nat.le_refl _))
                  have e2 := D5.out.c2
                  have hg5 := D5.out.lt
                  clear O4 B4 hz4
                  go_region_held3 (fun w' => w'.cell? ⟨g, 2, none⟩ = some (.int .i64 d.n)) (go_keep) ((first
                    | (refine kI.step_app rfl (.tmp 137) (.tmp 138) rfl (v := .slice (some ⟨_, 0, Option.none⟩) 0 0) (l := []) (m := valsA l) (B := w5.heap.size) rfl (own_zero (by first | exact heap_drew (heap_top (by simp)) | exact heap_drew (heap_up (heap_top (by simp)))) (by first | exact Nat.le_refl _ | (simp; done) | (simp; omega))) rfl (own_holds V5.out).1 (own_holds V5.out).2.2.2.1 ((own_holds V5.out).2.2.2.2.on (by repeat (first | exact Below.refl _ _ | refine Below.drew ?_ | refine Below.alloc ?_ (by first | exact Nat.le_refl _ | (simp; done) | (simp; omega)) _))) (by have := (own_holds V5.out).1; simp; omega) (by first | exact Nat.le_refl _ | (simp; done) | (simp; omega)) ?_; intro v6 w6 hown6 hgrow6 hat6; have O6 := Lib.hid hown6; have B6 : Hid (Below w5.heap.size w5 w6) := Lib.hid (Below.grown (a := w5) (by repeat (first | exact Below.refl _ _ | refine Below.drew ?_ | refine Below.alloc ?_ (by first | exact Nat.le_refl _ | (simp; done) | (simp; omega)) _)) hgrow6 (by first | exact Nat.le_refl _ | (simp; done) | (simp; omega)) (fun k hk => by simp [Value.ownBlock] at hk; omega)); have d6 : w6.cell? ⟨g, 2, Option.none⟩ = some (.int .i64 d.n) := (D5.out.below B6.out (Nat.le_refl _)).c2; have hz6 := B6.out.size; have GR6 := Lib.hid hgrow6; clear hown6 hgrow6 hat6)
                    | (refine kI.step_app rfl (.tmp 139) (.tmp 142) rfl (v := v6) (l := [] ++ valsA l) (m := [d.n]) (B := w5.heap.size) rfl (by first | exact O6.out | exact O6.out.alloc _) rfl rfl (fun e => by cases e) (by first | exact Kind.Holds.lit (heap_alloc_new _ _) rfl | exact Kind.Holds.lit ((GR6.out.block _ (by first | (simp; done) | (simp; omega)) (by simp [Value.ownBlock])).trans (heap_drew (heap_top (by simp)))) rfl | exact Kind.Holds.lit ((GR6.out.block _ (by first | (simp; done) | (simp; omega)) (by simp [Value.ownBlock])).trans (heap_drew (heap_up (heap_top (by simp))))) rfl) (by have := (own_holds V5.out).1; simp; omega) (by first | exact hz6 | (simp; omega)) ?_; intro v7 w7 hown7 hgrow7 hat7; have O7 := Lib.hid hown7; have B7 : Hid (Below w5.heap.size w5 w7) := Lib.hid (Below.grown (a := w5) (by first | exact B6.out | exact B6.out.alloc hz6 _) hgrow7 (by first | exact hz6 | (simp; omega)) (fun k hk => (O6.out.lt hk).1)); have d7 : w7.cell? ⟨g, 2, Option.none⟩ = some (.int .i64 d.n) := (D5.out.below B7.out (Nat.le_refl _)).c2; clear hown7 hgrow7 hat7)
                    | fail))
                  all_goals
                    go_wp2_with fail
                    go_meet
                    exact ⟨p, n + 1, v3, l ++ [⟨n + 1, d.n⟩], rfl, rfl, by omega, St.put S1.out A3.out O5.out B5.out (Nat.le_refl _) W3.out.size O7.out B7.out (Nat.le_refl _) B5.out.size, (W3.out.trans (B5.out.mono W3.out.size)).trans (B7.out.mono (Nat.le_trans W3.out.size B5.out.size))⟩
                · have hge : l.length = R := by have := S1.out.ar.len; omega
                  have hge8 : R ≤ n8 := by have := HN8.out; omega
                  clear hge0
                  go_wp2_with fail
                  refine (putI_full d.n _ hge S1.out.ar).mono ?_
                  rintro e w3 ⟨rfl, b3⟩
                  have B3 := Lib.hid b3
                  clear b3 hge
                  go_wp2_with fail
                  refine (code6_any _).mono ?_
                  rintro e w' ⟨rfl, rfl⟩
                  go_wp2_with fail
                  go_meet
                  exact ⟨p, n, v, l, rfl, rfl, by omega, S1.out.below B3.out (Nat.le_refl _), WB.out.trans (B3.out.mono WB.out.size)⟩
            · as_aux_lemma =>
                have c2 := D1.out.c2
                rcases Nat.lt_or_ge l.length R with hlt | hge0
                · have hlt8 : n8 < R := by have := HN8.out; omega
                  go_wp2_with fail
                  refine (putI_yes d.n _ hlt (by omega) S1.out.ar).mono ?_
                  rintro e w3 ⟨rfl, v3, a3, b3⟩
                  have A3 := Lib.hid a3
                  have I3 := Lib.hid (own_armI S1.out.ids S1.out.ar b3)
                  have V3 := Lib.hid (own_armI S1.out.vals S1.out.ar b3)
                  have D3 := Lib.hid (D1.out.arm S1.out.ar b3)
                  have W3 := Lib.hid (WB.out.trans (S1.out.ar.step b3))
                  clear a3 b3 c2
                  go_wp2_with (first
                    | (at_builtin; refine kI.wp_app rfl (.tmp 131) (.tmp 132) rfl (v := .slice (some ⟨w3.heap.size, 0, Option.none⟩) 0 0) (l := []) (m := idsA l) (B := w3.heap.size) rfl (Kind.Own.made kI w3 _ (Nat.le_refl _)) rfl (own_holds I3.out).1 (own_holds I3.out).2.2.2.1 ((own_holds I3.out).2.2.2.2.on ((Below.refl _ _).alloc (Nat.le_refl _) _)) (by simp; omega) (by simp) ?_; intro v4 w4 hown4 hgrow4 hat4; have O4 := Lib.hid hown4; have B4 : Hid (Below w3.heap.size w3 w4) := Lib.hid (((Below.refl _ _).alloc (Nat.le_refl _) _).grown hgrow4 (by simp) (fun k hk => by simp [Value.ownBlock] at hk; omega)); have hz4 := B4.out.size; clear hown4 hgrow4 hat4)
                    | (at_builtin; refine kI.wp_app rfl (.tmp 133) (.tmp 135) rfl (v := v4) (l := [] ++ idsA l) (m := [n + 1]) (B := w3.heap.size) rfl (O4.out.alloc _) rfl rfl (fun e => by cases e) (Kind.Holds.lit (heap_alloc_new _ _) rfl) (by have := (own_holds I3.out).1; simp; omega) (by simp; omega) ?_; intro v5 w5 hown5 hgrow5 hat5; have O5 := Lib.hid hown5; have B5 : Hid (Below w3.heap.size w3 w5) := Lib.hid ((B4.out.alloc B4.out.size _).grown hgrow5 (by simp; omega) (fun k hk => (O4.out.lt hk).1)); clear hown5 hgrow5 hat5)
                    | fail)
                  have D5 := Lib.hid (D3.out.below B5.out (Nat.le_refl _))
                  have V5 := Lib.hid (V3.out.below B5.out (Nat.le_refl _))
                  have e2 := D5.out.c2
                  have hg5 := D5.out.lt
                  clear O4 B4 hz4
                  go_region_held3 (fun w' => w'.cell? ⟨g, 2, none⟩ = some (.int .i64 d.n)) (go_keep) ((first
                    | (refine kI.step_app rfl (.tmp 137) (.tmp 138) rfl (v := .slice (some ⟨_, 0, Option.none⟩) 0 0) (l := []) (m := valsA l) (B := w5.heap.size) rfl (own_zero (by first | exact heap_drew (heap_top (by simp)) | exact heap_drew (heap_up (heap_top (by simp)))) (by first | exact Nat.le_refl _ | (simp; done) | (simp; omega))) rfl (own_holds V5.out).1 (own_holds V5.out).2.2.2.1 ((own_holds V5.out).2.2.2.2.on (by repeat (first | exact Below.refl _ _ | refine Below.drew ?_ | refine Below.alloc ?_ (by first | exact Nat.le_refl _ | (simp; done) | (simp; omega)) _))) (by have := (own_holds V5.out).1; simp; omega) (by first | exact Nat.le_refl _ | (simp; done) | (simp; omega)) ?_; intro v6 w6 hown6 hgrow6 hat6; have O6 := Lib.hid hown6; have B6 : Hid (Below w5.heap.size w5 w6) := Lib.hid (Below.grown (a := w5) (by repeat (first | exact Below.refl _ _ | refine Below.drew ?_ | refine Below.alloc ?_ (by first | exact Nat.le_refl _ | (simp; done) | (simp; omega)) _)) hgrow6 (by first | exact Nat.le_refl _ | (simp; done) | (simp; omega)) (fun k hk => by simp [Value.ownBlock] at hk; omega)); have d6 : w6.cell? ⟨g, 2, Option.none⟩ = some (.int .i64 d.n) := (D5.out.below B6.out (Nat.le_refl _)).c2; have hz6 := B6.out.size; have GR6 := Lib.hid hgrow6; clear hown6 hgrow6 hat6)
                    | (refine kI.step_app rfl (.tmp 139) (.tmp 142) rfl (v := v6) (l := [] ++ valsA l) (m := [d.n]) (B := w5.heap.size) rfl (by first | exact O6.out | exact O6.out.alloc _) rfl rfl (fun e => by cases e) (by first | exact Kind.Holds.lit (heap_alloc_new _ _) rfl | exact Kind.Holds.lit ((GR6.out.block _ (by first | (simp; done) | (simp; omega)) (by simp [Value.ownBlock])).trans (heap_drew (heap_top (by simp)))) rfl | exact Kind.Holds.lit ((GR6.out.block _ (by first | (simp; done) | (simp; omega)) (by simp [Value.ownBlock])).trans (heap_drew (heap_up (heap_top (by simp))))) rfl) (by have := (own_holds V5.out).1; simp; omega) (by first | exact hz6 | (simp; omega)) ?_; intro v7 w7 hown7 hgrow7 hat7; have O7 := Lib.hid hown7; have B7 : Hid (Below w5.heap.size w5 w7) := Lib.hid (Below.grown (a := w5) (by first | exact B6.out | exact B6.out.alloc hz6 _) hgrow7 (by first | exact hz6 | (simp; omega)) (fun k hk => (O6.out.lt hk).1)); have d7 : w7.cell? ⟨g, 2, Option.none⟩ = some (.int .i64 d.n) := (D5.out.below B7.out (Nat.le_refl _)).c2; clear hown7 hgrow7 hat7)
                    | fail))
                  all_goals
                    go_wp2_with fail
                    go_meet
                    exact ⟨p, n + 1, v3, l ++ [⟨n + 1, d.n⟩], rfl, rfl, by omega, St.put S1.out A3.out O5.out B5.out (Nat.le_refl _) W3.out.size O7.out B7.out (Nat.le_refl _) B5.out.size, (W3.out.trans (B5.out.mono W3.out.size)).trans (B7.out.mono (Nat.le_trans W3.out.size B5.out.size))⟩
                · have hge : l.length = R := by have := S1.out.ar.len; omega
                  have hge8 : R ≤ n8 := by have := HN8.out; omega
                  clear hge0
                  go_wp2_with fail
                  refine (putI_full d.n _ hge S1.out.ar).mono ?_
                  rintro e w3 ⟨rfl, b3⟩
                  have B3 := Lib.hid b3
                  clear b3 hge
                  go_wp2_with fail
                  refine (code6_any _).mono ?_
                  rintro e w' ⟨rfl, rfl⟩
                  go_wp2_with fail
                  go_meet
                  exact ⟨p, n, v, l, rfl, rfl, by omega, S1.out.below B3.out (Nat.le_refl _), WB.out.trans (B3.out.mono WB.out.size)⟩
            · as_aux_lemma =>
                have c2 := D1.out.c2
                rcases Nat.lt_or_ge l.length R with hlt | hge0
                · have hlt8 : n8 < R := by have := HN8.out; omega
                  go_wp2_with fail
                  refine (putI_yes d.n _ hlt (by omega) S1.out.ar).mono ?_
                  rintro e w3 ⟨rfl, v3, a3, b3⟩
                  have A3 := Lib.hid a3
                  have I3 := Lib.hid (own_armI S1.out.ids S1.out.ar b3)
                  have V3 := Lib.hid (own_armI S1.out.vals S1.out.ar b3)
                  have D3 := Lib.hid (D1.out.arm S1.out.ar b3)
                  have W3 := Lib.hid (WB.out.trans (S1.out.ar.step b3))
                  clear a3 b3 c2
                  go_wp2_with (first
                    | (at_builtin; refine kI.wp_app rfl (.tmp 131) (.tmp 132) rfl (v := .slice (some ⟨w3.heap.size, 0, Option.none⟩) 0 0) (l := []) (m := idsA l) (B := w3.heap.size) rfl (Kind.Own.made kI w3 _ (Nat.le_refl _)) rfl (own_holds I3.out).1 (own_holds I3.out).2.2.2.1 ((own_holds I3.out).2.2.2.2.on ((Below.refl _ _).alloc (Nat.le_refl _) _)) (by simp; omega) (by simp) ?_; intro v4 w4 hown4 hgrow4 hat4; have O4 := Lib.hid hown4; have B4 : Hid (Below w3.heap.size w3 w4) := Lib.hid (((Below.refl _ _).alloc (Nat.le_refl _) _).grown hgrow4 (by simp) (fun k hk => by simp [Value.ownBlock] at hk; omega)); have hz4 := B4.out.size; clear hown4 hgrow4 hat4)
                    | (at_builtin; refine kI.wp_app rfl (.tmp 133) (.tmp 135) rfl (v := v4) (l := [] ++ idsA l) (m := [n + 1]) (B := w3.heap.size) rfl (O4.out.alloc _) rfl rfl (fun e => by cases e) (Kind.Holds.lit (heap_alloc_new _ _) rfl) (by have := (own_holds I3.out).1; simp; omega) (by simp; omega) ?_; intro v5 w5 hown5 hgrow5 hat5; have O5 := Lib.hid hown5; have B5 : Hid (Below w3.heap.size w3 w5) := Lib.hid ((B4.out.alloc B4.out.size _).grown hgrow5 (by simp; omega) (fun k hk => (O4.out.lt hk).1)); clear hown5 hgrow5 hat5)
                    | fail)
                  have D5 := Lib.hid (D3.out.below B5.out (Nat.le_refl _))
                  have V5 := Lib.hid (V3.out.below B5.out (Nat.le_refl _))
                  have e2 := D5.out.c2
                  have hg5 := D5.out.lt
                  clear O4 B4 hz4
                  go_region_held3 (fun w' => w'.cell? ⟨g, 2, none⟩ = some (.int .i64 d.n)) (go_keep) ((first
                    | (refine kI.step_app rfl (.tmp 137) (.tmp 138) rfl (v := .slice (some ⟨_, 0, Option.none⟩) 0 0) (l := []) (m := valsA l) (B := w5.heap.size) rfl (own_zero (by first | exact heap_drew (heap_top (by simp)) | exact heap_drew (heap_up (heap_top (by simp)))) (by first | exact Nat.le_refl _ | (simp; done) | (simp; omega))) rfl (own_holds V5.out).1 (own_holds V5.out).2.2.2.1 ((own_holds V5.out).2.2.2.2.on (by repeat (first | exact Below.refl _ _ | refine Below.drew ?_ | refine Below.alloc ?_ (by first | exact Nat.le_refl _ | (simp; done) | (simp; omega)) _))) (by have := (own_holds V5.out).1; simp; omega) (by first | exact Nat.le_refl _ | (simp; done) | (simp; omega)) ?_; intro v6 w6 hown6 hgrow6 hat6; have O6 := Lib.hid hown6; have B6 : Hid (Below w5.heap.size w5 w6) := Lib.hid (Below.grown (a := w5) (by repeat (first | exact Below.refl _ _ | refine Below.drew ?_ | refine Below.alloc ?_ (by first | exact Nat.le_refl _ | (simp; done) | (simp; omega)) _)) hgrow6 (by first | exact Nat.le_refl _ | (simp; done) | (simp; omega)) (fun k hk => by simp [Value.ownBlock] at hk; omega)); have d6 : w6.cell? ⟨g, 2, Option.none⟩ = some (.int .i64 d.n) := (D5.out.below B6.out (Nat.le_refl _)).c2; have hz6 := B6.out.size; have GR6 := Lib.hid hgrow6; clear hown6 hgrow6 hat6)
                    | (refine kI.step_app rfl (.tmp 139) (.tmp 142) rfl (v := v6) (l := [] ++ valsA l) (m := [d.n]) (B := w5.heap.size) rfl (by first | exact O6.out | exact O6.out.alloc _) rfl rfl (fun e => by cases e) (by first | exact Kind.Holds.lit (heap_alloc_new _ _) rfl | exact Kind.Holds.lit ((GR6.out.block _ (by first | (simp; done) | (simp; omega)) (by simp [Value.ownBlock])).trans (heap_drew (heap_top (by simp)))) rfl | exact Kind.Holds.lit ((GR6.out.block _ (by first | (simp; done) | (simp; omega)) (by simp [Value.ownBlock])).trans (heap_drew (heap_up (heap_top (by simp))))) rfl) (by have := (own_holds V5.out).1; simp; omega) (by first | exact hz6 | (simp; omega)) ?_; intro v7 w7 hown7 hgrow7 hat7; have O7 := Lib.hid hown7; have B7 : Hid (Below w5.heap.size w5 w7) := Lib.hid (Below.grown (a := w5) (by first | exact B6.out | exact B6.out.alloc hz6 _) hgrow7 (by first | exact hz6 | (simp; omega)) (fun k hk => (O6.out.lt hk).1)); have d7 : w7.cell? ⟨g, 2, Option.none⟩ = some (.int .i64 d.n) := (D5.out.below B7.out (Nat.le_refl _)).c2; clear hown7 hgrow7 hat7)
                    | fail))
                  all_goals
                    go_wp2_with fail
                    go_meet
                    exact ⟨p, n + 1, v3, l ++ [⟨n + 1, d.n⟩], rfl, rfl, by omega, St.put S1.out A3.out O5.out B5.out (Nat.le_refl _) W3.out.size O7.out B7.out (Nat.le_refl _) B5.out.size, (W3.out.trans (B5.out.mono W3.out.size)).trans (B7.out.mono (Nat.le_trans W3.out.size B5.out.size))⟩
                · have hge : l.length = R := by have := S1.out.ar.len; omega
                  have hge8 : R ≤ n8 := by have := HN8.out; omega
                  clear hge0
                  go_wp2_with fail
                  refine (putI_full d.n _ hge S1.out.ar).mono ?_
                  rintro e w3 ⟨rfl, b3⟩
                  have B3 := Lib.hid b3
                  clear b3 hge
                  go_wp2_with fail
                  refine (code6_any _).mono ?_
                  rintro e w' ⟨rfl, rfl⟩
                  go_wp2_with fail
                  go_meet
                  exact ⟨p, n, v, l, rfl, rfl, by omega, S1.out.below B3.out (Nat.le_refl _), WB.out.trans (B3.out.mono WB.out.size)⟩
            · as_aux_lemma =>
                have c2 := D1.out.c2
                rcases Nat.lt_or_ge l.length R with hlt | hge0
                · have hlt8 : n8 < R := by have := HN8.out; omega
                  go_wp2_with fail
                  refine (putI_yes d.n _ hlt (by omega) S1.out.ar).mono ?_
                  rintro e w3 ⟨rfl, v3, a3, b3⟩
                  have A3 := Lib.hid a3
                  have I3 := Lib.hid (own_armI S1.out.ids S1.out.ar b3)
                  have V3 := Lib.hid (own_armI S1.out.vals S1.out.ar b3)
                  have D3 := Lib.hid (D1.out.arm S1.out.ar b3)
                  have W3 := Lib.hid (WB.out.trans (S1.out.ar.step b3))
                  clear a3 b3 c2
                  go_wp2_with (first
                    | (at_builtin; refine kI.wp_app rfl (.tmp 131) (.tmp 132) rfl (v := .slice (some ⟨w3.heap.size, 0, Option.none⟩) 0 0) (l := []) (m := idsA l) (B := w3.heap.size) rfl (Kind.Own.made kI w3 _ (Nat.le_refl _)) rfl (own_holds I3.out).1 (own_holds I3.out).2.2.2.1 ((own_holds I3.out).2.2.2.2.on ((Below.refl _ _).alloc (Nat.le_refl _) _)) (by simp; omega) (by simp) ?_; intro v4 w4 hown4 hgrow4 hat4; have O4 := Lib.hid hown4; have B4 : Hid (Below w3.heap.size w3 w4) := Lib.hid (((Below.refl _ _).alloc (Nat.le_refl _) _).grown hgrow4 (by simp) (fun k hk => by simp [Value.ownBlock] at hk; omega)); have hz4 := B4.out.size; clear hown4 hgrow4 hat4)
                    | (at_builtin; refine kI.wp_app rfl (.tmp 133) (.tmp 135) rfl (v := v4) (l := [] ++ idsA l) (m := [n + 1]) (B := w3.heap.size) rfl (O4.out.alloc _) rfl rfl (fun e => by cases e) (Kind.Holds.lit (heap_alloc_new _ _) rfl) (by have := (own_holds I3.out).1; simp; omega) (by simp; omega) ?_; intro v5 w5 hown5 hgrow5 hat5; have O5 := Lib.hid hown5; have B5 : Hid (Below w3.heap.size w3 w5) := Lib.hid ((B4.out.alloc B4.out.size _).grown hgrow5 (by simp; omega) (fun k hk => (O4.out.lt hk).1)); clear hown5 hgrow5 hat5)
                    | fail)
                  have D5 := Lib.hid (D3.out.below B5.out (Nat.le_refl _))
                  have V5 := Lib.hid (V3.out.below B5.out (Nat.le_refl _))
                  have e2 := D5.out.c2
                  have hg5 := D5.out.lt
                  clear O4 B4 hz4
                  go_region_held3 (fun w' => w'.cell? ⟨g, 2, none⟩ = some (.int .i64 d.n)) (go_keep) ((first
                    | (refine kI.step_app rfl (.tmp 137) (.tmp 138) rfl (v := .slice (some ⟨_, 0, Option.none⟩) 0 0) (l := []) (m := valsA l) (B := w5.heap.size) rfl (own_zero (by first | exact heap_drew (heap_top (by simp)) | exact heap_drew (heap_up (heap_top (by simp)))) (by first | exact Nat.le_refl _ | (simp; done) | (simp; omega))) rfl (own_holds V5.out).1 (own_holds V5.out).2.2.2.1 ((own_holds V5.out).2.2.2.2.on (by repeat (first | exact Below.refl _ _ | refine Below.drew ?_ | refine Below.alloc ?_ (by first | exact Nat.le_refl _ | (simp; done) | (simp; omega)) _))) (by have := (own_holds V5.out).1; simp; omega) (by first | exact Nat.le_refl _ | (simp; done) | (simp; omega)) ?_; intro v6 w6 hown6 hgrow6 hat6; have O6 := Lib.hid hown6; have B6 : Hid (Below w5.heap.size w5 w6) := Lib.hid (Below.grown (a := w5) (by repeat (first | exact Below.refl _ _ | refine Below.drew ?_ | refine Below.alloc ?_ (by first | exact Nat.le_refl _ | (simp; done) | (simp; omega)) _)) hgrow6 (by first | exact Nat.le_refl _ | (simp; done) | (simp; omega)) (fun k hk => by simp [Value.ownBlock] at hk; omega)); have d6 : w6.cell? ⟨g, 2, Option.none⟩ = some (.int .i64 d.n) := (D5.out.below B6.out (Nat.le_refl _)).c2; have hz6 := B6.out.size; have GR6 := Lib.hid hgrow6; clear hown6 hgrow6 hat6)
                    | (refine kI.step_app rfl (.tmp 139) (.tmp 142) rfl (v := v6) (l := [] ++ valsA l) (m := [d.n]) (B := w5.heap.size) rfl (by first | exact O6.out | exact O6.out.alloc _) rfl rfl (fun e => by cases e) (by first | exact Kind.Holds.lit (heap_alloc_new _ _) rfl | exact Kind.Holds.lit ((GR6.out.block _ (by first | (simp; done) | (simp; omega)) (by simp [Value.ownBlock])).trans (heap_drew (heap_top (by simp)))) rfl | exact Kind.Holds.lit ((GR6.out.block _ (by first | (simp; done) | (simp; omega)) (by simp [Value.ownBlock])).trans (heap_drew (heap_up (heap_top (by simp))))) rfl) (by have := (own_holds V5.out).1; simp; omega) (by first | exact hz6 | (simp; omega)) ?_; intro v7 w7 hown7 hgrow7 hat7; have O7 := Lib.hid hown7; have B7 : Hid (Below w5.heap.size w5 w7) := Lib.hid (Below.grown (a := w5) (by first | exact B6.out | exact B6.out.alloc hz6 _) hgrow7 (by first | exact hz6 | (simp; omega)) (fun k hk => (O6.out.lt hk).1)); have d7 : w7.cell? ⟨g, 2, Option.none⟩ = some (.int .i64 d.n) := (D5.out.below B7.out (Nat.le_refl _)).c2; clear hown7 hgrow7 hat7)
                    | fail))
                  all_goals
                    go_wp2_with fail
                    go_meet
                    exact ⟨p, n + 1, v3, l ++ [⟨n + 1, d.n⟩], rfl, rfl, by omega, St.put S1.out A3.out O5.out B5.out (Nat.le_refl _) W3.out.size O7.out B7.out (Nat.le_refl _) B5.out.size, (W3.out.trans (B5.out.mono W3.out.size)).trans (B7.out.mono (Nat.le_trans W3.out.size B5.out.size))⟩
                · have hge : l.length = R := by have := S1.out.ar.len; omega
                  have hge8 : R ≤ n8 := by have := HN8.out; omega
                  clear hge0
                  go_wp2_with fail
                  refine (putI_full d.n _ hge S1.out.ar).mono ?_
                  rintro e w3 ⟨rfl, b3⟩
                  have B3 := Lib.hid b3
                  clear b3 hge
                  go_wp2_with fail
                  refine (code6_any _).mono ?_
                  rintro e w' ⟨rfl, rfl⟩
                  go_wp2_with fail
                  go_meet
                  exact ⟨p, n, v, l, rfl, rfl, by omega, S1.out.below B3.out (Nat.le_refl _), WB.out.trans (B3.out.mono WB.out.size)⟩
            · cases hd : hasA l d.id
              · have HD := Lib.hid hd
                have hs1 : sv = -1 := by rw [SV.out, ← HN8.out]; exact seen_all_no hd
                subst hs1
                clear hd
                as_aux_lemma =>
                  go_wp2_with fail
                  refine (dropI_no d.id _ HD.out S1.out.ar).mono ?_
                  rintro e w3 ⟨rfl, b3⟩
                  have B3 := Lib.hid b3
                  clear b3
                  go_wp2_with fail
                  go_meet
                  exact ⟨p, n, v, l, rfl, rfl, by omega, S1.out.below B3.out (Nat.le_refl _), WB.out.trans (B3.out.mono WB.out.size)⟩
              · have HD := Lib.hid hd
                obtain ⟨pk, hpk⟩ : ∃ pk, pk = posA l d.id := ⟨_, rfl⟩
                have hs1 : sv = (pk : Int) := by rw [SV.out, ← HN8.out, hpk]; exact seen_all_yes hd
                subst hs1
                have hpl : pk < l.length := by rw [hpk]; exact atB_lt hd
                have hp8 : pk < n8 := by have := HN8.out; omega
                have hp9 : pk < n9 := by have := HN9.out; omega
                have hpos : (0 : Int) ≤ (pk : Int) := by omega
                have HP := Lib.hid hpk.symm
                clear hd hpk
                obtain ⟨g8, rfl, _, _⟩ := ids_cell S1.out.ids hpl
                obtain ⟨g9, rfl, _, _, _⟩ := vals_cell S1.out.vals hpl
                as_aux_lemma =>
                  go_wp2_with fail
                  refine (dropI_yes d.id _ HD.out S1.out.ar).mono ?_
                  rintro e w3 ⟨rfl, v3, a3, b3⟩
                  rw [HP.out] at a3
                  have A3 := Lib.hid a3
                  have I3 := Lib.hid (own_armI S1.out.ids S1.out.ar b3)
                  have V3 := Lib.hid (own_armI S1.out.vals S1.out.ar b3)
                  have W3 := Lib.hid (WB.out.trans (S1.out.ar.step b3))
                  have h88 : n8 ≤ c8 := (own_holds I3.out).2.1
                  have h99 : n9 ≤ c9 := (own_holds V3.out).2.1
                  have hic8 : pk ≤ c8 := by omega
                  have hic9 : pk ≤ c9 := by omega
                  have hb0 : (0 : Int) ≤ (pk : Int) + 1 := by omega
                  have hb8 : (pk : Int) + 1 ≤ (n8 : Int) := by omega
                  have hb9 : (pk : Int) + 1 ≤ (n9 : Int) := by omega
                  have hwr : IntKind.i64.wrap ((pk : Int) + 1) = (pk : Int) + 1 := by rw [IntKind.wrap_i64]; omega
                  have hnt : ((pk : Int) + 1).toNat = pk + 1 := by omega
                  obtain ⟨A8, hA8, HS8⟩ := cut_at (zs := idsA l) (g := g8) (c := c8) (k := pk) (by have := (own_holds I3.out).1; omega)
                  obtain ⟨A9, hA9, HS9⟩ := cut_at (zs := valsA l) (g := g9) (c := c9) (k := pk) (by have := (own_holds V3.out).1; omega)
                  clear a3 b3
                  go_wp2_with fail
                  go_region_held3 (fun _ => True) (trivial) ((first
                        | (refine kI.step_app rfl (.tmp 158) (.tmp 161) rfl (v := .slice (some ⟨_, 0, Option.none⟩) 0 0) (l := []) (m := (idsA l).take pk) (B := w3.heap.size) rfl (own_zero (by first | exact heap_drew (heap_top (by simp)) | exact heap_drew (heap_up (heap_top (by simp)))) (by first | exact Nat.le_refl _ | (simp; done) | (simp; omega))) rfl (by clear hwr hnt hA8 hA9; rw [List.length_take]; have := (own_holds I3.out).1; omega) (fun e => by cases e) (((own_holds I3.out).2.2.2.2.on (by repeat (first | exact Below.refl _ _ | refine Below.drew ?_ | refine Below.alloc ?_ (by first | exact Nat.le_refl _ | (simp; done) | (simp; omega)) _))).take pk) (by clear hwr hnt hA8 hA9; simp; omega) (by first | exact Nat.le_refl _ | (simp; done) | (simp; omega)) ?_; intro v4 w4 hown hgrow hat; have O4 := Lib.hid hown; have B4 : Hid (Below w3.heap.size w3 w4) := Lib.hid (Below.grown (a := w3) (by repeat (first | exact Below.refl _ _ | refine Below.drew ?_ | refine Below.alloc ?_ (by first | exact Nat.le_refl _ | (simp; done) | (simp; omega)) _)) hgrow (by first | exact Nat.le_refl _ | (simp; done) | (simp; omega)) (fun k hk => by simp [Value.ownBlock] at hk; omega)); have hzw4 := B4.out.size; clear hown hgrow hat)
                        | (refine kI.step_app rfl (.tmp 162) (.tmp 166) rfl (v := v4) (l := [] ++ (idsA l).take pk) (m := (idsA l).drop (pk + 1)) (B := w3.heap.size) rfl O4.out rfl (by clear hwr hnt hA8 hA9; rw [List.length_drop]; have := (own_holds I3.out).1; omega) (fun e => by cases e) (HS8.out _ ((own_holds I3.out).2.2.2.2.on B4.out)) (by clear hwr hnt hA8 hA9; have := (own_holds I3.out).1; simp; omega) B4.out.size ?_; intro v5 w5 hown hgrow hat; have O5 := Lib.hid hown; have B5 : Hid (Below w3.heap.size w3 w5) := Lib.hid (B4.out.grown hgrow B4.out.size (fun k hk => (O4.out.lt hk).1)); clear hown hgrow hat)
                        | fail))
                  have V5 := Lib.hid (V3.out.below B5.out (Nat.le_refl _))
                  clear O4 B4
                  go_wp2_with fail
                  go_region_held3 (fun _ => True) (trivial) ((first
                        | (refine kI.step_app rfl (.tmp 168) (.tmp 171) rfl (v := .slice (some ⟨_, 0, Option.none⟩) 0 0) (l := []) (m := (valsA l).take pk) (B := w5.heap.size) rfl (own_zero (by first | exact heap_drew (heap_top (by simp)) | exact heap_drew (heap_up (heap_top (by simp)))) (by first | exact Nat.le_refl _ | (simp; done) | (simp; omega))) rfl (by clear hwr hnt hA8 hA9; rw [List.length_take]; have := (own_holds V5.out).1; omega) (fun e => by cases e) (((own_holds V5.out).2.2.2.2.on (by repeat (first | exact Below.refl _ _ | refine Below.drew ?_ | refine Below.alloc ?_ (by first | exact Nat.le_refl _ | (simp; done) | (simp; omega)) _))).take pk) (by clear hwr hnt hA8 hA9; simp; omega) (by first | exact Nat.le_refl _ | (simp; done) | (simp; omega)) ?_; intro v6 w6 hown hgrow hat; have O6 := Lib.hid hown; have B6 : Hid (Below w5.heap.size w5 w6) := Lib.hid (Below.grown (a := w5) (by repeat (first | exact Below.refl _ _ | refine Below.drew ?_ | refine Below.alloc ?_ (by first | exact Nat.le_refl _ | (simp; done) | (simp; omega)) _)) hgrow (by first | exact Nat.le_refl _ | (simp; done) | (simp; omega)) (fun k hk => by simp [Value.ownBlock] at hk; omega)); have hzw6 := B6.out.size; clear hown hgrow hat)
                        | (refine kI.step_app rfl (.tmp 172) (.tmp 176) rfl (v := v6) (l := [] ++ (valsA l).take pk) (m := (valsA l).drop (pk + 1)) (B := w5.heap.size) rfl O6.out rfl (by clear hwr hnt hA8 hA9; rw [List.length_drop]; have := (own_holds V5.out).1; omega) (fun e => by cases e) (HS9.out _ ((own_holds V5.out).2.2.2.2.on B6.out)) (by clear hwr hnt hA8 hA9; have := (own_holds V5.out).1; simp; omega) B6.out.size ?_; intro v7 w7 hown hgrow hat; have O7 := Lib.hid hown; have B7 : Hid (Below w5.heap.size w5 w7) := Lib.hid (B6.out.grown hgrow B6.out.size (fun k hk => (O6.out.lt hk).1)); clear hown hgrow hat)
                        | fail))
                  go_wp2_with fail
                  go_meet
                  exact ⟨p, n, v3, l.eraseIdx pk, rfl, rfl, by omega, St.drop_ A3.out O5.out B5.out (Nat.le_refl _) W3.out.size O7.out B7.out (Nat.le_refl _) B5.out.size, (W3.out.trans (B5.out.mono W3.out.size)).trans (B7.out.mono (Nat.le_trans W3.out.size B5.out.size))⟩
            · cases hd : hasA l d.id
              · have HD := Lib.hid hd
                have hs1 : sv = -1 := by rw [SV.out, ← HN8.out]; exact seen_all_no hd
                subst hs1
                clear hd
                as_aux_lemma =>
                  go_wp2_with fail
                  refine (dropI_no d.id _ HD.out S1.out.ar).mono ?_
                  rintro e w3 ⟨rfl, b3⟩
                  have B3 := Lib.hid b3
                  clear b3
                  go_wp2_with fail
                  go_meet
                  exact ⟨p, n, v, l, rfl, rfl, by omega, S1.out.below B3.out (Nat.le_refl _), WB.out.trans (B3.out.mono WB.out.size)⟩
              · have HD := Lib.hid hd
                obtain ⟨pk, hpk⟩ : ∃ pk, pk = posA l d.id := ⟨_, rfl⟩
                have hs1 : sv = (pk : Int) := by rw [SV.out, ← HN8.out, hpk]; exact seen_all_yes hd
                subst hs1
                have hpl : pk < l.length := by rw [hpk]; exact atB_lt hd
                have hp8 : pk < n8 := by have := HN8.out; omega
                have hp9 : pk < n9 := by have := HN9.out; omega
                have hpos : (0 : Int) ≤ (pk : Int) := by omega
                have HP := Lib.hid hpk.symm
                clear hd hpk
                obtain ⟨g8, rfl, _, _⟩ := ids_cell S1.out.ids hpl
                obtain ⟨g9, rfl, _, _, _⟩ := vals_cell S1.out.vals hpl
                as_aux_lemma =>
                  go_wp2_with fail
                  refine (dropI_yes d.id _ HD.out S1.out.ar).mono ?_
                  rintro e w3 ⟨rfl, v3, a3, b3⟩
                  rw [HP.out] at a3
                  have A3 := Lib.hid a3
                  have I3 := Lib.hid (own_armI S1.out.ids S1.out.ar b3)
                  have V3 := Lib.hid (own_armI S1.out.vals S1.out.ar b3)
                  have W3 := Lib.hid (WB.out.trans (S1.out.ar.step b3))
                  have h88 : n8 ≤ c8 := (own_holds I3.out).2.1
                  have h99 : n9 ≤ c9 := (own_holds V3.out).2.1
                  have hic8 : pk ≤ c8 := by omega
                  have hic9 : pk ≤ c9 := by omega
                  have hb0 : (0 : Int) ≤ (pk : Int) + 1 := by omega
                  have hb8 : (pk : Int) + 1 ≤ (n8 : Int) := by omega
                  have hb9 : (pk : Int) + 1 ≤ (n9 : Int) := by omega
                  have hwr : IntKind.i64.wrap ((pk : Int) + 1) = (pk : Int) + 1 := by rw [IntKind.wrap_i64]; omega
                  have hnt : ((pk : Int) + 1).toNat = pk + 1 := by omega
                  obtain ⟨A8, hA8, HS8⟩ := cut_at (zs := idsA l) (g := g8) (c := c8) (k := pk) (by have := (own_holds I3.out).1; omega)
                  obtain ⟨A9, hA9, HS9⟩ := cut_at (zs := valsA l) (g := g9) (c := c9) (k := pk) (by have := (own_holds V3.out).1; omega)
                  clear a3 b3
                  go_wp2_with fail
                  go_region_held3 (fun _ => True) (trivial) ((first
                        | (refine kI.step_app rfl (.tmp 158) (.tmp 161) rfl (v := .slice (some ⟨_, 0, Option.none⟩) 0 0) (l := []) (m := (idsA l).take pk) (B := w3.heap.size) rfl (own_zero (by first | exact heap_drew (heap_top (by simp)) | exact heap_drew (heap_up (heap_top (by simp)))) (by first | exact Nat.le_refl _ | (simp; done) | (simp; omega))) rfl (by clear hwr hnt hA8 hA9; rw [List.length_take]; have := (own_holds I3.out).1; omega) (fun e => by cases e) (((own_holds I3.out).2.2.2.2.on (by repeat (first | exact Below.refl _ _ | refine Below.drew ?_ | refine Below.alloc ?_ (by first | exact Nat.le_refl _ | (simp; done) | (simp; omega)) _))).take pk) (by clear hwr hnt hA8 hA9; simp; omega) (by first | exact Nat.le_refl _ | (simp; done) | (simp; omega)) ?_; intro v4 w4 hown hgrow hat; have O4 := Lib.hid hown; have B4 : Hid (Below w3.heap.size w3 w4) := Lib.hid (Below.grown (a := w3) (by repeat (first | exact Below.refl _ _ | refine Below.drew ?_ | refine Below.alloc ?_ (by first | exact Nat.le_refl _ | (simp; done) | (simp; omega)) _)) hgrow (by first | exact Nat.le_refl _ | (simp; done) | (simp; omega)) (fun k hk => by simp [Value.ownBlock] at hk; omega)); have hzw4 := B4.out.size; clear hown hgrow hat)
                        | (refine kI.step_app rfl (.tmp 162) (.tmp 166) rfl (v := v4) (l := [] ++ (idsA l).take pk) (m := (idsA l).drop (pk + 1)) (B := w3.heap.size) rfl O4.out rfl (by clear hwr hnt hA8 hA9; rw [List.length_drop]; have := (own_holds I3.out).1; omega) (fun e => by cases e) (HS8.out _ ((own_holds I3.out).2.2.2.2.on B4.out)) (by clear hwr hnt hA8 hA9; have := (own_holds I3.out).1; simp; omega) B4.out.size ?_; intro v5 w5 hown hgrow hat; have O5 := Lib.hid hown; have B5 : Hid (Below w3.heap.size w3 w5) := Lib.hid (B4.out.grown hgrow B4.out.size (fun k hk => (O4.out.lt hk).1)); clear hown hgrow hat)
                        | fail))
                  have V5 := Lib.hid (V3.out.below B5.out (Nat.le_refl _))
                  clear O4 B4
                  go_wp2_with fail
                  go_region_held3 (fun _ => True) (trivial) ((first
                        | (refine kI.step_app rfl (.tmp 168) (.tmp 171) rfl (v := .slice (some ⟨_, 0, Option.none⟩) 0 0) (l := []) (m := (valsA l).take pk) (B := w5.heap.size) rfl (own_zero (by first | exact heap_drew (heap_top (by simp)) | exact heap_drew (heap_up (heap_top (by simp)))) (by first | exact Nat.le_refl _ | (simp; done) | (simp; omega))) rfl (by clear hwr hnt hA8 hA9; rw [List.length_take]; have := (own_holds V5.out).1; omega) (fun e => by cases e) (((own_holds V5.out).2.2.2.2.on (by repeat (first | exact Below.refl _ _ | refine Below.drew ?_ | refine Below.alloc ?_ (by first | exact Nat.le_refl _ | (simp; done) | (simp; omega)) _))).take pk) (by clear hwr hnt hA8 hA9; simp; omega) (by first | exact Nat.le_refl _ | (simp; done) | (simp; omega)) ?_; intro v6 w6 hown hgrow hat; have O6 := Lib.hid hown; have B6 : Hid (Below w5.heap.size w5 w6) := Lib.hid (Below.grown (a := w5) (by repeat (first | exact Below.refl _ _ | refine Below.drew ?_ | refine Below.alloc ?_ (by first | exact Nat.le_refl _ | (simp; done) | (simp; omega)) _)) hgrow (by first | exact Nat.le_refl _ | (simp; done) | (simp; omega)) (fun k hk => by simp [Value.ownBlock] at hk; omega)); have hzw6 := B6.out.size; clear hown hgrow hat)
                        | (refine kI.step_app rfl (.tmp 172) (.tmp 176) rfl (v := v6) (l := [] ++ (valsA l).take pk) (m := (valsA l).drop (pk + 1)) (B := w5.heap.size) rfl O6.out rfl (by clear hwr hnt hA8 hA9; rw [List.length_drop]; have := (own_holds V5.out).1; omega) (fun e => by cases e) (HS9.out _ ((own_holds V5.out).2.2.2.2.on B6.out)) (by clear hwr hnt hA8 hA9; have := (own_holds V5.out).1; simp; omega) B6.out.size ?_; intro v7 w7 hown hgrow hat; have O7 := Lib.hid hown; have B7 : Hid (Below w5.heap.size w5 w7) := Lib.hid (B6.out.grown hgrow B6.out.size (fun k hk => (O6.out.lt hk).1)); clear hown hgrow hat)
                        | fail))
                  go_wp2_with fail
                  go_meet
                  exact ⟨p, n, v3, l.eraseIdx pk, rfl, rfl, by omega, St.drop_ A3.out O5.out B5.out (Nat.le_refl _) W3.out.size O7.out B7.out (Nat.le_refl _) B5.out.size, (W3.out.trans (B5.out.mono W3.out.size)).trans (B7.out.mono (Nat.le_trans W3.out.size B5.out.size))⟩
            · cases hd : hasA l d.id
              · have HD := Lib.hid hd
                have hs1 : sv = -1 := by rw [SV.out, ← HN8.out]; exact seen_all_no hd
                subst hs1
                clear hd
                as_aux_lemma =>
                  have c2 := D1.out.c2
                  go_wp2_with fail
                  refine (setI_no d.id d.n _ HD.out S1.out.ar).mono ?_
                  rintro e w3 ⟨rfl, b3⟩
                  have B3 := Lib.hid b3
                  clear b3
                  go_wp2_with fail
                  go_meet
                  exact ⟨p, n, v, l, rfl, rfl, by omega, S1.out.below B3.out (Nat.le_refl _), WB.out.trans (B3.out.mono WB.out.size)⟩
              · have HD := Lib.hid hd
                obtain ⟨pk, hpk⟩ : ∃ pk, pk = posA l d.id := ⟨_, rfl⟩
                have hs1 : sv = (pk : Int) := by rw [SV.out, ← HN8.out, hpk]; exact seen_all_yes hd
                subst hs1
                have hpl : pk < l.length := by rw [hpk]; exact atB_lt hd
                have hp8 : pk < n8 := by have := HN8.out; omega
                have hp9 : pk < n9 := by have := HN9.out; omega
                have hpos : (0 : Int) ≤ (pk : Int) := by omega
                have HP := Lib.hid hpk.symm
                clear hd hpk
                have c2 := D1.out.c2
                obtain ⟨g9, rfl, _, _, _⟩ := vals_cell S1.out.vals hpl
                as_aux_lemma =>
                  go_wp2_with fail
                  refine (setI_yes d.id d.n _ HD.out S1.out.ar).mono ?_
                  rintro e w3 ⟨rfl, a3, b3⟩
                  rw [HP.out] at a3
                  have A3 := Lib.hid a3
                  have I3 := Lib.hid (own_armI S1.out.ids S1.out.ar b3)
                  have V3 := Lib.hid (own_armI S1.out.vals S1.out.ar b3)
                  have D3 := Lib.hid (D1.out.arm S1.out.ar b3)
                  have W3 := Lib.hid (WB.out.trans (S1.out.ar.step b3))
                  have e2 := D3.out.c2
                  obtain ⟨g9', hg9, _, f9, z9⟩ := vals_cell V3.out hpl
                  injection hg9 with hg9
                  injection hg9 with hg9
                  subst hg9
                  have hle9 : w.heap.size ≤ g9 := (S1.out.vals.lt rfl).1
                  clear a3 b3 c2
                  go_wp2_with fail
                  go_meet
                  exact ⟨p, n, v, l.set pk ⟨d.id, d.n⟩, rfl, rfl, by omega, St.set_ HP.out HD.out A3.out I3.out V3.out S1.out.ap, Below.setCell W3.out hle9 _⟩
            · as_aux_lemma =>
                go_wp2_with fail
                refine (cloneI_any _ S1.out.ar).mono ?_
                rintro e w3 ⟨p', v', rfl, a3, b3⟩
                have A3 := Lib.hid a3
                have B3 := Lib.hid b3
                have S3 := Lib.hid (S1.out.below b3 (Nat.le_refl _))
                have W3 := Lib.hid (WB.out.trans (b3.mono WB.out.size))
                clear a3 b3
                go_wp2_with fail
                rcases Nat.lt_or_ge l.length R with hlt | hge0
                · refine (putI_yes 77 _ hlt (by omega) S3.out.ar).mono ?_
                  rintro e w4 ⟨rfl, v4, a4, b4⟩
                  have B4 := Lib.hid b4
                  clear a4 b4
                  go_wp2_with fail
                  go_meet
                  exact ⟨p', n, v', l, rfl, rfl, by omega, St.clone S1.out WB.out.size A3.out B3.out B4.out, W3.out.trans (S3.out.ar.step B4.out)⟩
                · refine (putI_full 77 _ (by have := S1.out.ar.len; omega) S3.out.ar).mono ?_
                  rintro e w4 ⟨rfl, b4⟩
                  have B4 := Lib.hid b4
                  clear b4
                  go_wp2_with fail
                  go_meet
                  exact ⟨p', n, v', l, rfl, rfl, by omega, St.clone S1.out WB.out.size A3.out B3.out (But.of_below B4.out _), W3.out.trans (B4.out.mono W3.out.size)⟩
          case rest =>
            as_aux_lemma =>
              obtain ⟨p', n', v', l', rfl, rfl, hn', SC0, WC0⟩ := hcut
              have SC := Lib.hid SC0
              have WC := Lib.hid WC0
              obtain ⟨A8, n8, c8, rfl, hn8, hc8, hm8, hz8, h8⟩ := SC0.ids.slice
              obtain ⟨A9, n9, c9, rfl, hn9, hc9, hm9, hz9, h9⟩ := SC0.vals.slice
              have HN8 : Hid (l'.length = n8) := Lib.hid (by rw [← hn8, idsA_len])
              have HN9 : Hid (l'.length = n9) := Lib.hid (by rw [← hn9, valsA_len])
              have hs8 : n8 ≤ 200 := by have := HN8.out; have := SC0.ar.len; omega
              have hn0' : 0 ≤ n' := SC0.ar.pos
              clear SC0 WC0 hn8 hc8 hm8 hz8 h8 hn9 hc9 hm9 hz9 h9
              go_wp2_with fail
              refine (liveI_any _ HN8.out SC.out.ar).mono ?_
              rintro e w' ⟨rfl, rfl⟩
              go_wp2_with fail
              refine (nextI_any _ (by omega) rfl SC.out.ar).mono ?_
              rintro e w' ⟨rfl, rfl⟩
              go_wp2_with fail
              refine (roomI_any _ SC.out.ar).mono ?_
              rintro e w' ⟨rfl, rfl⟩
              go_wp2_with fail
              go_loopw [18] (fun k2 wi => ∃ j : Nat, j ≤ n8 ∧ k2 = .int .i64 j ∧ Hid (Below wc.heap.size wc wi)) (fun k2 _ => n8 - (intOf k2).toNat)
              case atStart => exact ⟨0, by omega, rfl, Lib.hid (Below.refl _ _)⟩
              case round =>
                obtain ⟨j, hj, rfl, HB⟩ := hrel
                have SB := Lib.hid (SC.out.below HB.out (Nat.le_refl _))
                by_cases hjn : j < n8
                · have hjl : j < l'.length := by have := HN8.out; omega
                  have hj9 : j < n9 := by have := HN8.out; have := HN9.out; omega
                  obtain ⟨g8, rfl, _, k8⟩ := ids_cell SB.out.ids hjl
                  obtain ⟨g9, rfl, _, k9, _⟩ := vals_cell SB.out.vals hjl
                  go_wp2_with fail
                  refine (getI_at l'[j].id j _ hjl rfl rfl SB.out.ar).mono ?_
                  rintro e w9 ⟨rfl, b9⟩
                  have B9 := Lib.hid (HB.out.trans (b9.mono HB.out.size))
                  obtain ⟨g9', hg9, _, k9', _⟩ := vals_cell (SB.out.below b9 (Nat.le_refl _)).vals hjl
                  injection hg9 with hg9
                  injection hg9 with hg9
                  subst hg9
                  clear b9
                  go_wp2_with fail
                  go_roundw
                  case rel => exact ⟨j + 1, by omega, by go_num, B9⟩
                  case measure => simp [intOf]; omega
                · go_wp2_with fail
                  go_roundw
                  case rel => exact ⟨k + 1, p', n', v', l', by omega, by go_num, rfl, rfl, by omega, SB, Lib.hid (WC.out.trans (HB.out.mono WC.out.size))⟩
                  case measure => simp [intOf]; omega
    · obtain rfl : k = m := by omega
      go_wp2_with fail
      refine (getI_no (n + 1) _ (hasA_big HS.out.ar.asc (by omega)) HS.out.ar).mono ?_
      rintro e w3 ⟨rfl, b3⟩
      have S3 := Lib.hid (HS.out.below b3 (Nat.le_refl _))
      have W3 := Lib.hid (HW.out.trans (b3.mono HW.out.size))
      clear b3
      go_wp2_with fail
      refine (getI_no 0 _ (hasA_big S3.out.ar.asc (by omega)) S3.out.ar).mono ?_
      rintro e w4 ⟨rfl, b4⟩
      have W4 := Lib.hid (W3.out.trans (b4.mono W3.out.size))
      clear b4
      go_wp2_with fail
      go_ret
      exact ⟨rfl, W4.out⟩
end Go.Proofs.Ytfenfenhihmmiaa.P4
