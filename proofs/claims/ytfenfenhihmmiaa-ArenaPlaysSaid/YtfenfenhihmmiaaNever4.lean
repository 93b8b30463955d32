/- The walk of ArenaNever: it answers true, for every room and all that is dropped. -/
import Derived.Test.YtfenfenhihmmiaaUp4
import Derived.Test.YtfenfenhihmmiaaArena2S
namespace Go.Proofs.Ytfenfenhihmmiaa.P4
open Go.RowKit Kd

theorem cell_of_ints {w : World} {B : Nat} {A : Option Addr} {l : List Int} (h : kI.Holds w B A l) {k : Nat} (hk : k < l.length) : ∃ b o, A = some ⟨b, o, none⟩ ∧ b < B ∧ w.cell? ⟨b, o + k, none⟩ = some (.int .i64 l[k]) := by
  obtain ⟨b, o, rfl, hb, hc⟩ := h.at hk
  have := hc 0 _ rfl
  exact ⟨b, o, rfl, hb, by simpa [kI] using this⟩
theorem cell_of_ints_at {w : World} {B b o : Nat} {l : List Int} (h : kI.Holds w B (some ⟨b, o, none⟩) l) {k : Nat} (hk : k < l.length) : w.cell? ⟨b, o + k, none⟩ = some (.int .i64 l[k]) := by
  obtain ⟨b', o', hA, _, hc⟩ := cell_of_ints h hk
  injection hA with hA
  injection hA with e1 e2
  subst e1; subst e2
  exact hc
/-- what was dropped: none of it is there, nor can be again -/
def GoneA {α : Type} (n : Int) (l : List (Sl α)) (gs : List Int) : Prop := ∀ g ∈ gs, g ≤ n ∧ ∀ s ∈ l, s.id ≠ g
theorem gone_no {α : Type} {n : Int} {l : List (Sl α)} {gs : List Int} {g : Int} (h : Asc n l) (hg : GoneA n l gs) (hm : g ∈ gs) : hasA l g = false := hasA_no h (hg g hm).2
theorem gone_put {α : Type} {n : Int} {l : List (Sl α)} {gs : List Int} {x : α} (hg : GoneA n l gs) : GoneA (n + 1) (l ++ [⟨n + 1, x⟩]) gs := by
  intro g hm
  obtain ⟨h1, h2⟩ := hg g hm
  refine ⟨by omega, fun s hs => ?_⟩
  rcases List.mem_append.1 hs with hs | hs
  · exact h2 s hs
  · rw [List.mem_singleton] at hs
    subst hs
    show n + 1 ≠ g
    omega
theorem gone_drop {α : Type} {n : Int} {l : List (Sl α)} {gs : List Int} {t : Int} (h : Asc n l) (hg : GoneA n l gs) (ht : hasA l t = true) : GoneA n (l.eraseIdx (posA l t)) (gs ++ [t]) := by
  intro g hm
  rcases List.mem_append.1 hm with hm | hm
  · exact ⟨(hg g hm).1, fun s hs => (hg g hm).2 s (mem_drop hs)⟩
  · rw [List.mem_singleton] at hm
    subst hm
    obtain ⟨s, hs, rfl⟩ := hasA_mem ht
    exact ⟨(h.2 s hs).2, drop_gone h ht⟩
section
variable {w w' : World} {B B' p R : Nat} {n : Int} {v u : Value} {l : List (Sl ByteArray)} {gs : List Int}
theorem own_armS (h : kI.Own w B' u gs) (ha : ArS w B p R n v l) (hb : But (Arm p v) w w') : kI.Own w' B' u gs :=
  h.but hb fun g hg => by
    obtain ⟨c, hc⟩ := h.ty hg
    exact ha.other hc (by decide) (by decide)
theorem keep_grown (ha : ArS w B p R n v l) (h : kI.Own w B' u gs) (hg : w.grownBy w' u.ownBlock) : ArS w' B p R n v l := by
  refine ha.keep (hg.block p ha.lt (fun e => ?_)) (fun g hv => hg.block g (ha.own.lt hv).2 (fun e => ?_))
  · obtain ⟨c, hc⟩ := h.ty e.symm
    exact heap_ne hc ha.blk (by decide) rfl
  · obtain ⟨c, hc⟩ := h.ty e.symm
    obtain ⟨d, hd⟩ := ha.own.ty hv
    exact heap_ne hc hd (by decide) rfl
end

set_option maxHeartbeats 4000000 in
set_option maxRecDepth 100000 in
theorem never_any (room : Int) (ds : List Int) (A : Option Addr) (m c : Nat) (w : World) (hm : ds.length = m) (hmc : m ≤ c) (_hcm : c ≤ maxLen) (H : kI.Holds w w.heap.size A ds) :
    Calls Try.prog 4 #[.int .i64 room, .slice A m c] w fun e w' => e = .returned (.bool true) ∧ Below w.heap.size w w' := by
  unfold maxLen at _hcm
  have HH := Lib.hid H
  have HM := Lib.hid hm
  clear H hm
  have q1 := err_eql_nil
  have q3 := err_neq_nil
  have q4 := nil_eql_nil
  have q5 := nil_neq_nil
  go_enter Try.func4, Try.ntmps4
  go_wp2_with fail
  refine (up_any _).mono ?_
  rintro e w1 ⟨rfl, b1⟩
  have B1 := Lib.hid b1
  clear b1
  by_cases hroom : room < 1 ∨ 200 < room
  · go_wp2_with fail
    refine (newS_no room _ hroom).mono ?_
    rintro e w' ⟨rfl, rfl⟩
    clear hroom
    go_wp2_with fail
    go_ret
    exact ⟨rfl, B1.out⟩
  obtain ⟨R, rfl⟩ := Int.eq_ofNat_of_zero_le (show 0 ≤ room by omega)
  have hR1 : 1 ≤ R := by omega
  have hR2 : R ≤ 200 := by omega
  clear hroom
  go_wp2_with fail
  refine (newS_yes (R : Int) _ (by omega) (by omega)).mono ?_
  rintro e w2 ⟨p, rfl, a2, b2⟩
  rw [Int.toNat_natCast] at a2
  have A2 := Lib.hid (a2.base_le B1.out.size)
  have B2 := Lib.hid (B1.out.trans (b2.mono B1.out.size))
  clear a2 b2
  by_cases hm150 : 150 < m
  · go_wp2_with fail
    go_ret
    exact ⟨rfl, B2.out⟩
  go_wp2_with fail
  go_loopw [8, 9, 10] (fun last gone i wr => ∃ (k : Nat) (n : Int) (v : Value) (l : List (Sl ByteArray)) (gs : List Int), k ≤ m ∧ i = .int .i64 k ∧ last = .int .i64 n ∧ n ≤ k ∧ gs.length ≤ k ∧
      Hid (ArS wr w.heap.size p R n v l) ∧ Hid (kI.Own wr w.heap.size gone gs) ∧ Hid (GoneA n l gs) ∧ Hid (Below w.heap.size w wr)) (fun _ _ i _ => m - (intOf i).toNat)
  case atStart => exact ⟨0, 0, _, [], [], by omega, rfl, rfl, by omega, by simp, A2, Lib.hid (Kind.Own.nil _ _ _), Lib.hid (fun g hg => by simp at hg), B2⟩
  case round =>
    obtain ⟨k, n, v, l, gs, hk, rfl, rfl, hnk, hgk, HA, HG, HGN, HW⟩ := hrel
    by_cases hkm : k < m
    · have hkl : k < ds.length := by have := HM.out; omega
      obtain ⟨b0, o0, rfl, hb0, g0⟩ := cell_of_ints (HH.out.on HW.out) hkl
      have hn1 : n ≤ 100000 := by omega
      have hn0 : 0 ≤ n := HA.out.pos
      rcases Nat.lt_or_ge l.length R with hlr | hlr0
      · go_wp2_with fail
        refine (putS_yes ⟨#[120]⟩ _ hlr hn1 HA.out).mono ?_
        rintro e w3 ⟨rfl, v3, a3, b3⟩
        have H3 := Lib.hid a3
        have W3 := Lib.hid (HW.out.trans (HA.out.step b3))
        have G3 := Lib.hid (own_armS HG.out HA.out b3)
        obtain ⟨n3, hn3⟩ : ∃ n3, n3 = n + 1 := ⟨_, rfl⟩
        obtain ⟨l3, hl3⟩ : ∃ l3, l3 = l ++ [⟨n + 1, ⟨#[120]⟩⟩] := ⟨_, rfl⟩
        have GN3 : Hid (GoneA n3 l3 gs) := by subst hn3; subst hl3; exact gone_put HGN.out
        rw [← hl3, ← hn3] at H3
        have hle : ¬ n3 ≤ n := by omega
        have hn3k : n3 ≤ (k : Int) + 1 := by omega
        rw [← hn3]
        clear a3 b3 hn3 hl3
        have gd := cell_of_ints_at (HH.out.on W3.out) hkl
        go_wp2_with fail
        cases hd : hasA l3 ds[k]
        · have HD := Lib.hid hd
          clear hd
          refine (dropS_no ds[k] _ HD.out H3.out).mono ?_
          rintro e w4 ⟨rfl, b4⟩
          have H4 := Lib.hid (H3.out.below b4 (Nat.le_refl _))
          have W4 := Lib.hid (W3.out.trans (b4.mono W3.out.size))
          have G4 := Lib.hid (G3.out.below b4 (Nat.le_refl _))
          have GN4 := GN3
          obtain ⟨l4, hl4⟩ : ∃ l4, l4 = l3 := ⟨_, rfl⟩
          obtain ⟨gs4, hgs4⟩ : ∃ gs4, gs4 = gs := ⟨_, rfl⟩
          have hg4 : gs4.length ≤ k + 1 := by subst hgs4; omega
          rw [← hl4] at H4
          rw [← hgs4] at G4
          rw [← hl4, ← hgs4] at GN4
          obtain ⟨n4, hn4⟩ : ∃ n4, n4 = n3 := ⟨_, rfl⟩
          obtain ⟨v4, hv4⟩ : ∃ v4, v4 = v3 := ⟨_, rfl⟩
          rw [← hn4, ← hv4] at H4
          rw [← hn4] at GN4
          rw [← hn4] at hn3k
          clear b4 hl4 hgs4 hv4 W3 G3 GN3 H3
          subst hn4
          have Y := Lib.hid H4
          have hYB : w.heap.size ≤ w4.heap.size := W4.out.size
          obtain ⟨A9, n9, c9, rfl, hn9, hc9, hm9, hz9, h9⟩ := G4.out.slice
          have HN9 := Lib.hid hn9
          have H9 := Lib.hid h9
          have hs9 : n9 ≤ 1000 := by omega
          clear hn9 hc9 hm9 hz9 h9 Y
          go_wp2_with fail
          obtain ⟨wo, rfl⟩ : ∃ wo : World, wo = wr := ⟨_, rfl⟩
          go_loopw [13] (fun j wi => ∃ q : Nat, q ≤ n9 ∧ j = .int .i64 q ∧ Hid (Below w4.heap.size w4 wi)) (fun j _ => n9 - (intOf j).toNat)
          case atStart => exact ⟨0, by omega, rfl, Lib.hid (Below.refl _ _)⟩
          case round =>
            obtain ⟨q, hq, rfl, HW⟩ := hrel
            by_cases hqn : q < n9
            · have hql : q < gs4.length := by have := HN9.out; omega
              have hno : hasA l4 gs4[q] = false := gone_no H4.out.asc GN4.out (List.getElem_mem hql)
              have HNO := Lib.hid hno
              clear hno
              have AR := Lib.hid (H4.out.below HW.out (Nat.le_refl _))
              obtain ⟨b9, o9, rfl, hb9, g9⟩ := cell_of_ints (H9.out.on HW.out) hql
              go_wp2_with fail
              refine (getS_no gs4[q] _ HNO.out AR.out).mono ?_
              rintro e w6 ⟨rfl, b6⟩
              have AR6 := Lib.hid (AR.out.below b6 (Nat.le_refl _))
              have W6 := Lib.hid (HW.out.trans (b6.mono HW.out.size))
              clear b6
              have g9 := cell_of_ints_at (H9.out.on W6.out) hql
              go_wp2_with fail
              refine (setS_no gs4[q] _ _ HNO.out AR6.out).mono ?_
              rintro e w7 ⟨rfl, b7⟩
              have AR7 := Lib.hid (AR6.out.below b7 (Nat.le_refl _))
              have W7 := Lib.hid (W6.out.trans (b7.mono W6.out.size))
              clear b7 g9
              have g9 := cell_of_ints_at (H9.out.on W7.out) hql
              go_wp2_with fail
              refine (dropS_no gs4[q] _ HNO.out AR7.out).mono ?_
              rintro e w8 ⟨rfl, b8⟩
              have W8 := Lib.hid (W7.out.trans (b8.mono W7.out.size))
              clear b8
              go_wp2_with fail
              go_roundw
              case rel => exact ⟨q + 1, by omega, by go_num, W8⟩
              case measure => simp [intOf]; omega
            · go_wp2_with fail
              go_roundw
              case rel => exact ⟨k + 1, n4, v4, l4, gs4, by omega, by go_num, rfl, by omega, by omega, Lib.hid (H4.out.below HW.out (Nat.le_refl _)), Lib.hid (G4.out.below HW.out (Nat.le_refl _)), GN4, Lib.hid (W4.out.trans (HW.out.mono W4.out.size))⟩
              case measure => simp [intOf]; omega
        · have HD := Lib.hid hd
          clear hd
          refine (dropS_yes ds[k] _ HD.out H3.out).mono ?_
          rintro e w5 ⟨rfl, v5, a5, b5⟩
          have H5 := Lib.hid a5
          have W5 := Lib.hid (W3.out.trans (H3.out.step b5))
          have G5 := Lib.hid (own_armS G3.out H3.out b5)
          have GN5 : Hid (GoneA n3 (l3.eraseIdx (posA l3 ds[k])) (gs ++ [ds[k]])) := gone_drop H3.out.asc GN3.out HD.out
          clear a5 b5
          have gd := cell_of_ints_at (HH.out.on W5.out) hkl
          have hzw : w.heap.size ≤ w5.heap.size := W5.out.size
          go_wp2_with (at_builtin; refine kI.wp_app rfl _ _ rfl (v := u9) (l := gs) (m := [ds[k]]) (B := w.heap.size) rfl (G5.out.alloc _) rfl rfl (fun e => by cases e) (Kind.Holds.lit (heap_alloc_new _ _) rfl) (by simp; omega) (by simp; omega) ?_; intro g4 w4 hown hgrow hat; have G4 := Lib.hid hown; have BX := Lib.hid (But.of_grown (S := fun i => u9.ownBlock = some i) hgrow (fun g hg _ => hg)); have H4 := Lib.hid (keep_grown (H5.out.below ((Below.refl _ _).alloc (Nat.le_refl _) _) (Nat.le_refl _)) (G5.out.alloc _) hgrow); have W4 := Lib.hid ((W5.out.alloc hzw _).grown hgrow (by simp; omega) (fun i hi => (G5.out.lt hi).1)); clear hown hgrow hat)
          obtain ⟨l4, hl4⟩ : ∃ l4, l4 = l3.eraseIdx (posA l3 ds[k]) := ⟨_, rfl⟩
          obtain ⟨gs4, hgs4⟩ : ∃ gs4, gs4 = gs ++ [ds[k]] := ⟨_, rfl⟩
          have hg4 : gs4.length ≤ k + 1 := by subst hgs4; simp; omega
          rw [← hl4] at H4
          rw [← hgs4] at G4
          have GN4 := GN5
          rw [← hl4, ← hgs4] at GN4
          obtain ⟨n4, hn4⟩ : ∃ n4, n4 = n3 := ⟨_, rfl⟩
          obtain ⟨v4, hv4⟩ : ∃ v4, v4 = v5 := ⟨_, rfl⟩
          rw [← hn4, ← hv4] at H4
          rw [← hn4] at GN4
          rw [← hn4] at hn3k
          clear hl4 hgs4 hv4 H5 GN5 G5 W5 W3 G3 GN3 BX
          subst hn4
          have Y := Lib.hid H4
          have hYB : w.heap.size ≤ w4.heap.size := W4.out.size
          obtain ⟨A9, n9, c9, rfl, hn9, hc9, hm9, hz9, h9⟩ := G4.out.slice
          have HN9 := Lib.hid hn9
          have H9 := Lib.hid h9
          have hs9 : n9 ≤ 1000 := by omega
          clear hn9 hc9 hm9 hz9 h9 Y
          go_wp2_with fail
          obtain ⟨wo, rfl⟩ : ∃ wo : World, wo = wr := ⟨_, rfl⟩
          go_loopw [13] (fun j wi => ∃ q : Nat, q ≤ n9 ∧ j = .int .i64 q ∧ Hid (Below w4.heap.size w4 wi)) (fun j _ => n9 - (intOf j).toNat)
          case atStart => exact ⟨0, by omega, rfl, Lib.hid (Below.refl _ _)⟩
          case round =>
            obtain ⟨q, hq, rfl, HW⟩ := hrel
            by_cases hqn : q < n9
            · have hql : q < gs4.length := by have := HN9.out; omega
              have hno : hasA l4 gs4[q] = false := gone_no H4.out.asc GN4.out (List.getElem_mem hql)
              have HNO := Lib.hid hno
              clear hno
              have AR := Lib.hid (H4.out.below HW.out (Nat.le_refl _))
              obtain ⟨b9, o9, rfl, hb9, g9⟩ := cell_of_ints (H9.out.on HW.out) hql
              go_wp2_with fail
              refine (getS_no gs4[q] _ HNO.out AR.out).mono ?_
              rintro e w6 ⟨rfl, b6⟩
              have AR6 := Lib.hid (AR.out.below b6 (Nat.le_refl _))
              have W6 := Lib.hid (HW.out.trans (b6.mono HW.out.size))
              clear b6
              have g9 := cell_of_ints_at (H9.out.on W6.out) hql
              go_wp2_with fail
              refine (setS_no gs4[q] _ _ HNO.out AR6.out).mono ?_
              rintro e w7 ⟨rfl, b7⟩
              have AR7 := Lib.hid (AR6.out.below b7 (Nat.le_refl _))
              have W7 := Lib.hid (W6.out.trans (b7.mono W6.out.size))
              clear b7 g9
              have g9 := cell_of_ints_at (H9.out.on W7.out) hql
              go_wp2_with fail
              refine (dropS_no gs4[q] _ HNO.out AR7.out).mono ?_
              rintro e w8 ⟨rfl, b8⟩
              have W8 := Lib.hid (W7.out.trans (b8.mono W7.out.size))
              clear b8
              go_wp2_with fail
              go_roundw
              case rel => exact ⟨q + 1, by omega, by go_num, W8⟩
              case measure => simp [intOf]; omega
            · go_wp2_with fail
              go_roundw
              case rel => exact ⟨k + 1, n4, v4, l4, gs4, by omega, by go_num, rfl, by omega, by omega, Lib.hid (H4.out.below HW.out (Nat.le_refl _)), Lib.hid (G4.out.below HW.out (Nat.le_refl _)), GN4, Lib.hid (W4.out.trans (HW.out.mono W4.out.size))⟩
              case measure => simp [intOf]; omega
      · have hlr : l.length = R := by have := HA.out.len; omega
        clear hlr0
        go_wp2_with fail
        refine (putS_full ⟨#[120]⟩ _ hlr HA.out).mono ?_
        rintro e w3 ⟨rfl, b3⟩
        have H3 := Lib.hid (HA.out.below b3 (Nat.le_refl _))
        have W3 := Lib.hid (HW.out.trans (b3.mono HW.out.size))
        have G3 := Lib.hid (HG.out.below b3 (Nat.le_refl _))
        have GN3 := HGN
        obtain ⟨n3, hn3⟩ : ∃ n3, n3 = n := ⟨_, rfl⟩
        obtain ⟨l3, hl3⟩ : ∃ l3, l3 = l := ⟨_, rfl⟩
        obtain ⟨v3, hv3⟩ : ∃ v3, v3 = v := ⟨_, rfl⟩
        rw [← hn3, ← hl3, ← hv3] at H3
        rw [← hn3, ← hl3] at GN3
        have hn3k : n3 ≤ (k : Int) + 1 := by omega
        clear b3 hl3 hv3
        subst hn3
        have gd := cell_of_ints_at (HH.out.on W3.out) hkl
        go_wp2_with fail
        cases hd : hasA l3 ds[k]
        · have HD := Lib.hid hd
          clear hd
          refine (dropS_no ds[k] _ HD.out H3.out).mono ?_
          rintro e w4 ⟨rfl, b4⟩
          have H4 := Lib.hid (H3.out.below b4 (Nat.le_refl _))
          have W4 := Lib.hid (W3.out.trans (b4.mono W3.out.size))
          have G4 := Lib.hid (G3.out.below b4 (Nat.le_refl _))
          have GN4 := GN3
          obtain ⟨l4, hl4⟩ : ∃ l4, l4 = l3 := ⟨_, rfl⟩
          obtain ⟨gs4, hgs4⟩ : ∃ gs4, gs4 = gs := ⟨_, rfl⟩
          have hg4 : gs4.length ≤ k + 1 := by subst hgs4; omega
          rw [← hl4] at H4
          rw [← hgs4] at G4
          rw [← hl4, ← hgs4] at GN4
          obtain ⟨n4, hn4⟩ : ∃ n4, n4 = n3 := ⟨_, rfl⟩
          obtain ⟨v4, hv4⟩ : ∃ v4, v4 = v3 := ⟨_, rfl⟩
          rw [← hn4, ← hv4] at H4
          rw [← hn4] at GN4
          rw [← hn4] at hn3k
          clear b4 hl4 hgs4 hv4 W3 G3 GN3 H3
          subst hn4
          have Y := Lib.hid H4
          have hYB : w.heap.size ≤ w4.heap.size := W4.out.size
          obtain ⟨A9, n9, c9, rfl, hn9, hc9, hm9, hz9, h9⟩ := G4.out.slice
          have HN9 := Lib.hid hn9
          have H9 := Lib.hid h9
          have hs9 : n9 ≤ 1000 := by omega
          clear hn9 hc9 hm9 hz9 h9 Y
          go_wp2_with fail
          obtain ⟨wo, rfl⟩ : ∃ wo : World, wo = wr := ⟨_, rfl⟩
          go_loopw [13] (fun j wi => ∃ q : Nat, q ≤ n9 ∧ j = .int .i64 q ∧ Hid (Below w4.heap.size w4 wi)) (fun j _ => n9 - (intOf j).toNat)
          case atStart => exact ⟨0, by omega, rfl, Lib.hid (Below.refl _ _)⟩
          case round =>
            obtain ⟨q, hq, rfl, HW⟩ := hrel
            by_cases hqn : q < n9
            · have hql : q < gs4.length := by have := HN9.out; omega
              have hno : hasA l4 gs4[q] = false := gone_no H4.out.asc GN4.out (List.getElem_mem hql)
              have HNO := Lib.hid hno
              clear hno
              have AR := Lib.hid (H4.out.below HW.out (Nat.le_refl _))
              obtain ⟨b9, o9, rfl, hb9, g9⟩ := cell_of_ints (H9.out.on HW.out) hql
              go_wp2_with fail
              refine (getS_no gs4[q] _ HNO.out AR.out).mono ?_
              rintro e w6 ⟨rfl, b6⟩
              have AR6 := Lib.hid (AR.out.below b6 (Nat.le_refl _))
              have W6 := Lib.hid (HW.out.trans (b6.mono HW.out.size))
              clear b6
              have g9 := cell_of_ints_at (H9.out.on W6.out) hql
              go_wp2_with fail
              refine (setS_no gs4[q] _ _ HNO.out AR6.out).mono ?_
              rintro e w7 ⟨rfl, b7⟩
              have AR7 := Lib.hid (AR6.out.below b7 (Nat.le_refl _))
              have W7 := Lib.hid (W6.out.trans (b7.mono W6.out.size))
              clear b7 g9
              have g9 := cell_of_ints_at (H9.out.on W7.out) hql
              go_wp2_with fail
              refine (dropS_no gs4[q] _ HNO.out AR7.out).mono ?_
              rintro e w8 ⟨rfl, b8⟩
              have W8 := Lib.hid (W7.out.trans (b8.mono W7.out.size))
              clear b8
              go_wp2_with fail
              go_roundw
              case rel => exact ⟨q + 1, by omega, by go_num, W8⟩
              case measure => simp [intOf]; omega
            · go_wp2_with fail
              go_roundw
              case rel => exact ⟨k + 1, n4, v4, l4, gs4, by omega, by go_num, rfl, by omega, by omega, Lib.hid (H4.out.below HW.out (Nat.le_refl _)), Lib.hid (G4.out.below HW.out (Nat.le_refl _)), GN4, Lib.hid (W4.out.trans (HW.out.mono W4.out.size))⟩
              case measure => simp [intOf]; omega
        · have HD := Lib.hid hd
          clear hd
          refine (dropS_yes ds[k] _ HD.out H3.out).mono ?_
          rintro e w5 ⟨rfl, v5, a5, b5⟩
          have H5 := Lib.hid a5
          have W5 := Lib.hid (W3.out.trans (H3.out.step b5))
          have G5 := Lib.hid (own_armS G3.out H3.out b5)
          have GN5 : Hid (GoneA n3 (l3.eraseIdx (posA l3 ds[k])) (gs ++ [ds[k]])) := gone_drop H3.out.asc GN3.out HD.out
          clear a5 b5
          have gd := cell_of_ints_at (HH.out.on W5.out) hkl
          have hzw : w.heap.size ≤ w5.heap.size := W5.out.size
          go_wp2_with (at_builtin; refine kI.wp_app rfl _ _ rfl (v := u9) (l := gs) (m := [ds[k]]) (B := w.heap.size) rfl (G5.out.alloc _) rfl rfl (fun e => by cases e) (Kind.Holds.lit (heap_alloc_new _ _) rfl) (by simp; omega) (by simp; omega) ?_; intro g4 w4 hown hgrow hat; have G4 := Lib.hid hown; have BX := Lib.hid (But.of_grown (S := fun i => u9.ownBlock = some i) hgrow (fun g hg _ => hg)); have H4 := Lib.hid (keep_grown (H5.out.below ((Below.refl _ _).alloc (Nat.le_refl _) _) (Nat.le_refl _)) (G5.out.alloc _) hgrow); have W4 := Lib.hid ((W5.out.alloc hzw _).grown hgrow (by simp; omega) (fun i hi => (G5.out.lt hi).1)); clear hown hgrow hat)
          obtain ⟨l4, hl4⟩ : ∃ l4, l4 = l3.eraseIdx (posA l3 ds[k]) := ⟨_, rfl⟩
          obtain ⟨gs4, hgs4⟩ : ∃ gs4, gs4 = gs ++ [ds[k]] := ⟨_, rfl⟩
          have hg4 : gs4.length ≤ k + 1 := by subst hgs4; simp; omega
          rw [← hl4] at H4
          rw [← hgs4] at G4
          have GN4 := GN5
          rw [← hl4, ← hgs4] at GN4
          obtain ⟨n4, hn4⟩ : ∃ n4, n4 = n3 := ⟨_, rfl⟩
          obtain ⟨v4, hv4⟩ : ∃ v4, v4 = v5 := ⟨_, rfl⟩
          rw [← hn4, ← hv4] at H4
          rw [← hn4] at GN4
          rw [← hn4] at hn3k
          clear hl4 hgs4 hv4 H5 GN5 G5 W5 W3 G3 GN3 BX
          subst hn4
          have Y := Lib.hid H4
          have hYB : w.heap.size ≤ w4.heap.size := W4.out.size
          obtain ⟨A9, n9, c9, rfl, hn9, hc9, hm9, hz9, h9⟩ := G4.out.slice
          have HN9 := Lib.hid hn9
          have H9 := Lib.hid h9
          have hs9 : n9 ≤ 1000 := by omega
          clear hn9 hc9 hm9 hz9 h9 Y
          go_wp2_with fail
          obtain ⟨wo, rfl⟩ : ∃ wo : World, wo = wr := ⟨_, rfl⟩
          go_loopw [13] (fun j wi => ∃ q : Nat, q ≤ n9 ∧ j = .int .i64 q ∧ Hid (Below w4.heap.size w4 wi)) (fun j _ => n9 - (intOf j).toNat)
          case atStart => exact ⟨0, by omega, rfl, Lib.hid (Below.refl _ _)⟩
          case round =>
            obtain ⟨q, hq, rfl, HW⟩ := hrel
            by_cases hqn : q < n9
            · have hql : q < gs4.length := by have := HN9.out; omega
              have hno : hasA l4 gs4[q] = false := gone_no H4.out.asc GN4.out (List.getElem_mem hql)
              have HNO := Lib.hid hno
              clear hno
              have AR := Lib.hid (H4.out.below HW.out (Nat.le_refl _))
              obtain ⟨b9, o9, rfl, hb9, g9⟩ := cell_of_ints (H9.out.on HW.out) hql
              go_wp2_with fail
              refine (getS_no gs4[q] _ HNO.out AR.out).mono ?_
              rintro e w6 ⟨rfl, b6⟩
              have AR6 := Lib.hid (AR.out.below b6 (Nat.le_refl _))
              have W6 := Lib.hid (HW.out.trans (b6.mono HW.out.size))
              clear b6
              have g9 := cell_of_ints_at (H9.out.on W6.out) hql
              go_wp2_with fail
              refine (setS_no gs4[q] _ _ HNO.out AR6.out).mono ?_
              rintro e w7 ⟨rfl, b7⟩
              have AR7 := Lib.hid (AR6.out.below b7 (Nat.le_refl _))
              have W7 := Lib.hid (W6.out.trans (b7.mono W6.out.size))
              clear b7 g9
              have g9 := cell_of_ints_at (H9.out.on W7.out) hql
              go_wp2_with fail
              refine (dropS_no gs4[q] _ HNO.out AR7.out).mono ?_
              rintro e w8 ⟨rfl, b8⟩
              have W8 := Lib.hid (W7.out.trans (b8.mono W7.out.size))
              clear b8
              go_wp2_with fail
              go_roundw
              case rel => exact ⟨q + 1, by omega, by go_num, W8⟩
              case measure => simp [intOf]; omega
            · go_wp2_with fail
              go_roundw
              case rel => exact ⟨k + 1, n4, v4, l4, gs4, by omega, by go_num, rfl, by omega, by omega, Lib.hid (H4.out.below HW.out (Nat.le_refl _)), Lib.hid (G4.out.below HW.out (Nat.le_refl _)), GN4, Lib.hid (W4.out.trans (HW.out.mono W4.out.size))⟩
              case measure => simp [intOf]; omega
    · obtain rfl : k = m := by omega
      go_wp2_with fail
      refine (liveS_any _ rfl HA.out).mono ?_
      rintro e w' ⟨rfl, rfl⟩
      have hlen : l.length ≤ R := HA.out.len
      go_wp2_with fail
      go_ret
      exact ⟨rfl, HW.out⟩
end Go.Proofs.Ytfenfenhihmmiaa.P4
