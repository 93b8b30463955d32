/- What the program's Check answers: the contract CheckC. No condition but those stated. -/
import Derived.Test.YtfjnbjpenibpkaaM27
import Derived.Test.YtfjnbjpenibpkaaM40
set_option linter.unusedVariables false
set_option linter.unusedSimpArgs false
set_option linter.unusedVariables false
set_option linter.unusedSimpArgs false
namespace Go.Proofs.Ytfjnbjpenibpkaa.P13
open Go.RowKit Kd P4 P5 P11 P12 Mv

theorem check_bad {l : List In} {i c : Nat} (hn : l.length ≤ 120) (hi : i < l.length) (hf : firstW l i = 0) (hw : wrongP l i = c) (hc : ¬ c = 0) : checkP l = c := by
  have h2 : firstW l l.length = c := by rw [firstW_at hf (by rw [hw]; exact hc) hi, hw]
  rw [checkP, if_neg (by omega), if_neg (by rw [h2]; exact hc), h2]
theorem check_end {l : List In} {d : Nat} (hn : l.length ≤ 120) (hf : firstW l l.length = 0) (hp : (placesK l l.length).length = d + 1) : checkP l = if 0 < d then 8 else 0 := by
  have h1 := (pls_of (Nat.le_refl _) hf).len
  have e : (beginP l l.length).2 = d := by rw [beginP_snd]; omega
  rw [checkP, if_neg (by omega), if_pos hf, e]
theorem fr_new {w w1 : World} {m : Nat} (hm : w.heap.size ≤ m) (M : MapIs Try.prog 9 w1 m 0 0 (fun _ => none)) (hb : Below w.heap.size w w1) :
    FrIs ((w1.alloc (.cells #[.map (some m), .bool false] 50)).alloc (.cells #[.slice (some ⟨w1.heap.size, 0, none⟩) 1 1, .bool false, .slice none 0 0] 55)) w.heap.size (w1.heap.size + 1) 0 [[]] none := by
  have hs := hb.size
  have h1 : (w1.alloc (.cells #[.map (some m), .bool false] 50)).heap[w1.heap.size]? = some (.cells #[.map (some m), .bool false] 50 (0, 0)) := heap_alloc_new w1 _
  have h2 : (w1.alloc (.cells #[.map (some m), .bool false] 50)).heap.size = w1.heap.size + 1 := by simp
  refine ⟨w1.heap.size, 1, 0, [⟨m, false⟩], none, 0, 0, [], by omega, rfl, by omega, ?_, ?_, Kind.Own.nil _ _ _, rfl, by simp, fun i h hi => ?_, rfl, rfl, Nat.le_refl _⟩
  · rw [← h2]; exact heap_alloc_new _ _
  · exact Kind.own_mk rfl hs (heap_up h1) (Nat.le_refl _) (by unfold maxLen; omega) rfl rfl
  · obtain rfl : i = 0 := by simpa using h
    refine ⟨hm, rfl, 0, ?_⟩
    show MapIs _ _ _ m 0 0 (keysF [])
    rw [keysF_nil]
    exact (M.alloc _).alloc _
set_option maxRecDepth 100000 in
set_option maxHeartbeats 4000000 in
theorem check_c : CheckC := by
  intro l A n c w hh hn hnc hcm hl hsm
  have q3 := err_neq_nil
  have q5 := nil_neq_nil
  have KH := Lib.hid hh
  have KN := Lib.hid hn
  have HSM := Lib.hid hsm
  have hcm' : c ≤ 9223372036854775807 := by unfold maxLen at hcm; omega
  clear hh hn hcm hsm
  by_cases h120 : 120 < n
  · have HC : Hid (checkP l = 13) := Lib.hid (by rw [checkP, if_pos (by rw [KN.out]; exact h120)])
    have i1 : (120 : Int) < (n : Int) := by omega
    rw [HC.out]
    go_enter Try.func12, Try.ntmps12
    go_wp2_with fail
    go_ret
    exact ⟨rfl, Below.refl _ _⟩
  have i1 : ¬ (120 : Int) < (n : Int) := by omega
  go_enter Try.func12, Try.ntmps12
  go_wp2_with fail
  refine (newPlace_any w).mono ?_
  rintro e w1 ⟨m, rfl, hm, M, b1⟩
  have F0 := Lib.hid (fr_new hm M b1)
  have B0 : Hid (Below w.heap.size w ((w1.alloc (.cells #[.map (some m), .bool false] 50)).alloc (.cells #[.slice (some ⟨w1.heap.size, 0, none⟩) 1 1, .bool false, .slice none 0 0] 55))) := Lib.hid ((b1.alloc b1.size _).alloc (by have := b1.size; simp; omega) _)
  clear hm M b1
  go_upto_region 4 with fail
  generalize (w1.alloc (.cells #[.map (some m), .bool false] 50)).alloc (.cells #[.slice (some ⟨w1.heap.size, 0, none⟩) 1 1, .bool false, .slice none 0 0] 55) = W at F0 B0 ⊢
  generalize w1.heap.size + 1 = p at F0 ⊢
  go_wp2_with fail
  go_loopw [16] (fun s wr => ∃ i : Nat, i ≤ n ∧ s = .int .i64 i ∧ Hid (FrIs wr w.heap.size p i (placesK l i) (namesK l i)) ∧ Hid (firstW l i = 0) ∧ Hid (Below w.heap.size w wr)) (fun s _ => n - (intOf s).toNat)
  case atStart => exact ⟨0, by omega, rfl, F0, Lib.hid rfl, B0⟩
  case round =>
    obtain ⟨i, hi, rfl, HF, HW, HB⟩ := hrel
    clear F0 B0
    by_cases hin : i < n
    · have hil : i < l.length := by have := KN.out; omega
      obtain ⟨b, o, rfl, hb, g0, g1, g2⟩ := cell_of_ins (KH.out.on HB.out) hil
      have HS := HSM.out _ (List.getElem_mem hil)
      have WP : Hid (wrongP l i = wrongV (placesK l i) (namesK l i) l[i]) := Lib.hid (wrong_places hil HW.out)
      have PS : Hid (placesK l (i + 1) = stepP (placesK l i) l[i]) := Lib.hid (placesK_step hil)
      have NS : Hid (namesK l (i + 1) = stepN (namesK l i) l[i]) := Lib.hid (namesK_step hil)
      have HIL := Lib.hid hil
      generalize l[i] = d at g0 g1 g2 HS WP PS NS
      obtain ⟨op, a, bb⟩ := d
      simp only at g0 g1 g2
      obtain ⟨cd, hcd⟩ : ∃ z, wrongV (placesK l i) (namesK l i) ⟨op, a, bb⟩ = z := ⟨_, rfl⟩
      have B1 : Hid (Below wr.heap.size wr (wr.alloc (.cells #[.int .i64 op, .string a, .string bb] 38))) := Lib.hid ((Below.refl _ _).alloc (Nat.le_refl _) _)
      have N1 : Hid (XB (wr.alloc (.cells #[.int .i64 op, .string a, .string bb] 38)) wr.heap.size ⟨op, a, bb⟩) := Lib.hid (XB.new wr ⟨op, a, bb⟩)
      have FB : Hid (∀ w9, Below wr.heap.size wr w9 → FrIs w9 w.heap.size p i (placesK l i) (namesK l i)) := Lib.hid (fun w9 h9 => by
        obtain ⟨_, _, _, _, _, _, _, _, F, ht⟩ := HF.out.fr
        exact (F.below h9).is rfl ht)
      rw [hcd] at WP
      have HCD := Lib.hid hcd
      clear hcd hil
      go_upto_region 7 with fail
      generalize wr.alloc (.cells #[.int .i64 op, .string a, .string bb] 38) = W1 at B1 N1 ⊢
      generalize wr.heap.size = x at N1 ⊢
      have c0 := N1.out.c0; have c1 := N1.out.c1; have c2 := N1.out.c2
      simp only at c0 c1 c2
      have CF := Lib.hid (fault_any (FB.out _ B1.out) (by omega) ⟨op, a, bb⟩ HS.1 HS.2)
      rw [HCD.out] at CF
      go_wp2_with fail
      refine CF.out.mono ?_
      rintro e w2 ⟨rfl, b2⟩
      have B2 := Lib.hid (B1.out.trans (b2.mono B1.out.size))
      have N2 := Lib.hid (N1.out.below b2 N1.out.lt)
      clear b2 CF c0 c1 c2 N1
      by_cases h0 : cd = 0
      · subst h0
        have he : errV ((0 : Nat) : Int) = .nilIface := rfl
        rw [he]
        have c0 := N2.out.c0; have c1 := N2.out.c1; have c2 := N2.out.c2
        simp only at c0 c1 c2
        have CT := Lib.hid (take_any (FB.out _ B2.out) (by omega) ⟨op, a, bb⟩ HS.1 HS.2 HCD.out)
        have BX : Hid (Below w.heap.size w w2) := Lib.hid (HB.out.trans (B2.out.mono HB.out.size))
        go_wp2_with fail
        refine CT.out.mono ?_
        rintro e w3 ⟨rfl, f3, b3⟩
        rw [← PS.out, ← NS.out] at f3
        have F3 := Lib.hid f3
        have B3 := Lib.hid (BX.out.trans b3)
        clear f3 b3 CT c0 c1 c2
        go_wp2_with fail
        go_roundw
        case rel => exact ⟨i + 1, by omega, by go_num, F3, Lib.hid (by rw [firstW, if_pos HW.out, WP.out]), B3⟩
        case measure => simp [intOf]; omega
      · have he : errV (cd : Int) = .iface 47 (.int .i64 cd) := by unfold errV; rw [if_neg (by omega)]
        have HC : Hid (checkP l = cd) := Lib.hid (check_bad (by have := KN.out; omega) HIL.out HW.out WP.out h0)
        rw [he]
        go_wp2_with fail
        go_ret
        exact ⟨by rw [HC.out, he]; rfl, HB.out.trans (B2.out.mono HB.out.size)⟩
    · obtain rfl : i = n := by omega
      obtain ⟨g, cc, d, _, _, _, _, _, F, _⟩ := HF.out.fr
      have HC : Hid (checkP l = if 0 < d then 8 else 0) := Lib.hid (by
        have h1 := HW.out
        have h2 := F.len
        rw [← KN.out] at h1 h2
        exact check_end (by have := KN.out; omega) h1 h2)
      have HD := Lib.hid (depth_any p d cc _ wr F.c0 (by have := F.d8; omega))
      clear F
      by_cases h0 : 0 < d
      · have i2 : (0 : Int) < (d : Int) := by omega
        rw [if_pos h0] at HC
        go_wp2_with fail
        refine HD.out.mono ?_
        rintro e w' ⟨rfl, rfl⟩
        go_wp2_with fail
        go_ret
        exact ⟨by rw [HC.out]; rfl, HB.out⟩
      · have i2 : ¬ (0 : Int) < (d : Int) := by omega
        rw [if_neg h0] at HC
        go_wp2_with fail
        refine HD.out.mono ?_
        rintro e w' ⟨rfl, rfl⟩
        go_wp2_with fail
        go_ret
        exact ⟨by rw [HC.out]; rfl, HB.out⟩
end Go.Proofs.Ytfjnbjpenibpkaa.P13
