/- What placketref11.ahead and attr answer. No condition but those stated. -/
import Derived.Test.YtgpbgimobcdogaaM18
set_option linter.unusedVariables false
set_option linter.unusedSimpArgs false
set_option linter.unusedVariables false
set_option linter.unusedSimpArgs false
namespace Go.Proofs.Ytgpbgimobcdogaa.P13
open Go.RowKit Kd P4 P5 P11 P12

def AhRel (w : World) (l : List In) (f k : Nat) (s7 s8 s9 : Value) (wr : World) : Prop := ∃ (j : Nat) (dp : Int) (A' : Option Addr) (n' c' : Nat), f + j ≤ k ∧ s9 = .int .i64 ((f + j : Nat) : Int) ∧ s8 = .int .i64 dp ∧ s7 = .slice A' n' c' ∧ Hid (dp = (aheadK l f j).2) ∧ Hid (kX.Own wr w.heap.size (.slice A' n' c') (aheadK l f j).1) ∧ Hid (Below w.heap.size w wr)
/-- instructions of one's own -/
def Iv (w : World) (l : List In) (e : Ending) (w' : World) : Prop := ∃ (A : Option Addr) (n c : Nat), e = .returned (.slice A n c) ∧ kX.Own w' w.heap.size (.slice A n c) l ∧ Below w.heap.size w w'
set_option maxRecDepth 100000 in
set_option maxHeartbeats 4000000 in
theorem ahead_any (l : List In) (A : Option Addr) (n c k : Nat) (w : World) (hh : kX.Holds w w.heap.size A l) (hn : l.length = n) (hk : k ≤ n) (hl : n ≤ 1000) :
    Calls Try.prog 35 #[.slice A n c, .int .i64 k] w (Iv w (aheadP l k)) := by
  have KH := Lib.hid hh
  have KL := Lib.hid hn
  obtain ⟨f, hf, hfk⟩ := beginP_fst l k
  have HF := Lib.hid hf
  have CB : Hid (Calls Try.prog 21 #[.slice A n c, .int .i64 k] w fun e w' => e = .returned (.tuple #[.int .i64 f, .int .i64 ((beginP l k).2 : Nat)]) ∧ Below w.heap.size w w') := Lib.hid (by
    have := begin_any l A n c k w hh hn hk hl
    rw [hf] at this
    exact this)
  clear hh hn hf
  go_enter Try.func35, Try.ntmps35
  go_wp2_with fail
  refine CB.out.mono ?_
  rintro e w1 ⟨rfl, b1⟩
  have B1 := Lib.hid b1
  have ST : Hid (AhRel w l f k (.slice none 0 0) (.int .i64 0) (.int .i64 f) w1) := Lib.hid ⟨0, 0, none, 0, 0, by omega, rfl, rfl, rfl, Lib.hid (by rw [aheadK_zero]), Lib.hid (by rw [aheadK_zero]; exact Kind.Own.nil kX w1 _), B1⟩
  clear b1 CB
  simp only
  go_wp2_with fail
  go_loopw [7, 8, 9] (fun s7 s8 s9 wr => AhRel w l f k s7 s8 s9 wr) (fun _ _ s9 _ => k - (intOf s9).toNat)
  case atStart => exact ST.out
  case round =>
    obtain ⟨j, dp, A', n', c', hj, rfl, rfl, rfl, HD, HO, HB⟩ := hrel
    clear ST
    obtain ⟨i, hi⟩ : ∃ i, f + j = i := ⟨_, rfl⟩
    have HI := Lib.hid hi
    rw [hi] at hj
    have hal := aheadK_len l f j
    have hdp : -(j : Int) ≤ dp ∧ dp ≤ j := by have := HD.out; omega
    have hfi : f ≤ i := by omega
    have hji : j ≤ i := by omega
    have hdp1 : -1000 ≤ dp := by omega
    have hdp2 : dp ≤ 1000 := by omega
    have hal1 : (aheadK l f j).1.length ≤ 1000 := by omega
    have HAL := Lib.hid hal1
    clear hal hdp hal1
    rw [hi]
    clear hi
    by_cases hik : i < k
    · have hil : i < l.length := by have := KL.out; omega
      obtain ⟨b, o, rfl, hb, g0', g1', g2'⟩ := cell_of_ins KH.out hil
      have G : Hid (∀ wz, Below w.heap.size w wz → wz.cell? ⟨b, o + i * 3, none⟩ = some (.int .i64 l[i].op) ∧ wz.cell? ⟨b, o + i * 3 + 1, none⟩ = some (.string l[i].a) ∧ wz.cell? ⟨b, o + i * 3 + 2, none⟩ = some (.string l[i].b)) := Lib.hid (fun wz h => ⟨(h.cell hb).trans g0', (h.cell hb).trans g1', (h.cell hb).trans g2'⟩)
      obtain ⟨g0, g1, g2⟩ := G.out wr HB.out
      have SN : Hid (aheadK l f (j + 1) = stepA (aheadK l f j) l[i]) := Lib.hid (by
        have := aheadK_succ (l := l) (f := f) (j := j) (by have := HI.out; omega)
        rw [this]
        congr 2 <;> exact HI.out)
      have HJ : Hid (f + (j + 1) = i + 1) := Lib.hid (by have := HI.out; omega)
      clear g0' g1' g2'
      generalize l[i] = d at g0 g1 g2 G SN
      have hB0 := HB.out.size
      by_cases hz : dp = 0
      · subst hz
        by_cases h1 : d.op = 1
        · obtain ⟨op, a, bb⟩ := d
          simp only at g0 g1 g2 G
          subst h1
          have S1 : Hid ((aheadK l f (j + 1)).1 = (aheadK l f j).1 ++ [⟨1, a, bb⟩]) := Lib.hid (by rw [SN.out, stepA]; simp only; rw [if_pos ⟨by rw [← HD.out], (show ¬ ((1 : Int) = 2) by decide)⟩])
          have S2 : Hid ((aheadK l f (j + 1)).2 = 0 + 1) := Lib.hid (by rw [SN.out, stepA]; simp only [deltaO]; rw [← HD.out]; simp)
          have LD : Hid (kX.Holds (wr.alloc (.cells #[.int .i64 1, .string a, .string bb] 40)) (wr.heap.size + 1) (some ⟨wr.heap.size, 0, none⟩) [⟨1, a, bb⟩]) := Lib.hid (Kind.Holds.lit (heap_alloc_new wr _) rfl)
          go_upto_region 9 with (at_builtin; refine kX.wp_app rfl _ _ rfl (v := .slice A' n' c') (l := (aheadK l f j).1) (m := [⟨1, a, bb⟩]) (B := w.heap.size) rfl (HO.out.alloc _) rfl rfl (fun e => by cases e) LD.out (by have := HAL.out; omega) (by simp; omega) ?_; intro v' w4 hown' hgrow hat; obtain ⟨A4, n4, c4, rfl, e1, e2, e3, e4, e5⟩ := hown'.slice; have B4 : Hid (Below w.heap.size w w4) := Lib.hid ((HB.out.alloc hB0 _).grown hgrow (by simp; omega) (fun k hk => (HO.out.lt hk).1)); have O4 := Lib.hid hown'; clear hown' hgrow hat e1 e2 e3 e4 e5)
          clear LD g0 g1 g2
          obtain ⟨g0, g1, g2⟩ := G.out w4 B4.out
          go_wp2_with fail
          go_roundw
          case rel => exact ⟨j + 1, 0 + 1, A4, n4, c4, by have := HJ.out; omega, by rw [HJ.out]; go_num, by first | rfl | go_num, rfl, Lib.hid S2.out.symm, Lib.hid (by rw [S1.out]; exact O4.out), B4⟩
          case measure => simp [intOf]; omega
        · by_cases h2 : d.op = 2
          · obtain ⟨op, a, bb⟩ := d
            simp only at g0 g1 g2 G
            subst h2
            have S1 : Hid ((aheadK l f (j + 1)).1 = (aheadK l f j).1) := Lib.hid (by rw [SN.out, stepA]; simp only; rw [if_neg (by rintro ⟨e1, e2⟩; exact absurd rfl e2)])
            have S2 : Hid ((aheadK l f (j + 1)).2 = 0 + -1) := Lib.hid (by rw [SN.out, stepA]; simp only [deltaO]; rw [← HD.out]; simp)
            go_wp2_with fail
            go_roundw
            case rel => exact ⟨j + 1, 0 + -1, A', n', c', by have := HJ.out; omega, by rw [HJ.out]; go_num, by first | rfl | go_num, rfl, Lib.hid S2.out.symm, Lib.hid (by rw [S1.out]; exact HO.out), HB⟩
            case measure => simp [intOf]; omega
          · obtain ⟨op, a, bb⟩ := d
            simp only at g0 g1 g2 G h1 h2
            have q1 := int_ne h1
            have q2 := int_ne h2
            have q3 : (op != 2) = true := by simp [h2]
            have S1 : Hid ((aheadK l f (j + 1)).1 = (aheadK l f j).1 ++ [⟨op, a, bb⟩]) := Lib.hid (by rw [SN.out, stepA]; simp only; rw [if_pos ⟨by rw [← HD.out], h2⟩])
            have S2 : Hid ((aheadK l f (j + 1)).2 = 0 + 0) := Lib.hid (by rw [SN.out, stepA]; simp only [deltaO]; rw [← HD.out]; rw [if_neg h1, if_neg h2])
            have LD : Hid (kX.Holds (wr.alloc (.cells #[.int .i64 op, .string a, .string bb] 40)) (wr.heap.size + 1) (some ⟨wr.heap.size, 0, none⟩) [⟨op, a, bb⟩]) := Lib.hid (Kind.Holds.lit (heap_alloc_new wr _) rfl)
            go_upto_region 9 with (at_builtin; refine kX.wp_app rfl _ _ rfl (v := .slice A' n' c') (l := (aheadK l f j).1) (m := [⟨op, a, bb⟩]) (B := w.heap.size) rfl (HO.out.alloc _) rfl rfl (fun e => by cases e) LD.out (by have := HAL.out; omega) (by simp; omega) ?_; intro v' w4 hown' hgrow hat; obtain ⟨A4, n4, c4, rfl, e1, e2, e3, e4, e5⟩ := hown'.slice; have B4 : Hid (Below w.heap.size w w4) := Lib.hid ((HB.out.alloc hB0 _).grown hgrow (by simp; omega) (fun k hk => (HO.out.lt hk).1)); have O4 := Lib.hid hown'; clear hown' hgrow hat e1 e2 e3 e4 e5)
            clear LD g0 g1 g2
            obtain ⟨g0, g1, g2⟩ := G.out w4 B4.out
            go_wp2_with fail
            go_roundw
            case rel => exact ⟨j + 1, 0 + 0, A4, n4, c4, by have := HJ.out; omega, by rw [HJ.out]; go_num, by first | rfl | go_num, rfl, Lib.hid S2.out.symm, Lib.hid (by rw [S1.out]; exact O4.out), B4⟩
            case measure => simp [intOf]; omega
      · have qz := int_ne hz
        by_cases h1 : d.op = 1
        · obtain ⟨op, a, bb⟩ := d
          simp only at g0 g1 g2 G
          subst h1
          have S1 : Hid ((aheadK l f (j + 1)).1 = (aheadK l f j).1) := Lib.hid (by rw [SN.out, stepA]; simp only; rw [if_neg (by rintro ⟨e1, e2⟩; exact hz (by rw [HD.out]; exact e1))])
          have S2 : Hid ((aheadK l f (j + 1)).2 = dp + 1) := Lib.hid (by rw [SN.out, stepA]; simp only [deltaO]; rw [← HD.out]; simp)
          go_wp2_with fail
          go_roundw
          case rel => exact ⟨j + 1, dp + 1, A', n', c', by have := HJ.out; omega, by rw [HJ.out]; go_num, by first | rfl | go_num, rfl, Lib.hid S2.out.symm, Lib.hid (by rw [S1.out]; exact HO.out), HB⟩
          case measure => simp [intOf]; omega
        · by_cases h2 : d.op = 2
          · obtain ⟨op, a, bb⟩ := d
            simp only at g0 g1 g2 G
            subst h2
            have S1 : Hid ((aheadK l f (j + 1)).1 = (aheadK l f j).1) := Lib.hid (by rw [SN.out, stepA]; simp only; rw [if_neg (by rintro ⟨e1, e2⟩; exact absurd rfl e2)])
            have S2 : Hid ((aheadK l f (j + 1)).2 = dp + -1) := Lib.hid (by rw [SN.out, stepA]; simp only [deltaO]; rw [← HD.out]; simp)
            go_wp2_with fail
            go_roundw
            case rel => exact ⟨j + 1, dp + -1, A', n', c', by have := HJ.out; omega, by rw [HJ.out]; go_num, by first | rfl | go_num, rfl, Lib.hid S2.out.symm, Lib.hid (by rw [S1.out]; exact HO.out), HB⟩
            case measure => simp [intOf]; omega
          · obtain ⟨op, a, bb⟩ := d
            simp only at g0 g1 g2 G h1 h2
            have q1 := int_ne h1
            have q2 := int_ne h2
            have q3 : (op != 2) = true := by simp [h2]
            have S1 : Hid ((aheadK l f (j + 1)).1 = (aheadK l f j).1) := Lib.hid (by rw [SN.out, stepA]; simp only; rw [if_neg (by rintro ⟨e1, e2⟩; exact hz (by rw [HD.out]; exact e1))])
            have S2 : Hid ((aheadK l f (j + 1)).2 = dp + 0) := Lib.hid (by rw [SN.out, stepA]; simp only [deltaO]; rw [← HD.out]; rw [if_neg h1, if_neg h2])
            go_wp2_with fail
            go_roundw
            case rel => exact ⟨j + 1, dp + 0, A', n', c', by have := HJ.out; omega, by rw [HJ.out]; go_num, by first | rfl | go_num, rfl, Lib.hid S2.out.symm, Lib.hid (by rw [S1.out]; exact HO.out), HB⟩
            case measure => simp [intOf]; omega
    · have HJK : Hid (aheadP l k = (aheadK l f j).1) := Lib.hid (by rw [← aheadK_all HF.out]; congr 2; have := HI.out; omega)
      go_wp2_with fail
      go_ret
      exact ⟨A', n', c', rfl, by rw [HJK.out]; exact HO.out, HB.out⟩
/-! ### attr -/
theorem attrD_end {l : List In} {a : List UInt8} {k n : Nat} (h : k < l.length) (ht : tellsO l[k].op = false) : attrD l a (k + 1) n = if 8 ≤ n then 9 else if makesO l[k].op then 0 else 9 := by
  rw [attrD, List.getElem?_eq_getElem h]
  simp only [ht]
  rfl
theorem attrD_same {l : List In} {a : List UInt8} {k n : Nat} (h : k < l.length) (ht : tellsO l[k].op = true) (ha : l[k].a.toList = a) : attrD l a (k + 1) n = 9 := by
  rw [attrD, List.getElem?_eq_getElem h]
  simp only [ht, ha, if_true]
theorem attrD_next {l : List In} {a : List UInt8} {k n : Nat} (h : k < l.length) (ht : tellsO l[k].op = true) (ha : ¬ l[k].a.toList = a) : attrD l a (k + 1) n = attrD l a k (n + 1) := by
  rw [attrD, List.getElem?_eq_getElem h]
  simp only [ht, if_true]
  rw [if_neg ha]
def AtRel (w : World) (l : List In) (a : List UInt8) (k : Nat) (s5 s6 : Value) (wr : World) : Prop := ∃ (j m : Nat), j ≤ k ∧ m ≤ k ∧ s6 = .int .i64 ((j : Int) - 1) ∧ s5 = .int .i64 m ∧ Hid (m + j = k) ∧ Hid (attrD l a k 0 = attrD l a j m) ∧ Hid (Below w.heap.size w wr)
set_option maxRecDepth 100000 in
set_option maxHeartbeats 4000000 in
theorem attr_any (l : List In) (A : Option Addr) (n c k : Nat) (w : World) (hh : kX.Holds w w.heap.size A l) (hn : l.length = n) (hk : k < l.length) (hl : n ≤ 1000) :
    Calls Try.prog 34 #[.slice A n c, .int .i64 k] w fun e w' => e = .returned (.int .i64 (attrD l l[k].a.toList k 0 : Nat)) ∧ Below w.heap.size w w' := by
  have KH := Lib.hid hh
  have KL := Lib.hid hn
  have hkn : k < n := by omega
  obtain ⟨b, o, rfl, hb, h0, h1, h2⟩ := cell_of_ins hh hk
  have G1 : Hid (∀ wz, Below w.heap.size w wz → wz.cell? ⟨b, o + k * 3 + 1, none⟩ = some (.string l[k].a)) := Lib.hid (fun wz h => (h.cell hb).trans h1)
  generalize l[k].a = xa at G1
  have ST : Hid (AtRel w l xa.toList k (.int .i64 0) (.int .i64 ((k : Int) - 1)) w) := Lib.hid ⟨k, 0, Nat.le_refl _, by omega, rfl, rfl, Lib.hid (by omega), Lib.hid rfl, Lib.hid (Below.refl _ _)⟩
  clear hh hn h0 h1 h2 hk
  go_enter Try.func34, Try.ntmps34
  go_wp2_with fail
  go_loopw [5, 6] (fun s5 s6 wr => AtRel w l xa.toList k s5 s6 wr) (fun _ s6 _ => (intOf s6 + 1).toNat)
  case atStart => exact ST.out
  case round =>
    obtain ⟨j, m, hj, hm, rfl, rfl, HM, HA, HB⟩ := hrel
    clear ST
    by_cases hj0 : j = 0
    · subst hj0
      have HR : Hid (attrD l xa.toList k 0 = 9) := Lib.hid (by rw [HA.out, attrD])
      go_wp2_with fail
      go_ret
      exact ⟨by rw [HR.out]; rfl, HB.out⟩
    · obtain ⟨i, rfl⟩ : ∃ i, j = i + 1 := ⟨j - 1, by omega⟩
      have hji : ((i + 1 : Nat) : Int) - 1 = (i : Int) := by omega
      rw [hji]
      clear hji hj0
      have hil : i < l.length := by have := KL.out; omega
      obtain ⟨b', o', hbo, _, g0, g1, g2⟩ := cell_of_ins (KH.out.on HB.out) hil
      injection hbo with hbo
      injection hbo with e1 e2 _
      subst e1; subst e2
      have gx := G1.out wr HB.out
      have L1 : Hid (tellsO l[i].op = false → attrD l xa.toList k 0 = if 8 ≤ m then 9 else if makesO l[i].op then 0 else 9) := Lib.hid (fun ht => by rw [HA.out]; exact attrD_end hil ht)
      have L2 : Hid (tellsO l[i].op = true → l[i].a.toList = xa.toList → attrD l xa.toList k 0 = 9) := Lib.hid (fun ht ha => by rw [HA.out]; exact attrD_same hil ht ha)
      have L3 : Hid (tellsO l[i].op = true → ¬ l[i].a.toList = xa.toList → attrD l xa.toList k 0 = attrD l xa.toList i (m + 1)) := Lib.hid (fun ht ha => by rw [HA.out]; exact attrD_next hil ht ha)
      generalize l[i] = d at g0 g1 g2 L1 L2 L3
      obtain ⟨op, a, bb⟩ := d
      simp only at g0 g1 g2 L1 L2 L3
      have hik : i < n := by omega
      obtain ⟨tb, htb⟩ : ∃ tb, tellsO op = tb := ⟨_, rfl⟩
      go_wp2_with fail
      refine (tellsO_any op wr).mono ?_
      rintro e w' ⟨rfl, rfl⟩
      rw [htb] at L1 L2 L3 ⊢
      cases tb with
      | true =>
        by_cases ha : a.toList = xa.toList
        · have HR := Lib.hid (L2.out rfl ha)
          have qa : (a.toList == xa.toList) = true := by simp [ha]
          clear L1 L2 L3
          go_upto_region 4 with fail
          go_quiet (fail)
          go_wp2_with fail
          go_ret
          exact ⟨by rw [HR.out]; rfl, Below_drewN HB.out _⟩
        · have HR := Lib.hid (L3.out rfl ha)
          have qa : (a.toList == xa.toList) = false := by simp [ha]
          clear L1 L2 L3
          go_upto_region 4 with fail
          go_quiet (fail)
          go_wp2_with fail
          go_roundw
          case rel => exact ⟨i, m + 1, by omega, by have := HM.out; omega, by go_num, by go_num, Lib.hid (by have := HM.out; omega), HR, Lib.hid (Below_drewN HB.out _)⟩
          case measure => simp [intOf] <;> omega
      | false =>
        have HR := Lib.hid (L1.out rfl)
        clear L1 L2 L3
        by_cases h8 : 8 ≤ m
        · have q8 : decide ((8 : Int) ≤ (m : Int)) = true := by simp; omega
          go_wp2_with fail
          go_ret
          exact ⟨by rw [HR.out, if_pos h8]; rfl, HB.out⟩
        · have q8 : decide ((8 : Int) ≤ (m : Int)) = false := by simp; omega
          by_cases h1 : op = 1
          · subst h1
            go_wp2_with fail
            go_ret
            exact ⟨by rw [HR.out, if_neg h8]; rfl, HB.out⟩
          · have q1 : (op != 1) = true := by simp [h1]
            by_cases h3 : op = 3
            · subst h3
              go_wp2_with fail
              go_ret
              exact ⟨by rw [HR.out, if_neg h8]; rfl, HB.out⟩
            · have q3 : (op != 3) = true := by simp [h3]
              go_wp2_with fail
              go_ret
              exact ⟨by rw [HR.out, if_neg h8, if_neg (by simp [makesO, h1, h3])]; rfl, HB.out⟩
end Go.Proofs.Ytgpbgimobcdogaa.P13
