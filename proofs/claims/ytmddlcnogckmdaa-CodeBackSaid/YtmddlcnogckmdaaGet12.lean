/- What the program's code.get and code.Get answer. No condition but those stated. -/
import Derived.Test.YtmddlcnogckmdaaCode12
import Derived.Test.YtmddlcnogckmdaaMay11
set_option linter.unusedVariables false
set_option linter.unusedSimpArgs false
namespace Go.Proofs.Ytmddlcnogckmdaa.P12
open Go.RowKit Kd P4 P5 P11

theorem holds_back {w w9 : World} {C B : Nat} {A : Option Addr} {l : List UInt8} (h : kB.Holds w9 C A l) (hb : Below B w w9) (hC : C ≤ B) : kB.Holds w C A l := h.keep fun b _ hlt => (hb.block b (by omega)).symm
/-- the instruction in front of bytes, what is left, and whether it stands there whole -/
def GotV (w : World) (C : Nat) (p : Option (In × List UInt8)) (e : Ending) (w' : World) : Prop :=
  ((p = none ∧ ∃ i : In, e = .returned (.tuple #[.agg #[.int .i64 i.op, .string i.a, .string i.b], .slice none 0 0, .bool false])) ∨
    ∃ (i : In) (r : List UInt8) (A : Option Addr) (n c : Nat), p = some (i, r) ∧ e = .returned (.tuple #[.agg #[.int .i64 i.op, .string i.a, .string i.b], .slice A n c, .bool true]) ∧ r.length = n ∧ n ≤ c ∧ c ≤ maxLen ∧ kB.Holds w C A r ∧ i.a.size ≤ 255 ∧ i.b.size ≤ 255) ∧ Below w.heap.size w w'
theorem cut_len {b t r : List UInt8} (h : cut1 b = some (t, r)) : r.length ≤ b.length := by
  have := congrArg List.length (cut_back h).1
  rw [List.length_append] at this
  omega
theorem empty_size : (⟨#[]⟩ : ByteArray).size = 0 := rfl
set_option maxRecDepth 100000 in
set_option maxHeartbeats 8000000 in
theorem get_any (x : UInt8) (r : List UInt8) (A : Option Addr) (n c C : Nat) (w : World) (hh : kB.Holds w C A (x :: r)) (hC : C ≤ w.heap.size) (hn : r.length + 1 = n) (hnc : n ≤ c) (hl : n ≤ 100000) (hcm : c ≤ maxLen) : Calls Try.prog 22 #[.slice A n c] w (GotV w C (candI x r)) := by
  have KL := Lib.hid hn
  obtain ⟨b, o, rfl, hb, g0⟩ := byte_cell hh (k := 0) (by simp)
  have HD : Hid (kB.Holds w C (some ⟨b, o + 1, none⟩) r) := Lib.hid (by
    have := hh.drop 1
    simpa [kB] using this)
  have g0 : w.cell? ⟨b, o + 0, none⟩ = some (.int .u8 (x.toNat : Int)) := g0
  have B0 : Hid (Below w.heap.size w (w.alloc (.cells #[.int .i64 0, .string ⟨#[]⟩, .string ⟨#[]⟩] 32))) := Lib.hid ((Below.refl _ _).alloc (Nat.le_refl _) _)
  have Z0 : Hid (XB (w.alloc (.cells #[.int .i64 0, .string ⟨#[]⟩, .string ⟨#[]⟩] 32)) w.heap.size zX) := Lib.hid (XB.new w zX)
  have hxi : IntKind.i64.wrap (x.toNat : Int) = (x.toNat : Int) := by
    have := x.toNat_lt
    simp [IntKind.wrap, IntKind.bits, IntKind.signed]
    omega
  have hcm' : c ≤ 9223372036854775807 := by unfold maxLen at hcm; omega
  have hbw : b < w.heap.size := by omega
  have h0 : 0 < n := by omega
  have HC := Lib.hid hC
  clear hh hn hcm hC
  go_enter Try.func22, Try.ntmps22
  go_upto_region 1 with fail
  have g0 := (B0.out.cell (p := ⟨b, o + 0, none⟩) hbw).trans g0
  simp only [Nat.add_zero] at g0
  generalize w.alloc (.cells #[.int .i64 0, .string ⟨#[]⟩, .string ⟨#[]⟩] 32) = W at B0 Z0 g0 ⊢
  have i0 : (0 : Int) < (n : Int) := by omega
  go_upto_region 2 with fail
  have X2 : Hid (XB (W.alloc (.cells #[.int .i64 (x.toNat : Int), .string ⟨#[]⟩, .string ⟨#[]⟩] 32)) W.heap.size ⟨x.toNat, ⟨#[]⟩, ⟨#[]⟩⟩) := Lib.hid (XB.new W ⟨x.toNat, ⟨#[]⟩, ⟨#[]⟩⟩)
  have BA : Hid (Below W.heap.size W (W.alloc (.cells #[.int .i64 (x.toNat : Int), .string ⟨#[]⟩, .string ⟨#[]⟩] 32))) := Lib.hid ((Below.refl _ _).alloc (Nat.le_refl _) _)
  generalize W.alloc (.cells #[.int .i64 (x.toNat : Int), .string ⟨#[]⟩, .string ⟨#[]⟩] 32) = W2 at X2 BA ⊢
  have Z2 := Lib.hid (Z0.out.below BA.out Z0.out.lt)
  have B2 := Lib.hid (B0.out.trans (BA.out.mono B0.out.size))
  have hg : w.heap.size < W.heap.size := Z0.out.lt
  generalize W.heap.size = g at X2 hg ⊢
  clear g0 Z0 B0 BA hxi
  have hgn : g ≠ w.heap.size := by omega
  have i1 : (1 : Int) ≤ (n : Int) := by omega
  have i2 : (n : Int) ≤ (c : Int) := by omega
  by_cases hcap : c = 1
  · subst hcap
    obtain rfl : n = 1 := by omega
    have hr : r = [] := List.eq_nil_of_length_eq_zero (by have := KL.out; omega)
    have HR : Hid (kB.Holds w C (some ⟨b, o, none⟩) r) := Lib.hid (by rw [hr]; exact Kind.Holds.nil _ _ _)
    have RN : Hid (r.length = 0) := Lib.hid (by rw [hr]; rfl)
    have hc1 : (0 : Nat) ≤ maxLen := by omega
    have hn1 : (0 : Nat) ≤ 0 := by omega
    have hn2 : (0 : Nat) ≤ 100000 := by omega
    clear hr HD
    have G1 : Hid (∀ w9, Below w.heap.size w w9 → Calls Try.prog 30 #[.slice (some ⟨b, o, none⟩) (0) (0)] w9 (CutV w9 C (cut1 r))) := Lib.hid (fun w9 h => getText_any r _ _ _ C w9 (HR.out.below h HC.out) (Nat.le_trans HC.out h.size) RN.out hn1 hn2 hc1)
    have c0 := X2.out.c0
    simp only at c0
    go_wp2_with fail
    refine (ptexts_any (x.toNat : Int) W2).mono ?_
    rintro e w' ⟨rfl, rfl⟩
    clear c0
    have C1 := G1.out W2 B2.out
    clear G1
    rcases textsN_cases (x.toNat : Int) with e | e | e
    · rw [e]
      have HN : Hid (candI x r = some (⟨x.toNat, ⟨#[]⟩, ⟨#[]⟩⟩, r)) := Lib.hid (by unfold candI; rw [if_pos e]; rfl)
      have c0 := X2.out.c0; have c1 := X2.out.c1; have c2 := X2.out.c2
      simp only at c0 c1 c2
      have z0 := Z2.out.c0; have z1 := Z2.out.c1; have z2 := Z2.out.c2
      simp only [zX] at z0 z1 z2
      have zf := Z2.out.fr
      have hzl : w.heap.size < W2.heap.size := Z2.out.lt
      go_wp2_with fail
      refine bodyPost_ret (v := .tuple #[.agg #[.int .i64 (x.toNat : Int), .string (⟨#[]⟩), .string (⟨#[]⟩)], .slice (some ⟨b, o, none⟩) (0) (0), .bool true]) (by simp [results, Try.results22, go_sem, z0, z1, z2, hzl]) rfl ⟨.inr ⟨_, r, _, _, _, HN.out, rfl, RN.out, hn1, hc1, HR.out, by show (⟨#[]⟩ : ByteArray).size ≤ 255; decide, by show (⟨#[]⟩ : ByteArray).size ≤ 255; decide⟩, x_end B2.out⟩
    · rw [e]
      cases hc : cut1 r with
      | none =>
        have HN : Hid (candI x r = none) := Lib.hid (by unfold candI; rw [if_neg (by omega), hc])
        rw [hc] at C1
        clear hc
        go_wp2_with fail
        refine C1.mono ?_
        rintro e5 w5 ⟨hv, b5⟩
        rcases hv with ⟨_, rfl⟩ | ⟨_, _, _, _, _, hv, _⟩
        rotate_left
        · cases hv
        have X5 := Lib.hid (X2.out.below b5 X2.out.lt)
        have Z5 := Lib.hid (Z2.out.below b5 Z2.out.lt)
        have B5 := Lib.hid (B2.out.trans (b5.mono B2.out.size))
        clear b5 C1
        have c1 := X5.out.c1; have c2 := X5.out.c2
        have xf := X5.out.fr
        simp only at c1 c2
        go_upto_region 7 with fail
        have X6 : Hid (XB (w5.setCell ⟨g, 1, none⟩ (.string (⟨#[]⟩))) g ⟨x.toNat, ⟨#[]⟩, ⟨#[]⟩⟩) := Lib.hid (heap_set X5.out 1 _)
        have Z6 : Hid (XB (w5.setCell ⟨g, 1, none⟩ (.string (⟨#[]⟩))) w.heap.size zX) := Lib.hid ((Below.heap_setCell w5 _ _ _ (by show w.heap.size ≠ g; omega)).trans Z5.out)
        have B6 : Hid (Below w.heap.size w (w5.setCell ⟨g, 1, none⟩ (.string (⟨#[]⟩)))) := Lib.hid (B5.out.setCell (p := ⟨g, 1, none⟩) (by show w.heap.size ≤ g; omega) _)
        clear c1 c2 xf
        generalize w5.setCell ⟨g, 1, none⟩ (.string (⟨#[]⟩)) = W6 at X6 Z6 B6 ⊢
        have c0 := X6.out.c0; have c1 := X6.out.c1; have c2 := X6.out.c2
        simp only at c0 c1 c2
        have z0 := Z6.out.c0; have z1 := Z6.out.c1; have z2 := Z6.out.c2
        simp only [zX] at z0 z1 z2
        have zf := Z6.out.fr
        have hzl : w.heap.size < W6.heap.size := Z6.out.lt
        go_wp2_with fail
        refine bodyPost_ret (v := .tuple #[.agg #[.int .i64 (x.toNat : Int), .string (⟨#[]⟩), .string (⟨#[]⟩)], .slice none 0 0, .bool false]) (by simp [results, Try.results22, go_sem, z0, z1, z2, hzl]) rfl ⟨.inl ⟨HN.out, ⟨(x.toNat : Int), ⟨#[]⟩, ⟨#[]⟩⟩, rfl⟩, x_end B6.out⟩
      | some p =>
        obtain ⟨t, r1⟩ := p
        have HT : Hid (t.length ≤ 255) := Lib.hid (cut_back hc).2
        have HCC := Lib.hid hc
        rw [hc] at C1
        clear hc
        go_wp2_with fail
        refine C1.mono ?_
        rintro e5 w5 ⟨hv, b5⟩
        rcases hv with ⟨hv, _⟩ | ⟨t', r', A3, n3, c3, hv, rfl, hr3, hnc3, hcm3, hh3⟩
        · cases hv
        injection hv with hv
        injection hv with e1 e2
        subst e1; subst e2
        have R3 := Lib.hid hr3
        have HH3 := Lib.hid (holds_back hh3 B2.out HC.out)
        have X5 := Lib.hid (X2.out.below b5 X2.out.lt)
        have Z5 := Lib.hid (Z2.out.below b5 Z2.out.lt)
        have B5 := Lib.hid (B2.out.trans (b5.mono B2.out.size))
        clear b5 C1
        clear hh3
        have c1 := X5.out.c1; have c2 := X5.out.c2
        have xf := X5.out.fr
        simp only at c1 c2
        go_upto_region 7 with fail
        have X6 : Hid (XB (w5.setCell ⟨g, 1, none⟩ (.string (bs t))) g ⟨x.toNat, bs t, ⟨#[]⟩⟩) := Lib.hid (heap_set X5.out 1 _)
        have Z6 : Hid (XB (w5.setCell ⟨g, 1, none⟩ (.string (bs t))) w.heap.size zX) := Lib.hid ((Below.heap_setCell w5 _ _ _ (by show w.heap.size ≠ g; omega)).trans Z5.out)
        have B6 : Hid (Below w.heap.size w (w5.setCell ⟨g, 1, none⟩ (.string (bs t)))) := Lib.hid (B5.out.setCell (p := ⟨g, 1, none⟩) (by show w.heap.size ≤ g; omega) _)
        clear c1 c2 xf
        generalize w5.setCell ⟨g, 1, none⟩ (.string (bs t)) = W6 at X6 Z6 B6 ⊢
        have HN : Hid (candI x r = some (⟨x.toNat, bs t, ⟨#[]⟩⟩, r1)) := Lib.hid (by unfold candI; rw [if_neg (by omega), HCC.out]; simp only; rw [if_pos e]; rfl)
        have c0 := X6.out.c0; have c1 := X6.out.c1; have c2 := X6.out.c2
        simp only at c0 c1 c2
        have z0 := Z6.out.c0; have z1 := Z6.out.c1; have z2 := Z6.out.c2
        simp only [zX] at z0 z1 z2
        have zf := Z6.out.fr
        have hzl : w.heap.size < W6.heap.size := Z6.out.lt
        go_wp2_with fail
        refine bodyPost_ret (v := .tuple #[.agg #[.int .i64 (x.toNat : Int), .string (bs t), .string (⟨#[]⟩)], .slice A3 n3 c3, .bool true]) (by simp [results, Try.results22, go_sem, z0, z1, z2, hzl]) rfl ⟨.inr ⟨⟨(x.toNat : Int), bs t, ⟨#[]⟩⟩, r1, A3, n3, c3, HN.out, rfl, R3.out, hnc3, hcm3, HH3.out, by show (bs t).size ≤ 255; rw [bs_size]; exact HT.out, by show (⟨#[]⟩ : ByteArray).size ≤ 255; decide⟩, x_end B6.out⟩
    · rw [e]
      cases hc : cut1 r with
      | none =>
        have HN : Hid (candI x r = none) := Lib.hid (by unfold candI; rw [if_neg (by omega), hc])
        rw [hc] at C1
        clear hc
        go_wp2_with fail
        refine C1.mono ?_
        rintro e5 w5 ⟨hv, b5⟩
        rcases hv with ⟨_, rfl⟩ | ⟨_, _, _, _, _, hv, _⟩
        rotate_left
        · cases hv
        have X5 := Lib.hid (X2.out.below b5 X2.out.lt)
        have Z5 := Lib.hid (Z2.out.below b5 Z2.out.lt)
        have B5 := Lib.hid (B2.out.trans (b5.mono B2.out.size))
        clear b5 C1
        have c1 := X5.out.c1; have c2 := X5.out.c2
        have xf := X5.out.fr
        simp only at c1 c2
        go_upto_region 7 with fail
        have X6 : Hid (XB (w5.setCell ⟨g, 1, none⟩ (.string (⟨#[]⟩))) g ⟨x.toNat, ⟨#[]⟩, ⟨#[]⟩⟩) := Lib.hid (heap_set X5.out 1 _)
        have Z6 : Hid (XB (w5.setCell ⟨g, 1, none⟩ (.string (⟨#[]⟩))) w.heap.size zX) := Lib.hid ((Below.heap_setCell w5 _ _ _ (by show w.heap.size ≠ g; omega)).trans Z5.out)
        have B6 : Hid (Below w.heap.size w (w5.setCell ⟨g, 1, none⟩ (.string (⟨#[]⟩)))) := Lib.hid (B5.out.setCell (p := ⟨g, 1, none⟩) (by show w.heap.size ≤ g; omega) _)
        clear c1 c2 xf
        generalize w5.setCell ⟨g, 1, none⟩ (.string (⟨#[]⟩)) = W6 at X6 Z6 B6 ⊢
        have c0 := X6.out.c0; have c1 := X6.out.c1; have c2 := X6.out.c2
        simp only at c0 c1 c2
        have z0 := Z6.out.c0; have z1 := Z6.out.c1; have z2 := Z6.out.c2
        simp only [zX] at z0 z1 z2
        have zf := Z6.out.fr
        have hzl : w.heap.size < W6.heap.size := Z6.out.lt
        go_wp2_with fail
        refine bodyPost_ret (v := .tuple #[.agg #[.int .i64 (x.toNat : Int), .string (⟨#[]⟩), .string (⟨#[]⟩)], .slice none 0 0, .bool false]) (by simp [results, Try.results22, go_sem, z0, z1, z2, hzl]) rfl ⟨.inl ⟨HN.out, ⟨(x.toNat : Int), ⟨#[]⟩, ⟨#[]⟩⟩, rfl⟩, x_end B6.out⟩
      | some p =>
        obtain ⟨t, r1⟩ := p
        have HT : Hid (t.length ≤ 255) := Lib.hid (cut_back hc).2
        have HCC := Lib.hid hc
        rw [hc] at C1
        clear hc
        go_wp2_with fail
        refine C1.mono ?_
        rintro e5 w5 ⟨hv, b5⟩
        rcases hv with ⟨hv, _⟩ | ⟨t', r', A3, n3, c3, hv, rfl, hr3, hnc3, hcm3, hh3⟩
        · cases hv
        injection hv with hv
        injection hv with e1 e2
        subst e1; subst e2
        have R3 := Lib.hid hr3
        have HH3 := Lib.hid (holds_back hh3 B2.out HC.out)
        have X5 := Lib.hid (X2.out.below b5 X2.out.lt)
        have Z5 := Lib.hid (Z2.out.below b5 Z2.out.lt)
        have B5 := Lib.hid (B2.out.trans (b5.mono B2.out.size))
        clear b5 C1
        clear hh3
        have c1 := X5.out.c1; have c2 := X5.out.c2
        have xf := X5.out.fr
        simp only at c1 c2
        go_upto_region 7 with fail
        have X6 : Hid (XB (w5.setCell ⟨g, 1, none⟩ (.string (bs t))) g ⟨x.toNat, bs t, ⟨#[]⟩⟩) := Lib.hid (heap_set X5.out 1 _)
        have Z6 : Hid (XB (w5.setCell ⟨g, 1, none⟩ (.string (bs t))) w.heap.size zX) := Lib.hid ((Below.heap_setCell w5 _ _ _ (by show w.heap.size ≠ g; omega)).trans Z5.out)
        have B6 : Hid (Below w.heap.size w (w5.setCell ⟨g, 1, none⟩ (.string (bs t)))) := Lib.hid (B5.out.setCell (p := ⟨g, 1, none⟩) (by show w.heap.size ≤ g; omega) _)
        clear c1 c2 xf
        generalize w5.setCell ⟨g, 1, none⟩ (.string (bs t)) = W6 at X6 Z6 B6 ⊢
        have C2 := getText_any r1 A3 n3 c3 C W6 (HH3.out.below B6.out HC.out) (Nat.le_trans HC.out B6.out.size) R3.out hnc3 (by have := R3.out; have := HT.out; have := RN.out; have := cut_len HCC.out; omega) hcm3
        cases hc2 : cut1 r1 with
        | none =>
          have HN : Hid (candI x r = none) := Lib.hid (by unfold candI; rw [if_neg (by omega), HCC.out]; simp only; rw [if_neg (by omega), hc2])
          rw [hc2] at C2
          clear hc2
          go_wp2_with fail
          refine C2.mono ?_
          rintro e7 w7 ⟨hv, b7⟩
          rcases hv with ⟨_, rfl⟩ | ⟨_, _, _, _, _, hv, _⟩
          rotate_left
          · cases hv
          have X7 := Lib.hid (X6.out.below b7 X6.out.lt)
          have Z7 := Lib.hid (Z6.out.below b7 Z6.out.lt)
          have B7 := Lib.hid (B6.out.trans (b7.mono B6.out.size))
          clear b7 C2
          have c1 := X7.out.c1; have c2 := X7.out.c2
          have xf := X7.out.fr
          simp only at c1 c2
          go_upto_region 9 with fail
          have X8 : Hid (XB (w7.setCell ⟨g, 2, none⟩ (.string (⟨#[]⟩))) g ⟨x.toNat, bs t, ⟨#[]⟩⟩) := Lib.hid (heap_set X7.out 2 _)
          have Z8 : Hid (XB (w7.setCell ⟨g, 2, none⟩ (.string (⟨#[]⟩))) w.heap.size zX) := Lib.hid ((Below.heap_setCell w7 _ _ _ (by show w.heap.size ≠ g; omega)).trans Z7.out)
          have B8 : Hid (Below w.heap.size w (w7.setCell ⟨g, 2, none⟩ (.string (⟨#[]⟩)))) := Lib.hid (B7.out.setCell (p := ⟨g, 2, none⟩) (by show w.heap.size ≤ g; omega) _)
          clear c1 c2 xf
          generalize w7.setCell ⟨g, 2, none⟩ (.string (⟨#[]⟩)) = W8 at X8 Z8 B8 ⊢
          have c0 := X8.out.c0; have c1 := X8.out.c1; have c2 := X8.out.c2
          simp only at c0 c1 c2
          have z0 := Z8.out.c0; have z1 := Z8.out.c1; have z2 := Z8.out.c2
          simp only [zX] at z0 z1 z2
          have zf := Z8.out.fr
          have hzl : w.heap.size < W8.heap.size := Z8.out.lt
          go_wp2_with fail
          refine bodyPost_ret (v := .tuple #[.agg #[.int .i64 (x.toNat : Int), .string (bs t), .string (⟨#[]⟩)], .slice none 0 0, .bool false]) (by simp [results, Try.results22, go_sem, z0, z1, z2, hzl]) rfl ⟨.inl ⟨HN.out, ⟨(x.toNat : Int), bs t, ⟨#[]⟩⟩, rfl⟩, x_end B8.out⟩
        | some p =>
          obtain ⟨u, r2⟩ := p
          have HU : Hid (u.length ≤ 255) := Lib.hid (cut_back hc2).2
          have HN : Hid (candI x r = some (⟨x.toNat, bs t, bs u⟩, r2)) := Lib.hid (by unfold candI; rw [if_neg (by omega), HCC.out]; simp only; rw [if_neg (by omega), hc2])
          rw [hc2] at C2
          clear hc2
          go_wp2_with fail
          refine C2.mono ?_
          rintro e7 w7 ⟨hv, b7⟩
          rcases hv with ⟨hv, _⟩ | ⟨t', r', A4, n4, c4, hv, rfl, hr4, hnc4, hcm4, hh4⟩
          · cases hv
          injection hv with hv
          injection hv with e1 e2
          subst e1; subst e2
          have R4 := Lib.hid hr4
          have HH4 := Lib.hid (holds_back hh4 B6.out HC.out)
          have X7 := Lib.hid (X6.out.below b7 X6.out.lt)
          have Z7 := Lib.hid (Z6.out.below b7 Z6.out.lt)
          have B7 := Lib.hid (B6.out.trans (b7.mono B6.out.size))
          clear b7 C2
          clear hh4
          have c1 := X7.out.c1; have c2 := X7.out.c2
          have xf := X7.out.fr
          simp only at c1 c2
          go_upto_region 9 with fail
          have X8 : Hid (XB (w7.setCell ⟨g, 2, none⟩ (.string (bs u))) g ⟨x.toNat, bs t, bs u⟩) := Lib.hid (heap_set X7.out 2 _)
          have Z8 : Hid (XB (w7.setCell ⟨g, 2, none⟩ (.string (bs u))) w.heap.size zX) := Lib.hid ((Below.heap_setCell w7 _ _ _ (by show w.heap.size ≠ g; omega)).trans Z7.out)
          have B8 : Hid (Below w.heap.size w (w7.setCell ⟨g, 2, none⟩ (.string (bs u)))) := Lib.hid (B7.out.setCell (p := ⟨g, 2, none⟩) (by show w.heap.size ≤ g; omega) _)
          clear c1 c2 xf
          generalize w7.setCell ⟨g, 2, none⟩ (.string (bs u)) = W8 at X8 Z8 B8 ⊢
          have c0 := X8.out.c0; have c1 := X8.out.c1; have c2 := X8.out.c2
          simp only at c0 c1 c2
          have z0 := Z8.out.c0; have z1 := Z8.out.c1; have z2 := Z8.out.c2
          simp only [zX] at z0 z1 z2
          have zf := Z8.out.fr
          have hzl : w.heap.size < W8.heap.size := Z8.out.lt
          go_wp2_with fail
          refine bodyPost_ret (v := .tuple #[.agg #[.int .i64 (x.toNat : Int), .string (bs t), .string (bs u)], .slice A4 n4 c4, .bool true]) (by simp [results, Try.results22, go_sem, z0, z1, z2, hzl]) rfl ⟨.inr ⟨⟨(x.toNat : Int), bs t, bs u⟩, r2, A4, n4, c4, HN.out, rfl, R4.out, hnc4, hcm4, HH4.out, by show (bs t).size ≤ 255; rw [bs_size]; exact HT.out, by show (bs u).size ≤ 255; rw [bs_size]; exact HU.out⟩, x_end B8.out⟩
  · have RN : Hid (r.length = n - 1) := Lib.hid (by have := KL.out; omega)
    have HR := HD
    have hc1 : c - 1 ≤ maxLen := by unfold maxLen; omega
    have hn1 : n - 1 ≤ c - 1 := by omega
    have hn2 : n - 1 ≤ 100000 := by omega
    have hcq : ¬ c - 1 = 0 := by omega
    clear HD
    have G1 : Hid (∀ w9, Below w.heap.size w w9 → Calls Try.prog 30 #[.slice (some ⟨b, o + 1, none⟩) (n - 1) (c - 1)] w9 (CutV w9 C (cut1 r))) := Lib.hid (fun w9 h => getText_any r _ _ _ C w9 (HR.out.below h HC.out) (Nat.le_trans HC.out h.size) RN.out hn1 hn2 hc1)
    have c0 := X2.out.c0
    simp only at c0
    go_wp2_with fail
    refine (ptexts_any (x.toNat : Int) W2).mono ?_
    rintro e w' ⟨rfl, rfl⟩
    clear c0
    have C1 := G1.out W2 B2.out
    clear G1
    rcases textsN_cases (x.toNat : Int) with e | e | e
    · rw [e]
      have HN : Hid (candI x r = some (⟨x.toNat, ⟨#[]⟩, ⟨#[]⟩⟩, r)) := Lib.hid (by unfold candI; rw [if_pos e]; rfl)
      have c0 := X2.out.c0; have c1 := X2.out.c1; have c2 := X2.out.c2
      simp only at c0 c1 c2
      have z0 := Z2.out.c0; have z1 := Z2.out.c1; have z2 := Z2.out.c2
      simp only [zX] at z0 z1 z2
      have zf := Z2.out.fr
      have hzl : w.heap.size < W2.heap.size := Z2.out.lt
      go_wp2_with fail
      refine bodyPost_ret (v := .tuple #[.agg #[.int .i64 (x.toNat : Int), .string (⟨#[]⟩), .string (⟨#[]⟩)], .slice (some ⟨b, o + 1, none⟩) (n - 1) (c - 1), .bool true]) (by simp [results, Try.results22, go_sem, z0, z1, z2, hzl]) rfl ⟨.inr ⟨_, r, _, _, _, HN.out, rfl, RN.out, hn1, hc1, HR.out, by show (⟨#[]⟩ : ByteArray).size ≤ 255; decide, by show (⟨#[]⟩ : ByteArray).size ≤ 255; decide⟩, x_end B2.out⟩
    · rw [e]
      cases hc : cut1 r with
      | none =>
        have HN : Hid (candI x r = none) := Lib.hid (by unfold candI; rw [if_neg (by omega), hc])
        rw [hc] at C1
        clear hc
        go_wp2_with fail
        refine C1.mono ?_
        rintro e5 w5 ⟨hv, b5⟩
        rcases hv with ⟨_, rfl⟩ | ⟨_, _, _, _, _, hv, _⟩
        rotate_left
        · cases hv
        have X5 := Lib.hid (X2.out.below b5 X2.out.lt)
        have Z5 := Lib.hid (Z2.out.below b5 Z2.out.lt)
        have B5 := Lib.hid (B2.out.trans (b5.mono B2.out.size))
        clear b5 C1
        have c1 := X5.out.c1; have c2 := X5.out.c2
        have xf := X5.out.fr
        simp only at c1 c2
        go_upto_region 7 with fail
        have X6 : Hid (XB (w5.setCell ⟨g, 1, none⟩ (.string (⟨#[]⟩))) g ⟨x.toNat, ⟨#[]⟩, ⟨#[]⟩⟩) := Lib.hid (heap_set X5.out 1 _)
        have Z6 : Hid (XB (w5.setCell ⟨g, 1, none⟩ (.string (⟨#[]⟩))) w.heap.size zX) := Lib.hid ((Below.heap_setCell w5 _ _ _ (by show w.heap.size ≠ g; omega)).trans Z5.out)
        have B6 : Hid (Below w.heap.size w (w5.setCell ⟨g, 1, none⟩ (.string (⟨#[]⟩)))) := Lib.hid (B5.out.setCell (p := ⟨g, 1, none⟩) (by show w.heap.size ≤ g; omega) _)
        clear c1 c2 xf
        generalize w5.setCell ⟨g, 1, none⟩ (.string (⟨#[]⟩)) = W6 at X6 Z6 B6 ⊢
        have c0 := X6.out.c0; have c1 := X6.out.c1; have c2 := X6.out.c2
        simp only at c0 c1 c2
        have z0 := Z6.out.c0; have z1 := Z6.out.c1; have z2 := Z6.out.c2
        simp only [zX] at z0 z1 z2
        have zf := Z6.out.fr
        have hzl : w.heap.size < W6.heap.size := Z6.out.lt
        go_wp2_with fail
        refine bodyPost_ret (v := .tuple #[.agg #[.int .i64 (x.toNat : Int), .string (⟨#[]⟩), .string (⟨#[]⟩)], .slice none 0 0, .bool false]) (by simp [results, Try.results22, go_sem, z0, z1, z2, hzl]) rfl ⟨.inl ⟨HN.out, ⟨(x.toNat : Int), ⟨#[]⟩, ⟨#[]⟩⟩, rfl⟩, x_end B6.out⟩
      | some p =>
        obtain ⟨t, r1⟩ := p
        have HT : Hid (t.length ≤ 255) := Lib.hid (cut_back hc).2
        have HCC := Lib.hid hc
        rw [hc] at C1
        clear hc
        go_wp2_with fail
        refine C1.mono ?_
        rintro e5 w5 ⟨hv, b5⟩
        rcases hv with ⟨hv, _⟩ | ⟨t', r', A3, n3, c3, hv, rfl, hr3, hnc3, hcm3, hh3⟩
        · cases hv
        injection hv with hv
        injection hv with e1 e2
        subst e1; subst e2
        have R3 := Lib.hid hr3
        have HH3 := Lib.hid (holds_back hh3 B2.out HC.out)
        have X5 := Lib.hid (X2.out.below b5 X2.out.lt)
        have Z5 := Lib.hid (Z2.out.below b5 Z2.out.lt)
        have B5 := Lib.hid (B2.out.trans (b5.mono B2.out.size))
        clear b5 C1
        clear hh3
        have c1 := X5.out.c1; have c2 := X5.out.c2
        have xf := X5.out.fr
        simp only at c1 c2
        go_upto_region 7 with fail
        have X6 : Hid (XB (w5.setCell ⟨g, 1, none⟩ (.string (bs t))) g ⟨x.toNat, bs t, ⟨#[]⟩⟩) := Lib.hid (heap_set X5.out 1 _)
        have Z6 : Hid (XB (w5.setCell ⟨g, 1, none⟩ (.string (bs t))) w.heap.size zX) := Lib.hid ((Below.heap_setCell w5 _ _ _ (by show w.heap.size ≠ g; omega)).trans Z5.out)
        have B6 : Hid (Below w.heap.size w (w5.setCell ⟨g, 1, none⟩ (.string (bs t)))) := Lib.hid (B5.out.setCell (p := ⟨g, 1, none⟩) (by show w.heap.size ≤ g; omega) _)
        clear c1 c2 xf
        generalize w5.setCell ⟨g, 1, none⟩ (.string (bs t)) = W6 at X6 Z6 B6 ⊢
        have HN : Hid (candI x r = some (⟨x.toNat, bs t, ⟨#[]⟩⟩, r1)) := Lib.hid (by unfold candI; rw [if_neg (by omega), HCC.out]; simp only; rw [if_pos e]; rfl)
        have c0 := X6.out.c0; have c1 := X6.out.c1; have c2 := X6.out.c2
        simp only at c0 c1 c2
        have z0 := Z6.out.c0; have z1 := Z6.out.c1; have z2 := Z6.out.c2
        simp only [zX] at z0 z1 z2
        have zf := Z6.out.fr
        have hzl : w.heap.size < W6.heap.size := Z6.out.lt
        go_wp2_with fail
        refine bodyPost_ret (v := .tuple #[.agg #[.int .i64 (x.toNat : Int), .string (bs t), .string (⟨#[]⟩)], .slice A3 n3 c3, .bool true]) (by simp [results, Try.results22, go_sem, z0, z1, z2, hzl]) rfl ⟨.inr ⟨⟨(x.toNat : Int), bs t, ⟨#[]⟩⟩, r1, A3, n3, c3, HN.out, rfl, R3.out, hnc3, hcm3, HH3.out, by show (bs t).size ≤ 255; rw [bs_size]; exact HT.out, by show (⟨#[]⟩ : ByteArray).size ≤ 255; decide⟩, x_end B6.out⟩
    · rw [e]
      cases hc : cut1 r with
      | none =>
        have HN : Hid (candI x r = none) := Lib.hid (by unfold candI; rw [if_neg (by omega), hc])
        rw [hc] at C1
        clear hc
        go_wp2_with fail
        refine C1.mono ?_
        rintro e5 w5 ⟨hv, b5⟩
        rcases hv with ⟨_, rfl⟩ | ⟨_, _, _, _, _, hv, _⟩
        rotate_left
        · cases hv
        have X5 := Lib.hid (X2.out.below b5 X2.out.lt)
        have Z5 := Lib.hid (Z2.out.below b5 Z2.out.lt)
        have B5 := Lib.hid (B2.out.trans (b5.mono B2.out.size))
        clear b5 C1
        have c1 := X5.out.c1; have c2 := X5.out.c2
        have xf := X5.out.fr
        simp only at c1 c2
        go_upto_region 7 with fail
        have X6 : Hid (XB (w5.setCell ⟨g, 1, none⟩ (.string (⟨#[]⟩))) g ⟨x.toNat, ⟨#[]⟩, ⟨#[]⟩⟩) := Lib.hid (heap_set X5.out 1 _)
        have Z6 : Hid (XB (w5.setCell ⟨g, 1, none⟩ (.string (⟨#[]⟩))) w.heap.size zX) := Lib.hid ((Below.heap_setCell w5 _ _ _ (by show w.heap.size ≠ g; omega)).trans Z5.out)
        have B6 : Hid (Below w.heap.size w (w5.setCell ⟨g, 1, none⟩ (.string (⟨#[]⟩)))) := Lib.hid (B5.out.setCell (p := ⟨g, 1, none⟩) (by show w.heap.size ≤ g; omega) _)
        clear c1 c2 xf
        generalize w5.setCell ⟨g, 1, none⟩ (.string (⟨#[]⟩)) = W6 at X6 Z6 B6 ⊢
        have c0 := X6.out.c0; have c1 := X6.out.c1; have c2 := X6.out.c2
        simp only at c0 c1 c2
        have z0 := Z6.out.c0; have z1 := Z6.out.c1; have z2 := Z6.out.c2
        simp only [zX] at z0 z1 z2
        have zf := Z6.out.fr
        have hzl : w.heap.size < W6.heap.size := Z6.out.lt
        go_wp2_with fail
        refine bodyPost_ret (v := .tuple #[.agg #[.int .i64 (x.toNat : Int), .string (⟨#[]⟩), .string (⟨#[]⟩)], .slice none 0 0, .bool false]) (by simp [results, Try.results22, go_sem, z0, z1, z2, hzl]) rfl ⟨.inl ⟨HN.out, ⟨(x.toNat : Int), ⟨#[]⟩, ⟨#[]⟩⟩, rfl⟩, x_end B6.out⟩
      | some p =>
        obtain ⟨t, r1⟩ := p
        have HT : Hid (t.length ≤ 255) := Lib.hid (cut_back hc).2
        have HCC := Lib.hid hc
        rw [hc] at C1
        clear hc
        go_wp2_with fail
        refine C1.mono ?_
        rintro e5 w5 ⟨hv, b5⟩
        rcases hv with ⟨hv, _⟩ | ⟨t', r', A3, n3, c3, hv, rfl, hr3, hnc3, hcm3, hh3⟩
        · cases hv
        injection hv with hv
        injection hv with e1 e2
        subst e1; subst e2
        have R3 := Lib.hid hr3
        have HH3 := Lib.hid (holds_back hh3 B2.out HC.out)
        have X5 := Lib.hid (X2.out.below b5 X2.out.lt)
        have Z5 := Lib.hid (Z2.out.below b5 Z2.out.lt)
        have B5 := Lib.hid (B2.out.trans (b5.mono B2.out.size))
        clear b5 C1
        clear hh3
        have c1 := X5.out.c1; have c2 := X5.out.c2
        have xf := X5.out.fr
        simp only at c1 c2
        go_upto_region 7 with fail
        have X6 : Hid (XB (w5.setCell ⟨g, 1, none⟩ (.string (bs t))) g ⟨x.toNat, bs t, ⟨#[]⟩⟩) := Lib.hid (heap_set X5.out 1 _)
        have Z6 : Hid (XB (w5.setCell ⟨g, 1, none⟩ (.string (bs t))) w.heap.size zX) := Lib.hid ((Below.heap_setCell w5 _ _ _ (by show w.heap.size ≠ g; omega)).trans Z5.out)
        have B6 : Hid (Below w.heap.size w (w5.setCell ⟨g, 1, none⟩ (.string (bs t)))) := Lib.hid (B5.out.setCell (p := ⟨g, 1, none⟩) (by show w.heap.size ≤ g; omega) _)
        clear c1 c2 xf
        generalize w5.setCell ⟨g, 1, none⟩ (.string (bs t)) = W6 at X6 Z6 B6 ⊢
        have C2 := getText_any r1 A3 n3 c3 C W6 (HH3.out.below B6.out HC.out) (Nat.le_trans HC.out B6.out.size) R3.out hnc3 (by have := R3.out; have := HT.out; have := RN.out; have := cut_len HCC.out; omega) hcm3
        cases hc2 : cut1 r1 with
        | none =>
          have HN : Hid (candI x r = none) := Lib.hid (by unfold candI; rw [if_neg (by omega), HCC.out]; simp only; rw [if_neg (by omega), hc2])
          rw [hc2] at C2
          clear hc2
          go_wp2_with fail
          refine C2.mono ?_
          rintro e7 w7 ⟨hv, b7⟩
          rcases hv with ⟨_, rfl⟩ | ⟨_, _, _, _, _, hv, _⟩
          rotate_left
          · cases hv
          have X7 := Lib.hid (X6.out.below b7 X6.out.lt)
          have Z7 := Lib.hid (Z6.out.below b7 Z6.out.lt)
          have B7 := Lib.hid (B6.out.trans (b7.mono B6.out.size))
          clear b7 C2
          have c1 := X7.out.c1; have c2 := X7.out.c2
          have xf := X7.out.fr
          simp only at c1 c2
          go_upto_region 9 with fail
          have X8 : Hid (XB (w7.setCell ⟨g, 2, none⟩ (.string (⟨#[]⟩))) g ⟨x.toNat, bs t, ⟨#[]⟩⟩) := Lib.hid (heap_set X7.out 2 _)
          have Z8 : Hid (XB (w7.setCell ⟨g, 2, none⟩ (.string (⟨#[]⟩))) w.heap.size zX) := Lib.hid ((Below.heap_setCell w7 _ _ _ (by show w.heap.size ≠ g; omega)).trans Z7.out)
          have B8 : Hid (Below w.heap.size w (w7.setCell ⟨g, 2, none⟩ (.string (⟨#[]⟩)))) := Lib.hid (B7.out.setCell (p := ⟨g, 2, none⟩) (by show w.heap.size ≤ g; omega) _)
          clear c1 c2 xf
          generalize w7.setCell ⟨g, 2, none⟩ (.string (⟨#[]⟩)) = W8 at X8 Z8 B8 ⊢
          have c0 := X8.out.c0; have c1 := X8.out.c1; have c2 := X8.out.c2
          simp only at c0 c1 c2
          have z0 := Z8.out.c0; have z1 := Z8.out.c1; have z2 := Z8.out.c2
          simp only [zX] at z0 z1 z2
          have zf := Z8.out.fr
          have hzl : w.heap.size < W8.heap.size := Z8.out.lt
          go_wp2_with fail
          refine bodyPost_ret (v := .tuple #[.agg #[.int .i64 (x.toNat : Int), .string (bs t), .string (⟨#[]⟩)], .slice none 0 0, .bool false]) (by simp [results, Try.results22, go_sem, z0, z1, z2, hzl]) rfl ⟨.inl ⟨HN.out, ⟨(x.toNat : Int), bs t, ⟨#[]⟩⟩, rfl⟩, x_end B8.out⟩
        | some p =>
          obtain ⟨u, r2⟩ := p
          have HU : Hid (u.length ≤ 255) := Lib.hid (cut_back hc2).2
          have HN : Hid (candI x r = some (⟨x.toNat, bs t, bs u⟩, r2)) := Lib.hid (by unfold candI; rw [if_neg (by omega), HCC.out]; simp only; rw [if_neg (by omega), hc2])
          rw [hc2] at C2
          clear hc2
          go_wp2_with fail
          refine C2.mono ?_
          rintro e7 w7 ⟨hv, b7⟩
          rcases hv with ⟨hv, _⟩ | ⟨t', r', A4, n4, c4, hv, rfl, hr4, hnc4, hcm4, hh4⟩
          · cases hv
          injection hv with hv
          injection hv with e1 e2
          subst e1; subst e2
          have R4 := Lib.hid hr4
          have HH4 := Lib.hid (holds_back hh4 B6.out HC.out)
          have X7 := Lib.hid (X6.out.below b7 X6.out.lt)
          have Z7 := Lib.hid (Z6.out.below b7 Z6.out.lt)
          have B7 := Lib.hid (B6.out.trans (b7.mono B6.out.size))
          clear b7 C2
          clear hh4
          have c1 := X7.out.c1; have c2 := X7.out.c2
          have xf := X7.out.fr
          simp only at c1 c2
          go_upto_region 9 with fail
          have X8 : Hid (XB (w7.setCell ⟨g, 2, none⟩ (.string (bs u))) g ⟨x.toNat, bs t, bs u⟩) := Lib.hid (heap_set X7.out 2 _)
          have Z8 : Hid (XB (w7.setCell ⟨g, 2, none⟩ (.string (bs u))) w.heap.size zX) := Lib.hid ((Below.heap_setCell w7 _ _ _ (by show w.heap.size ≠ g; omega)).trans Z7.out)
          have B8 : Hid (Below w.heap.size w (w7.setCell ⟨g, 2, none⟩ (.string (bs u)))) := Lib.hid (B7.out.setCell (p := ⟨g, 2, none⟩) (by show w.heap.size ≤ g; omega) _)
          clear c1 c2 xf
          generalize w7.setCell ⟨g, 2, none⟩ (.string (bs u)) = W8 at X8 Z8 B8 ⊢
          have c0 := X8.out.c0; have c1 := X8.out.c1; have c2 := X8.out.c2
          simp only at c0 c1 c2
          have z0 := Z8.out.c0; have z1 := Z8.out.c1; have z2 := Z8.out.c2
          simp only [zX] at z0 z1 z2
          have zf := Z8.out.fr
          have hzl : w.heap.size < W8.heap.size := Z8.out.lt
          go_wp2_with fail
          refine bodyPost_ret (v := .tuple #[.agg #[.int .i64 (x.toNat : Int), .string (bs t), .string (bs u)], .slice A4 n4 c4, .bool true]) (by simp [results, Try.results22, go_sem, z0, z1, z2, hzl]) rfl ⟨.inr ⟨⟨(x.toNat : Int), bs t, bs u⟩, r2, A4, n4, c4, HN.out, rfl, R4.out, hnc4, hcm4, HH4.out, by show (bs t).size ≤ 255; rw [bs_size]; exact HT.out, by show (bs u).size ≤ 255; rw [bs_size]; exact HU.out⟩, x_end B8.out⟩
/-! ### Get -/
theorem gv_none {w w' : World} {b0 : List UInt8} {k : Nat} (h : getP b0 = ([], k)) (hk : ¬ k = 0) (hb : Below w.heap.size w w') : GetV w (getP b0) (.returned (.tuple #[.slice none 0 0, .iface 33 (.int .i64 (k : Nat))])) w' := by
  have hv : errV ((k : Nat) : Int) = .iface 33 (.int .i64 (k : Nat)) := by unfold errV; rw [if_neg (by omega)]
  rw [h]
  refine ⟨none, 0, 0, ?_, rfl, Nat.le_refl _, by unfold maxLen; omega, fun _ => rfl, Kind.Holds.nil _ _ _, hb⟩
  show _ = Ending.returned (.tuple #[.slice none 0 0, errV ((k : Nat) : Int)])
  rw [hv]
set_option maxRecDepth 100000 in
set_option maxHeartbeats 4000000 in
theorem get_c : GetC := by
  intro b0 A n c w hh hn hnc hcm hl
  have ST : Hid (GRel w b0 (.slice A n c) (.slice none 0 0) w) := Lib.hid ⟨A, n, c, b0, none, 0, 0, [], b0.length + 1, rfl, rfl, hn, hnc, hcm, hl, by omega, by simp, Lib.hid rfl, Lib.hid hh, Lib.hid (Kind.Own.nil kX w _), Lib.hid (Below.refl _ _)⟩
  clear hh hn hnc hcm hl
  go_enter Try.func11, Try.ntmps11
  go_wp2_with fail
  go_loopw [0, 4] (fun s0 s4 wr => GRel w b0 s0 s4 wr) (fun s0 _ _ => match s0 with | .slice _ n _ => n | _ => 0)
  case atStart => exact ST.out
  case round =>
    obtain ⟨A, n, c, x, A', n', c', acc, f, rfl, rfl, hxn, hnc, hcm, hn1, hf, hac, HG, HH, HO, HB⟩ := hrel
    clear ST
    have hal := ownX_len HO.out
    by_cases h0 : 0 < n
    · obtain ⟨f2, rfl⟩ : ∃ q, f = q + 1 := ⟨f - 1, by omega⟩
      cases x with
      | nil => simp at hxn; omega
      | cons y r =>
      have hrl : r.length + 1 = n := hxn
      have CO : Hid (Calls Try.prog 22 #[.slice A n c] wr (GotV wr w.heap.size (candI y r))) := Lib.hid (get_any y r A n c w.heap.size wr (HH.out.below HB.out (Nat.le_refl _)) HB.out.size hrl hnc hn1 hcm)
      have GN : Hid (getI (f2 + 1) (y :: r) acc = match oneP (y :: r) with | none => ([], 7) | some (i, r) => if acc.length = 120 then ([], 13) else getI f2 r (acc ++ [i])) := Lib.hid (by rw [getI, if_neg (by simp)]; cases oneP (y :: r) <;> rfl)
      have OP : Hid (oneP (y :: r) = match candI y r with | none => none | some (i, r1) => if mayI i then some (i, r1) else none) := Lib.hid rfl
      have BK : Hid (∀ i r1, oneP (y :: r) = some (i, r1) → r1.length + 1 ≤ n) := Lib.hid (fun i r1 h => by
        have h1 := congrArg List.length (one_back h).1
        have h2 := insH_pos i
        rw [List.length_append, List.length_cons] at h1
        omega)
      clear hxn hrl
      cases hc : candI y r with
      | none =>
        rw [hc] at CO OP
        have HR : Hid (getP b0 = ([], 7)) := Lib.hid (by rw [HG.out, GN.out, OP.out])
        clear hc
        go_wp2_with fail
        refine CO.out.mono ?_
        rintro e w2 ⟨hv, b2⟩
        rcases hv with ⟨_, ⟨op, a, bb⟩, rfl⟩ | ⟨_, _, _, _, _, hv, _⟩
        · have B2 := Lib.hid (HB.out.trans (b2.mono HB.out.size))
          clear b2 CO
          go_wp2_with fail
          go_ret2
          exact gv_none (k := 7) HR.out (by decide) (B2.out.alloc B2.out.size _)
        · cases hv
      | some p =>
        obtain ⟨i, r1⟩ := p
        rw [hc] at CO OP
        clear hc
        simp only at OP
        go_wp2_with fail
        refine CO.out.mono ?_
        rintro e w2 ⟨hv, b2⟩
        rcases hv with ⟨hv, _⟩ | ⟨i', r', A2, n2, c2, hv, rfl, hr2, hnc2, hcm2, hh2, hia, hib⟩
        · cases hv
        injection hv with hv
        injection hv with e1 e2
        subst e1; subst e2
        have B2 := Lib.hid (HB.out.trans (b2.mono HB.out.size))
        have O2 := Lib.hid (HO.out.below b2 (Nat.le_refl _))
        have HH2 := Lib.hid (holds_back hh2 HB.out (Nat.le_refl _))
        have HR2 := Lib.hid hr2
        obtain ⟨op, a, bb⟩ := i
        simp only at hia hib
        obtain ⟨bm, hbm⟩ : ∃ z, mayI ⟨op, a, bb⟩ = z := ⟨_, rfl⟩
        have CM : Hid (∀ wz, Calls Try.prog 15 #[.agg #[.int .i64 op, .string a, .string bb]] wz fun e w' => e = .returned (.bool bm) ∧ Below wz.heap.size wz w') := Lib.hid (fun wz => by
          have := imay_c ⟨op, a, bb⟩ wz (by show a.size ≤ _; omega) (by show bb.size ≤ _; omega)
          rw [hbm] at this
          exact this)
        have HBM := Lib.hid hbm
        clear b2 CO hh2 hr2 hbm HO
        go_upto_region 4 with fail
        have NA : Hid (XB (w2.alloc (.cells #[.int .i64 op, .string a, .string bb] 32)) w2.heap.size ⟨op, a, bb⟩) := Lib.hid (XB.new w2 ⟨op, a, bb⟩)
        have BA : Hid (Below w2.heap.size w2 (w2.alloc (.cells #[.int .i64 op, .string a, .string bb] 32))) := Lib.hid ((Below.refl _ _).alloc (Nat.le_refl _) _)
        generalize w2.alloc (.cells #[.int .i64 op, .string a, .string bb] 32) = w3 at NA BA ⊢
        have O3 := Lib.hid (O2.out.below BA.out (Nat.le_refl _))
        have B3 := Lib.hid (B2.out.trans (BA.out.mono B2.out.size))
        have g0 := NA.out.c0; have g1 := NA.out.c1; have g2 := NA.out.c2
        simp only at g0 g1 g2
        clear BA O2 B2
        go_wp2_with fail
        refine (CM.out w3).mono ?_
        rintro e w4 ⟨rfl, b4⟩
        have N4 := Lib.hid (NA.out.below b4 NA.out.lt)
        have O4 := Lib.hid (O3.out.below b4 (Nat.le_refl _))
        have B4 := Lib.hid (B3.out.trans (b4.mono B3.out.size))
        have hb4 := B4.out.size
        clear b4 O3 B3 NA g0 g1 g2 CM
        cases bm with
        | false =>
          have HR : Hid (getP b0 = ([], 7)) := Lib.hid (by rw [HG.out, GN.out, OP.out, if_neg (by rw [HBM.out]; decide)])
          go_wp2_with fail
          go_ret2
          exact gv_none (k := 7) HR.out (by decide) B4.out
        | true =>
          have OS : Hid (oneP (y :: r) = some (⟨op, a, bb⟩, r1)) := Lib.hid (by rw [OP.out, if_pos HBM.out])
          by_cases h120 : acc.length = 120
          · have HR : Hid (getP b0 = ([], 13)) := Lib.hid (by rw [HG.out, GN.out, OS.out]; exact if_pos h120)
            have q1 : ((n' : Int) == 120) = true := by simp; omega
            go_wp2_with fail
            go_ret2
            exact gv_none (k := 13) HR.out (by decide) B4.out
          · have HR : Hid (getP b0 = getI f2 r1 (acc ++ [⟨op, a, bb⟩])) := Lib.hid (by rw [HG.out, GN.out, OS.out]; exact if_neg h120)
            have q1 : ((n' : Int) == 120) = false := by simp; omega
            have HLT : Hid (n2 < n) := Lib.hid (by have := BK.out _ _ OS.out; have := HR2.out; omega)
            have g0 := N4.out.c0; have g1 := N4.out.c1; have g2 := N4.out.c2
            simp only at g0 g1 g2
            go_upto_region 9 with (at_builtin; refine kX.wp_app rfl _ _ rfl (v := .slice A' n' c') (l := acc) (m := [⟨op, a, bb⟩]) (B := w.heap.size) rfl (O4.out.alloc _) rfl rfl (fun e => by cases e) (Kind.Holds.lit (heap_alloc_new _ _) rfl) (by simp; omega) (by simp; omega) ?_; intro v' w5 hown' hgrow hat; obtain ⟨A5, n5, c5, rfl, e1, e2, e3, e4, e5⟩ := hown'.slice; have B5 : Hid (Below w.heap.size w w5) := Lib.hid ((B4.out.alloc hb4 _).grown hgrow (by simp; omega) (fun k hk => (O4.out.lt hk).1)); have O5 := Lib.hid hown'; clear hown' hgrow hat e1 e2 e3 e4 e5)
            have REL : Hid (GRel w b0 (.slice A2 n2 c2) (.slice A5 n5 c5) w5) := Lib.hid ⟨A2, n2, c2, r1, A5, n5, c5, acc ++ [⟨op, a, bb⟩], f2, rfl, rfl, HR2.out, hnc2, hcm2, by have := HLT.out; omega, by have := HLT.out; omega, by simp; omega, HR, HH2, O5, B5⟩
            go_wp2_with fail
            go_roundw
            case rel => exact REL.out
            case measure => exact HLT.out
    · obtain ⟨f2, rfl⟩ : ∃ q, f = q + 1 := ⟨f - 1, by omega⟩
      have HR : Hid (getP b0 = (acc, 0)) := Lib.hid (by rw [HG.out, getI, if_pos (List.eq_nil_of_length_eq_zero (by omega))])
      have OI := ownX_is HO.out
      have PST : Hid (GetV w (getP b0) (.returned (.tuple #[.slice A' n' c', .nilIface])) wr) := Lib.hid (by
        rw [HR.out]
        exact ⟨A', n', c', rfl, OI.1, OI.2.1, OI.2.2.1, OI.2.2.2.1, OI.2.2.2.2, HB.out⟩)
      clear OI
      go_wp2_with fail
      go_ret2
      exact PST.out
end Go.Proofs.Ytmddlcnogckmdaa.P12
