/- What the program's wish.Of answers. No condition but those stated. -/
import Derived.Test.YtfjnbjpenibpkaaM27
import Derived.Test.YtfjnbjpenibpkaaM30
set_option linter.unusedVariables false
set_option linter.unusedSimpArgs false
set_option linter.unusedVariables false
set_option linter.unusedSimpArgs false
namespace Go.Proofs.Ytfjnbjpenibpkaa.P14
open Go.RowKit Kd P4 P5 P11 P12 P13

/-- what is left of a program -/
structure Rs (w : World) (C : Nat) (A : Option Addr) (n c : Nat) (l : List In) : Prop where
  len : l.length = n
  cap : n ≤ c
  cm : c ≤ maxLen
  n1 : n ≤ 1000
  holds : kX.Holds w C A l
section
variable {w w' : World} {C : Nat} {A : Option Addr} {n c : Nat} {l : List In}
theorem Rs.below (h : Rs w C A n c l) (hb : Below w.heap.size w w') (hC : C ≤ w.heap.size) : Rs w' C A n c l := ⟨h.len, h.cap, h.cm, h.n1, h.holds.below hb hC⟩
theorem Rs.back (h : Rs w' C A n c l) (hb : Below w.heap.size w w') (hC : C ≤ w.heap.size) : Rs w C A n c l := ⟨h.len, h.cap, h.cm, h.n1, h.holds.keep fun b _ hlt => (hb.block b (by omega)).symm⟩
/-- its first one: the three cells, and what stands behind it -/
theorem Rs.cons {x : In} {r : List In} (h : Rs w C A n c (x :: r)) : ∃ b o, A = some ⟨b, o, none⟩ ∧ b < C ∧ w.cell? ⟨b, o, none⟩ = some (.int .i64 x.op) ∧ w.cell? ⟨b, o + 1, none⟩ = some (.string x.a) ∧ w.cell? ⟨b, o + 2, none⟩ = some (.string x.b) ∧ r.length + 1 = n ∧ 0 < n ∧
    (c = 1 → Rs w C (some ⟨b, o, none⟩) 0 0 r) ∧ (¬ c = 1 → Rs w C (some ⟨b, o + 3, none⟩) (n - 1) (c - 1) r) := by
  have hl : r.length + 1 = n := by have := h.len; simpa using this
  have hcap := h.cap
  have hcm := h.cm
  have hn1 := h.n1
  obtain ⟨b, o, rfl, hb, hc⟩ := h.holds.at (k := 0) (by simp)
  have hd : kX.Holds w C (some ⟨b, o + 3, none⟩) r := by
    have := h.holds.drop 1
    simpa [kX] using this
  refine ⟨b, o, rfl, hb, ?_, ?_, ?_, hl, by omega, fun e => ?_, fun e => ⟨by omega, by omega, by omega, by omega, hd⟩⟩
  · have := hc 0 _ rfl; simpa using this
  · have := hc 1 _ rfl; simpa using this
  · have := hc 2 _ rfl; simpa using this
  · have : r = [] := List.eq_nil_of_length_eq_zero (by omega)
    subst this
    exact ⟨rfl, Nat.le_refl _, by unfold maxLen; omega, by omega, Kind.Holds.nil _ _ _⟩
end
/-! ### Attributes -/
def GatV (w : World) (C : Nat) (ats : List P3.At) (rest : List In) (e : Ending) (w' : World) : Prop := ∃ (A : Option Addr) (n c : Nat) (A2 : Option Addr) (n2 c2 : Nat), e = .returned (.tuple #[.slice A n c, .slice A2 n2 c2]) ∧ kA.Own w' w.heap.size (.slice A n c) ats ∧ Rs w C A2 n2 c2 rest ∧ Below w.heap.size w w'
def GatR (w : World) (C : Nat) (ats : List P3.At) (rest : List In) (s0 s4 : Value) (wr : World) : Prop := ∃ (dn td : List P3.At) (A : Option Addr) (n c : Nat) (A' : Option Addr) (n' c' : Nat), s0 = .slice A n c ∧ s4 = .slice A' n' c' ∧ Hid (dn ++ td = ats) ∧ Hid (Rs w C A n c (td.map atI ++ rest)) ∧ Hid (kA.Own wr w.heap.size (.slice A' n' c') dn) ∧ Hid (dn.length + n ≤ 1000) ∧ Hid (Below w.heap.size w wr)
set_option maxRecDepth 100000 in
set_option maxHeartbeats 8000000 in
theorem getAttrs_any (ats : List P3.At) (rest : List In) (A : Option Addr) (n c C : Nat) (w : World) (hr : HeadT rest) (h : Rs w C A n c (ats.map atI ++ rest)) (hC : C ≤ w.heap.size) : Calls Try.prog 32 #[.slice A n c] w (GatV w C ats rest) := by
  have ST : Hid (GatR w C ats rest (.slice A n c) (.slice none 0 0) w) := Lib.hid ⟨[], ats, A, n, c, none, 0, 0, rfl, rfl, Lib.hid rfl, Lib.hid h, Lib.hid (Kind.Own.nil kA w _), Lib.hid (by have := h.n1; simp; omega), Lib.hid (Below.refl _ _)⟩
  have HR := Lib.hid hr
  have hCw : C ≤ w.heap.size := hC
  clear h hr
  go_enter Try.func32, Try.ntmps32
  go_wp2_with fail
  go_loopw [0, 4] (fun s0 s4 wr => GatR w C ats rest s0 s4 wr) (fun s0 _ _ => match s0 with | .slice _ n _ => n | _ => 0)
  case atStart => exact ST.out
  case round =>
    obtain ⟨dn, td, A, n, c, A', n', c', rfl, rfl, HA, HL, HO, HN, HB⟩ := hrel
    clear ST
    have hn1 := HL.out.n1
    have hnc := HL.out.cap
    have hcm := HL.out.cm
    have hbr : w.heap.size ≤ wr.heap.size := HB.out.size
    have hbr2 : C ≤ wr.heap.size := Nat.le_trans hCw hbr
    cases td with
    | nil =>
      have HE : Hid (dn = ats) := Lib.hid (by have := HA.out; simpa using this)
      have HL2 : Hid (Rs w C A n c rest) := Lib.hid HL.out
      clear HL HA
      cases rest with
      | nil =>
        obtain rfl : n = 0 := by have := HL2.out.len; simpa using this.symm
        go_wp2_with fail
        go_ret2
        exact ⟨A', n', c', A, 0, c, rfl, by rw [← HE.out]; exact HO.out, HL2.out, HB.out⟩
      | cons y r =>
        obtain ⟨b, o, rfl, hb, g0, _, _, hl, h0, _, _⟩ := (HL2.out.below HB.out hCw).cons
        have ht : tellsO y.op = false := HR.out y rfl
        have CT : Hid (Calls Try.prog 21 #[.int .i64 y.op] wr fun e w' => e = .returned (.bool false) ∧ Below wr.heap.size wr w') := Lib.hid (by
          have := tells_c y.op wr
          rw [show tellsB y.op = false by rw [← ht]; exact Bool.eq_iff_iff.2 (by simp [tellsB, tellsO])] at this
          exact this)
        have HY := Lib.hid ht
        clear ht hl
        go_wp2_with fail
        refine CT.out.mono ?_
        rintro e w2 ⟨rfl, b2⟩
        have B2 := Lib.hid (HB.out.trans (b2.mono hbr))
        have O2 := Lib.hid (HO.out.below b2 (Nat.le_refl _))
        clear b2 CT HB HO
        go_wp2_with fail
        go_ret2
        exact ⟨A', n', c', _, n, c, rfl, by rw [← HE.out]; exact O2.out, HL2.out, B2.out⟩
    | cons a td =>
      obtain ⟨nm, vl, st⟩ := a
      have HA2 : Hid ((dn ++ [⟨nm, vl, st⟩]) ++ td = ats) := Lib.hid (by rw [← HA.out]; simp)
      have HL2 : Hid (Rs w C A n c (⟨if st then 6 else 5, nm, vl⟩ :: (td.map atI ++ rest))) := Lib.hid HL.out
      have hdl : dn.length + n ≤ 1000 := HN.out
      clear HA HL HN
      obtain ⟨b, o, rfl, hb, g0', g1', g2', hl, h0, hR1, hR2⟩ := HL2.out.cons
      have G : Hid (∀ wz, Below w.heap.size w wz → wz.cell? ⟨b, o, none⟩ = some (.int .i64 (if st then 6 else 5)) ∧ wz.cell? ⟨b, o + 1, none⟩ = some (.string nm) ∧ wz.cell? ⟨b, o + 2, none⟩ = some (.string vl)) := Lib.hid (fun wz hz => ⟨(hz.cell (by show b < _; omega)).trans g0', (hz.cell (by show b < _; omega)).trans g1', (hz.cell (by show b < _; omega)).trans g2'⟩)
      have hR1 := Lib.hid hR1
      have hR2 := Lib.hid hR2
      clear g0' g1' g2' hl HL2
      have i0 : (0 : Int) < (n : Int) := by omega
      have i1 : (1 : Int) ≤ (n : Int) := by omega
      have i2 : (n : Int) ≤ (c : Int) := by omega
      have hcm' : c ≤ 9223372036854775807 := by unfold maxLen at hcm; omega
      cases st
      · have G := G.out
        have CT : Hid (Calls Try.prog 21 #[.int .i64 5] wr fun e w' => e = .returned (.bool true) ∧ Below wr.heap.size wr w') := Lib.hid (tells_c 5 wr)
        obtain ⟨g0, g1, g2⟩ := G wr HB.out
        simp only [Bool.false_eq_true, if_false, if_true] at g0
        have SK0 : Hid (∀ wz, Below w.heap.size w wz → wz.cell? ⟨b, o, none⟩ = some (.int .i64 5) ∧ wz.cell? ⟨b, o + 1, none⟩ = some (.string nm) ∧ wz.cell? ⟨b, o + 2, none⟩ = some (.string vl)) := Lib.hid (fun wz hz => by have := G wz hz; simpa using this)
        clear G
        go_wp2_with fail
        refine CT.out.mono ?_
        rintro e w2 ⟨rfl, b2⟩
        have B2 := Lib.hid (HB.out.trans (b2.mono hbr))
        have O2 := Lib.hid (HO.out.below b2 (Nat.le_refl _))
        have hbz : w.heap.size ≤ w2.heap.size := B2.out.size
        clear b2 CT HB HO g0 g1 g2
        obtain ⟨g0, g1, g2⟩ := SK0.out w2 B2.out
        have SK := SK0.out w2 B2.out
        go_upto_region 3 with fail
        go_region_held3 (fun w' => w'.cell? ⟨b, o, none⟩ = some (.int .i64 5) ∧ w'.cell? ⟨b, o + 1, none⟩ = some (.string nm) ∧ w'.cell? ⟨b, o + 2, none⟩ = some (.string vl)) (first | go_keep | exact SK) ((first
          | (refine kA.step_app rfl (.tmp 15) (.tmp 30) rfl (v := .slice A' n' c') (l := dn) (m := [⟨nm, vl, false⟩]) (B := w.heap.size) rfl (by repeat (first | exact O2.out | refine Kind.Own.alloc ?_ _ | refine Kind.Own.drewN ?_ _ | refine Kind.Own.drew ?_)) rfl rfl (fun e => by cases e) (Kind.Holds.lit (by first | exact heap_alloc_new _ _ | exact heap_drew (heap_top rfl) | exact heap_top rfl) rfl) (by omega) (by have := B2.out.size; simp; omega) ?_; intro v' w12 hown' hgrow hat; obtain ⟨A6, n6, c6, rfl, _, _, _, _, _⟩ := hown'.slice; have O6 := Lib.hid hown'; have B6 : Hid (Below w.heap.size w w12) := Lib.hid (Below.grown (by first | exact (B2.out.alloc B2.out.size _).drew | exact B2.out.alloc B2.out.size _ | exact (B2.out.drew).alloc (by simpa using B2.out.size) _) hgrow (by have := B2.out.size; simp; omega) (fun i hi => (O2.out.lt hi).1)); have SK := SK0.out w12 B6.out; clear hown' hgrow hat)
          | fail))
        clear SK SK0 g0 g1 g2 B2 O2
        by_cases hcap : c = 1
        · have HR1 := Lib.hid (hR1.out hcap)
          subst hcap
          obtain rfl : n = 1 := by omega
          clear hR1 hR2
          go_wp2_with fail
          go_roundw
          case rel => exact ⟨dn ++ [⟨nm, vl, false⟩], td, _, 0, 0, A6, n6, c6, rfl, rfl, HA2, HR1, O6, Lib.hid (by simp; omega), B6⟩
          case measure => exact Nat.one_pos
        · have HR2 := Lib.hid (hR2.out hcap)
          have hcq : ¬ c - 1 = 0 := by omega
          clear hR1 hR2
          go_wp2_with fail
          go_roundw
          case rel => exact ⟨dn ++ [⟨nm, vl, false⟩], td, _, n - 1, c - 1, A6, n6, c6, rfl, rfl, HA2, HR2, O6, Lib.hid (by simp; omega), B6⟩
          case measure => exact Nat.sub_lt h0 Nat.one_pos
      · have G := G.out
        have CT : Hid (Calls Try.prog 21 #[.int .i64 6] wr fun e w' => e = .returned (.bool true) ∧ Below wr.heap.size wr w') := Lib.hid (tells_c 6 wr)
        obtain ⟨g0, g1, g2⟩ := G wr HB.out
        simp only [Bool.false_eq_true, if_false, if_true] at g0
        have SK0 : Hid (∀ wz, Below w.heap.size w wz → wz.cell? ⟨b, o, none⟩ = some (.int .i64 6) ∧ wz.cell? ⟨b, o + 1, none⟩ = some (.string nm) ∧ wz.cell? ⟨b, o + 2, none⟩ = some (.string vl)) := Lib.hid (fun wz hz => by have := G wz hz; simpa using this)
        clear G
        go_wp2_with fail
        refine CT.out.mono ?_
        rintro e w2 ⟨rfl, b2⟩
        have B2 := Lib.hid (HB.out.trans (b2.mono hbr))
        have O2 := Lib.hid (HO.out.below b2 (Nat.le_refl _))
        have hbz : w.heap.size ≤ w2.heap.size := B2.out.size
        clear b2 CT HB HO g0 g1 g2
        obtain ⟨g0, g1, g2⟩ := SK0.out w2 B2.out
        have SK := SK0.out w2 B2.out
        go_upto_region 3 with fail
        go_region_held3 (fun w' => w'.cell? ⟨b, o, none⟩ = some (.int .i64 6) ∧ w'.cell? ⟨b, o + 1, none⟩ = some (.string nm) ∧ w'.cell? ⟨b, o + 2, none⟩ = some (.string vl)) (first | go_keep | exact SK) ((first
          | (refine kA.step_app rfl (.tmp 15) (.tmp 30) rfl (v := .slice A' n' c') (l := dn) (m := [⟨nm, vl, true⟩]) (B := w.heap.size) rfl (by repeat (first | exact O2.out | refine Kind.Own.alloc ?_ _ | refine Kind.Own.drewN ?_ _ | refine Kind.Own.drew ?_)) rfl rfl (fun e => by cases e) (Kind.Holds.lit (by first | exact heap_alloc_new _ _ | exact heap_drew (heap_top rfl) | exact heap_top rfl) rfl) (by omega) (by have := B2.out.size; simp; omega) ?_; intro v' w12 hown' hgrow hat; obtain ⟨A6, n6, c6, rfl, _, _, _, _, _⟩ := hown'.slice; have O6 := Lib.hid hown'; have B6 : Hid (Below w.heap.size w w12) := Lib.hid (Below.grown (by first | exact (B2.out.alloc B2.out.size _).drew | exact B2.out.alloc B2.out.size _ | exact (B2.out.drew).alloc (by simpa using B2.out.size) _) hgrow (by have := B2.out.size; simp; omega) (fun i hi => (O2.out.lt hi).1)); have SK := SK0.out w12 B6.out; clear hown' hgrow hat)
          | fail))
        clear SK SK0 g0 g1 g2 B2 O2
        by_cases hcap : c = 1
        · have HR1 := Lib.hid (hR1.out hcap)
          subst hcap
          obtain rfl : n = 1 := by omega
          clear hR1 hR2
          go_wp2_with fail
          go_roundw
          case rel => exact ⟨dn ++ [⟨nm, vl, true⟩], td, _, 0, 0, A6, n6, c6, rfl, rfl, HA2, HR1, O6, Lib.hid (by simp; omega), B6⟩
          case measure => exact Nat.one_pos
        · have HR2 := Lib.hid (hR2.out hcap)
          have hcq : ¬ c - 1 = 0 := by omega
          clear hR1 hR2
          go_wp2_with fail
          go_roundw
          case rel => exact ⟨dn ++ [⟨nm, vl, true⟩], td, _, n - 1, c - 1, A6, n6, c6, rfl, rfl, HA2, HR2, O6, Lib.hid (by simp; omega), B6⟩
          case measure => exact Nat.sub_lt h0 Nat.one_pos
end Go.Proofs.Ytfjnbjpenibpkaa.P14
