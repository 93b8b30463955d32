/- What placketref11.Put answers, of instructions that may be. No condition but those stated. -/
import Derived.Test.YtmddlcnogckmdaaRcode12
set_option linter.unusedVariables false
set_option linter.unusedSimpArgs false
namespace Go.Proofs.Ytmddlcnogckmdaa.P12
open Go.RowKit Kd P4 P11

theorem insH_len {i : In} (h : mayI i = true) : (insH i).length ≤ 123 := by
  obtain ⟨h1, h2, _⟩ := may_small h
  have ea := len_size i.a
  have eb := len_size i.b
  simp only [insH, List.length_cons, List.length_append]
  split <;> split <;> simp [textH] <;> omega
theorem putI_len : ∀ {l : List In}, (∀ i ∈ l, mayI i = true) → (putI l).length ≤ 123 * l.length
  | [], _ => by simp [putI]
  | i :: l, h => by
    have h1 := insH_len (h i (by simp))
    have h2 := putI_len (l := l) (fun k hk => h k (by simp [hk]))
    rw [putI_cons, List.length_append, List.length_cons]
    omega
theorem putI_snoc {l : List In} {k : Nat} (h : k < l.length) : putI (l.take (k + 1)) = putI (l.take k) ++ insH l[k] := by
  rw [List.take_add_one, List.getElem?_eq_getElem h]
  unfold putI
  rw [List.flatMap_append]
  simp
def PRel (w : World) (l : List In) (n : Nat) (s3 s4 : Value) (wr : World) : Prop := ∃ (k : Nat) (A' : Option Addr) (n' c' : Nat), k ≤ n ∧ s4 = .int .i64 k ∧ s3 = .slice A' n' c' ∧ Hid (kB.Own wr w.heap.size (.slice A' n' c') (putI (l.take k))) ∧ Hid (Below w.heap.size w wr)
theorem own_len {w : World} {B : Nat} {A : Option Addr} {n c : Nat} {l : List UInt8} (h : kB.Own w B (.slice A n c) l) : l.length = n ∧ (A = none → c = 0) ∧ kB.Holds w w.heap.size A l := by
  obtain ⟨A', n', c', hv, e1, e2, e3, e4, e5⟩ := h.slice
  injection hv with h1 h2 h3
  subst h1; subst h2; subst h3
  exact ⟨e1, e4, e5⟩
theorem below_app {w w1 w4 : World} {B : Nat} {A : Option Addr} {n c : Nat} {l : List UInt8} {o : Obj} (hb : Below B w w1) (hown : kB.Own w1 B (.slice A n c) l) (hB : B ≤ w1.heap.size) (hg : (w1.alloc o).grownBy w4 (Value.slice A n c).ownBlock) : Below B w w4 :=
  (hb.alloc hB o).grown hg (by simp; omega) (fun k hk => (hown.lt hk).1)
theorem below_app0 {w w1 w4 : World} {B : Nat} {A : Option Addr} {n c : Nat} {l : List UInt8} (hb : Below B w w1) (hown : kB.Own w1 B (.slice A n c) l) (hB : B ≤ w1.heap.size) (hg : w1.grownBy w4 (Value.slice A n c).ownBlock) : Below B w w4 :=
  hb.grown hg hB (fun k hk => (hown.lt hk).1)
set_option maxRecDepth 100000 in
set_option maxHeartbeats 4000000 in
theorem rput_any (l : List In) (A : Option Addr) (n c : Nat) (w : World) (hh : kX.Holds w w.heap.size A l) (hn : l.length = n) (hl : n ≤ 1000) (hm : ∀ i ∈ l, mayI i = true) : Calls Try.prog 10 #[.slice A n c] w (Bv w (putI l)) := by
  have KH := Lib.hid hh
  have KL := Lib.hid hn
  have HM := Lib.hid hm
  have PL : Hid (∀ k, (putI (l.take k)).length ≤ 123000) := Lib.hid (fun k => by
    have := putI_len (l := l.take k) (fun i hi => hm i (List.mem_of_mem_take hi))
    rw [List.length_take] at this
    omega)
  have ST : Hid (PRel w l n (.slice none 0 0) (.int .i64 0) w) := Lib.hid ⟨0, none, 0, 0, by omega, rfl, rfl, Lib.hid (Kind.Own.nil kB w _), Lib.hid (Below.refl _ _)⟩
  clear hh hn hm
  go_enter Try.func10, Try.ntmps10
  go_wp2_with fail
  go_loopw [3, 4] (fun s3 s4 wr => PRel w l n s3 s4 wr) (fun _ s4 _ => n - (intOf s4).toNat)
  case atStart => exact ST.out
  case round =>
    obtain ⟨k, A', n', c', hk, rfl, rfl, HO, HB⟩ := hrel
    clear ST
    by_cases hkn : k < n
    · have hkl : k < l.length := by have := KL.out; omega
      obtain ⟨b, o, rfl, hb, g0', g1', g2'⟩ := cell_of_ins KH.out hkl
      have SN : Hid (putI (l.take (k + 1)) = putI (l.take k) ++ insH l[k]) := Lib.hid (putI_snoc hkl)
      have hmk := HM.out l[k] (List.getElem_mem hkl)
      have P1l := PL.out k
      have P2l := PL.out (k + 1)
      have G : Hid (∀ wz, Below w.heap.size w wz → wz.cell? ⟨b, o + k * 3, none⟩ = some (.int .i64 l[k].op) ∧ wz.cell? ⟨b, o + k * 3 + 1, none⟩ = some (.string l[k].a) ∧ wz.cell? ⟨b, o + k * 3 + 2, none⟩ = some (.string l[k].b)) := Lib.hid (fun wz h => ⟨(h.cell hb).trans g0', (h.cell hb).trans g1', (h.cell hb).trans g2'⟩)
      obtain ⟨g0, g1, g2⟩ := G.out wr HB.out
      clear g0' g1' g2'
      generalize l[k] = d at g0 g1 g2 SN hmk G
      obtain ⟨z1, z2, z3, z4, _, _⟩ := may_small hmk
      have hby := byteOf_nat z3 z4
      have HOP : Hid (insH d = byteOf d.op :: ((if 0 < textsN d.op then textH d.a else []) ++ (if 1 < textsN d.op then textH d.b else []))) := Lib.hid rfl
      have hwr : IntKind.u8.wrap d.op = d.op := by
        simp [IntKind.wrap, IntKind.bits, IntKind.signed]
        omega
      generalize putI (l.take k) = acc at HO P1l SN
      rw [SN.out] at P2l
      obtain ⟨op, a, bb⟩ := d
      simp only at g0 g1 g2 z1 z2 z3 z4 hby HOP hwr G
      have hB0 := HB.out.size
      have OI := own_len HO.out
      have HBY := Lib.hid hby
      have LD : Hid (kB.Holds (wr.alloc (.cells #[.int .u8 op] 5)) (wr.heap.size + 1) (some ⟨wr.heap.size, 0, none⟩) [byteOf op]) := Lib.hid (Kind.Holds.lit (heap_alloc_new wr _) (by simp [Kind.cells, kB, hby]))
      clear hby OI
      go_upto_region 6 with (at_builtin; refine kB.wp_app rfl _ _ rfl (v := .slice A' n' c') (l := acc) (m := [byteOf op]) (B := w.heap.size) rfl (HO.out.alloc _) rfl rfl (fun e => by cases e) LD.out (by simp; omega) (by simp; omega) ?_; intro v' w4 hown' hgrow hat; obtain ⟨A4, n4, c4, rfl, e1, e2, e3, e4, e5⟩ := hown'.slice; have B4 : Hid (Below w.heap.size w w4) := Lib.hid (below_app HB.out HO.out hB0 hgrow); have O4 := Lib.hid hown'; clear hown' hgrow hat e1 e2 e3 e4 e5)
      clear LD hwr g0 g1 g2
      have hta : (textH a).length ≤ 300 := by rw [textH, List.length_cons, len_size]; omega
      obtain ⟨g0, g1, g2⟩ := G.out w4 B4.out
      rcases textsN_cases op with e | e | e
      · go_wp2_with fail
        refine (texts_any op w4).mono ?_
        rintro e w' ⟨rfl, rfl⟩
        rw [e]
        go_wp2_with fail
        refine (texts_any op w4).mono ?_
        rintro e w' ⟨rfl, rfl⟩
        rw [e]
        go_wp2_with fail
        go_roundw
        case rel => exact ⟨k + 1, A4, n4, c4, by omega, by go_num, rfl, Lib.hid (by rw [SN.out, HOP.out, e]; simpa using O4.out), B4⟩
        case measure => simp [intOf]; omega
      · go_wp2_with fail
        refine (texts_any op w4).mono ?_
        rintro e w' ⟨rfl, rfl⟩
        rw [e]
        go_wp2_with fail
        refine (text_any a w4 (by omega)).mono ?_
        rintro e w5 ⟨At4, nt4, ct4, rfl, ot, bt⟩
        have OT := own_len ot
        have O5 := Lib.hid (O4.out.below bt (Nat.le_refl _))
        have B5 := Lib.hid (B4.out.trans (bt.mono B4.out.size))
        have hb5 := B5.out.size
        have TL : Hid ((textH a).length = nt4) := Lib.hid OT.1
        have TN : Hid (At4 = none → ct4 = 0) := Lib.hid OT.2.1
        have TH : Hid (kB.Holds w5 w5.heap.size At4 (textH a)) := Lib.hid OT.2.2
        have hnt4 : nt4 ≤ 300 := by
          have h := OT.1
          rw [textH, List.length_cons, len_size] at h
          omega
        clear ot bt OT g0 g1 g2
        go_upto_region 8 with (at_builtin; refine kB.wp_app rfl _ _ rfl (v := .slice A4 n4 c4) (l := acc ++ [byteOf op]) (m := textH a) (B := w.heap.size) rfl O5.out rfl TL.out TN.out TH.out (by simp only [List.length_append, List.length_cons, List.length_nil]; omega) hb5 ?_; intro v' w6 hown' hgrow hat; obtain ⟨A6, n6, c6, rfl, e1, e2, e3, e4, e5⟩ := hown'.slice; have B6 : Hid (Below w.heap.size w w6) := Lib.hid (below_app0 B5.out O5.out hb5 hgrow); have O6 := Lib.hid hown'; clear hown' hgrow hat e1 e2 e3 e4 e5 TL TN TH)
        obtain ⟨g0, g1, g2⟩ := G.out w6 B6.out
        go_wp2_with fail
        refine (texts_any op w6).mono ?_
        rintro e w' ⟨rfl, rfl⟩
        rw [e]
        go_wp2_with fail
        go_roundw
        case rel => exact ⟨k + 1, A6, n6, c6, by omega, by go_num, rfl, Lib.hid (by rw [SN.out, HOP.out, e]; simpa using O6.out), B6⟩
        case measure => simp [intOf]; omega
      · go_wp2_with fail
        refine (texts_any op w4).mono ?_
        rintro e w' ⟨rfl, rfl⟩
        rw [e]
        go_wp2_with fail
        refine (text_any a w4 (by omega)).mono ?_
        rintro e w5 ⟨At4, nt4, ct4, rfl, ot, bt⟩
        have OT := own_len ot
        have O5 := Lib.hid (O4.out.below bt (Nat.le_refl _))
        have B5 := Lib.hid (B4.out.trans (bt.mono B4.out.size))
        have hb5 := B5.out.size
        have TL : Hid ((textH a).length = nt4) := Lib.hid OT.1
        have TN : Hid (At4 = none → ct4 = 0) := Lib.hid OT.2.1
        have TH : Hid (kB.Holds w5 w5.heap.size At4 (textH a)) := Lib.hid OT.2.2
        have hnt4 : nt4 ≤ 300 := by
          have h := OT.1
          rw [textH, List.length_cons, len_size] at h
          omega
        clear ot bt OT g0 g1 g2
        go_upto_region 8 with (at_builtin; refine kB.wp_app rfl _ _ rfl (v := .slice A4 n4 c4) (l := acc ++ [byteOf op]) (m := textH a) (B := w.heap.size) rfl O5.out rfl TL.out TN.out TH.out (by simp only [List.length_append, List.length_cons, List.length_nil]; omega) hb5 ?_; intro v' w6 hown' hgrow hat; obtain ⟨A6, n6, c6, rfl, e1, e2, e3, e4, e5⟩ := hown'.slice; have B6 : Hid (Below w.heap.size w w6) := Lib.hid (below_app0 B5.out O5.out hb5 hgrow); have O6 := Lib.hid hown'; clear hown' hgrow hat e1 e2 e3 e4 e5 TL TN TH)
        obtain ⟨g0, g1, g2⟩ := G.out w6 B6.out
        go_wp2_with fail
        refine (texts_any op w6).mono ?_
        rintro e w' ⟨rfl, rfl⟩
        rw [e]
        go_wp2_with fail
        refine (text_any bb w6 (by omega)).mono ?_
        rintro e w7 ⟨At6, nt6, ct6, rfl, ot, bt⟩
        have OT := own_len ot
        have O7 := Lib.hid (O6.out.below bt (Nat.le_refl _))
        have B7 := Lib.hid (B6.out.trans (bt.mono B6.out.size))
        have hb7 := B7.out.size
        have TL : Hid ((textH bb).length = nt6) := Lib.hid OT.1
        have TN : Hid (At6 = none → ct6 = 0) := Lib.hid OT.2.1
        have TH : Hid (kB.Holds w7 w7.heap.size At6 (textH bb)) := Lib.hid OT.2.2
        have hnt6 : nt6 ≤ 300 := by
          have h := OT.1
          rw [textH, List.length_cons, len_size] at h
          omega
        clear ot bt OT g0 g1 g2
        go_upto_region 4 with (at_builtin; refine kB.wp_app rfl _ _ rfl (v := .slice A6 n6 c6) (l := acc ++ [byteOf op] ++ textH a) (m := textH bb) (B := w.heap.size) rfl O7.out rfl TL.out TN.out TH.out (by simp only [List.length_append, List.length_cons, List.length_nil]; omega) hb7 ?_; intro v' w8 hown' hgrow hat; obtain ⟨A8, n8, c8, rfl, e1, e2, e3, e4, e5⟩ := hown'.slice; have B8 : Hid (Below w.heap.size w w8) := Lib.hid (below_app0 B7.out O7.out hb7 hgrow); have O8 := Lib.hid hown'; clear hown' hgrow hat e1 e2 e3 e4 e5 TL TN TH)
        obtain ⟨g0, g1, g2⟩ := G.out w8 B8.out
        go_wp2_with fail
        go_roundw
        case rel => exact ⟨k + 1, A8, n8, c8, by omega, by go_num, rfl, Lib.hid (by rw [SN.out, HOP.out, e]; simpa using O8.out), B8⟩
        case measure => simp [intOf]; omega
    · obtain rfl : k = n := by omega
      go_wp2_with fail
      go_ret
      exact ⟨A', n', c', rfl, by have := HO.out; rwa [List.take_of_length_le (by have := KL.out; omega)] at this, HB.out⟩
end Go.Proofs.Ytmddlcnogckmdaa.P12
