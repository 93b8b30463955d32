/- What placketref11.end answers, of what is wanted in a program. No condition but those stated. -/
import Derived.Test.YtgpbgimobcdogaaM16
import Derived.Test.YtgpbgimobcdogaaM18
set_option linter.unusedVariables false
set_option linter.unusedSimpArgs false
set_option linter.unusedVariables false
set_option linter.unusedSimpArgs false
namespace Go.Proofs.Ytgpbgimobcdogaa.P14
open Go.RowKit Kd P4 P5 P11 P12 P13

theorem at_pre {pre X l : List In} (he : l = pre ++ X) {i : Nat} (h : pre.length + i < l.length) (h' : i < X.length) : l[pre.length + i] = X[i] := by
  subst he
  rw [List.getElem_append_right (by omega)]
  congr 1
  omega
theorem ds_step {l : List In} {m : Nat} (h : m < l.length) : ds (l.take (m + 1)) = ds (l.take m) + deltaO l[m].op := by
  rw [List.take_add_one, List.getElem?_eq_getElem h, ds_append]
  simp [ds]
set_option maxRecDepth 100000 in
set_option maxHeartbeats 4000000 in
theorem rend_void (l : List In) (A : Option Addr) (n c p q : Nat) (w : World) (hh : kX.Holds w w.heap.size A l) (hn : l.length = n) (hl : n ≤ 1000) (hp : p < l.length) (ho : l[p].op = 3) (hq : p + q < n)
    (ht : ∀ i (h : p + i < l.length), 1 ≤ i → i ≤ q → tellsO l[p + i].op = true) (hlast : ∀ (h : p + q + 1 < l.length), tellsO l[p + q + 1].op = false) :
    Calls Try.prog 23 #[.slice A n c, .int .i64 p] w fun e w' => e = .returned (.int .i64 ((p + q : Nat) : Int)) ∧ w = w' := by
  have KH := Lib.hid hh
  have KL := Lib.hid hn
  have HT := Lib.hid ht
  have HL := Lib.hid hlast
  obtain ⟨b, o, rfl, hb, g0, _, _⟩ := cell_of_ins hh hp
  rw [ho] at g0
  have hpn : p < n := by omega
  clear hh ht hlast ho hn
  go_enter Try.func23, Try.ntmps23
  go_wp2_with fail
  clear g0
  go_loopw [1] (fun s wr => ∃ (m : Nat), m ≤ q ∧ s = .int .i64 ((p + m : Nat) : Int) ∧ Hid (w = wr)) (fun s _ => p + q - (intOf s).toNat)
  case atStart => exact ⟨0, by omega, rfl, Lib.hid rfl⟩
  case round =>
    obtain ⟨m, hm, rfl, HE⟩ := hrel
    obtain rfl := HE.out
    obtain ⟨i, hi⟩ : ∃ i, p + m = i := ⟨_, rfl⟩
    have HI := Lib.hid hi
    rw [hi]
    have hin : i ≤ n := by omega
    by_cases hmq : m < q
    · have hil : i + 1 < l.length := by have := KL.out; omega
      have hlt : i + 1 < n := by omega
      obtain ⟨b', o', hbo, _, g0, _, _⟩ := cell_of_ins KH.out hil
      injection hbo with hbo
      injection hbo with e1 e2 _
      subst e1; subst e2
      have ht := HT.out (m + 1) (by have := HI.out; omega) (by omega) (by omega)
      have e : l[p + (m + 1)]'(by omega) = l[i + 1] := by congr 1; omega
      rw [e] at ht
      have HTB := Lib.hid ht
      have HI2 : Hid (p + (m + 1) = i + 1) := Lib.hid (by omega)
      clear ht e hi
      generalize l[i + 1] = d at g0 HTB
      obtain ⟨op, a, bb⟩ := d
      simp only at g0 HTB
      go_wp2_with fail
      refine (tellsO_any op w).mono ?_
      rintro e w' ⟨rfl, rfl⟩
      rw [HTB.out]
      go_wp2_with fail
      go_roundw
      case rel => exact ⟨m + 1, by omega, by rw [HI2.out]; go_num, by first | exact Lib.hid rfl | exact Lib.hid trivial⟩
      case measure => (simp [intOf]; have := HI.out; omega)
    · obtain rfl : m = q := by omega
      have HR : Hid (p + m = i) := HI
      by_cases hlt : i + 1 < n
      · have hil : i + 1 < l.length := by have := KL.out; omega
        obtain ⟨b', o', hbo, _, g0, _, _⟩ := cell_of_ins KH.out hil
        injection hbo with hbo
        injection hbo with e1 e2 _
        subst e1; subst e2
        have ht := HL.out (by have := HI.out; omega)
        have e : l[p + m + 1]'(by omega) = l[i + 1] := by congr 1; omega
        rw [e] at ht
        have HTB := Lib.hid ht
        clear ht e hi
        generalize l[i + 1] = d at g0 HTB
        obtain ⟨op, a, bb⟩ := d
        simp only at g0 HTB
        go_wp2_with fail
        refine (tellsO_any op w).mono ?_
        rintro e w' ⟨rfl, rfl⟩
        rw [HTB.out]
        go_wp2_with fail
        go_ret
        exact ⟨by first | (rw [HR.out]; rfl) | (rw [show ((p : Int) + (m : Int)) = (i : Int) by have := HR.out; omega]; rfl), rfl⟩
      · clear hi
        go_wp2_with fail
        go_ret
        exact ⟨by first | (rw [HR.out]; rfl) | (rw [show ((p : Int) + (m : Int)) = (i : Int) by have := HR.out; omega]; rfl), rfl⟩
set_option maxRecDepth 100000 in
set_option maxHeartbeats 4000000 in
theorem rend_open (l : List In) (A : Option Addr) (n c p : Nat) (L : List In) (w : World) (hh : kX.Holds w w.heap.size A l) (hn : l.length = n) (hl : n ≤ 1000) (ho : ∀ (h : p < l.length), l[p].op = 1) (hpl : p + L.length ≤ n) (hL : 1 ≤ L.length)
    (hX : ∀ i (h : p + i < l.length) (h' : i < L.length), l[p + i] = L[i]) (h0 : ds L = 0) (h1 : ∀ i, 1 ≤ i → i < L.length → 1 ≤ ds (L.take i)) :
    Calls Try.prog 23 #[.slice A n c, .int .i64 p] w fun e w' => e = .returned (.int .i64 ((p + L.length - 1 : Nat) : Int)) ∧ w = w' := by
  have KH := Lib.hid hh
  have KL := Lib.hid hn
  have HX := Lib.hid hX
  have H0 := Lib.hid h0
  have H1 := Lib.hid h1
  obtain ⟨N, hN⟩ : ∃ N, L.length = N := ⟨_, rfl⟩
  have HN := Lib.hid hN
  rw [hN] at hpl hL
  have hpn : p < n := by omega
  have hpl2 : p < l.length := by omega
  obtain ⟨b, o, rfl, hb, g0, _, _⟩ := cell_of_ins hh hpl2
  rw [ho hpl2] at g0
  clear hh hn hX h0 h1 ho hN
  go_enter Try.func23, Try.ntmps23
  go_wp2_with fail
  clear g0
  go_loopw [5, 6] (fun s5 s6 wr => ∃ (m : Nat) (dp : Int), m < N ∧ s6 = .int .i64 ((p + m : Nat) : Int) ∧ s5 = .int .i64 dp ∧ Hid (dp = ds (L.take m)) ∧ Hid (w = wr)) (fun _ s6 _ => p + N - (intOf s6).toNat)
  case atStart => exact ⟨0, 0, by omega, rfl, rfl, Lib.hid rfl, Lib.hid rfl⟩
  case round =>
    obtain ⟨m, dp, hm, rfl, rfl, HD, HE⟩ := hrel
    obtain rfl := HE.out
    obtain ⟨i, hi⟩ : ∃ i, p + m = i := ⟨_, rfl⟩
    have HI := Lib.hid hi
    rw [hi]
    have hin : i < n := by omega
    have hil : i < l.length := by have := KL.out; omega
    have hml : m < L.length := by have := HN.out; omega
    have hbd := ds_bound (L.take m)
    rw [List.length_take, ← HD.out] at hbd
    have hd1 : -1000 ≤ dp := by omega
    have hd2 : dp ≤ 1000 := by omega
    obtain ⟨b', o', hbo, _, g0, _, _⟩ := cell_of_ins KH.out hil
    injection hbo with hbo
    injection hbo with e1 e2 _
    subst e1; subst e2
    have e : l[i] = L[m] := by
      have := HX.out m (by have := HI.out; omega) hml
      rw [← this]
      congr 1
      omega
    have SN : Hid (ds (L.take (m + 1)) = dp + deltaO l[i].op) := Lib.hid (by rw [ds_step hml, HD.out, e])
    have HI2 : Hid (p + (m + 1) = i + 1) := Lib.hid (by omega)
    clear e hi hbd
    generalize l[i] = d at g0 SN
    obtain ⟨op, a, bb⟩ := d
    simp only at g0 SN
    by_cases hmN : m + 1 = N
    · have Z : Hid (dp + deltaO op = 0) := Lib.hid (by
        rw [← SN.out, List.take_of_length_le (by have := HN.out; omega)]
        exact H0.out)
      have HR : Hid (p + L.length - 1 = i) := Lib.hid (by have := HN.out; have := HI.out; omega)
      by_cases h1 : op = 1
      · subst h1
        have z : dp + 1 = 0 := by have := Z.out; simpa [deltaO] using this
        obtain rfl : dp = -1 := by omega
        clear z
        go_wp2_with fail
        go_ret
        exact ⟨by first | (rw [HR.out]; rfl) | (rw [show ((p : Int) + (m : Int)) = (i : Int) by have := HR.out; omega]; rfl), rfl⟩
      · have q1 := int_ne h1
        by_cases h2 : op = 2
        · subst h2
          have z : dp + -1 = 0 := by have := Z.out; simpa [deltaO] using this
          obtain rfl : dp = 1 := by omega
          clear z
          go_wp2_with fail
          go_ret
          exact ⟨by first | (rw [HR.out]; rfl) | (rw [show ((p : Int) + (m : Int)) = (i : Int) by have := HR.out; omega]; rfl), rfl⟩
        · have q2 := int_ne h2
          have z : dp + 0 = 0 := by have := Z.out; simpa [deltaO, h1, h2] using this
          obtain rfl : dp = 0 := by omega
          clear z
          go_wp2_with fail
          go_ret
          exact ⟨by first | (rw [HR.out]; rfl) | (rw [show ((p : Int) + (m : Int)) = (i : Int) by have := HR.out; omega]; rfl), rfl⟩
    · have Z : Hid (1 ≤ dp + deltaO op) := Lib.hid (by
        rw [← SN.out]
        exact H1.out (m + 1) (by omega) (by have := HN.out; omega))
      by_cases h1 : op = 1
      · subst h1
        have z : 1 ≤ dp + 1 := by have := Z.out; simpa [deltaO] using this
        have qz : (dp + 1 == 0) = false := by simp; omega
        go_wp2_with fail
        go_roundw
        case rel => exact ⟨m + 1, dp + 1, by omega, by rw [HI2.out]; go_num, by first | rfl | go_num, Lib.hid (by rw [SN.out]; rfl), by first | exact Lib.hid rfl | exact Lib.hid trivial⟩
        case measure => (simp [intOf]; have := HI.out; omega)
      · have q1 := int_ne h1
        by_cases h2 : op = 2
        · subst h2
          have z : 1 ≤ dp + -1 := by have := Z.out; simpa [deltaO] using this
          have qz : (dp - 1 == 0) = false := by simp; omega
          go_wp2_with fail
          go_roundw
          case rel => exact ⟨m + 1, dp - 1, by omega, by rw [HI2.out]; go_num, by first | rfl | go_num, Lib.hid (by rw [SN.out]; rfl), by first | exact Lib.hid rfl | exact Lib.hid trivial⟩
          case measure => (simp [intOf]; have := HI.out; omega)
        · have q2 := int_ne h2
          have z : 1 ≤ dp + 0 := by have := Z.out; simpa [deltaO, h1, h2] using this
          have qz : (dp == 0) = false := by simp; omega
          go_wp2_with fail
          go_roundw
          case rel => exact ⟨m + 1, dp, by omega, by rw [HI2.out]; go_num, by first | rfl | go_num, Lib.hid (by rw [SN.out]; simp [deltaO, h1, h2]), by first | exact Lib.hid rfl | exact Lib.hid trivial⟩
          case measure => (simp [intOf]; have := HI.out; omega)
end Go.Proofs.Ytgpbgimobcdogaa.P14
