/- What placketref11.wrong and Check answer. No condition but those stated. -/
import Derived.Test.YtgpbgimobcdogaaM26
set_option linter.unusedVariables false
set_option linter.unusedSimpArgs false
set_option linter.unusedVariables false
set_option linter.unusedSimpArgs false
namespace Go.Proofs.Ytgpbgimobcdogaa.P13
open Go.RowKit Kd P4 P5 P11 P12

theorem ownX_of {w : World} {D : Nat} {A : Option Addr} {n c : Nat} {l : List In} (h : kX.Own w D (.slice A n c) l) : l.length = n ∧ n ≤ c ∧ c ≤ maxLen ∧ (A = none → c = 0) ∧ kX.Holds w w.heap.size A l := by
  obtain ⟨A', n', c', hv, e1, e2, e3, e4, e5⟩ := h.slice
  injection hv with h1 h2 h3
  subst h1; subst h2; subst h3
  exact ⟨e1, e2, e3, e4, e5⟩
theorem any_succ {α : Type} {l : List α} {p : α → Bool} {i : Nat} (h : i < l.length) : (l.take (i + 1)).any p = ((l.take i).any p || p l[i]) := by
  rw [List.take_add_one, List.getElem?_eq_getElem h, List.any_append]
  simp
theorem any_at {α : Type} {l : List α} {p : α → Bool} {i : Nat} (h : i < l.length) (hp : p l[i] = true) : l.any p = true := by
  rw [List.any_eq_true]
  exact ⟨_, List.getElem_mem h, hp⟩
def sevenB (y : In) : Bool := decide (y.op = 7)
def WgRel (w : World) (m : List In) (d : In) (s10 s11 : Value) (wr : World) : Prop := ∃ (i : Nat) (key : Bool), i ≤ m.length ∧ s11 = .int .i64 i ∧ s10 = .bool key ∧ Hid (key = (m.take i).any (keyB d)) ∧ Hid ((m.take i).any sevenB = false) ∧ Hid (Below w.heap.size w wr)
set_option maxRecDepth 100000 in
set_option maxHeartbeats 4000000 in
theorem wrong_any (l : List In) (A : Option Addr) (n c k : Nat) (w : World) (hh : kX.Holds w w.heap.size A l) (hn : l.length = n) (hk : k < l.length) (hl : n ≤ 1000) (hs : ∀ i ∈ l, i.a.size ≤ 300 ∧ i.b.size ≤ 300) :
    Calls Try.prog 20 #[.slice A n c, .int .i64 k] w fun e w' => e = .returned (.int .i64 (wrongP l k : Nat)) ∧ Below w.heap.size w w' := by
  have KH := Lib.hid hh
  have KL := Lib.hid hn
  have hkn : k < n := by omega
  obtain ⟨b, o, rfl, hb, g0, g1, g2⟩ := cell_of_ins hh hk
  have HW : Hid (wrongP l k = wrongAt l k l[k]) := Lib.hid (by rw [wrongP, List.getElem?_eq_getElem hk])
  have CA : Hid (∀ w9, Below w.heap.size w w9 → Calls Try.prog 34 #[.slice (some ⟨b, o, none⟩) n c, .int .i64 k] w9 fun e w' => e = .returned (.int .i64 (attrD l l[k].a.toList k 0 : Nat)) ∧ Below w9.heap.size w9 w') := Lib.hid (fun w9 h => attr_any l _ n c k w9 (hh.on h) hn hk hl)
  have CB : Hid (∀ w9, Below w.heap.size w w9 → Calls Try.prog 21 #[.slice (some ⟨b, o, none⟩) n c, .int .i64 k] w9 fun e w' => e = .returned (.tuple #[.int .i64 (beginP l k).1, .int .i64 ((beginP l k).2 : Nat)]) ∧ Below w9.heap.size w9 w') := Lib.hid (fun w9 h => begin_any l _ n c k w9 (hh.on h) hn (by omega) hl)
  have CH : Hid (∀ w9, Below w.heap.size w w9 → Calls Try.prog 35 #[.slice (some ⟨b, o, none⟩) n c, .int .i64 k] w9 (Iv w9 (aheadP l k))) := Lib.hid (fun w9 h => ahead_any l _ n c k w9 (hh.on h) hn (by omega) hl)
  have hsk := hs _ (List.getElem_mem hk)
  have hdep : (beginP l k).2 ≤ 1000 := by rw [beginP_snd]; have := opensK_len l k; omega
  have hal : (aheadP l k).length ≤ 1000 := by
    obtain ⟨f, hf, hfk⟩ := beginP_fst l k
    rw [← aheadK_all hf]
    have := (aheadK_len l f (k - f)).1
    omega
  have CM : Hid (∀ w9, Calls Try.prog 33 #[.agg #[.int .i64 l[k].op, .string l[k].a, .string l[k].b]] w9 fun e w' => e = .returned (.bool (mayI l[k])) ∧ Below w9.heap.size w9 w') := Lib.hid (fun w9 => rmayI_any l[k] w9 (by unfold maxLen; omega) (by unfold maxLen; omega))
  generalize l[k] = d at g0 g1 g2 HW CA CM
  have HBP := Lib.hid (rfl : beginP l k = beginP l k)
  obtain ⟨bp, hbp⟩ : ∃ p, beginP l k = p := ⟨_, rfl⟩
  obtain ⟨bf, bd⟩ := bp
  rw [hbp] at CB hdep
  obtain ⟨m, hm⟩ : ∃ m, aheadP l k = m := ⟨_, rfl⟩
  rw [hm] at CH hal
  have HW2 : Hid (wrongP l k = if mayI d = false then 7 else if tellsO d.op then attrD l d.a.toList k 0 else if d.op = 2 then (if bd = 0 then 8 else 0) else if m.any sevenB then 11 else if makesO d.op && !d.b.toList.isEmpty && m.any (keyB d) then 10 else if d.op = 1 ∧ 8 ≤ bd then 12 else 0) := Lib.hid (by
    rw [HW.out, wrongAt, hbp, hm]
    rfl)
  clear hh hn hk hs HW HBP hbp hm hsk
  simp only at CB hdep
  obtain ⟨op, a, bb⟩ := d
  simp only at g0 g1 g2 CA CM HW2
  generalize attrD l a.toList k 0 = ad at CA HW2
  go_enter Try.func20, Try.ntmps20
  go_upto_region 2 with fail
  have NA : Hid (XB (w.alloc (.cells #[.int .i64 op, .string a, .string bb] 40)) w.heap.size ⟨op, a, bb⟩) := Lib.hid (XB.new w ⟨op, a, bb⟩)
  have BA : Hid (Below w.heap.size w (w.alloc (.cells #[.int .i64 op, .string a, .string bb] 40))) := Lib.hid ((Below.refl _ _).alloc (Nat.le_refl _) _)
  generalize w.alloc (.cells #[.int .i64 op, .string a, .string bb] 40) = wa at NA BA ⊢
  clear g0 g1 g2
  have X : Hid (∀ w9, Below wa.heap.size wa w9 → w9.cell? ⟨w.heap.size, 0, none⟩ = some (.int .i64 op) ∧ w9.cell? ⟨w.heap.size, 1, none⟩ = some (.string a) ∧ w9.cell? ⟨w.heap.size, 2, none⟩ = some (.string bb)) := Lib.hid (fun w9 h => by
    have := NA.out.below h NA.out.lt
    exact ⟨this.c0, this.c1, this.c2⟩)
  obtain ⟨x0, x1, x2⟩ := X.out wa (Below.refl _ _)
  obtain ⟨mb, hmb⟩ : ∃ mb, mayI ⟨op, a, bb⟩ = mb := ⟨_, rfl⟩
  rw [hmb] at CM HW2
  clear hmb NA
  go_wp2_with fail
  refine (CM.out wa).mono ?_
  rintro e w2 ⟨rfl, b2⟩
  have D2 := Lib.hid b2
  have B2 : Hid (Below w.heap.size w w2) := Lib.hid (BA.out.trans (b2.mono BA.out.size))
  clear b2 x0 x1 x2
  obtain ⟨x0, x1, x2⟩ := X.out w2 D2.out
  cases mb with
  | false =>
    have HR : Hid (wrongP l k = 7) := Lib.hid (by rw [HW2.out, if_pos rfl])
    clear HW2
    go_wp2_with fail
    go_ret
    exact ⟨by rw [HR.out]; rfl, B2.out⟩
  | true =>
    obtain ⟨tb, htb⟩ : ∃ tb, tellsO op = tb := ⟨_, rfl⟩
    rw [htb] at HW2
    go_wp2_with fail
    refine (tellsO_any op w2).mono ?_
    rintro e w' ⟨rfl, rfl⟩
    rw [htb]
    cases tb with
    | true =>
      have HR : Hid (wrongP l k = ad) := Lib.hid (by rw [HW2.out, if_neg (by decide), if_pos rfl])
      clear HW2
      go_wp2_with fail
      refine (CA.out w2 B2.out).mono ?_
      rintro e w3 ⟨rfl, b3⟩
      have B3 := Lib.hid (B2.out.trans (b3.mono B2.out.size))
      clear b3
      go_wp2_with fail
      go_ret
      exact ⟨by rw [HR.out]; rfl, B3.out⟩
    | false =>
      have HW3 : Hid (wrongP l k = if op = 2 then (if bd = 0 then 8 else 0) else if m.any sevenB then 11 else if makesO op && !bb.toList.isEmpty && m.any (keyB ⟨op, a, bb⟩) then 10 else if op = 1 ∧ 8 ≤ bd then 12 else 0) := Lib.hid (by
        rw [HW2.out, if_neg (by decide), if_neg (by decide)])
      clear HW2 CA htb
      go_wp2_with fail
      refine (CB.out w2 B2.out).mono ?_
      rintro e w3 ⟨rfl, b3⟩
      have D3 : Hid (Below wa.heap.size wa w3) := Lib.hid (D2.out.trans (b3.mono D2.out.size))
      have B3 := Lib.hid (B2.out.trans (b3.mono B2.out.size))
      clear b3 x0 x1 x2
      obtain ⟨x0, x1, x2⟩ := X.out w3 D3.out
      simp only
      by_cases h2 : op = 2
      · subst h2
        by_cases h0 : bd = 0
        · subst h0
          have HR : Hid (wrongP l k = 8) := Lib.hid (by rw [HW3.out, if_pos rfl, if_pos rfl])
          go_wp2_with fail
          go_ret
          exact ⟨by rw [HR.out]; rfl, B3.out⟩
        · have q0 : ((bd : Int) == 0) = false := by simp; omega
          have HR : Hid (wrongP l k = 0) := Lib.hid (by rw [HW3.out, if_pos rfl, if_neg h0])
          go_wp2_with fail
          go_ret
          exact ⟨by rw [HR.out]; rfl, B3.out⟩
      · have q2 := int_ne h2
        have HW4 : Hid (wrongP l k = if m.any sevenB then 11 else if makesO op && !bb.toList.isEmpty && m.any (keyB ⟨op, a, bb⟩) then 10 else if op = 1 ∧ 8 ≤ bd then 12 else 0) := Lib.hid (by
          rw [HW3.out, if_neg h2])
        clear HW3 h2
        go_wp2_with fail
        refine (CH.out w3 B3.out).mono ?_
        rintro e w4 ⟨A4, n4, c4, rfl, own4, b4⟩
        have D4 : Hid (Below wa.heap.size wa w4) := Lib.hid (D3.out.trans (b4.mono D3.out.size))
        have B4 := Lib.hid (B3.out.trans (b4.mono B3.out.size))
        have OI := ownX_of own4
        have M1 := Lib.hid OI.1
        have M5 := Lib.hid OI.2.2.2.2
        have hn4 : n4 ≤ 1000 := by have := OI.1; omega
        clear b4 x0 x1 x2 own4 OI
        have ST : Hid (WgRel w4 m ⟨op, a, bb⟩ (.bool false) (.int .i64 0) w4) := Lib.hid ⟨0, false, by omega, rfl, rfl, Lib.hid (by simp), Lib.hid (by simp), Lib.hid (Below.refl _ _)⟩
        go_wp2_with fail
        go_loopw [10, 11] (fun s10 s11 wr => WgRel w4 m ⟨op, a, bb⟩ s10 s11 wr) (fun _ s11 _ => n4 - (intOf s11).toNat)
        case atStart => exact ST.out
        case round =>
          obtain ⟨i, key, hi, rfl, rfl, HK, HS, HB⟩ := hrel
          clear ST
          rw [M1.out] at hi
          have D5 : Hid (Below wa.heap.size wa wr) := Lib.hid (D4.out.trans (HB.out.mono D4.out.size))
          have B5 : Hid (Below w.heap.size w wr) := Lib.hid (B4.out.trans (HB.out.mono B4.out.size))
          by_cases hin : i < n4
          · have hil : i < m.length := by have := M1.out; omega
            obtain ⟨b', o', rfl, _, y0, y1, y2⟩ := cell_of_ins (M5.out.on HB.out) hil
            have S1 : Hid ((m.take (i + 1)).any sevenB = decide (m[i].op = 7)) := Lib.hid (by rw [any_succ hil, HS.out]; rfl)
            have K1 : Hid ((m.take (i + 1)).any (keyB ⟨op, a, bb⟩) = (key || keyB ⟨op, a, bb⟩ m[i])) := Lib.hid (by rw [any_succ hil, HK.out])
            have S7 : Hid (m[i].op = 7 → wrongP l k = 11) := Lib.hid (fun e => by rw [HW4.out, if_pos (any_at hil (by simp [sevenB, e]))])
            have hil' : i + 1 ≤ m.length := by omega
            have HIL := Lib.hid hil'
            clear hil'
            generalize m[i] = y at y0 y1 y2 S1 K1 S7
            obtain ⟨yo, ya, yb⟩ := y
            simp only at y0 y1 y2 S1 K1 S7
            go_upto_region 18 with fail
            have NY : Hid (XB (wr.alloc (.cells #[.int .i64 yo, .string ya, .string yb] 40)) wr.heap.size ⟨yo, ya, yb⟩) := Lib.hid (XB.new wr ⟨yo, ya, yb⟩)
            have BY : Hid (Below wr.heap.size wr (wr.alloc (.cells #[.int .i64 yo, .string ya, .string yb] 40))) := Lib.hid ((Below.refl _ _).alloc (Nat.le_refl _) _)
            generalize wr.alloc (.cells #[.int .i64 yo, .string ya, .string yb] 40) = wy at NY BY ⊢
            clear y0 y1 y2
            have y0 := NY.out.c0; have y1 := NY.out.c1; have y2 := NY.out.c2
            have HB6 := Lib.hid (HB.out.trans (BY.out.mono HB.out.size))
            have B6 := Lib.hid (B5.out.trans (BY.out.mono B5.out.size))
            obtain ⟨x0, x1, x2⟩ := X.out wy (D5.out.trans (BY.out.mono D5.out.size))
            by_cases h7 : yo = 7
            · subst h7
              have HR : Hid (wrongP l k = 11) := Lib.hid (S7.out rfl)
              go_wp2_with fail
              go_ret
              exact ⟨by rw [HR.out]; rfl, B6.out⟩
            · have q7 := int_ne h7
              have S2 : Hid ((m.take (i + 1)).any sevenB = false) := Lib.hid (by rw [S1.out]; simp [h7])
              clear S1 S7
              by_cases hmk : yo = 1 ∨ yo = 3
              · have K2 : Hid ((m.take (i + 1)).any (keyB ⟨op, a, bb⟩) = (key || (yb.toList == bb.toList))) := Lib.hid (by rw [K1.out, keyB]; simp only [makesO, decide_eq_true hmk, Bool.true_and])
                clear K1
                obtain ⟨qb, hqb⟩ : ∃ q, (yb.toList == bb.toList) = q := ⟨_, rfl⟩
                rw [hqb] at K2
                rcases hmk with rfl | rfl
                · cases key with
                  | true =>
                    go_wp2_with fail
                    go_roundw
                    case rel => exact ⟨i + 1, true, HIL.out, by go_num, rfl, Lib.hid K2.out.symm, S2, HB6⟩
                    case measure => simp [intOf]; omega
                  | false =>
                    go_wp2_with fail
                    go_roundw
                    case rel => exact ⟨i + 1, qb, HIL.out, by go_num, by first | rfl | simp, Lib.hid K2.out.symm, S2, HB6⟩
                    case measure => simp [intOf]; omega
                · cases key with
                  | true =>
                    go_wp2_with fail
                    go_roundw
                    case rel => exact ⟨i + 1, true, HIL.out, by go_num, rfl, Lib.hid K2.out.symm, S2, HB6⟩
                    case measure => simp [intOf]; omega
                  | false =>
                    go_wp2_with fail
                    go_roundw
                    case rel => exact ⟨i + 1, qb, HIL.out, by go_num, by first | rfl | simp, Lib.hid K2.out.symm, S2, HB6⟩
                    case measure => simp [intOf]; omega
              · have q1 : (yo == 1) = false := by simp; omega
                have q3 : (yo == 3) = false := by simp; omega
                have K2 : Hid ((m.take (i + 1)).any (keyB ⟨op, a, bb⟩) = key) := Lib.hid (by rw [K1.out, keyB]; simp [makesO, hmk])
                clear K1
                go_wp2_with fail
                go_roundw
                case rel => exact ⟨i + 1, key, HIL.out, by go_num, rfl, Lib.hid K2.out.symm, S2, HB6⟩
                case measure => simp [intOf]; omega
          · obtain rfl : i = n4 := by omega
            have HKA : Hid (key = m.any (keyB ⟨op, a, bb⟩)) := Lib.hid (by rw [HK.out, ← M1.out, List.take_length])
            have HW5 : Hid (wrongP l k = if makesO op && !bb.toList.isEmpty && key then 10 else if op = 1 ∧ 8 ≤ bd then 12 else 0) := Lib.hid (by
              have := HS.out
              rw [← M1.out, List.take_length] at this
              rw [HW4.out, if_neg (by rw [this]; decide), HKA.out])
            clear HW4 HK HS HKA
            obtain ⟨x0, x1, x2⟩ := X.out wr D5.out
            obtain ⟨eb, heb⟩ : ∃ q, bb.toList.isEmpty = q := ⟨_, rfl⟩
            rw [heb] at HW5
            have q8 : decide ((8 : Int) ≤ (bd : Int)) = decide (8 ≤ bd) := by congr 1; simp; omega
            by_cases h1 : op = 1
            · subst h1
              cases eb <;> cases key <;> by_cases h8 : 8 ≤ bd
              all_goals
                go_wp2_with fail
                go_ret
                exact ⟨by rw [HW5.out]; simp [makesO, h8], B5.out⟩
            · have q1 := int_ne h1
              by_cases h3 : op = 3
              · subst h3
                cases eb <;> cases key
                all_goals
                  go_wp2_with fail
                  go_ret
                  exact ⟨by rw [HW5.out]; simp [makesO], B5.out⟩
              · have q3 := int_ne h3
                go_wp2_with fail
                go_ret
                exact ⟨by rw [HW5.out]; simp [makesO, h1, h3], B5.out⟩
/-! ### Check -/
set_option maxRecDepth 100000 in
set_option maxHeartbeats 4000000 in
theorem rcheck_any (l : List In) (A : Option Addr) (n c : Nat) (w : World) (hh : kX.Holds w w.heap.size A l) (hn : l.length = n) (hl : n ≤ 1000) (hs : ∀ i ∈ l, i.a.size ≤ 300 ∧ i.b.size ≤ 300) :
    Calls Try.prog 8 #[.slice A n c] w fun e w' => e = .returned (.int .i64 (checkP l : Nat)) ∧ Below w.heap.size w w' := by
  by_cases h120 : 120 < n
  · have HR : checkP l = 13 := by rw [checkP, if_pos (by omega)]
    rw [HR]
    have q : decide ((120 : Int) < (n : Int)) = true := by simp; omega
    go_enter Try.func8, Try.ntmps8
    go_wp2_with fail
    go_ret
    exact ⟨rfl, Below.refl _ _⟩
  · have HR : Hid (checkP l = if firstW l l.length = 0 then (if 0 < (beginP l l.length).2 then 8 else 0) else firstW l l.length) := Lib.hid (by rw [checkP, if_neg (by omega)])
    have q : decide ((120 : Int) < (n : Int)) = false := by simp; omega
    have KH := Lib.hid hh
    have KL := Lib.hid hn
    have CW : Hid (∀ w9 k, Below w.heap.size w w9 → k < n → Calls Try.prog 20 #[.slice A n c, .int .i64 k] w9 fun e w' => e = .returned (.int .i64 (wrongP l k : Nat)) ∧ Below w9.heap.size w9 w') := Lib.hid (fun w9 k h hk => wrong_any l A n c k w9 (hh.on h) hn (by omega) hl hs)
    have CB : Hid (∀ w9, Below w.heap.size w w9 → Calls Try.prog 21 #[.slice A n c, .int .i64 n] w9 fun e w' => e = .returned (.tuple #[.int .i64 (beginP l l.length).1, .int .i64 ((beginP l l.length).2 : Nat)]) ∧ Below w9.heap.size w9 w') := Lib.hid (fun w9 h => by rw [hn]; exact begin_any l A n c n w9 (hh.on h) hn (Nat.le_refl _) hl)
    have hbp : (beginP l l.length).2 ≤ 1000 := by rw [beginP_snd]; have := opensK_len l l.length; omega
    clear hh hn hs
    go_enter Try.func8, Try.ntmps8
    go_wp2_with fail
    go_loopw [3] (fun s wr => ∃ i : Nat, i ≤ n ∧ s = .int .i64 i ∧ Hid (firstW l i = 0) ∧ Hid (Below w.heap.size w wr)) (fun s _ => n - (intOf s).toNat)
    case atStart => exact ⟨0, by omega, rfl, Lib.hid rfl, Lib.hid (Below.refl _ _)⟩
    case round =>
      obtain ⟨i, hi, rfl, HF, HB⟩ := hrel
      by_cases hin : i < n
      · have C1 := Lib.hid (CW.out wr i HB.out hin)
        have HW : Hid (wrongP l i ≠ 0 → checkP l = wrongP l i) := Lib.hid (fun hne => by
          have := firstW_at HF.out hne (by have := KL.out; omega)
          rw [HR.out, this, if_neg hne])
        have HN : Hid (wrongP l i = 0 → firstW l (i + 1) = 0) := Lib.hid (fun hz => by rw [firstW, if_pos HF.out, hz])
        generalize wrongP l i = x at C1 HW HN
        go_wp2_with fail
        refine C1.out.mono ?_
        rintro e w2 ⟨rfl, b2⟩
        have B2 := Lib.hid (HB.out.trans (b2.mono HB.out.size))
        clear b2 C1
        by_cases hx : x = 0
        · subst hx
          have HN2 := Lib.hid (HN.out rfl)
          clear HN HW
          go_wp2_with fail
          go_roundw
          case rel => exact ⟨i + 1, by omega, by go_num, HN2, B2⟩
          case measure => simp [intOf]; omega
        · have qx : ((x : Int) != 0) = true := by simp; omega
          have HW2 := Lib.hid (HW.out hx)
          clear HN HW
          go_wp2_with fail
          go_ret
          exact ⟨by rw [HW2.out]; rfl, B2.out⟩
      · obtain rfl : i = n := by omega
        have HR2 : Hid (checkP l = if 0 < (beginP l l.length).2 then 8 else 0) := Lib.hid (by rw [HR.out, if_pos (by rw [KL.out]; exact HF.out)])
        have C1 := Lib.hid (CB.out wr HB.out)
        generalize beginP l l.length = p at C1 hbp HR2
        obtain ⟨p1, p2⟩ := p
        simp only at C1 hbp HR2
        clear HR HF
        go_wp2_with fail
        refine C1.out.mono ?_
        rintro e w2 ⟨rfl, b2⟩
        have B2 := Lib.hid (HB.out.trans (b2.mono HB.out.size))
        clear b2 C1
        simp only
        by_cases hp : 0 < p2
        · have qx : decide ((0 : Int) < (p2 : Int)) = true := by simp; omega
          go_wp2_with fail
          go_ret
          exact ⟨by rw [HR2.out, if_pos hp]; rfl, B2.out⟩
        · have qx : decide ((0 : Int) < (p2 : Int)) = false := by simp; omega
          go_wp2_with fail
          go_ret
          exact ⟨by rw [HR2.out, if_neg hp]; rfl, B2.out⟩
end Go.Proofs.Ytgpbgimobcdogaa.P13
