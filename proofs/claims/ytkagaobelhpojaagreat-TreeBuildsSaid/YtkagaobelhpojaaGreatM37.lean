/- Trees: the program's Count, May and Same, and its Of of no document. No condition but those stated. -/
import Derived.Test.YtkagaobelhpojaaGreatM34
import Derived.Test.YtkagaobelhpojaaGreatM36
set_option linter.unusedVariables false
set_option linter.unusedSimpArgs false
namespace Go.Proofs.YtkagaobelhpojaaGreat.P8
open Go.RowKit Kd P4 P5

/-! ### Count -/
set_option maxHeartbeats 2000000 in
theorem count_c : CountC := by
  intro t
  induction t using TV.ind with
  | h tag txt key sa attrs sk kids ih =>
    obtain ⟨A, n, c⟩ := sa
    obtain ⟨A2, n2, c2⟩ := sk
    intro w h hcnt
    have al : attrs.length = n := h.al
    have AH : Hid (kA.Holds w w.heap.size A attrs) := Lib.hid h.ah
    have KL : Hid (kids.length = n2) := Lib.hid h.kl
    have KH : Hid (kT.Holds w w.heap.size A2 kids) := Lib.hid h.kh
    have KS : Hid (∀ k ∈ kids, TOk w w.heap.size k) := Lib.hid h.ks
    have B1 : Hid (Below w.heap.size w (w.alloc (.cells #[.string tag, .string txt, .string key, .slice A n c, .slice A2 n2 c2] 26))) := Lib.hid ((Below.refl _ _).alloc (Nat.le_refl _) _)
    have N1 : Hid (TB (w.alloc (.cells #[.string tag, .string txt, .string key, .slice A n c, .slice A2 n2 c2] 26)) w.heap.size (.mk tag txt key ⟨A, n, c⟩ attrs ⟨A2, n2, c2⟩ kids)) := Lib.hid (TB.new w (.mk tag txt key ⟨A, n, c⟩ attrs ⟨A2, n2, c2⟩ kids))
    have HCT := Lib.hid hcnt
    rw [er, countP] at hcnt
    have hk1 : countL (erL kids) ≤ 1000 := by omega
    have hle : n2 ≤ 1000 := by have h1 := len_le_count (erL kids); rw [erL_map, List.length_map] at h1; have := KL.out; rw [erL_map] at hk1; omega
    have IH := Lib.hid ih
    clear h hcnt al ih
    show Calls Tryz.prog 20 #[.agg #[.string tag, .string txt, .string key, .slice A n c, .slice A2 n2 c2]] w _
    go_enter Tryz.func20, Tryz.ntmps20
    go_upto_region 1 with fail
    generalize w.alloc (.cells #[.string tag, .string txt, .string key, .slice A n c, .slice A2 n2 c2] 26) = W at B1 N1 ⊢
    have a4 : W.cell? ⟨w.heap.size, 4, none⟩ = some (.slice A2 n2 c2) := N1.out.c4
    go_wp2_with fail
    go_loopw [3, 9] (fun s3 s9 wr => ∃ (k : Nat), k ≤ n2 ∧ s9 = .int .i64 k ∧ s3 = .int .i64 (countL ((erL kids).take k) + 1 : Nat) ∧ Hid (Below w.heap.size w wr)) (fun _ s9 _ => n2 - (intOf s9).toNat)
    case atStart => exact ⟨0, by omega, rfl, by simp [countL], B1⟩
    case round =>
      obtain ⟨k, hk, rfl, rfl, HB⟩ := hrel
      by_cases hkn : k < n2
      · have hkl : k < kids.length := by have := KL.out; omega
        have hke : k < (erL kids).length := by rw [erL_map]; simpa using hkl
        have hct := countL_take hke
        have hcl := countL_le (erL kids) (k + 1)
        have hee : (erL kids)[k] = er kids[k] := by simp [erL_map]
        rw [hee] at hct
        obtain ⟨b, o, rfl, hb, g0, g1, g2, g3, g4⟩ := cell_of_trees (KH.out.on HB.out) hkl
        have CK : Hid (∀ w9, Below wr.heap.size wr w9 → Calls Tryz.prog 20 #[.agg #[.string kids[k].tag, .string kids[k].txt, .string kids[k].key, .slice kids[k].sa.A kids[k].sa.n kids[k].sa.c, .slice kids[k].sk.A kids[k].sk.n kids[k].sk.c]] w9 fun e w' => e = .returned (.int .i64 (countP (er kids[k]) : Nat)) ∧ Below w9.heap.size w9 w') := Lib.hid (fun w9 h9 => IH.out kids[k] (List.getElem_mem hkl) w9 ((KS.out _ (List.getElem_mem hkl)).on (HB.out.trans (h9.mono HB.out.size))) (by omega))
        obtain ⟨cn, hcn⟩ : ∃ cn, countL ((erL kids).take k) = cn := ⟨_, rfl⟩
        obtain ⟨ck, hck⟩ : ∃ ck, countP (er kids[k]) = ck := ⟨_, rfl⟩
        rw [hck] at CK
        rw [hcn]
        rw [hcn, hck] at hct
        have HCT := Lib.hid hct
        have hcs : cn + ck ≤ 1000 := by omega
        clear hcn hck hct hee hcl
        generalize kids[k] = d at g0 g1 g2 g3 g4 CK
        go_upto_region 5 with fail
        have NA : Hid (TB (wr.alloc (.cells #[.string d.tag, .string d.txt, .string d.key, .slice d.sa.A d.sa.n d.sa.c, .slice d.sk.A d.sk.n d.sk.c] 26)) wr.heap.size d) := Lib.hid (TB.new wr d)
        have BA : Hid (Below wr.heap.size wr (wr.alloc (.cells #[.string d.tag, .string d.txt, .string d.key, .slice d.sa.A d.sa.n d.sa.c, .slice d.sk.A d.sk.n d.sk.c] 26))) := Lib.hid ((Below.refl _ _).alloc (Nat.le_refl _) _)
        generalize wr.alloc (.cells #[.string d.tag, .string d.txt, .string d.key, .slice d.sa.A d.sa.n d.sa.c, .slice d.sk.A d.sk.n d.sk.c] 26) = wa at NA BA ⊢
        clear g0 g1 g2 g3 g4
        have a0 := NA.out.c0; have a1 := NA.out.c1; have a2 := NA.out.c2; have a3 := NA.out.c3; have a4 := NA.out.c4
        go_wp2_with fail
        refine (CK.out wa BA.out).mono ?_
        rintro e w2 ⟨rfl, b2⟩
        have B2 := Lib.hid (HB.out.trans ((BA.out.trans (b2.mono BA.out.size)).mono HB.out.size))
        clear b2
        go_wp2_with fail
        go_roundw
        case rel => exact ⟨k + 1, by omega, by go_num, by rw [HCT.out]; go_num, B2⟩
        case measure => simp [intOf]; omega
      · obtain rfl : k = n2 := by omega
        go_wp2_with fail
        go_ret
        refine ⟨?_, HB.out⟩
        rw [er, countP, List.take_of_length_le (by have := KL.out; rw [erL_map]; simp; omega)]
        rfl

/-! ### May -/
set_option maxHeartbeats 4000000 in
theorem mayText_any (t : TV) (w : World) (ht : t.tag.toList.isEmpty = true) (h : TOk w w.heap.size t) (m2 : t.txt.size ≤ maxLen) : Calls Tryz.prog 44 #[.agg #[.string t.tag, .string t.txt, .string t.key, .slice t.sa.A t.sa.n t.sa.c, .slice t.sk.A t.sk.n t.sk.c]] w fun e w' => e = .returned (.bool (mayP (er t))) ∧ Below w.heap.size w w' := by
  obtain ⟨tag, txt, key, ⟨A, n, c⟩, attrs, ⟨A2, n2, c2⟩, kids⟩ := t
  have al : attrs.length = n := h.al
  have kl : kids.length = n2 := h.kl
  have m2 : txt.size ≤ maxLen := m2
  have tE : tag.toList.isEmpty = true := ht
  have B1 : Hid (Below w.heap.size w (w.alloc (.cells #[.string tag, .string txt, .string key, .slice A n c, .slice A2 n2 c2] 26))) := Lib.hid ((Below.refl _ _).alloc (Nat.le_refl _) _)
  have N1 : Hid (TB (w.alloc (.cells #[.string tag, .string txt, .string key, .slice A n c, .slice A2 n2 c2] 26)) w.heap.size (.mk tag txt key ⟨A, n, c⟩ attrs ⟨A2, n2, c2⟩ kids)) := Lib.hid (TB.new w (.mk tag txt key ⟨A, n, c⟩ attrs ⟨A2, n2, c2⟩ kids))
  have E1 : attrs.isEmpty = decide (n = 0) := by rw [← al]; cases attrs <;> simp
  have E2 : (erL kids).isEmpty = decide (n2 = 0) := by rw [← kl, erL_map]; cases kids <;> simp
  obtain ⟨bx, hbx⟩ : ∃ b, P1.textB txt.data.toList = b := ⟨_, rfl⟩
  have HX := Lib.hid hbx
  have HD : Hid (mayP (er (.mk tag txt key ⟨A, n, c⟩ attrs ⟨A2, n2, c2⟩ kids)) = (bx && key.toList.isEmpty && decide (n = 0) && decide (n2 = 0))) := Lib.hid (by rw [er, mayP, tE, if_pos rfl, E1, E2, hbx])
  clear h ht al kl hbx E1 E2
  show Calls Tryz.prog 44 #[.agg #[.string tag, .string txt, .string key, .slice A n c, .slice A2 n2 c2]] w _
  go_enter Tryz.func44, Tryz.ntmps44
  go_upto_region 1 with fail
  generalize w.alloc (.cells #[.string tag, .string txt, .string key, .slice A n c, .slice A2 n2 c2] 26) = W at B1 N1 ⊢
  have a0 : W.cell? ⟨w.heap.size, 0, none⟩ = some (.string tag) := N1.out.c0
  have a1 : W.cell? ⟨w.heap.size, 1, none⟩ = some (.string txt) := N1.out.c1
  have a2 : W.cell? ⟨w.heap.size, 2, none⟩ = some (.string key) := N1.out.c2
  have a3 : W.cell? ⟨w.heap.size, 3, none⟩ = some (.slice A n c) := N1.out.c3
  have a4 : W.cell? ⟨w.heap.size, 4, none⟩ = some (.slice A2 n2 c2) := N1.out.c4
  cases kE : key.toList.isEmpty with
  | false =>
    go_wp2_with fail
    go_ret
    exact ⟨by rw [HD.out, kE]; simp, B1.out⟩
  | true =>
    by_cases hn0 : n = 0
    · subst hn0
      by_cases hn2 : n2 = 0
      · subst hn2
        go_wp2_with fail
        refine (P3.ntext_at txt _ HX.out m2).mono ?_
        rintro e w' ⟨rfl, rfl⟩
        go_wp2_with fail
        go_ret
        exact ⟨by rw [HD.out, kE]; simp, B1.out⟩
      · have qn2 : ((n2 : Int) == 0) = false := by simp; omega
        go_wp2_with fail
        go_ret
        exact ⟨by rw [HD.out, kE]; simp [hn2], B1.out⟩
    · have qn : ((n : Int) == 0) = false := by simp; omega
      go_wp2_with fail
      go_ret
      exact ⟨by rw [HD.out, kE]; simp [hn0], B1.out⟩
set_option maxHeartbeats 4000000 in
theorem may_c : MayC := by
  intro t
  induction t using TV.ind with
  | h tag txt key sa attrs sk kids ih =>
    obtain ⟨A, n, c⟩ := sa
    obtain ⟨A2, n2, c2⟩ := sk
    intro w h hfew hcnt
    have al : attrs.length = n := h.al
    have AH : Hid (kA.Holds w w.heap.size A attrs) := Lib.hid h.ah
    have KL : Hid (kids.length = n2) := Lib.hid h.kl
    have KH : Hid (kT.Holds w w.heap.size A2 kids) := Lib.hid h.kh
    have KS : Hid (∀ k ∈ kids, TOk w w.heap.size k) := Lib.hid h.ks
    have B1 : Hid (Below w.heap.size w (w.alloc (.cells #[.string tag, .string txt, .string key, .slice A n c, .slice A2 n2 c2] 26))) := Lib.hid ((Below.refl _ _).alloc (Nat.le_refl _) _)
    have N1 : Hid (TB (w.alloc (.cells #[.string tag, .string txt, .string key, .slice A n c, .slice A2 n2 c2] 26)) w.heap.size (.mk tag txt key ⟨A, n, c⟩ attrs ⟨A2, n2, c2⟩ kids)) := Lib.hid (TB.new w (.mk tag txt key ⟨A, n, c⟩ attrs ⟨A2, n2, c2⟩ kids))
    rw [er, fewP] at hfew
    simp only [Bool.and_eq_true, decide_eq_true_eq] at hfew
    obtain ⟨⟨⟨⟨f1, f2⟩, f3⟩, f4⟩, f5⟩ := hfew
    obtain ⟨hwf, h20⟩ := few_wf f4
    have hn20 : n ≤ 20 := by omega
    have m1 : tag.size ≤ maxLen := by unfold maxLen; omega
    have m2 : txt.size ≤ maxLen := by unfold maxLen; omega
    have m3 : key.size ≤ maxLen := by unfold maxLen; omega
    have F5 : Hid (∀ k (hk : k < kids.length), fewP (er kids[k]) = true) := Lib.hid (fun k hk => by
      have hk' : k < (erL kids).length := by rw [erL_map]; simpa using hk
      have := fewL_at hk' f5
      simpa [erL_map] using this)
    have AL := Lib.hid al
    have HW := Lib.hid hwf
    clear al hwf f4 f5
    have CL : Hid (countL (erL kids) ≤ 1000) := Lib.hid (by rw [er, countP] at hcnt; omega)
    have hle : n2 ≤ 1000 := by have h1 := len_le_count (erL kids); rw [erL_map, List.length_map] at h1; have h2 := KL.out; have h3 := CL.out; rw [erL_map] at h3; omega
    have C5 : Hid (∀ k (hk : k < kids.length), countP (er kids[k]) ≤ 1000) := Lib.hid (fun k hk => by
      have hk' : k < (erL kids).length := by rw [erL_map]; simpa using hk
      have h1 := countL_at hk'
      have h2 := CL.out
      have e : (erL kids)[k] = er kids[k] := by simp [erL_map]
      rw [e] at h1
      omega)
    clear hcnt
    have IH := Lib.hid ih
    have HTX : Hid (∀ w9, Below w.heap.size w w9 → tag.toList.isEmpty = true → Calls Tryz.prog 44 #[.agg #[.string tag, .string txt, .string key, .slice A n c, .slice A2 n2 c2]] w9 fun e w' => e = .returned (.bool (mayP (er (.mk tag txt key ⟨A, n, c⟩ attrs ⟨A2, n2, c2⟩ kids)))) ∧ Below w9.heap.size w9 w') := Lib.hid (fun w9 h9 hE => mayText_any (.mk tag txt key ⟨A, n, c⟩ attrs ⟨A2, n2, c2⟩ kids) w9 hE (h.on h9) m2)
    have hnc : n ≤ c := h.ac
    -- the element's way
    have HEL : Hid (∀ w9, Below w.heap.size w w9 → tag.toList.isEmpty = false → Calls Tryz.prog 45 #[.agg #[.string tag, .string txt, .string key, .slice A n c, .slice A2 n2 c2]] w9 fun e w' => e = .returned (.bool (mayP (er (.mk tag txt key ⟨A, n, c⟩ attrs ⟨A2, n2, c2⟩ kids)))) ∧ Below w9.heap.size w9 w') := Lib.hid (by
      intro w9 h9 tE
      have AH9 : Hid (kA.Holds w9 w9.heap.size A attrs) := Lib.hid (AH.out.on h9)
      have KH9 : Hid (kT.Holds w9 w9.heap.size A2 kids) := Lib.hid (KH.out.on h9)
      have KS9 : Hid (∀ k ∈ kids, TOk w9 w9.heap.size k) := Lib.hid (fun k hk => (KS.out k hk).on h9)
      clear h h9 B1 N1 AH KH KS HTX
      have B1 : Hid (Below w9.heap.size w9 (w9.alloc (.cells #[.string tag, .string txt, .string key, .slice A n c, .slice A2 n2 c2] 26))) := Lib.hid ((Below.refl _ _).alloc (Nat.le_refl _) _)
      have N1 : Hid (TB (w9.alloc (.cells #[.string tag, .string txt, .string key, .slice A n c, .slice A2 n2 c2] 26)) w9.heap.size (.mk tag txt key ⟨A, n, c⟩ attrs ⟨A2, n2, c2⟩ kids)) := Lib.hid (TB.new w9 (.mk tag txt key ⟨A, n, c⟩ attrs ⟨A2, n2, c2⟩ kids))
      obtain ⟨bn, hbn⟩ : ∃ b, P1.nameB tag.data.toList = b := ⟨_, rfl⟩
      obtain ⟨bk, hbk⟩ : ∃ b, P1.textB key.data.toList = b := ⟨_, rfl⟩
      obtain ⟨ba, hba⟩ : ∃ b, P3.mayA attrs = b := ⟨_, rfl⟩
      obtain ⟨bv, hbv⟩ : ∃ b, P1.voidB tag.data.toList = b := ⟨_, rfl⟩
      have HN := Lib.hid hbn
      have HK := Lib.hid hbk
      have HA := Lib.hid hba
      have HV := Lib.hid hbv
      have E2 : (erL kids).isEmpty = decide (n2 = 0) := by rw [← KL.out, erL_map]; cases kids <;> simp
      have HD : Hid (mayP (er (.mk tag txt key ⟨A, n, c⟩ attrs ⟨A2, n2, c2⟩ kids)) = (bn && bk && ba && txt.toList.isEmpty && !(bv && !decide (n2 = 0)) && mayL (erL kids))) := Lib.hid (by rw [er, mayP, tE, if_neg (by simp), hbn, hbk, hba, hbv, E2])
      clear ih hbn hbk hba hbv E2
      go_enter Tryz.func45, Tryz.ntmps45
      go_upto_region 1 with fail
      generalize w9.alloc (.cells #[.string tag, .string txt, .string key, .slice A n c, .slice A2 n2 c2] 26) = W at B1 N1 ⊢
      have a0 : W.cell? ⟨w9.heap.size, 0, none⟩ = some (.string tag) := N1.out.c0
      have a1 : W.cell? ⟨w9.heap.size, 1, none⟩ = some (.string txt) := N1.out.c1
      have a2 : W.cell? ⟨w9.heap.size, 2, none⟩ = some (.string key) := N1.out.c2
      have a3 : W.cell? ⟨w9.heap.size, 3, none⟩ = some (.slice A n c) := N1.out.c3
      have a4 : W.cell? ⟨w9.heap.size, 4, none⟩ = some (.slice A2 n2 c2) := N1.out.c4
      have bad : Hid ((bn && bk && ba && txt.toList.isEmpty && !(bv && !decide (n2 = 0))) = false → Ending.returned (.bool false) = Ending.returned (.bool (mayP (er (.mk tag txt key ⟨A, n, c⟩ attrs ⟨A2, n2, c2⟩ kids))))) := Lib.hid (fun e => by rw [HD.out, e, Bool.false_and])
      go_wp2_with fail
      refine (P3.nmay_at tag _ HN.out m1).mono ?_
      rintro e w' ⟨rfl, rfl⟩
      cases bn with
      | false =>
        go_wp2_with fail
        go_ret
        exact ⟨bad.out rfl, B1.out⟩
      | true =>
      go_wp2_with fail
      refine (P3.ntext_at key _ HK.out m3).mono ?_
      rintro e w' ⟨rfl, rfl⟩
      cases bk with
      | false =>
        go_wp2_with fail
        go_ret
        exact ⟨bad.out rfl, B1.out⟩
      | true =>
      cases xE : txt.toList.isEmpty with
      | false =>
        go_wp2_with fail
        go_ret
        exact ⟨bad.out (by rw [xE]; simp), B1.out⟩
      | true =>
      go_wp2_with fail
      refine (P3.may_any attrs A n c W AL.out (by omega) hnc HW.out (p3holds (AH9.out.on B1.out))).mono ?_
      rintro e w2 ⟨rfl, b2⟩
      rw [HA.out]
      have B2 := Lib.hid (B1.out.trans (b2.mono B1.out.size))
      have N2 := Lib.hid (N1.out.below b2 N1.out.lt)
      clear b2 a0 a1 a2 a3 a4
      cases ba with
      | false =>
        go_wp2_with fail
        go_ret
        exact ⟨bad.out rfl, B2.out⟩
      | true =>
      have a0 : w2.cell? ⟨w9.heap.size, 0, none⟩ = some (.string tag) := N2.out.c0
      have a4 : w2.cell? ⟨w9.heap.size, 4, none⟩ = some (.slice A2 n2 c2) := N2.out.c4
      go_wp2_with fail
      refine (P1.void_any tag _).mono ?_
      rintro e w' ⟨rfl, rfl⟩
      rw [HV.out]
      cases bv with
      | true =>
        by_cases hn2 : n2 = 0
        · subst hn2
          go_wp2_with fail
          go_ret
          have e0 : erL kids = [] := by rw [erL_map]; have := KL.out; simpa using this
          exact ⟨by rw [HD.out, xE, e0]; rfl, B2.out⟩
        · have qn : ((n2 : Int) == 0) = false := by simp; omega
          go_wp2_with fail
          go_ret
          exact ⟨bad.out (by rw [xE]; simp [hn2]), B2.out⟩
      | false =>
        have HD2 : Hid (mayP (er (.mk tag txt key ⟨A, n, c⟩ attrs ⟨A2, n2, c2⟩ kids)) = mayL (erL kids)) := Lib.hid (by rw [HD.out, xE]; simp)
        clear bad HD
        go_wp2_with fail
        go_loopw [36] (fun s wr => ∃ (k : Nat), k ≤ n2 ∧ s = .int .i64 k ∧ Hid (mayL ((erL kids).take k) = true) ∧ Hid (Below w9.heap.size w9 wr)) (fun s _ => n2 - (intOf s).toNat)
        case atStart => exact ⟨0, by omega, rfl, Lib.hid (by simp [mayL]), B2⟩
        case round =>
          obtain ⟨k, hk, rfl, HM, HB⟩ := hrel
          by_cases hkn : k < n2
          · have hkl : k < kids.length := by have := KL.out; omega
            have hke : k < (erL kids).length := by rw [erL_map]; simpa using hkl
            have hee : (erL kids)[k] = er kids[k] := by simp [erL_map]
            obtain ⟨b, o, rfl, hb, g0, g1, g2, g3, g4⟩ := cell_of_trees (KH9.out.on HB.out) hkl
            have CK : Hid (∀ wz, Below wr.heap.size wr wz → Calls Tryz.prog 21 #[.agg #[.string kids[k].tag, .string kids[k].txt, .string kids[k].key, .slice kids[k].sa.A kids[k].sa.n kids[k].sa.c, .slice kids[k].sk.A kids[k].sk.n kids[k].sk.c]] wz fun e w' => e = .returned (.bool (mayP (er kids[k]))) ∧ Below wz.heap.size wz w') := Lib.hid (fun wz hz => IH.out kids[k] (List.getElem_mem hkl) wz ((KS9.out _ (List.getElem_mem hkl)).on (HB.out.trans (hz.mono HB.out.size))) (F5.out k hkl) (C5.out k hkl))
            obtain ⟨mk, hmk⟩ : ∃ mk, mayP (er kids[k]) = mk := ⟨_, rfl⟩
            rw [hmk] at CK
            have HMK : Hid (mayP (erL kids)[k] = mk) := Lib.hid (by rw [hee]; exact hmk)
            have HKE := Lib.hid hke
            clear hmk hee
            generalize kids[k] = d at g0 g1 g2 g3 g4 CK
            go_upto_region 8 with fail
            have NA : Hid (TB (wr.alloc (.cells #[.string d.tag, .string d.txt, .string d.key, .slice d.sa.A d.sa.n d.sa.c, .slice d.sk.A d.sk.n d.sk.c] 26)) wr.heap.size d) := Lib.hid (TB.new wr d)
            have BA : Hid (Below wr.heap.size wr (wr.alloc (.cells #[.string d.tag, .string d.txt, .string d.key, .slice d.sa.A d.sa.n d.sa.c, .slice d.sk.A d.sk.n d.sk.c] 26))) := Lib.hid ((Below.refl _ _).alloc (Nat.le_refl _) _)
            generalize wr.alloc (.cells #[.string d.tag, .string d.txt, .string d.key, .slice d.sa.A d.sa.n d.sa.c, .slice d.sk.A d.sk.n d.sk.c] 26) = wa at NA BA ⊢
            clear g0 g1 g2 g3 g4
            have a0 := NA.out.c0; have a1 := NA.out.c1; have a2 := NA.out.c2; have a3 := NA.out.c3; have a4 := NA.out.c4
            go_wp2_with fail
            refine (CK.out wa BA.out).mono ?_
            rintro e w5 ⟨rfl, b5⟩
            have B5 := Lib.hid (HB.out.trans ((BA.out.trans (b5.mono BA.out.size)).mono HB.out.size))
            clear b5
            cases mk with
            | false =>
              go_wp2_with fail
              go_ret
              exact ⟨by rw [HD2.out, mayL_bad HKE.out HMK.out]; rfl, B5.out⟩
            | true =>
              go_wp2_with fail
              go_roundw
              case rel => exact ⟨k + 1, by omega, by go_num, Lib.hid (mayL_take HKE.out HM.out HMK.out), B5⟩
              case measure => simp [intOf]; omega
          · obtain rfl : k = n2 := by omega
            go_wp2_with fail
            go_ret
            refine ⟨?_, HB.out⟩
            have h1 := HM.out
            rw [List.take_of_length_le (by have := KL.out; rw [erL_map]; simp; omega)] at h1
            rw [HD2.out, h1]
            rfl)
    clear h ih hnc
    show Calls Tryz.prog 21 #[.agg #[.string tag, .string txt, .string key, .slice A n c, .slice A2 n2 c2]] w _
    go_enter Tryz.func21, Tryz.ntmps21
    go_upto_region 1 with fail
    generalize w.alloc (.cells #[.string tag, .string txt, .string key, .slice A n c, .slice A2 n2 c2] 26) = W at B1 N1 ⊢
    have a0 : W.cell? ⟨w.heap.size, 0, none⟩ = some (.string tag) := N1.out.c0
    have a1 : W.cell? ⟨w.heap.size, 1, none⟩ = some (.string txt) := N1.out.c1
    have a2 : W.cell? ⟨w.heap.size, 2, none⟩ = some (.string key) := N1.out.c2
    have a3 : W.cell? ⟨w.heap.size, 3, none⟩ = some (.slice A n c) := N1.out.c3
    have a4 : W.cell? ⟨w.heap.size, 4, none⟩ = some (.slice A2 n2 c2) := N1.out.c4
    cases tE : tag.toList.isEmpty with
    | true =>
      go_wp2_with fail
      refine (HTX.out W B1.out tE).mono ?_
      rintro e w2 ⟨rfl, b2⟩
      have B2 := Lib.hid (B1.out.trans (b2.mono B1.out.size))
      clear b2
      go_wp2_with fail
      go_ret
      exact ⟨rfl, B2.out⟩
    | false =>
      go_wp2_with fail
      refine (HEL.out W B1.out tE).mono ?_
      rintro e w2 ⟨rfl, b2⟩
      have B2 := Lib.hid (B1.out.trans (b2.mono B1.out.size))
      clear b2
      go_wp2_with fail
      go_ret
      exact ⟨rfl, B2.out⟩

/-! ### Same -/
set_option maxHeartbeats 4000000 in
theorem same_c : SameC := by
  intro t
  induction t using TV.ind with
  | h tag txt key sa attrs sk kids ih =>
    obtain ⟨A, n, c⟩ := sa
    obtain ⟨A2, n2, c2⟩ := sk
    intro u
    obtain ⟨tag', txt', key', ⟨A', n', c'⟩, attrs', ⟨A2', n2', c2'⟩, kids'⟩ := u
    intro w h h' hfew hfew' hcnt hcnt'
    have al : attrs.length = n := h.al
    have al' : attrs'.length = n' := h'.al
    have AH : Hid (kA.Holds w w.heap.size A attrs) := Lib.hid h.ah
    have AH' : Hid (kA.Holds w w.heap.size A' attrs') := Lib.hid h'.ah
    have KL : Hid (kids.length = n2) := Lib.hid h.kl
    have KL' : Hid (kids'.length = n2') := Lib.hid h'.kl
    have KH : Hid (kT.Holds w w.heap.size A2 kids) := Lib.hid h.kh
    have KH' : Hid (kT.Holds w w.heap.size A2' kids') := Lib.hid h'.kh
    have KS : Hid (∀ k ∈ kids, TOk w w.heap.size k) := Lib.hid h.ks
    have KS' : Hid (∀ k ∈ kids', TOk w w.heap.size k) := Lib.hid h'.ks
    have B1 : Hid (Below w.heap.size w ((w.alloc (.cells #[.string tag, .string txt, .string key, .slice A n c, .slice A2 n2 c2] 26)).alloc (.cells #[.string tag', .string txt', .string key', .slice A' n' c', .slice A2' n2' c2'] 26))) := Lib.hid (((Below.refl _ _).alloc (Nat.le_refl _) _).alloc (by simp) _)
    have N1 : Hid (TB ((w.alloc (.cells #[.string tag, .string txt, .string key, .slice A n c, .slice A2 n2 c2] 26)).alloc (.cells #[.string tag', .string txt', .string key', .slice A' n' c', .slice A2' n2' c2'] 26)) w.heap.size (.mk tag txt key ⟨A, n, c⟩ attrs ⟨A2, n2, c2⟩ kids)) := Lib.hid (heap_up (TB.new w (.mk tag txt key ⟨A, n, c⟩ attrs ⟨A2, n2, c2⟩ kids)))
    have M1 : Hid (TB ((w.alloc (.cells #[.string tag, .string txt, .string key, .slice A n c, .slice A2 n2 c2] 26)).alloc (.cells #[.string tag', .string txt', .string key', .slice A' n' c', .slice A2' n2' c2'] 26)) (w.heap.size + 1) (.mk tag' txt' key' ⟨A', n', c'⟩ attrs' ⟨A2', n2', c2'⟩ kids')) := Lib.hid (heap_top (by simp))
    rw [er, fewP] at hfew hfew'
    simp only [Bool.and_eq_true, decide_eq_true_eq] at hfew hfew'
    obtain ⟨⟨⟨⟨f1, f2⟩, f3⟩, f4⟩, f5⟩ := hfew
    obtain ⟨⟨⟨⟨f1', f2'⟩, f3'⟩, f4'⟩, f5'⟩ := hfew'
    have h20 := (few_wf f4).2
    have h20' := (few_wf f4').2
    have hn20 : n ≤ 20 := by omega
    have hn20' : n' ≤ 20 := by omega
    have F5 : Hid (∀ k (hk : k < kids.length), fewP (er kids[k]) = true) := Lib.hid (fun k hk => by
      have hk' : k < (erL kids).length := by rw [erL_map]; simpa using hk
      have := fewL_at hk' f5
      simpa [erL_map] using this)
    have F5' : Hid (∀ k (hk : k < kids'.length), fewP (er kids'[k]) = true) := Lib.hid (fun k hk => by
      have hk' : k < (erL kids').length := by rw [erL_map]; simpa using hk
      have := fewL_at hk' f5'
      simpa [erL_map] using this)
    have CL : Hid (countL (erL kids) ≤ 1000) := Lib.hid (by rw [er, countP] at hcnt; omega)
    have hle : n2 ≤ 1000 := by have h1 := len_le_count (erL kids); rw [erL_map, List.length_map] at h1; have h2 := KL.out; have h3 := CL.out; rw [erL_map] at h3; omega
    have C5 : Hid (∀ k (hk : k < kids.length), countP (er kids[k]) ≤ 1000) := Lib.hid (fun k hk => by
      have hk' : k < (erL kids).length := by rw [erL_map]; simpa using hk
      have h1 := countL_at hk'
      have h2 := CL.out
      have e : (erL kids)[k] = er kids[k] := by simp [erL_map]
      rw [e] at h1
      omega)
    clear hcnt
    have CLB : Hid (countL (erL kids') ≤ 1000) := Lib.hid (by rw [er, countP] at hcnt'; omega)
    have hleB : n2' ≤ 1000 := by have h1 := len_le_count (erL kids'); rw [erL_map, List.length_map] at h1; have h2 := KL'.out; have h3 := CLB.out; rw [erL_map] at h3; omega
    have C5B : Hid (∀ k (hk : k < kids'.length), countP (er kids'[k]) ≤ 1000) := Lib.hid (fun k hk => by
      have hk' : k < (erL kids').length := by rw [erL_map]; simpa using hk
      have h1 := countL_at hk'
      have h2 := CLB.out
      have e : (erL kids')[k] = er kids'[k] := by simp [erL_map]
      rw [e] at h1
      omega)
    clear hcnt'
    obtain ⟨bs, hbs⟩ : ∃ b, P3.sameA attrs attrs' = b := ⟨_, rfl⟩
    obtain ⟨bt, hbt⟩ : ∃ b, (tag.toList == tag'.toList) = b := ⟨_, rfl⟩
    obtain ⟨bx, hbx⟩ : ∃ b, (txt.toList == txt'.toList) = b := ⟨_, rfl⟩
    obtain ⟨bk, hbk⟩ : ∃ b, (key.toList == key'.toList) = b := ⟨_, rfl⟩
    have HD : Hid (sameP (er (.mk tag txt key ⟨A, n, c⟩ attrs ⟨A2, n2, c2⟩ kids)) (er (.mk tag' txt' key' ⟨A', n', c'⟩ attrs' ⟨A2', n2', c2'⟩ kids')) = (bs && bt && bx && bk && sameL (erL kids) (erL kids'))) := Lib.hid (by rw [er, er, sameP, hbs, hbt, hbx, hbk])
    have HBS := Lib.hid hbs
    have LEN : Hid ((erL kids).length = n2 ∧ (erL kids').length = n2') := Lib.hid (by rw [erL_map, erL_map, List.length_map, List.length_map]; exact ⟨KL.out, KL'.out⟩)
    have AL := Lib.hid al
    have AL' := Lib.hid al'
    have IH := Lib.hid ih
    have HEQ : Hid (∀ w9, Below w.heap.size w w9 → Calls Tryz.prog 47 #[.slice A2 n2 c2, .slice A2' n2' c2', .func (.func 22) #[] #[]] w9 fun e w' => e = .returned (.bool (sameL (erL kids) (erL kids'))) ∧ Below w9.heap.size w9 w') := Lib.hid (by
      intro w9 h9
      have KHa : Hid (kT.Holds w9 w9.heap.size A2 kids) := Lib.hid (KH.out.on h9)
      have KHb : Hid (kT.Holds w9 w9.heap.size A2' kids') := Lib.hid (KH'.out.on h9)
      have KSa : Hid (∀ k ∈ kids, TOk w9 w9.heap.size k) := Lib.hid (fun k hk => (KS.out k hk).on h9)
      have KSb : Hid (∀ k ∈ kids', TOk w9 w9.heap.size k) := Lib.hid (fun k hk => (KS'.out k hk).on h9)
      clear h9 h h' ih B1 N1 M1 KH KH' KS KS' al al' hbs hbt hbx hbk HD f4 f4' f5 f5'
      by_cases hnn : n2 = n2'
      · subst hnn
        go_enter Tryz.func47, Tryz.ntmps47
        go_wp2_with fail
        go_loopw [17] (fun s wr => ∃ (k : Nat), k ≤ n2 ∧ s = .int .i64 k ∧ Hid (∀ j, j < k → ∀ (h1 : j < (erL kids).length) (h2 : j < (erL kids').length), sameP (erL kids)[j] (erL kids')[j] = true) ∧ Hid (Below w9.heap.size w9 wr)) (fun s _ => n2 - (intOf s).toNat)
        case atStart => exact ⟨0, by omega, rfl, Lib.hid (fun j hj => by omega), Lib.hid (Below.refl _ _)⟩
        case round =>
          obtain ⟨k, hk, rfl, HS, HB⟩ := hrel
          by_cases hkn : k < n2
          · have hkl : k < kids.length := by have := KL.out; omega
            have hkl' : k < kids'.length := by have := KL'.out; omega
            have hke : k < (erL kids).length := by rw [erL_map]; simpa using hkl
            have hke' : k < (erL kids').length := by rw [erL_map]; simpa using hkl'
            have hee : (erL kids)[k] = er kids[k] := by simp [erL_map]
            have hee' : (erL kids')[k] = er kids'[k] := by simp [erL_map]
            obtain ⟨b, o, rfl, hb, g0, g1, g2, g3, g4⟩ := cell_of_trees (KHa.out.on HB.out) hkl
            have CB : Hid (∀ wz, Below wr.heap.size wr wz → ∃ b' o', A2' = some ⟨b', o', none⟩ ∧ wz.cell? ⟨b', o' + k * 5, none⟩ = some (.string kids'[k].tag) ∧ wz.cell? ⟨b', o' + k * 5 + 1, none⟩ = some (.string kids'[k].txt) ∧ wz.cell? ⟨b', o' + k * 5 + 2, none⟩ = some (.string kids'[k].key) ∧
                wz.cell? ⟨b', o' + k * 5 + 3, none⟩ = some (.slice kids'[k].sa.A kids'[k].sa.n kids'[k].sa.c) ∧ wz.cell? ⟨b', o' + k * 5 + 4, none⟩ = some (.slice kids'[k].sk.A kids'[k].sk.n kids'[k].sk.c)) := Lib.hid (fun wz hz => by
              obtain ⟨b', o', e1, _, e2, e3, e4, e5, e6⟩ := cell_of_trees (KHb.out.on (HB.out.trans (hz.mono HB.out.size))) hkl'
              exact ⟨b', o', e1, e2, e3, e4, e5, e6⟩)
            have CK : Hid (∀ wz, Below wr.heap.size wr wz → Calls Tryz.prog 22 #[.agg #[.string kids[k].tag, .string kids[k].txt, .string kids[k].key, .slice kids[k].sa.A kids[k].sa.n kids[k].sa.c, .slice kids[k].sk.A kids[k].sk.n kids[k].sk.c], .agg #[.string kids'[k].tag, .string kids'[k].txt, .string kids'[k].key, .slice kids'[k].sa.A kids'[k].sa.n kids'[k].sa.c, .slice kids'[k].sk.A kids'[k].sk.n kids'[k].sk.c]] wz fun e w' => e = .returned (.bool (sameP (er kids[k]) (er kids'[k]))) ∧ Below wz.heap.size wz w') := Lib.hid (fun wz hz => IH.out kids[k] (List.getElem_mem hkl) kids'[k] wz ((KSa.out _ (List.getElem_mem hkl)).on (HB.out.trans (hz.mono HB.out.size))) ((KSb.out _ (List.getElem_mem hkl')).on (HB.out.trans (hz.mono HB.out.size))) (F5.out k hkl) (F5'.out k hkl') (C5.out k hkl) (C5B.out k hkl'))
            obtain ⟨mk, hmk⟩ : ∃ mk, sameP (er kids[k]) (er kids'[k]) = mk := ⟨_, rfl⟩
            rw [hmk] at CK
            have HMK : Hid (sameP (erL kids)[k] (erL kids')[k] = mk) := Lib.hid (by rw [hee, hee']; exact hmk)
            have HKE := Lib.hid hke
            have HKE' := Lib.hid hke'
            clear hmk hee hee'
            generalize kids[k] = d at g0 g1 g2 g3 g4 CK
            generalize kids'[k] = d' at CB CK
            go_upto_region 6 with fail
            have NA : Hid (TB (wr.alloc (.cells #[.string d.tag, .string d.txt, .string d.key, .slice d.sa.A d.sa.n d.sa.c, .slice d.sk.A d.sk.n d.sk.c] 26)) wr.heap.size d) := Lib.hid (TB.new wr d)
            have BA : Hid (Below wr.heap.size wr (wr.alloc (.cells #[.string d.tag, .string d.txt, .string d.key, .slice d.sa.A d.sa.n d.sa.c, .slice d.sk.A d.sk.n d.sk.c] 26))) := Lib.hid ((Below.refl _ _).alloc (Nat.le_refl _) _)
            generalize wr.alloc (.cells #[.string d.tag, .string d.txt, .string d.key, .slice d.sa.A d.sa.n d.sa.c, .slice d.sk.A d.sk.n d.sk.c] 26) = wa at NA BA ⊢
            clear g0 g1 g2 g3 g4
            obtain ⟨b', o', rfl, g0, g1, g2, g3, g4⟩ := CB.out wa BA.out
            go_upto_region 7 with fail
            have NB : Hid (TB (wa.alloc (.cells #[.string d'.tag, .string d'.txt, .string d'.key, .slice d'.sa.A d'.sa.n d'.sa.c, .slice d'.sk.A d'.sk.n d'.sk.c] 26)) wa.heap.size d') := Lib.hid (TB.new wa d')
            have BB : Hid (Below wa.heap.size wa (wa.alloc (.cells #[.string d'.tag, .string d'.txt, .string d'.key, .slice d'.sa.A d'.sa.n d'.sa.c, .slice d'.sk.A d'.sk.n d'.sk.c] 26))) := Lib.hid ((Below.refl _ _).alloc (Nat.le_refl _) _)
            generalize wa.alloc (.cells #[.string d'.tag, .string d'.txt, .string d'.key, .slice d'.sa.A d'.sa.n d'.sa.c, .slice d'.sk.A d'.sk.n d'.sk.c] 26) = wb at NB BB ⊢
            have NA2 := Lib.hid (NA.out.below BB.out NA.out.lt)
            have BW := Lib.hid (BA.out.trans (BB.out.mono BA.out.size))
            clear g0 g1 g2 g3 g4 CB NA
            have a0 := NA2.out.c0; have a1 := NA2.out.c1; have a2 := NA2.out.c2; have a3 := NA2.out.c3; have a4 := NA2.out.c4
            have b0 := NB.out.c0; have b1 := NB.out.c1; have b2 := NB.out.c2; have b3 := NB.out.c3; have b4 := NB.out.c4
            go_wp2_with fail
            refine (CK.out wb BW.out).mono ?_
            rintro e w5 ⟨rfl, b5⟩
            have B5 := Lib.hid (HB.out.trans ((BW.out.trans (b5.mono BW.out.size)).mono HB.out.size))
            clear b5
            cases mk with
            | false =>
              go_wp2_with fail
              go_ret
              exact ⟨by rw [sameL_bad HKE.out HKE'.out HMK.out]; rfl, B5.out⟩
            | true =>
              go_wp2_with fail
              go_roundw
              case rel =>
                refine ⟨k + 1, by omega, by go_num, Lib.hid (fun j hj h1 h2 => ?_), B5⟩
                rcases Nat.lt_or_ge j k with e | e
                · exact HS.out j e h1 h2
                · obtain rfl : j = k := by omega
                  exact HMK.out
              case measure => simp [intOf]; omega
          · obtain rfl : k = n2 := by omega
            go_wp2_with fail
            go_ret
            refine ⟨?_, HB.out⟩
            rw [sameL_all (by have := LEN.out; omega) (fun j h1 h2 => HS.out j (by have := LEN.out; omega) h1 h2)]
            rfl
      · have qn : ((n2 : Int) != (n2' : Int)) = true := by simp; omega
        go_enter Tryz.func47, Tryz.ntmps47
        go_wp2_with fail
        go_ret
        exact ⟨by rw [sameL_len (by have := LEN.out; omega)]; rfl, Below.refl _ _⟩)
    clear h h' ih al al' hbs f1 f2 f3 f1' f2' f3' f4 f4' f5 f5' h20 h20'
    show Calls Tryz.prog 22 #[.agg #[.string tag, .string txt, .string key, .slice A n c, .slice A2 n2 c2], .agg #[.string tag', .string txt', .string key', .slice A' n' c', .slice A2' n2' c2']] w _
    go_enter Tryz.func22, Tryz.ntmps22
    go_upto_region 1 with fail
    generalize (w.alloc (.cells #[.string tag, .string txt, .string key, .slice A n c, .slice A2 n2 c2] 26)).alloc (.cells #[.string tag', .string txt', .string key', .slice A' n' c', .slice A2' n2' c2'] 26) = W at B1 N1 M1 ⊢
    have a0 : W.cell? ⟨w.heap.size, 0, none⟩ = some (.string tag) := N1.out.c0
    have a1 : W.cell? ⟨w.heap.size, 1, none⟩ = some (.string txt) := N1.out.c1
    have a2 : W.cell? ⟨w.heap.size, 2, none⟩ = some (.string key) := N1.out.c2
    have a3 : W.cell? ⟨w.heap.size, 3, none⟩ = some (.slice A n c) := N1.out.c3
    have a4 : W.cell? ⟨w.heap.size, 4, none⟩ = some (.slice A2 n2 c2) := N1.out.c4
    have b0 : W.cell? ⟨w.heap.size + 1, 0, none⟩ = some (.string tag') := M1.out.c0
    have b1 : W.cell? ⟨w.heap.size + 1, 1, none⟩ = some (.string txt') := M1.out.c1
    have b2 : W.cell? ⟨w.heap.size + 1, 2, none⟩ = some (.string key') := M1.out.c2
    have b3 : W.cell? ⟨w.heap.size + 1, 3, none⟩ = some (.slice A' n' c') := M1.out.c3
    have b4 : W.cell? ⟨w.heap.size + 1, 4, none⟩ = some (.slice A2' n2' c2') := M1.out.c4
    have bad : Hid ((bs && bt && bx && bk) = false → Ending.returned (.bool false) = Ending.returned (.bool (sameP (er (.mk tag txt key ⟨A, n, c⟩ attrs ⟨A2, n2, c2⟩ kids)) (er (.mk tag' txt' key' ⟨A', n', c'⟩ attrs' ⟨A2', n2', c2'⟩ kids'))))) := Lib.hid (fun e => by rw [HD.out, e, Bool.false_and])
    cases bt with
    | false =>
      go_wp2_with fail
      go_ret
      exact ⟨bad.out (by simp), B1.out⟩
    | true =>
    cases bx with
    | false =>
      go_wp2_with fail
      go_ret
      exact ⟨bad.out (by simp), B1.out⟩
    | true =>
    cases bk with
    | false =>
      go_wp2_with fail
      go_ret
      exact ⟨bad.out (by simp), B1.out⟩
    | true =>
    go_wp2_with fail
    refine (P3.same_any attrs attrs' A A' n n' c c' W AL.out AL'.out (by omega) (by omega) (p3holds (AH.out.on B1.out)) (p3holds (AH'.out.on B1.out))).mono ?_
    rintro e w2 ⟨rfl, bb⟩
    rw [HBS.out]
    have B2 := Lib.hid (B1.out.trans (bb.mono B1.out.size))
    have N2 := Lib.hid (N1.out.below bb N1.out.lt)
    have M2 := Lib.hid (M1.out.below bb M1.out.lt)
    clear bb a0 a1 a2 a3 a4 b0 b1 b2 b3 b4
    cases bs with
    | false =>
      go_wp2_with fail
      go_ret
      exact ⟨bad.out rfl, B2.out⟩
    | true =>
      have a4 : w2.cell? ⟨w.heap.size, 4, none⟩ = some (.slice A2 n2 c2) := N2.out.c4
      have b4 : w2.cell? ⟨w.heap.size + 1, 4, none⟩ = some (.slice A2' n2' c2') := M2.out.c4
      have HD2 : Hid (sameP (er (.mk tag txt key ⟨A, n, c⟩ attrs ⟨A2, n2, c2⟩ kids)) (er (.mk tag' txt' key' ⟨A', n', c'⟩ attrs' ⟨A2', n2', c2'⟩ kids')) = sameL (erL kids) (erL kids')) := Lib.hid (by rw [HD.out]; rfl)
      clear bad HD
      go_wp2_with fail
      refine (HEQ.out w2 B2.out).mono ?_
      rintro e w3 ⟨rfl, bb⟩
      have B3 := Lib.hid (B2.out.trans (bb.mono B2.out.size))
      clear bb
      go_wp2_with fail
      go_ret
      exact ⟨by rw [HD2.out]; rfl, B3.out⟩

/-! ### Of -/
theorem of_nil : OfNilC := by
  intro w
  have BLK : Hid ((w.alloc (.cells #[.string ⟨#[]⟩, .string ⟨#[]⟩, .string ⟨#[]⟩, .slice none 0 0, .slice none 0 0] 26)).heap[w.heap.size]? = some (.cells #[.string ⟨#[]⟩, .string ⟨#[]⟩, .string ⟨#[]⟩, .slice none 0 0, .slice none 0 0] 26 (0, 0))) := Lib.hid (heap_alloc_new w _)
  go_enter Tryz.func16, Tryz.ntmps16
  go_wp2_with fail
  refine bodyPost_ret (v := .tuple #[.agg #[.string ⟨#[]⟩, .string ⟨#[]⟩, .string ⟨#[]⟩, .slice none 0 0, .slice none 0 0], .bool false]) (by simp [results, Tryz.results16, go_sem]) rfl ⟨rfl, ?_⟩
  exact (Below.refl _ w).alloc (Nat.le_refl _) _
end Go.Proofs.YtkagaobelhpojaaGreat.P8
