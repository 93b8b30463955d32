/- Trees whose texts and lists are not too long, and not too many: the reference's May and Same. No condition but those stated. -/
import Derived.Test.YthdgaoifbejpjaaM20
set_option linter.unusedVariables false
set_option linter.unusedSimpArgs false
set_option linter.unusedVariables false
set_option linter.unusedSimpArgs false
namespace Go.Proofs.Ythdgaoifbejpjaa.P10
open Go.RowKit Kd P4 P5 P8

def okA (l : List P3.At) : Bool := decide (l.length ≤ 100000) && l.all (fun a => decide (a.nm.size ≤ 100000) && decide (a.vl.size ≤ 100000))
mutual
def okP : PT → Bool
  | .mk tag txt key attrs kids => decide (tag.size ≤ 100000) && decide (txt.size ≤ 100000) && decide (key.size ≤ 100000) && okA attrs && decide (kids.length ≤ 100000) && okL kids
def okL : List PT → Bool
  | [] => true
  | a :: l => okP a && okL l
end
theorem okL_all : ∀ l : List PT, okL l = l.all okP
  | [] => by simp [okL]
  | a :: l => by simp [okL, okL_all l]
theorem okL_at {l : List PT} {k : Nat} (h : k < l.length) (h1 : okL l = true) : okP l[k] = true := by
  rw [okL_all, List.all_eq_true] at h1
  exact h1 _ (List.getElem_mem h)
theorem okA_at {l : List P3.At} (h : okA l = true) {k : Nat} (hk : k < l.length) : l[k].nm.size ≤ 100000 ∧ l[k].vl.size ≤ 100000 := by
  unfold okA at h
  rw [Bool.and_eq_true, List.all_eq_true] at h
  have := h.2 _ (List.getElem_mem hk)
  simpa using this
theorem okA_len {l : List P3.At} (h : okA l = true) : l.length ≤ 100000 := by
  unfold okA at h
  rw [Bool.and_eq_true] at h
  simpa using h.1
theorem ok_wf {l : List P3.At} (h : okA l = true) : P3.Wf l ∧ l.length ≤ 100000 := by
  refine ⟨fun a ha => ?_, okA_len h⟩
  obtain ⟨k, hk, rfl⟩ := List.mem_iff_getElem.1 ha
  have := okA_at h hk
  unfold maxLen
  omega
theorem few_ok (t : PT) : fewP t = true → countP t ≤ 100000 → okP t = true := by
  induction t using PT.ind with
  | h tag txt key attrs kids ih =>
    intro h hc
    rw [fewP] at h
    rw [countP] at hc
    simp only [Bool.and_eq_true, decide_eq_true_eq] at h
    obtain ⟨⟨⟨⟨f1, f2⟩, f3⟩, f4⟩, f5⟩ := h
    have hl := len_le_count kids
    have hA : okA attrs = true := by
      unfold P3.fewA at f4
      unfold okA
      rw [Bool.and_eq_true, decide_eq_true_eq, List.all_eq_true] at f4 ⊢
      refine ⟨by omega, fun a ha => ?_⟩
      have := f4.2 a ha
      unfold P3.shortA at this
      simp only [Bool.and_eq_true, decide_eq_true_eq] at this ⊢
      omega
    rw [okP, hA, okL_all]
    simp only [Bool.and_eq_true, decide_eq_true_eq, List.all_eq_true]
    rw [fewL_all, List.all_eq_true] at f5
    refine ⟨⟨⟨⟨⟨by omega, by omega⟩, by omega⟩, trivial⟩, by omega⟩, fun k hk => ih k hk (f5 k hk) ?_⟩
    obtain ⟨i, hi, rfl⟩ := List.mem_iff_getElem.1 hk
    have := countL_at hi
    omega
theorem fewL_ok {l : List PT} (h : fewL l = true) (hc : countL l ≤ 100000) : okL l = true := by
  rw [okL_all, List.all_eq_true]
  intro t ht
  obtain ⟨i, hi, rfl⟩ := List.mem_iff_getElem.1 ht
  exact few_ok _ (fewL_at hi h) (by have := countL_at hi; omega)

/-! ### May -/
set_option maxHeartbeats 4000000 in
theorem rmay_ok : ∀ (t : TV) (w : World), TOk w w.heap.size t → okP (er t) = true → Calls Try.prog 11 #[.agg #[.string t.tag, .string t.txt, .string t.key, .slice t.sa.A t.sa.n t.sa.c, .slice t.sk.A t.sk.n t.sk.c]] w fun e w' => e = .returned (.bool (mayP (er t))) ∧ Below w.heap.size w w' := by
  intro t
  induction t using TV.ind with
  | h tag txt key sa attrs sk kids ih =>
    obtain ⟨A, n, c⟩ := sa
    obtain ⟨A2, n2, c2⟩ := sk
    intro w h hfew
    have al : attrs.length = n := h.al
    have AH : Hid (kA.Holds w w.heap.size A attrs) := Lib.hid h.ah
    have KL : Hid (kids.length = n2) := Lib.hid h.kl
    have KH : Hid (kT.Holds w w.heap.size A2 kids) := Lib.hid h.kh
    have KS : Hid (∀ k ∈ kids, TOk w w.heap.size k) := Lib.hid h.ks
    have B1 : Hid (Below w.heap.size w (w.alloc (.cells #[.string tag, .string txt, .string key, .slice A n c, .slice A2 n2 c2] 37))) := Lib.hid ((Below.refl _ _).alloc (Nat.le_refl _) _)
    have N1 : Hid (TB (w.alloc (.cells #[.string tag, .string txt, .string key, .slice A n c, .slice A2 n2 c2] 37)) w.heap.size (.mk tag txt key ⟨A, n, c⟩ attrs ⟨A2, n2, c2⟩ kids)) := Lib.hid (TB.new w (.mk tag txt key ⟨A, n, c⟩ attrs ⟨A2, n2, c2⟩ kids))
    rw [er, okP] at hfew
    simp only [Bool.and_eq_true, decide_eq_true_eq] at hfew
    obtain ⟨⟨⟨⟨⟨f1, f2⟩, f3⟩, f4⟩, f6⟩, f5⟩ := hfew
    obtain ⟨hwf, h20⟩ := ok_wf f4
    have hn20 : n ≤ 100000 := by omega
    have m1 : tag.size ≤ maxLen := by unfold maxLen; omega
    have m2 : txt.size ≤ maxLen := by unfold maxLen; omega
    have m3 : key.size ≤ maxLen := by unfold maxLen; omega
    have F5 : Hid (∀ k (hk : k < kids.length), okP (er kids[k]) = true) := Lib.hid (fun k hk => by
      have hk' : k < (erL kids).length := by rw [erL_map]; simpa using hk
      have := okL_at hk' f5
      simpa [erL_map] using this)
    have hle : n2 ≤ 100000 := by have := KL.out; rw [erL_map, List.length_map] at f6; omega
    have AL := Lib.hid al
    have HW := Lib.hid hwf
    clear al hwf f4 f5 f6
    have IH := Lib.hid ih
    obtain ⟨bn, hbn⟩ : ∃ b, P1.nameB tag.data.toList = b := ⟨_, rfl⟩
    obtain ⟨bx, hbx⟩ : ∃ b, P1.textB txt.data.toList = b := ⟨_, rfl⟩
    obtain ⟨bk, hbk⟩ : ∃ b, P1.textB key.data.toList = b := ⟨_, rfl⟩
    obtain ⟨ba, hba⟩ : ∃ b, P3.mayA attrs = b := ⟨_, rfl⟩
    obtain ⟨bv, hbv⟩ : ∃ b, P1.voidB tag.data.toList = b := ⟨_, rfl⟩
    have HN := Lib.hid hbn
    have HX := Lib.hid hbx
    have HK := Lib.hid hbk
    have HA := Lib.hid hba
    have HV := Lib.hid hbv
    clear h ih hbn hbx hbk hba hbv
    show Calls Try.prog 11 #[.agg #[.string tag, .string txt, .string key, .slice A n c, .slice A2 n2 c2]] w _
    have HT : Hid (mayP (er (.mk tag txt key ⟨A, n, c⟩ attrs ⟨A2, n2, c2⟩ kids)) = if tag.toList.isEmpty then bx && key.toList.isEmpty && attrs.isEmpty && (erL kids).isEmpty else bn && bk && ba && txt.toList.isEmpty && !(bv && !(erL kids).isEmpty) && mayL (erL kids)) := Lib.hid (by rw [er, mayP, HN.out, HX.out, HK.out, HA.out, HV.out])
    have E1 : Hid (attrs.isEmpty = decide (n = 0)) := Lib.hid (by rw [← AL.out]; cases attrs <;> simp)
    have E2 : Hid ((erL kids).isEmpty = decide (n2 = 0)) := Lib.hid (by rw [← KL.out, erL_map]; cases kids <;> simp)
    go_enter Try.func11, Try.ntmps11
    go_upto_region 1 with fail
    generalize w.alloc (.cells #[.string tag, .string txt, .string key, .slice A n c, .slice A2 n2 c2] 37) = W at B1 N1 ⊢
    have a0 : W.cell? ⟨w.heap.size, 0, none⟩ = some (.string tag) := N1.out.c0
    have a1 : W.cell? ⟨w.heap.size, 1, none⟩ = some (.string txt) := N1.out.c1
    have a2 : W.cell? ⟨w.heap.size, 2, none⟩ = some (.string key) := N1.out.c2
    have a3 : W.cell? ⟨w.heap.size, 3, none⟩ = some (.slice A n c) := N1.out.c3
    have a4 : W.cell? ⟨w.heap.size, 4, none⟩ = some (.slice A2 n2 c2) := N1.out.c4
    cases tE : tag.toList.isEmpty with
    | true =>
      have HD : Hid (mayP (er (.mk tag txt key ⟨A, n, c⟩ attrs ⟨A2, n2, c2⟩ kids)) = (bx && key.toList.isEmpty && decide (n = 0) && decide (n2 = 0))) := Lib.hid (by rw [HT.out, tE, if_pos rfl, E1.out, E2.out])
      go_wp2_with fail
      refine (P3.rtext_at txt _ HX.out m2).mono ?_
      rintro e w' ⟨rfl, rfl⟩
      cases bx with
      | false =>
        go_wp2_with fail
        go_ret
        exact ⟨by rw [HD.out]; rfl, B1.out⟩
      | true =>
        cases keyE : key.toList.isEmpty with
        | false =>
          go_wp2_with fail
          go_ret
          exact ⟨by rw [HD.out, keyE]; rfl, B1.out⟩
        | true =>
          by_cases hn0 : n = 0
          · subst hn0
            by_cases hn2 : n2 = 0
            · subst hn2
              go_wp2_with fail
              go_ret
              exact ⟨by rw [HD.out, keyE]; rfl, B1.out⟩
            · have qn2 : ((n2 : Int) == 0) = false := by simp; omega
              go_wp2_with fail
              go_ret
              exact ⟨by rw [HD.out, keyE]; simp [hn2], B1.out⟩
          · have qn : ((n : Int) == 0) = false := by simp; omega
            go_wp2_with fail
            go_ret
            exact ⟨by rw [HD.out, keyE]; simp [hn0], B1.out⟩
    | false =>
      have HD : Hid (mayP (er (.mk tag txt key ⟨A, n, c⟩ attrs ⟨A2, n2, c2⟩ kids)) = (bn && bk && ba && txt.toList.isEmpty && !(bv && !decide (n2 = 0)) && mayL (erL kids))) := Lib.hid (by rw [HT.out, tE, if_neg (by simp), E2.out])
      go_wp2_with fail
      refine (P3.rname_at tag _ HN.out m1).mono ?_
      rintro e w' ⟨rfl, rfl⟩
      go_wp2_with fail
      refine (P3.rtext_at key _ HK.out m3).mono ?_
      rintro e w' ⟨rfl, rfl⟩
      go_wp2_with fail
      refine (P3.rmay_any attrs A n c W AL.out (by omega) HW.out (p3holds (AH.out.on B1.out))).mono ?_
      rintro e w2 ⟨rfl, b2⟩
      rw [HA.out]
      have B2 := Lib.hid (B1.out.trans (b2.mono B1.out.size))
      have N2 := Lib.hid (N1.out.below b2 N1.out.lt)
      clear b2 a0 a1 a2 a3 a4
      have a0 : w2.cell? ⟨w.heap.size, 0, none⟩ = some (.string tag) := N2.out.c0
      have a1 : w2.cell? ⟨w.heap.size, 1, none⟩ = some (.string txt) := N2.out.c1
      have a4 : w2.cell? ⟨w.heap.size, 4, none⟩ = some (.slice A2 n2 c2) := N2.out.c4
      go_wp2_with fail
      refine (P1.rvoid_any tag _).mono ?_
      rintro e w' ⟨rfl, rfl⟩
      rw [HV.out]
      have bad : Hid ((bn && bk && ba && txt.toList.isEmpty && !(bv && !decide (n2 = 0))) = false → Ending.returned (.bool false) = Ending.returned (.bool (mayP (er (.mk tag txt key ⟨A, n, c⟩ attrs ⟨A2, n2, c2⟩ kids))))) := Lib.hid (fun e => by rw [HD.out, e, Bool.false_and])
      cases bn with
      | false =>
        go_wp2_with fail
        go_ret
        exact ⟨bad.out rfl, B2.out⟩
      | true =>
      cases bk with
      | false =>
        go_wp2_with fail
        go_ret
        exact ⟨bad.out rfl, B2.out⟩
      | true =>
      cases ba with
      | false =>
        go_wp2_with fail
        go_ret
        exact ⟨bad.out rfl, B2.out⟩
      | true =>
      cases xE : txt.toList.isEmpty with
      | false =>
        go_wp2_with fail
        go_ret
        exact ⟨bad.out (by rw [xE]; rfl), B2.out⟩
      | true =>
      by_cases hvk : bv = true ∧ n2 ≠ 0
      · obtain ⟨rfl, hn2⟩ := hvk
        have q1 : decide ((0 : Int) < (n2 : Int)) = true := by simp; omega
        have q2 : decide (0 < n2) = true := by simp; omega
        go_wp2_with fail
        go_ret
        exact ⟨bad.out (by rw [xE]; simp [hn2]), B2.out⟩
      · have HVK : Hid ((bv && !decide (n2 = 0)) = false) := Lib.hid (by cases bv <;> simp_all)
        have HD2 : Hid (mayP (er (.mk tag txt key ⟨A, n, c⟩ attrs ⟨A2, n2, c2⟩ kids)) = mayL (erL kids)) := Lib.hid (by rw [HD.out, xE, HVK.out]; simp)
        have key2 : (bv = false) ∨ (bv = true ∧ n2 = 0) := by cases bv <;> simp_all
        clear bad hvk HD HT
        rcases key2 with rfl | ⟨rfl, hn0⟩
        · go_wp2_with fail
          go_loopw [8] (fun s wr => ∃ (k : Nat), k ≤ n2 ∧ s = .int .i64 k ∧ Hid (mayL ((erL kids).take k) = true) ∧ Hid (Below w.heap.size w wr) ∧ Hid (TB wr w.heap.size (.mk tag txt key ⟨A, n, c⟩ attrs ⟨A2, n2, c2⟩ kids))) (fun s _ => n2 - (intOf s).toNat)
          case atStart => exact ⟨0, by omega, rfl, Lib.hid (by simp [mayL]), B2, N2⟩
          case round =>
            obtain ⟨k, hk, rfl, HM, HB, NB⟩ := hrel
            have a4 : wr.cell? ⟨w.heap.size, 4, none⟩ = some (.slice A2 n2 c2) := NB.out.c4
            by_cases hkn : k < n2
            · have hkl : k < kids.length := by have := KL.out; omega
              have hke : k < (erL kids).length := by rw [erL_map]; simpa using hkl
              have hee : (erL kids)[k] = er kids[k] := by simp [erL_map]
              obtain ⟨b, o, rfl, hb, g0, g1, g2, g3, g4⟩ := cell_of_trees (KH.out.on HB.out) hkl
              have CK : Hid (Calls Try.prog 11 #[.agg #[.string kids[k].tag, .string kids[k].txt, .string kids[k].key, .slice kids[k].sa.A kids[k].sa.n kids[k].sa.c, .slice kids[k].sk.A kids[k].sk.n kids[k].sk.c]] wr fun e w' => e = .returned (.bool (mayP (er kids[k]))) ∧ Below wr.heap.size wr w') := Lib.hid (IH.out kids[k] (List.getElem_mem hkl) wr ((KS.out _ (List.getElem_mem hkl)).on HB.out) (F5.out k hkl))
              obtain ⟨mk, hmk⟩ : ∃ mk, mayP (er kids[k]) = mk := ⟨_, rfl⟩
              rw [hmk] at CK
              have HMK : Hid (mayP (erL kids)[k] = mk) := Lib.hid (by rw [hee]; exact hmk)
              have HKE := Lib.hid hke
              clear hmk hee
              generalize kids[k] = d at g0 g1 g2 g3 g4 CK
              go_wp2_with fail
              refine CK.out.mono ?_
              rintro e w5 ⟨rfl, b5⟩
              have B5 := Lib.hid (HB.out.trans (b5.mono HB.out.size))
              have N5 := Lib.hid (NB.out.below b5 NB.out.lt)
              clear b5
              cases mk with
              | false =>
                go_wp2_with fail
                go_ret
                exact ⟨by rw [HD2.out, mayL_bad HKE.out HMK.out]; rfl, B5.out⟩
              | true =>
                go_wp2_with fail
                go_roundw
                case rel => exact ⟨k + 1, by omega, by go_num, Lib.hid (mayL_take HKE.out HM.out HMK.out), B5, N5⟩
                case measure => simp [intOf]; omega
            · obtain rfl : k = n2 := by omega
              go_wp2_with fail
              go_ret
              refine ⟨?_, HB.out⟩
              have h1 := HM.out
              rw [List.take_of_length_le (by have := KL.out; rw [erL_map]; simp; omega)] at h1
              rw [HD2.out, h1]
              rfl
        · have q1 : decide ((0 : Int) < (n2 : Int)) = false := by simp; omega
          have q2 : decide (0 < n2) = false := by simp; omega
          go_wp2_with fail
          go_loopw [8] (fun s wr => ∃ (k : Nat), k ≤ n2 ∧ s = .int .i64 k ∧ Hid (mayL ((erL kids).take k) = true) ∧ Hid (Below w.heap.size w wr) ∧ Hid (TB wr w.heap.size (.mk tag txt key ⟨A, n, c⟩ attrs ⟨A2, n2, c2⟩ kids))) (fun s _ => n2 - (intOf s).toNat)
          case atStart => exact ⟨0, by omega, rfl, Lib.hid (by simp [mayL]), B2, N2⟩
          case round =>
            obtain ⟨k, hk, rfl, HM, HB, NB⟩ := hrel
            have a4 : wr.cell? ⟨w.heap.size, 4, none⟩ = some (.slice A2 n2 c2) := NB.out.c4
            by_cases hkn : k < n2
            · exact absurd hkn (by omega)
            · obtain rfl : k = n2 := by omega
              go_wp2_with fail
              go_ret
              refine ⟨?_, HB.out⟩
              have h1 := HM.out
              rw [List.take_of_length_le (by have := KL.out; rw [erL_map]; simp; omega)] at h1
              rw [HD2.out, h1]
              rfl


/-! ### Same -/
set_option maxRecDepth 100000 in
set_option maxHeartbeats 8000000 in
theorem rsame_ok : ∀ (t u : TV) (w : World), TOk w w.heap.size t → TOk w w.heap.size u → okP (er t) = true → okP (er u) = true → Calls Try.prog 17 #[.agg #[.string t.tag, .string t.txt, .string t.key, .slice t.sa.A t.sa.n t.sa.c, .slice t.sk.A t.sk.n t.sk.c], .agg #[.string u.tag, .string u.txt, .string u.key, .slice u.sa.A u.sa.n u.sa.c, .slice u.sk.A u.sk.n u.sk.c]] w fun e w' => e = .returned (.bool (sameP (er t) (er u))) ∧ Below w.heap.size w w' := by
  intro t
  induction t using TV.ind with
  | h tag txt key sa attrs sk kids ih =>
    obtain ⟨A, n, c⟩ := sa
    obtain ⟨A2, n2, c2⟩ := sk
    intro u
    obtain ⟨tag', txt', key', ⟨A', n', c'⟩, attrs', ⟨A2', n2', c2'⟩, kids'⟩ := u
    intro w h h' hfew hfew'
    have al : attrs.length = n := h.al
    have al' : attrs'.length = n' := h'.al
    have AH : Hid (kA.Holds w w.heap.size A attrs) := Lib.hid h.ah
    have AH' : Hid (kA.Holds w w.heap.size A' attrs') := Lib.hid h'.ah
    have KL : Hid (kids.length = n2) := Lib.hid h.kl
    have KL' : Hid (kids'.length = n2') := Lib.hid h'.kl
    have KH : Hid (kT.Holds w w.heap.size A2 kids) := Lib.hid h.kh
    have KH' : Hid (kT.Holds w w.heap.size A2' kids') := Lib.hid h'.kh
    have KS : Hid (∀ k ∈ kids, TOk w w.heap.size k) := Lib.hid h.ks
    have KS' : Hid (∀ k ∈ kids', TOk w w.heap.size k) := Lib.hid h'.ks
    have B1 : Hid (Below w.heap.size w ((w.alloc (.cells #[.string tag, .string txt, .string key, .slice A n c, .slice A2 n2 c2] 37)).alloc (.cells #[.string tag', .string txt', .string key', .slice A' n' c', .slice A2' n2' c2'] 37))) := Lib.hid (((Below.refl _ _).alloc (Nat.le_refl _) _).alloc (by simp) _)
    have N1 : Hid (TB ((w.alloc (.cells #[.string tag, .string txt, .string key, .slice A n c, .slice A2 n2 c2] 37)).alloc (.cells #[.string tag', .string txt', .string key', .slice A' n' c', .slice A2' n2' c2'] 37)) w.heap.size (.mk tag txt key ⟨A, n, c⟩ attrs ⟨A2, n2, c2⟩ kids)) := Lib.hid (heap_up (TB.new w (.mk tag txt key ⟨A, n, c⟩ attrs ⟨A2, n2, c2⟩ kids)))
    have M1 : Hid (TB ((w.alloc (.cells #[.string tag, .string txt, .string key, .slice A n c, .slice A2 n2 c2] 37)).alloc (.cells #[.string tag', .string txt', .string key', .slice A' n' c', .slice A2' n2' c2'] 37)) (w.heap.size + 1) (.mk tag' txt' key' ⟨A', n', c'⟩ attrs' ⟨A2', n2', c2'⟩ kids')) := Lib.hid (heap_top (by simp))
    rw [er, okP] at hfew hfew'
    simp only [Bool.and_eq_true, decide_eq_true_eq] at hfew hfew'
    obtain ⟨⟨⟨⟨⟨_, _⟩, _⟩, f4⟩, f6⟩, f5⟩ := hfew
    obtain ⟨⟨⟨⟨⟨_, _⟩, _⟩, f4'⟩, f6'⟩, f5'⟩ := hfew'
    have h20 := okA_len f4
    have h20' := okA_len f4'
    have hn20 : n ≤ 100000 := by omega
    have hn20' : n' ≤ 100000 := by omega
    have F5 : Hid (∀ k (hk : k < kids.length), okP (er kids[k]) = true) := Lib.hid (fun k hk => by
      have hk' : k < (erL kids).length := by rw [erL_map]; simpa using hk
      have := okL_at hk' f5
      simpa [erL_map] using this)
    have F5' : Hid (∀ k (hk : k < kids'.length), okP (er kids'[k]) = true) := Lib.hid (fun k hk => by
      have hk' : k < (erL kids').length := by rw [erL_map]; simpa using hk
      have := okL_at hk' f5'
      simpa [erL_map] using this)
    have hle : n2 ≤ 100000 := by have := KL.out; rw [erL_map, List.length_map] at f6; omega
    have hleB : n2' ≤ 100000 := by have := KL'.out; rw [erL_map, List.length_map] at f6'; omega
    clear f4 f4' f6 f6'
    obtain ⟨bs, hbs⟩ : ∃ b, P3.sameA attrs attrs' = b := ⟨_, rfl⟩
    obtain ⟨bt, hbt⟩ : ∃ b, (tag.toList == tag'.toList) = b := ⟨_, rfl⟩
    obtain ⟨bx, hbx⟩ : ∃ b, (txt.toList == txt'.toList) = b := ⟨_, rfl⟩
    obtain ⟨bk, hbk⟩ : ∃ b, (key.toList == key'.toList) = b := ⟨_, rfl⟩
    have HD : Hid (sameP (er (.mk tag txt key ⟨A, n, c⟩ attrs ⟨A2, n2, c2⟩ kids)) (er (.mk tag' txt' key' ⟨A', n', c'⟩ attrs' ⟨A2', n2', c2'⟩ kids')) = (bs && bt && bx && bk && sameL (erL kids) (erL kids'))) := Lib.hid (by rw [er, er, sameP, hbs, hbt, hbx, hbk])
    have HBS := Lib.hid hbs
    have pt : (tag.toList != tag'.toList) = !bt := by rw [← hbt]; rfl
    have px : (txt.toList != txt'.toList) = !bx := by rw [← hbx]; rfl
    have pk : (key.toList != key'.toList) = !bk := by rw [← hbk]; rfl
    have LEN : Hid ((erL kids).length = n2 ∧ (erL kids').length = n2') := Lib.hid (by rw [erL_map, erL_map, List.length_map, List.length_map]; exact ⟨KL.out, KL'.out⟩)
    have AL := Lib.hid al
    have AL' := Lib.hid al'
    have IH := Lib.hid ih
    clear h h' ih al al' hbs f5 f5' h20 h20'
    show Calls Try.prog 17 #[.agg #[.string tag, .string txt, .string key, .slice A n c, .slice A2 n2 c2], .agg #[.string tag', .string txt', .string key', .slice A' n' c', .slice A2' n2' c2']] w _
    go_enter Try.func17, Try.ntmps17
    go_upto_region 1 with fail
    generalize (w.alloc (.cells #[.string tag, .string txt, .string key, .slice A n c, .slice A2 n2 c2] 37)).alloc (.cells #[.string tag', .string txt', .string key', .slice A' n' c', .slice A2' n2' c2'] 37) = W at B1 N1 M1 ⊢
    have a3 : W.cell? ⟨w.heap.size, 3, none⟩ = some (.slice A n c) := N1.out.c3
    have b3 : W.cell? ⟨w.heap.size + 1, 3, none⟩ = some (.slice A' n' c') := M1.out.c3
    go_wp2_with fail
    refine (P3.rsame_any attrs attrs' A A' n n' c c' W AL.out AL'.out (by omega) (by omega) (p3holds (AH.out.on B1.out)) (p3holds (AH'.out.on B1.out))).mono ?_
    rintro e w2 ⟨rfl, b2⟩
    rw [HBS.out]
    have B2 := Lib.hid (B1.out.trans (b2.mono B1.out.size))
    have N2 := Lib.hid (N1.out.below b2 N1.out.lt)
    have M2 := Lib.hid (M1.out.below b2 M1.out.lt)
    clear b2 a3 b3 B1 N1 M1
    have a0 : w2.cell? ⟨w.heap.size, 0, none⟩ = some (.string tag) := N2.out.c0
    have a1 : w2.cell? ⟨w.heap.size, 1, none⟩ = some (.string txt) := N2.out.c1
    have a2 : w2.cell? ⟨w.heap.size, 2, none⟩ = some (.string key) := N2.out.c2
    have a4 : w2.cell? ⟨w.heap.size, 4, none⟩ = some (.slice A2 n2 c2) := N2.out.c4
    have b0 : w2.cell? ⟨w.heap.size + 1, 0, none⟩ = some (.string tag') := M2.out.c0
    have b1 : w2.cell? ⟨w.heap.size + 1, 1, none⟩ = some (.string txt') := M2.out.c1
    have b2 : w2.cell? ⟨w.heap.size + 1, 2, none⟩ = some (.string key') := M2.out.c2
    have b4 : w2.cell? ⟨w.heap.size + 1, 4, none⟩ = some (.slice A2' n2' c2') := M2.out.c4
    have bad : Hid ((bs && bt && bx && bk) = false → Ending.returned (.bool false) = Ending.returned (.bool (sameP (er (.mk tag txt key ⟨A, n, c⟩ attrs ⟨A2, n2, c2⟩ kids)) (er (.mk tag' txt' key' ⟨A', n', c'⟩ attrs' ⟨A2', n2', c2'⟩ kids'))))) := Lib.hid (fun e => by rw [HD.out, e, Bool.false_and])
    cases bs with
    | false =>
      go_wp2_with fail
      go_ret
      exact ⟨bad.out rfl, B2.out⟩
    | true =>
    cases bt with
    | false =>
      go_wp2_with fail
      go_ret
      exact ⟨bad.out rfl, B2.out⟩
    | true =>
    cases bx with
    | false =>
      go_wp2_with fail
      go_ret
      exact ⟨bad.out rfl, B2.out⟩
    | true =>
    cases bk with
    | false =>
      go_wp2_with fail
      go_ret
      exact ⟨bad.out rfl, B2.out⟩
    | true =>
    by_cases hnn : n2 = n2'
    · subst hnn
      have HD2 : Hid (sameP (er (.mk tag txt key ⟨A, n, c⟩ attrs ⟨A2, n2, c2⟩ kids)) (er (.mk tag' txt' key' ⟨A', n', c'⟩ attrs' ⟨A2', n2, c2'⟩ kids')) = sameL (erL kids) (erL kids')) := Lib.hid (by rw [HD.out]; rfl)
      clear bad HD
      go_wp2_with fail
      go_loopw [6] (fun s wr => ∃ (k : Nat), k ≤ n2 ∧ s = .int .i64 k ∧ Hid (∀ j (h : j < (erL kids).length) (h' : j < (erL kids').length), j < k → sameP (erL kids)[j] (erL kids')[j] = true) ∧ Hid (Below w.heap.size w wr) ∧ Hid (TB wr w.heap.size (.mk tag txt key ⟨A, n, c⟩ attrs ⟨A2, n2, c2⟩ kids)) ∧ Hid (TB wr (w.heap.size + 1) (.mk tag' txt' key' ⟨A', n', c'⟩ attrs' ⟨A2', n2, c2'⟩ kids'))) (fun s _ => n2 - (intOf s).toNat)
      case atStart => exact ⟨0, by omega, rfl, Lib.hid (fun j _ _ h => by omega), B2, N2, M2⟩
      case round =>
        obtain ⟨k, hk, rfl, HP, HB, NB, MB⟩ := hrel
        have a4 : wr.cell? ⟨w.heap.size, 4, none⟩ = some (.slice A2 n2 c2) := NB.out.c4
        have b4 : wr.cell? ⟨w.heap.size + 1, 4, none⟩ = some (.slice A2' n2 c2') := MB.out.c4
        by_cases hkn : k < n2
        · have hkl : k < kids.length := by have := KL.out; omega
          have hkl' : k < kids'.length := by have := KL'.out; omega
          have hke : k < (erL kids).length := by rw [LEN.out.1]; exact hkn
          have hke' : k < (erL kids').length := by rw [LEN.out.2]; exact hkn
          have hee : (erL kids)[k] = er kids[k] := by simp [erL_map]
          have hee' : (erL kids')[k] = er kids'[k] := by simp [erL_map]
          obtain ⟨b, o, rfl, hb, g0, g1, g2, g3, g4⟩ := cell_of_trees (KH.out.on HB.out) hkl
          obtain ⟨b', o', rfl, hb', k0, k1, k2, k3, k4⟩ := cell_of_trees (KH'.out.on HB.out) hkl'
          have CK : Hid (∀ w9, Below wr.heap.size wr w9 → Calls Try.prog 17 #[.agg #[.string kids[k].tag, .string kids[k].txt, .string kids[k].key, .slice kids[k].sa.A kids[k].sa.n kids[k].sa.c, .slice kids[k].sk.A kids[k].sk.n kids[k].sk.c], .agg #[.string kids'[k].tag, .string kids'[k].txt, .string kids'[k].key, .slice kids'[k].sa.A kids'[k].sa.n kids'[k].sa.c, .slice kids'[k].sk.A kids'[k].sk.n kids'[k].sk.c]] w9 fun e w' => e = .returned (.bool (sameP (er kids[k]) (er kids'[k]))) ∧ Below w9.heap.size w9 w') := Lib.hid (fun w9 hb9 => IH.out kids[k] (List.getElem_mem hkl) kids'[k] w9 (((KS.out _ (List.getElem_mem hkl)).on HB.out).on hb9) (((KS'.out _ (List.getElem_mem hkl')).on HB.out).on hb9) (F5.out k hkl) (F5'.out k hkl'))
          obtain ⟨mk, hmk⟩ : ∃ mk, sameP (er kids[k]) (er kids'[k]) = mk := ⟨_, rfl⟩
          rw [hmk] at CK
          have HMK : Hid (sameP (erL kids)[k] (erL kids')[k] = mk) := Lib.hid (by rw [hee, hee']; exact hmk)
          have HKE := Lib.hid (And.intro hke hke')
          clear hmk hee hee'
          generalize kids[k] = d at g0 g1 g2 g3 g4 CK
          generalize kids'[k] = e' at k0 k1 k2 k3 k4 CK
          have SKEEP : Hid (∀ w', Below wr.heap.size wr w' → (w'.cell? ⟨w.heap.size, 4, none⟩ = some (.slice (some ⟨b, o, none⟩) n2 c2) ∧ w'.cell? ⟨w.heap.size + 1, 4, none⟩ = some (.slice (some ⟨b', o', none⟩) n2 c2') ∧ w'.cell? ⟨b, o + k * 5, none⟩ = some (.string d.tag) ∧ w'.cell? ⟨b, o + k * 5 + 1, none⟩ = some (.string d.txt) ∧ w'.cell? ⟨b, o + k * 5 + 2, none⟩ = some (.string d.key) ∧ w'.cell? ⟨b, o + k * 5 + 3, none⟩ = some (.slice d.sa.A d.sa.n d.sa.c) ∧ w'.cell? ⟨b, o + k * 5 + 4, none⟩ = some (.slice d.sk.A d.sk.n d.sk.c) ∧ w'.cell? ⟨b', o' + k * 5, none⟩ = some (.string e'.tag) ∧ w'.cell? ⟨b', o' + k * 5 + 1, none⟩ = some (.string e'.txt) ∧ w'.cell? ⟨b', o' + k * 5 + 2, none⟩ = some (.string e'.key) ∧ w'.cell? ⟨b', o' + k * 5 + 3, none⟩ = some (.slice e'.sa.A e'.sa.n e'.sa.c) ∧ w'.cell? ⟨b', o' + k * 5 + 4, none⟩ = some (.slice e'.sk.A e'.sk.n e'.sk.c))) := Lib.hid (fun w' hw' => ⟨(hw'.cell (p := ⟨w.heap.size, 4, none⟩) NB.out.lt).trans a4, (hw'.cell (p := ⟨w.heap.size + 1, 4, none⟩) MB.out.lt).trans b4, (hw'.cell (p := ⟨b, o + k * 5, none⟩) hb).trans g0, (hw'.cell (p := ⟨b, o + k * 5 + 1, none⟩) hb).trans g1, (hw'.cell (p := ⟨b, o + k * 5 + 2, none⟩) hb).trans g2, (hw'.cell (p := ⟨b, o + k * 5 + 3, none⟩) hb).trans g3, (hw'.cell (p := ⟨b, o + k * 5 + 4, none⟩) hb).trans g4, (hw'.cell (p := ⟨b', o' + k * 5, none⟩) hb').trans k0, (hw'.cell (p := ⟨b', o' + k * 5 + 1, none⟩) hb').trans k1, (hw'.cell (p := ⟨b', o' + k * 5 + 2, none⟩) hb').trans k2, (hw'.cell (p := ⟨b', o' + k * 5 + 3, none⟩) hb').trans k3, (hw'.cell (p := ⟨b', o' + k * 5 + 4, none⟩) hb').trans k4⟩)
          go_wp2_with fail
          go_region_held3 (fun w' => w'.cell? ⟨w.heap.size, 4, none⟩ = some (.slice (some ⟨b, o, none⟩) n2 c2) ∧ w'.cell? ⟨w.heap.size + 1, 4, none⟩ = some (.slice (some ⟨b', o', none⟩) n2 c2') ∧ w'.cell? ⟨b, o + k * 5, none⟩ = some (.string d.tag) ∧ w'.cell? ⟨b, o + k * 5 + 1, none⟩ = some (.string d.txt) ∧ w'.cell? ⟨b, o + k * 5 + 2, none⟩ = some (.string d.key) ∧ w'.cell? ⟨b, o + k * 5 + 3, none⟩ = some (.slice d.sa.A d.sa.n d.sa.c) ∧ w'.cell? ⟨b, o + k * 5 + 4, none⟩ = some (.slice d.sk.A d.sk.n d.sk.c) ∧ w'.cell? ⟨b', o' + k * 5, none⟩ = some (.string e'.tag) ∧ w'.cell? ⟨b', o' + k * 5 + 1, none⟩ = some (.string e'.txt) ∧ w'.cell? ⟨b', o' + k * 5 + 2, none⟩ = some (.string e'.key) ∧ w'.cell? ⟨b', o' + k * 5 + 3, none⟩ = some (.slice e'.sa.A e'.sa.n e'.sa.c) ∧ w'.cell? ⟨b', o' + k * 5 + 4, none⟩ = some (.slice e'.sk.A e'.sk.n e'.sk.c))
            (first | go_keep | exact SK) ((first
            | (go_at_call 17; refine (CK.out _ (Below_drewN (Below.refl _ wr) _)).mono ?_; rintro e w10 ⟨rfl, b10⟩; have B10 : Hid (Below wr.heap.size wr w10) := Lib.hid ((Below_drewN (Below.refl _ wr) _).trans b10); have SK := SKEEP.out w10 B10.out; clear b10)
            | fail))
          have B11 := Lib.hid (HB.out.trans (B10.out.mono HB.out.size))
          have N11 := Lib.hid (NB.out.below B10.out NB.out.lt)
          have M11 := Lib.hid (MB.out.below B10.out MB.out.lt)
          cases mk with
          | false =>
            go_wp2_with fail
            go_ret
            exact ⟨by rw [HD2.out, sameL_bad HKE.out.1 HKE.out.2 HMK.out]; rfl, B11.out⟩
          | true =>
            go_wp2_with fail
            go_roundw
            case rel =>
              refine ⟨k + 1, by omega, by go_num, Lib.hid (fun j h1 h2 h3 => ?_), B11, N11, M11⟩
              by_cases hjk : j = k
              · subst hjk; exact HMK.out
              · exact HP.out j h1 h2 (by omega)
            case measure => simp [intOf]; omega
        · obtain rfl : k = n2 := by omega
          go_wp2_with fail
          go_ret
          refine ⟨?_, HB.out⟩
          rw [HD2.out, sameL_all (by rw [LEN.out.1, LEN.out.2]) (fun j h1 h2 => HP.out j h1 h2 (by rw [LEN.out.1] at h1; exact h1))]
          rfl
    · have qn : ((n2 : Int) != (n2' : Int)) = true := by simp; omega
      have HX : Hid (sameL (erL kids) (erL kids') = false) := Lib.hid (sameL_len (by rw [LEN.out.1, LEN.out.2]; exact hnn))
      go_wp2_with fail
      go_ret
      exact ⟨by rw [HD.out, HX.out, Bool.and_false]; rfl, B2.out⟩
end Go.Proofs.Ythdgaoifbejpjaa.P10
