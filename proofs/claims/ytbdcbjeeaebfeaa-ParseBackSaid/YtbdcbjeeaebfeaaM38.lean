/- Trees: layer 8's example, and the walk of TreeTells, over the contracts of the program's calls. -/
import Derived.Deep.RegionWith
import Derived.Test.YtbdcbjeeaebfeaaM9
import Derived.Test.YtbdcbjeeaebfeaaM16
set_option linter.unusedVariables false
set_option linter.unusedSimpArgs false
namespace Go.Proofs.Ytbdcbjeeaebfeaa.P8
open Go.RowKit Kd P4 P5

/-! ### What the program's calls are to do -/
def MayC : Prop := ∀ (t : TV) (w : World), TOk w w.heap.size t → fewP (er t) = true → countP (er t) ≤ 1000 → Calls Try.prog 27 #[.agg #[.string t.tag, .string t.txt, .string t.key, .slice t.sa.A t.sa.n t.sa.c, .slice t.sk.A t.sk.n t.sk.c]] w fun e w' => e = .returned (.bool (mayP (er t))) ∧ Below w.heap.size w w'
/-! ### The example -/
def txtT (b : UInt8) : TV := .mk ⟨#[]⟩ ⟨#[b]⟩ ⟨#[]⟩ ⟨none, 0, 0⟩ [] ⟨none, 0, 0⟩ []
def upT (s : Nat) : TV := .mk ⟨#[112]⟩ ⟨#[]⟩ ⟨#[]⟩ ⟨none, 0, 0⟩ [] ⟨some ⟨s, 0, none⟩, 2, 2⟩ [txtT 97, txtT 98]
def brT (s : Nat) : TV := .mk ⟨#[98, 114]⟩ ⟨#[]⟩ ⟨#[]⟩ ⟨none, 0, 0⟩ [] ⟨some ⟨s, 0, none⟩, 2, 2⟩ [txtT 97, txtT 98]
theorem txt_ok (w : World) (C : Nat) (b : UInt8) : TOk w C (txtT b) := ⟨rfl, Nat.le_refl _, fun _ => rfl, Kind.Holds.nil _ _ _, rfl, Nat.le_refl _, fun _ => rfl, Kind.Holds.nil _ _ _, fun k hk => by cases hk⟩
section
variable {w : World} {s : Nat}
theorem kids_ok (h : w.heap[s]? = some (.cells #[.string ⟨#[]⟩, .string ⟨#[97]⟩, .string ⟨#[]⟩, .slice none 0 0, .slice none 0 0, .string ⟨#[]⟩, .string ⟨#[98]⟩, .string ⟨#[]⟩, .slice none 0 0, .slice none 0 0] 38 (0, 0))) : kT.Holds w w.heap.size (some ⟨s, 0, none⟩) [txtT 97, txtT 98] := (Kind.Holds.lit h rfl).more (heap_lt h)
theorem up_ok (h : w.heap[s]? = some (.cells #[.string ⟨#[]⟩, .string ⟨#[97]⟩, .string ⟨#[]⟩, .slice none 0 0, .slice none 0 0, .string ⟨#[]⟩, .string ⟨#[98]⟩, .string ⟨#[]⟩, .slice none 0 0, .slice none 0 0] 38 (0, 0))) : TOk w w.heap.size (upT s) :=
  ⟨rfl, Nat.le_refl _, fun _ => rfl, Kind.Holds.nil _ _ _, rfl, Nat.le_refl _, (fun e => by cases e), kids_ok h, fun k hk => by
    rcases List.mem_cons.1 hk with rfl | hk
    · exact txt_ok _ _ _
    · rw [List.mem_singleton.1 hk]; exact txt_ok _ _ _⟩
theorem br_ok (h : w.heap[s]? = some (.cells #[.string ⟨#[]⟩, .string ⟨#[97]⟩, .string ⟨#[]⟩, .slice none 0 0, .slice none 0 0, .string ⟨#[]⟩, .string ⟨#[98]⟩, .string ⟨#[]⟩, .slice none 0 0, .slice none 0 0] 38 (0, 0))) : TOk w w.heap.size (brT s) :=
  ⟨rfl, Nat.le_refl _, fun _ => rfl, Kind.Holds.nil _ _ _, rfl, Nat.le_refl _, (fun e => by cases e), kids_ok h, fun k hk => by
    rcases List.mem_cons.1 hk with rfl | hk
    · exact txt_ok _ _ _
    · rw [List.mem_singleton.1 hk]; exact txt_ok _ _ _⟩
end
theorem up_count (s : Nat) : countP (er (upT s)) = 3 := by simp [upT, txtT, er, erL, countP, countL]
theorem br_count (s : Nat) : countP (er (brT s)) = 3 := by simp [brT, txtT, er, erL, countP, countL]
theorem up_few (s : Nat) : fewP (er (upT s)) = true := by
  simp only [upT, txtT, er, erL, fewP, fewL]
  decide
theorem br_few (s : Nat) : fewP (er (brT s)) = true := by
  simp only [brT, txtT, er, erL, fewP, fewL]
  decide
theorem l0 : (⟨#[]⟩ : ByteArray).toList = [] := by rw [ByteArray.toList_eq]
theorem l112 : (⟨#[112]⟩ : ByteArray).toList = [112] := by rw [ByteArray.toList_eq]
theorem lbr : (⟨#[98, 114]⟩ : ByteArray).toList = [98, 114] := by rw [ByteArray.toList_eq]
theorem up_may (s : Nat) : mayP (er (upT s)) = true := by
  simp only [upT, txtT, er, erL, mayP, mayL, l0, l112]
  decide
theorem br_may (s : Nat) : mayP (er (brT s)) = false := by
  simp only [brT, txtT, er, erL, mayP, mayL, l0, lbr]
  decide
/-! ### TreeTells -/
end Go.Proofs.Ytbdcbjeeaebfeaa.P8

/- What attr.Same (by slices.Equal) answers, for every list that isn't too long. -/
namespace Go.Proofs.Ytbdcbjeeaebfeaa.P3
open Go.RowKit

end Go.Proofs.Ytbdcbjeeaebfeaa.P3

/- Trees: the program's Count, May and Same, and its Of of no document. No condition but those stated. -/
namespace Go.Proofs.Ytbdcbjeeaebfeaa.P8
open Go.RowKit Kd P4 P5

/-! ### Count -/
/-! ### May -/
set_option maxHeartbeats 4000000 in
theorem mayText_any (t : TV) (w : World) (ht : t.tag.toList.isEmpty = true) (h : TOk w w.heap.size t) (m2 : t.txt.size ≤ maxLen) : Calls Try.prog 45 #[.agg #[.string t.tag, .string t.txt, .string t.key, .slice t.sa.A t.sa.n t.sa.c, .slice t.sk.A t.sk.n t.sk.c]] w fun e w' => e = .returned (.bool (mayP (er t))) ∧ Below w.heap.size w w' := by
  obtain ⟨tag, txt, key, ⟨A, n, c⟩, attrs, ⟨A2, n2, c2⟩, kids⟩ := t
  have al : attrs.length = n := h.al
  have kl : kids.length = n2 := h.kl
  have m2 : txt.size ≤ maxLen := m2
  have tE : tag.toList.isEmpty = true := ht
  have B1 : Hid (Below w.heap.size w (w.alloc (.cells #[.string tag, .string txt, .string key, .slice A n c, .slice A2 n2 c2] 38))) := Lib.hid ((Below.refl _ _).alloc (Nat.le_refl _) _)
  have N1 : Hid (TB (w.alloc (.cells #[.string tag, .string txt, .string key, .slice A n c, .slice A2 n2 c2] 38)) w.heap.size (.mk tag txt key ⟨A, n, c⟩ attrs ⟨A2, n2, c2⟩ kids)) := Lib.hid (TB.new w (.mk tag txt key ⟨A, n, c⟩ attrs ⟨A2, n2, c2⟩ kids))
  have E1 : attrs.isEmpty = decide (n = 0) := by rw [← al]; cases attrs <;> simp
  have E2 : (erL kids).isEmpty = decide (n2 = 0) := by rw [← kl, erL_map]; cases kids <;> simp
  obtain ⟨bx, hbx⟩ : ∃ b, P1.textB txt.data.toList = b := ⟨_, rfl⟩
  have HX := Lib.hid hbx
  have HD : Hid (mayP (er (.mk tag txt key ⟨A, n, c⟩ attrs ⟨A2, n2, c2⟩ kids)) = (bx && key.toList.isEmpty && decide (n = 0) && decide (n2 = 0))) := Lib.hid (by rw [er, mayP, tE, if_pos rfl, E1, E2, hbx])
  clear h ht al kl hbx E1 E2
  show Calls Try.prog 45 #[.agg #[.string tag, .string txt, .string key, .slice A n c, .slice A2 n2 c2]] w _
  go_enter Try.func45, Try.ntmps45
  go_upto_region 1 with fail
  generalize w.alloc (.cells #[.string tag, .string txt, .string key, .slice A n c, .slice A2 n2 c2] 38) = W at B1 N1 ⊢
  have a0 : W.cell? ⟨w.heap.size, 0, none⟩ = some (.string tag) := N1.out.c0
  have a1 : W.cell? ⟨w.heap.size, 1, none⟩ = some (.string txt) := N1.out.c1
  have a2 : W.cell? ⟨w.heap.size, 2, none⟩ = some (.string key) := N1.out.c2
  have a3 : W.cell? ⟨w.heap.size, 3, none⟩ = some (.slice A n c) := N1.out.c3
  have a4 : W.cell? ⟨w.heap.size, 4, none⟩ = some (.slice A2 n2 c2) := N1.out.c4
  cases kE : key.toList.isEmpty with
  | false =>
    go_wp2_with fail
    go_ret
    exact ⟨by rw [HD.out, kE]; simp, B1.out⟩
  | true =>
    by_cases hn0 : n = 0
    · subst hn0
      by_cases hn2 : n2 = 0
      · subst hn2
        go_wp2_with fail
        refine (P3.ntext_at txt _ HX.out m2).mono ?_
        rintro e w' ⟨rfl, rfl⟩
        go_wp2_with fail
        go_ret
        exact ⟨by rw [HD.out, kE]; simp, B1.out⟩
      · have qn2 : ((n2 : Int) == 0) = false := by simp; omega
        go_wp2_with fail
        go_ret
        exact ⟨by rw [HD.out, kE]; simp [hn2], B1.out⟩
    · have qn : ((n : Int) == 0) = false := by simp; omega
      go_wp2_with fail
      go_ret
      exact ⟨by rw [HD.out, kE]; simp [hn0], B1.out⟩
set_option maxHeartbeats 4000000 in
theorem may_c : MayC := by
  intro t
  induction t using TV.ind with
  | h tag txt key sa attrs sk kids ih =>
    obtain ⟨A, n, c⟩ := sa
    obtain ⟨A2, n2, c2⟩ := sk
    intro w h hfew hcnt
    have al : attrs.length = n := h.al
    have AH : Hid (kA.Holds w w.heap.size A attrs) := Lib.hid h.ah
    have KL : Hid (kids.length = n2) := Lib.hid h.kl
    have KH : Hid (kT.Holds w w.heap.size A2 kids) := Lib.hid h.kh
    have KS : Hid (∀ k ∈ kids, TOk w w.heap.size k) := Lib.hid h.ks
    have B1 : Hid (Below w.heap.size w (w.alloc (.cells #[.string tag, .string txt, .string key, .slice A n c, .slice A2 n2 c2] 38))) := Lib.hid ((Below.refl _ _).alloc (Nat.le_refl _) _)
    have N1 : Hid (TB (w.alloc (.cells #[.string tag, .string txt, .string key, .slice A n c, .slice A2 n2 c2] 38)) w.heap.size (.mk tag txt key ⟨A, n, c⟩ attrs ⟨A2, n2, c2⟩ kids)) := Lib.hid (TB.new w (.mk tag txt key ⟨A, n, c⟩ attrs ⟨A2, n2, c2⟩ kids))
    rw [er, fewP] at hfew
    simp only [Bool.and_eq_true, decide_eq_true_eq] at hfew
    obtain ⟨⟨⟨⟨f1, f2⟩, f3⟩, f4⟩, f5⟩ := hfew
    obtain ⟨hwf, h20⟩ := few_wf f4
    have hn20 : n ≤ 20 := by omega
    have m1 : tag.size ≤ maxLen := by unfold maxLen; omega
    have m2 : txt.size ≤ maxLen := by unfold maxLen; omega
    have m3 : key.size ≤ maxLen := by unfold maxLen; omega
    have F5 : Hid (∀ k (hk : k < kids.length), fewP (er kids[k]) = true) := Lib.hid (fun k hk => by
      have hk' : k < (erL kids).length := by rw [erL_map]; simpa using hk
      have := fewL_at hk' f5
      simpa [erL_map] using this)
    have AL := Lib.hid al
    have HW := Lib.hid hwf
    clear al hwf f4 f5
    have CL : Hid (countL (erL kids) ≤ 1000) := Lib.hid (by rw [er, countP] at hcnt; omega)
    have hle : n2 ≤ 1000 := by have h1 := len_le_count (erL kids); rw [erL_map, List.length_map] at h1; have h2 := KL.out; have h3 := CL.out; rw [erL_map] at h3; omega
    have C5 : Hid (∀ k (hk : k < kids.length), countP (er kids[k]) ≤ 1000) := Lib.hid (fun k hk => by
      have hk' : k < (erL kids).length := by rw [erL_map]; simpa using hk
      have h1 := countL_at hk'
      have h2 := CL.out
      have e : (erL kids)[k] = er kids[k] := by simp [erL_map]
      rw [e] at h1
      omega)
    clear hcnt
    have IH := Lib.hid ih
    have HTX : Hid (∀ w9, Below w.heap.size w w9 → tag.toList.isEmpty = true → Calls Try.prog 45 #[.agg #[.string tag, .string txt, .string key, .slice A n c, .slice A2 n2 c2]] w9 fun e w' => e = .returned (.bool (mayP (er (.mk tag txt key ⟨A, n, c⟩ attrs ⟨A2, n2, c2⟩ kids)))) ∧ Below w9.heap.size w9 w') := Lib.hid (fun w9 h9 hE => mayText_any (.mk tag txt key ⟨A, n, c⟩ attrs ⟨A2, n2, c2⟩ kids) w9 hE (h.on h9) m2)
    have hnc : n ≤ c := h.ac
    -- the element's way
    have HEL : Hid (∀ w9, Below w.heap.size w w9 → tag.toList.isEmpty = false → Calls Try.prog 46 #[.agg #[.string tag, .string txt, .string key, .slice A n c, .slice A2 n2 c2]] w9 fun e w' => e = .returned (.bool (mayP (er (.mk tag txt key ⟨A, n, c⟩ attrs ⟨A2, n2, c2⟩ kids)))) ∧ Below w9.heap.size w9 w') := Lib.hid (by
      intro w9 h9 tE
      have AH9 : Hid (kA.Holds w9 w9.heap.size A attrs) := Lib.hid (AH.out.on h9)
      have KH9 : Hid (kT.Holds w9 w9.heap.size A2 kids) := Lib.hid (KH.out.on h9)
      have KS9 : Hid (∀ k ∈ kids, TOk w9 w9.heap.size k) := Lib.hid (fun k hk => (KS.out k hk).on h9)
      clear h h9 B1 N1 AH KH KS HTX
      have B1 : Hid (Below w9.heap.size w9 (w9.alloc (.cells #[.string tag, .string txt, .string key, .slice A n c, .slice A2 n2 c2] 38))) := Lib.hid ((Below.refl _ _).alloc (Nat.le_refl _) _)
      have N1 : Hid (TB (w9.alloc (.cells #[.string tag, .string txt, .string key, .slice A n c, .slice A2 n2 c2] 38)) w9.heap.size (.mk tag txt key ⟨A, n, c⟩ attrs ⟨A2, n2, c2⟩ kids)) := Lib.hid (TB.new w9 (.mk tag txt key ⟨A, n, c⟩ attrs ⟨A2, n2, c2⟩ kids))
      obtain ⟨bn, hbn⟩ : ∃ b, P1.nameB tag.data.toList = b := ⟨_, rfl⟩
      obtain ⟨bk, hbk⟩ : ∃ b, P1.textB key.data.toList = b := ⟨_, rfl⟩
      obtain ⟨ba, hba⟩ : ∃ b, P3.mayA attrs = b := ⟨_, rfl⟩
      obtain ⟨bv, hbv⟩ : ∃ b, P1.voidB tag.data.toList = b := ⟨_, rfl⟩
      have HN := Lib.hid hbn
      have HK := Lib.hid hbk
      have HA := Lib.hid hba
      have HV := Lib.hid hbv
      have E2 : (erL kids).isEmpty = decide (n2 = 0) := by rw [← KL.out, erL_map]; cases kids <;> simp
      have HD : Hid (mayP (er (.mk tag txt key ⟨A, n, c⟩ attrs ⟨A2, n2, c2⟩ kids)) = (bn && bk && ba && txt.toList.isEmpty && !(bv && !decide (n2 = 0)) && mayL (erL kids))) := Lib.hid (by rw [er, mayP, tE, if_neg (by simp), hbn, hbk, hba, hbv, E2])
      clear ih hbn hbk hba hbv E2
      go_enter Try.func46, Try.ntmps46
      go_upto_region 1 with fail
      generalize w9.alloc (.cells #[.string tag, .string txt, .string key, .slice A n c, .slice A2 n2 c2] 38) = W at B1 N1 ⊢
      have a0 : W.cell? ⟨w9.heap.size, 0, none⟩ = some (.string tag) := N1.out.c0
      have a1 : W.cell? ⟨w9.heap.size, 1, none⟩ = some (.string txt) := N1.out.c1
      have a2 : W.cell? ⟨w9.heap.size, 2, none⟩ = some (.string key) := N1.out.c2
      have a3 : W.cell? ⟨w9.heap.size, 3, none⟩ = some (.slice A n c) := N1.out.c3
      have a4 : W.cell? ⟨w9.heap.size, 4, none⟩ = some (.slice A2 n2 c2) := N1.out.c4
      have bad : Hid ((bn && bk && ba && txt.toList.isEmpty && !(bv && !decide (n2 = 0))) = false → Ending.returned (.bool false) = Ending.returned (.bool (mayP (er (.mk tag txt key ⟨A, n, c⟩ attrs ⟨A2, n2, c2⟩ kids))))) := Lib.hid (fun e => by rw [HD.out, e, Bool.false_and])
      go_wp2_with fail
      refine (P3.nmay_at tag _ HN.out m1).mono ?_
      rintro e w' ⟨rfl, rfl⟩
      cases bn with
      | false =>
        go_wp2_with fail
        go_ret
        exact ⟨bad.out rfl, B1.out⟩
      | true =>
      go_wp2_with fail
      refine (P3.ntext_at key _ HK.out m3).mono ?_
      rintro e w' ⟨rfl, rfl⟩
      cases bk with
      | false =>
        go_wp2_with fail
        go_ret
        exact ⟨bad.out rfl, B1.out⟩
      | true =>
      cases xE : txt.toList.isEmpty with
      | false =>
        go_wp2_with fail
        go_ret
        exact ⟨bad.out (by rw [xE]; simp), B1.out⟩
      | true =>
      go_wp2_with fail
      refine (P3.may_any attrs A n c W AL.out (by omega) hnc HW.out (p3holds (AH9.out.on B1.out))).mono ?_
      rintro e w2 ⟨rfl, b2⟩
      rw [HA.out]
      have B2 := Lib.hid (B1.out.trans (b2.mono B1.out.size))
      have N2 := Lib.hid (N1.out.below b2 N1.out.lt)
      clear b2 a0 a1 a2 a3 a4
      cases ba with
      | false =>
        go_wp2_with fail
        go_ret
        exact ⟨bad.out rfl, B2.out⟩
      | true =>
      have a0 : w2.cell? ⟨w9.heap.size, 0, none⟩ = some (.string tag) := N2.out.c0
      have a4 : w2.cell? ⟨w9.heap.size, 4, none⟩ = some (.slice A2 n2 c2) := N2.out.c4
      go_wp2_with fail
      refine (P1.void_any tag _).mono ?_
      rintro e w' ⟨rfl, rfl⟩
      rw [HV.out]
      cases bv with
      | true =>
        by_cases hn2 : n2 = 0
        · subst hn2
          go_wp2_with fail
          go_ret
          have e0 : erL kids = [] := by rw [erL_map]; have := KL.out; simpa using this
          exact ⟨by rw [HD.out, xE, e0]; rfl, B2.out⟩
        · have qn : ((n2 : Int) == 0) = false := by simp; omega
          go_wp2_with fail
          go_ret
          exact ⟨bad.out (by rw [xE]; simp [hn2]), B2.out⟩
      | false =>
        have HD2 : Hid (mayP (er (.mk tag txt key ⟨A, n, c⟩ attrs ⟨A2, n2, c2⟩ kids)) = mayL (erL kids)) := Lib.hid (by rw [HD.out, xE]; simp)
        clear bad HD
        go_wp2_with fail
        go_loopw [36] (fun s wr => ∃ (k : Nat), k ≤ n2 ∧ s = .int .i64 k ∧ Hid (mayL ((erL kids).take k) = true) ∧ Hid (Below w9.heap.size w9 wr)) (fun s _ => n2 - (intOf s).toNat)
        case atStart => exact ⟨0, by omega, rfl, Lib.hid (by simp [mayL]), B2⟩
        case round =>
          obtain ⟨k, hk, rfl, HM, HB⟩ := hrel
          by_cases hkn : k < n2
          · have hkl : k < kids.length := by have := KL.out; omega
            have hke : k < (erL kids).length := by rw [erL_map]; simpa using hkl
            have hee : (erL kids)[k] = er kids[k] := by simp [erL_map]
            obtain ⟨b, o, rfl, hb, g0, g1, g2, g3, g4⟩ := cell_of_trees (KH9.out.on HB.out) hkl
            have CK : Hid (∀ wz, Below wr.heap.size wr wz → Calls Try.prog 27 #[.agg #[.string kids[k].tag, .string kids[k].txt, .string kids[k].key, .slice kids[k].sa.A kids[k].sa.n kids[k].sa.c, .slice kids[k].sk.A kids[k].sk.n kids[k].sk.c]] wz fun e w' => e = .returned (.bool (mayP (er kids[k]))) ∧ Below wz.heap.size wz w') := Lib.hid (fun wz hz => IH.out kids[k] (List.getElem_mem hkl) wz ((KS9.out _ (List.getElem_mem hkl)).on (HB.out.trans (hz.mono HB.out.size))) (F5.out k hkl) (C5.out k hkl))
            obtain ⟨mk, hmk⟩ : ∃ mk, mayP (er kids[k]) = mk := ⟨_, rfl⟩
            rw [hmk] at CK
            have HMK : Hid (mayP (erL kids)[k] = mk) := Lib.hid (by rw [hee]; exact hmk)
            have HKE := Lib.hid hke
            clear hmk hee
            generalize kids[k] = d at g0 g1 g2 g3 g4 CK
            go_upto_region 8 with fail
            have NA : Hid (TB (wr.alloc (.cells #[.string d.tag, .string d.txt, .string d.key, .slice d.sa.A d.sa.n d.sa.c, .slice d.sk.A d.sk.n d.sk.c] 38)) wr.heap.size d) := Lib.hid (TB.new wr d)
            have BA : Hid (Below wr.heap.size wr (wr.alloc (.cells #[.string d.tag, .string d.txt, .string d.key, .slice d.sa.A d.sa.n d.sa.c, .slice d.sk.A d.sk.n d.sk.c] 38))) := Lib.hid ((Below.refl _ _).alloc (Nat.le_refl _) _)
            generalize wr.alloc (.cells #[.string d.tag, .string d.txt, .string d.key, .slice d.sa.A d.sa.n d.sa.c, .slice d.sk.A d.sk.n d.sk.c] 38) = wa at NA BA ⊢
            clear g0 g1 g2 g3 g4
            have a0 := NA.out.c0; have a1 := NA.out.c1; have a2 := NA.out.c2; have a3 := NA.out.c3; have a4 := NA.out.c4
            go_wp2_with fail
            refine (CK.out wa BA.out).mono ?_
            rintro e w5 ⟨rfl, b5⟩
            have B5 := Lib.hid (HB.out.trans ((BA.out.trans (b5.mono BA.out.size)).mono HB.out.size))
            clear b5
            cases mk with
            | false =>
              go_wp2_with fail
              go_ret
              exact ⟨by rw [HD2.out, mayL_bad HKE.out HMK.out]; rfl, B5.out⟩
            | true =>
              go_wp2_with fail
              go_roundw
              case rel => exact ⟨k + 1, by omega, by go_num, Lib.hid (mayL_take HKE.out HM.out HMK.out), B5⟩
              case measure => simp [intOf]; omega
          · obtain rfl : k = n2 := by omega
            go_wp2_with fail
            go_ret
            refine ⟨?_, HB.out⟩
            have h1 := HM.out
            rw [List.take_of_length_le (by have := KL.out; rw [erL_map]; simp; omega)] at h1
            rw [HD2.out, h1]
            rfl)
    clear h ih hnc
    show Calls Try.prog 27 #[.agg #[.string tag, .string txt, .string key, .slice A n c, .slice A2 n2 c2]] w _
    go_enter Try.func27, Try.ntmps27
    go_upto_region 1 with fail
    generalize w.alloc (.cells #[.string tag, .string txt, .string key, .slice A n c, .slice A2 n2 c2] 38) = W at B1 N1 ⊢
    have a0 : W.cell? ⟨w.heap.size, 0, none⟩ = some (.string tag) := N1.out.c0
    have a1 : W.cell? ⟨w.heap.size, 1, none⟩ = some (.string txt) := N1.out.c1
    have a2 : W.cell? ⟨w.heap.size, 2, none⟩ = some (.string key) := N1.out.c2
    have a3 : W.cell? ⟨w.heap.size, 3, none⟩ = some (.slice A n c) := N1.out.c3
    have a4 : W.cell? ⟨w.heap.size, 4, none⟩ = some (.slice A2 n2 c2) := N1.out.c4
    cases tE : tag.toList.isEmpty with
    | true =>
      go_wp2_with fail
      refine (HTX.out W B1.out tE).mono ?_
      rintro e w2 ⟨rfl, b2⟩
      have B2 := Lib.hid (B1.out.trans (b2.mono B1.out.size))
      clear b2
      go_wp2_with fail
      go_ret
      exact ⟨rfl, B2.out⟩
    | false =>
      go_wp2_with fail
      refine (HEL.out W B1.out tE).mono ?_
      rintro e w2 ⟨rfl, b2⟩
      have B2 := Lib.hid (B1.out.trans (b2.mono B1.out.size))
      clear b2
      go_wp2_with fail
      go_ret
      exact ⟨rfl, B2.out⟩

/-! ### Same -/
/-! ### Of -/
end Go.Proofs.Ytbdcbjeeaebfeaa.P8
