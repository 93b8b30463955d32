/- HTML as trees, plain: how much is guessed; which text is HTML; what the document's answer answers. No condition. -/
import Derived.Test.YtbdcbjeeaebfeaaM15
import Derived.Test.YtbdcbjeeaebfeaaM17
set_option linter.unusedVariables false
set_option linter.unusedSimpArgs false
namespace Go.Proofs.Ytbdcbjeeaebfeaa.P10
open Go.RowKit Kd P4 P5 P8 P9

/-! ### A text that is taken back is no longer -/
theorem headL_pos {l : List UInt8} {c : UInt8} {k : Nat} (h : P2.headL l = some (c, k)) : 1 ≤ k ∧ k ≤ l.length := by
  obtain ⟨h1, rfl⟩ := P2.prefix_of_headL h
  obtain ⟨r, rfl⟩ := P2.hasPrefix_iff.1 h1
  have := (P2.signL_len c).1
  simp
  omega
theorem getF_len : ∀ (n : Nat) (l r : List UInt8), P2.getF n l = some r → r.length ≤ l.length
  | 0, l, r, h => by
    rw [P2.getF] at h
    split at h
    · cases h; simp
    · cases h
  | n + 1, l, r, h => by
    rw [P2.getF] at h
    split at h
    · cases h; simp
    · cases e : P2.headL l with
      | none => rw [e] at h; cases h
      | some p =>
        obtain ⟨c, k⟩ := p
        rw [e] at h
        simp only [Option.map_eq_some_iff] at h
        obtain ⟨r', h1, rfl⟩ := h
        have h2 := getF_len n _ _ h1
        have h3 := headL_pos e
        simp only [List.length_drop, List.length_cons] at h2 ⊢
        omega
theorem unesc_len (l : List UInt8) : (unesc l).length ≤ l.length := by
  unfold unesc
  cases h : P2.getL l with
  | none => simp
  | some r => exact getF_len _ _ _ h
/-! ### How much a tree weighs -/
def wA (l : List P3.At) : Nat := (l.map (fun a => a.nm.size + a.vl.size + 1)).sum
mutual
def wP : PT → Nat
  | .mk tag txt key attrs kids => tag.size + txt.size + key.size + wA attrs + wL kids + 1
def wL : List PT → Nat
  | [] => 0
  | a :: l => wP a + wL l
end
theorem wA_append (l m : List P3.At) : wA (l ++ m) = wA l + wA m := by simp [wA]
theorem wL_append : ∀ l m : List PT, wL (l ++ m) = wL l + wL m
  | [], m => by simp [wL]
  | a :: l, m => by simp [wL, wL_append l m]; omega
theorem bs_size (l : List UInt8) : (bs l).size = l.length := by show l.toArray.size = _; simp
theorem size0 : (⟨#[]⟩ : ByteArray).size = 0 := rfl
theorem wP_text (l : List UInt8) : wP (textT l) = l.length + 1 := by
  rw [textT, wP, bs_size, size0]
  simp [wA, wL]
theorem wP_el (tag : List UInt8) (ats : List P3.At) (kids : List PT) : wP (elT tag ats kids) = tag.length + wA ats + wL kids + 1 := by
  rw [elT, wP, bs_size, size0]
  omega
theorem attrsF_w : ∀ (f : Nat) (s : List UInt8) (acc ats : List P3.At) (o : Option (List UInt8)), attrsF f s acc = (ats, o) → wA ats + (o.getD []).length ≤ wA acc + s.length
  | 0, s, acc, ats, o, h => by
    simp only [attrsF, Prod.mk.injEq] at h
    obtain ⟨rfl, rfl⟩ := h
    simp
  | f + 1, s, acc, ats, o, h => by
    rw [attrsF] at h
    split at h
    · rename_i hs
      obtain ⟨r0, rfl⟩ : ∃ r0, s = 32 :: r0 := by
        cases s with
        | nil => simp at hs
        | cons c r => simp at hs; exact ⟨r, by rw [hs]⟩
      have hn := until_le (32 :: r0) [61]
      simp only at h
      split at h
      · cases h
        simp
      · rename_i hr
        simp only [List.length_drop, List.length_cons] at hr
        generalize hu : untilL (32 :: r0) [61] = n at h hn hr
        generalize hr2 : ((32 :: r0).drop n).drop 2 = r2 at h
        have hl2 : r2.length + n + 1 = r0.length := by rw [← hr2]; simp only [List.length_drop, List.length_cons]; omega
        have hk := until_le r2 [34]
        generalize untilL r2 [34] = k at h hk
        have h3 := unesc_len (r2.take k)
        have hw : wA (acc ++ [(⟨bs (((32 :: r0).take n).drop 1), bs (unesc (r2.take k)), false⟩ : P3.At)]) ≤ wA acc + (n + k) + 1 := by
          rw [wA_append]
          simp only [wA, List.map_cons, List.map_nil, List.sum_cons, List.sum_nil, bs_size, List.length_drop, List.length_take] at h3 ⊢
          omega
        split at h
        · rename_i he
          simp only [Prod.mk.injEq] at h
          obtain ⟨rfl, rfl⟩ := h
          simp only [Option.getD_none, List.length_nil, List.length_cons]
          omega
        · have := attrsF_w f _ _ _ _ h
          simp only [List.length_drop, List.length_cons] at this ⊢
          omega
    · simp only [Prod.mk.injEq] at h
      obtain ⟨rfl, rfl⟩ := h
      simp
theorem elF_w {g : Nat → List UInt8 → List PT × List UInt8} {d : Nat} {s : List UInt8} (hs : s.head? = some 60) (hg : ∀ d r, wL (g d r).1 + 2 * (g d r).2.length ≤ 2 * r.length) : wP (elF g d s).1 + 2 * (elF g d s).2.length ≤ 2 * s.length ∧ (elF g d s).2.length < s.length := by
  obtain ⟨r0, rfl⟩ : ∃ r0, s = 60 :: r0 := by
    cases s with
    | nil => simp at hs
    | cons c r => simp at hs; exact ⟨r, by rw [hs]⟩
  unfold elF
  have hn := until_le (60 :: r0) [32, 62]
  have hn1 : 1 ≤ untilL (60 :: r0) [32, 62] := by rw [until_no (by decide)]; omega
  generalize untilL (60 :: r0) [32, 62] = n at hn hn1
  simp only
  have ht : (((60 :: r0).take n).drop 1).length = n - 1 := by simp only [List.length_drop, List.length_take, List.length_cons] at hn ⊢; omega
  generalize ((60 :: r0).take n).drop 1 = tag at ht
  have hr : ((60 :: r0).drop n).length + n = (60 :: r0).length := by simp only [List.length_drop]; omega
  generalize (60 :: r0).drop n = r at hr
  simp only [List.length_cons] at hr hn ⊢
  have hA := attrsF_w (r.length + 1) r [] (attrsF (r.length + 1) r []).1 (attrsF (r.length + 1) r []).2 rfl
  generalize attrsF (r.length + 1) r [] = q at hA
  obtain ⟨ats, o⟩ := q
  simp only [wA, List.map_nil, List.sum_nil, Nat.zero_add] at hA
  cases o with
  | none =>
    simp only [wP_el, wL, List.length_nil, Option.getD_none] at hA ⊢
    simp only [wA]
    omega
  | some r1 =>
    cases r1 with
    | nil =>
      simp only [wP_el, wL, List.length_nil, Option.getD_some] at hA ⊢
      simp only [wA]
      omega
    | cons c r2 =>
      simp only [Option.getD_some, List.length_cons] at hA ⊢
      split
      · simp only [wP_el, wL, wA]
        omega
      · have h2 := hg (d + 1) r2
        generalize g (d + 1) r2 = p at h2
        split
        · simp only [wP_el, wA, List.length_nil]
          omega
        · simp only [wP_el, wA, List.length_drop]
          omega
theorem gF_w : ∀ (f d : Nat) (s : List UInt8) (acc : List PT), wL (gF f d s acc).1 + 2 * (gF f d s acc).2.length ≤ wL acc + 2 * s.length
  | 0, d, s, acc => by rw [gF]; exact Nat.le_refl _
  | f + 1, d, s, acc => by
    rw [gF]
    split
    · exact Nat.le_refl _
    · rename_i h0
      split
      · rename_i h60
        split
        · exact Nat.le_refl _
        · have hE := elF_w (g := fun d s => gF f d s []) (d := d) h60 (fun d r => by have := gF_w f d r []; simp only [wL] at this ⊢; omega)
          simp only
          split
          · simp only [wL_append, wL, List.length_nil]
            omega
          · have := gF_w f d (elF (fun d s => gF f d s []) d s).2 (acc ++ [(elF (fun d s => gF f d s []) d s).1])
            simp only [wL_append, wL] at this
            omega
      · rename_i h60
        simp only
        have h1 : 1 ≤ untilL s [60] := by
          cases s with
          | nil => simp at h0
          | cons c r =>
            rw [until_no (by
              simp only [List.head?_cons, Option.some.injEq] at h60
              simpa using h60)]
            omega
        have h2 := until_le s [60]
        have h3 := unesc_len (s.take (untilL s [60]))
        have := gF_w f d (s.drop (untilL s [60])) (acc ++ [textT (unesc (s.take (untilL s [60])))])
        rw [List.length_take] at h3
        simp only [wL_append, wL, wP_text, List.length_drop] at this
        omega
/-! ### What weighs little is small -/
theorem wA_at : ∀ {l : List P3.At} {a : P3.At}, a ∈ l → a.nm.size + a.vl.size + 1 ≤ wA l
  | b :: l, a, h => by
    rcases List.mem_cons.1 h with rfl | h
    · simp [wA]
    · have := wA_at h
      simp [wA] at this ⊢
      omega
theorem wA_len : ∀ l : List P3.At, l.length ≤ wA l
  | [] => by simp [wA]
  | a :: l => by have := wA_len l; simp [wA] at this ⊢; omega
theorem wL_at : ∀ {l : List PT} {t : PT}, t ∈ l → wP t ≤ wL l
  | b :: l, a, h => by
    rcases List.mem_cons.1 h with rfl | h
    · simp only [wL]; omega
    · have := wL_at h
      simp only [wL]
      omega
theorem wP_pos (t : PT) : 1 ≤ wP t := by cases t; simp [wP]
theorem wL_len : ∀ l : List PT, l.length ≤ wL l
  | [] => by simp
  | a :: l => by have := wL_len l; have := wP_pos a; simp [wL]; omega
theorem w_ok (t : PT) : wP t ≤ 100000 → okP t = true := by
  induction t using PT.ind with
  | h tag txt key attrs kids ih =>
    intro h
    rw [wP] at h
    have hA : okA attrs = true := by
      unfold okA
      rw [Bool.and_eq_true, decide_eq_true_eq, List.all_eq_true]
      refine ⟨by have := wA_len attrs; omega, fun a ha => ?_⟩
      have := wA_at ha
      simp only [Bool.and_eq_true, decide_eq_true_eq]
      omega
    rw [okP, hA, okL_all]
    simp only [Bool.and_eq_true, decide_eq_true_eq, List.all_eq_true]
    have := wL_len kids
    exact ⟨⟨⟨⟨⟨by omega, by omega⟩, by omega⟩, trivial⟩, by omega⟩, fun k hk => ih k hk (by have := wL_at hk; omega)⟩
theorem wL_ok {l : List PT} (h : wL l ≤ 100000) : okL l = true := by
  rw [okL_all, List.all_eq_true]
  exact fun t ht => w_ok t (by have := wL_at ht; omega)
theorem attrsH_w : ∀ l : List P3.At, (attrsH l).length ≤ 6 * wA l
  | [] => by simp [attrsH]
  | a :: l => by
    have h1 := attrsH_w l
    have h2 := P2.putL_len a.vl.data.toList
    simp only [attrsH, wA, List.flatMap_cons, List.length_append, List.map_cons, List.sum_cons, attrH, List.length_cons, List.length_nil, Array.length_toList, ByteArray.size_data] at h1 h2 ⊢
    omega
theorem putH_w (t : PT) : (putH t).length ≤ 6 * wP t := by
  induction t using PT.ind with
  | h tag txt key attrs kids ih =>
    have h0 : ∀ l : List PT, (∀ k ∈ l, (putH k).length ≤ 6 * wP k) → (allH l).length ≤ 6 * wL l := by
      intro l
      induction l with
      | nil => intro _; simp [allH]
      | cons a l ihl =>
        intro h
        have h1 := h a (by simp)
        have h2 := ihl (fun k hk => h k (by simp [hk]))
        rw [allH, wL, List.length_append]
        omega
    have h1 := h0 kids ih
    have h2 := attrsH_w attrs
    have h3 := P2.putL_len txt.data.toList
    rw [putH, wP]
    simp only [Array.length_toList, ByteArray.size_data] at h3
    split
    · omega
    · simp only [List.length_cons, List.length_append, Array.length_toList, ByteArray.size_data]
      split
      · simp; omega
      · simp only [List.length_cons, List.length_append, List.length_nil, Array.length_toList, ByteArray.size_data]
        omega
theorem allH_w : ∀ l : List PT, (allH l).length ≤ 6 * wL l
  | [] => by simp [allH]
  | a :: l => by
    have h1 := putH_w a
    have h2 := allH_w l
    rw [allH, wL, List.length_append]
    omega
/-! ### What is guessed has neither keys nor static attributes -/
mutual
def bareP : PT → Bool
  | .mk _ _ key attrs kids => key.toList.isEmpty && attrs.all (fun a => !a.st) && bareL kids
def bareL : List PT → Bool
  | [] => true
  | a :: l => bareP a && bareL l
end
theorem bareL_append : ∀ l m : List PT, bareL (l ++ m) = (bareL l && bareL m)
  | [], m => by simp [bareL]
  | a :: l, m => by simp [bareL, bareL_append l m, Bool.and_assoc]
theorem nil_bytes : (⟨#[]⟩ : ByteArray).toList.isEmpty = true := by rw [ByteArray.toList_eq]; rfl
theorem bare_text (l : List UInt8) : bareP (textT l) = true := by rw [textT, bareP, nil_bytes]; simp [bareL]
theorem bare_el (tag : List UInt8) {ats : List P3.At} {kids : List PT} (h1 : ats.all (fun a => !a.st) = true) (h2 : bareL kids = true) : bareP (elT tag ats kids) = true := by rw [elT, bareP, nil_bytes, h1, h2]; rfl
theorem attrsF_bare : ∀ (f : Nat) (s : List UInt8) (acc : List P3.At), acc.all (fun a => !a.st) = true → (attrsF f s acc).1.all (fun a => !a.st) = true
  | 0, s, acc, h => by rw [attrsF]; exact h
  | f + 1, s, acc, h => by
    rw [attrsF]
    split
    · simp only
      split
      · exact h
      · split
        · rw [List.all_append, h]; rfl
        · exact attrsF_bare f _ _ (by rw [List.all_append, h]; rfl)
    · exact h
theorem elF_bare {g : Nat → List UInt8 → List PT × List UInt8} {d : Nat} {s : List UInt8} (hg : ∀ d r, bareL (g d r).1 = true) : bareP (elF g d s).1 = true := by
  unfold elF
  simp only
  have hA := attrsF_bare ((s.drop (untilL s [32, 62])).length + 1) (s.drop (untilL s [32, 62])) [] rfl
  generalize attrsF ((s.drop (untilL s [32, 62])).length + 1) (s.drop (untilL s [32, 62])) [] = q at hA
  obtain ⟨ats, o⟩ := q
  cases o with
  | none => exact bare_el _ hA rfl
  | some r1 =>
    cases r1 with
    | nil => exact bare_el _ hA rfl
    | cons c r2 =>
      simp only
      split
      · exact bare_el _ hA rfl
      · split
        · exact bare_el _ hA (hg _ _)
        · exact bare_el _ hA (hg _ _)
theorem gF_bare : ∀ (f d : Nat) (s : List UInt8) (acc : List PT), bareL acc = true → bareL (gF f d s acc).1 = true
  | 0, d, s, acc, h => by rw [gF]; exact h
  | f + 1, d, s, acc, h => by
    rw [gF]
    split
    · exact h
    · split
      · split
        · exact h
        · have hE := elF_bare (g := fun d s => gF f d s []) (d := d) (s := s) (fun d r => gF_bare f d r [] rfl)
          have hacc : bareL (acc ++ [(elF (fun d s => gF f d s []) d s).1]) = true := by rw [bareL_append, h, bareL, hE]; rfl
          simp only
          split
          · exact hacc
          · exact gF_bare f _ _ _ hacc
      · exact gF_bare f _ _ _ (by rw [bareL_append, h, bareL, bare_text]; rfl)
/-! ### Texts that are empty or beside each other -/
mutual
def txT : PT → Bool
  | .mk _ _ _ _ kids => txL kids false
def txL : List PT → Bool → Bool
  | [], _ => true
  | a :: l, prev => txT a && (!a.tag.toList.isEmpty || (!a.txt.toList.isEmpty && !prev)) && txL l a.tag.toList.isEmpty
end
theorem pl_tx (t : PT) : plT t = (bareP t && txT t) ∧ ∀ l, (∀ k ∈ l, plT k = (bareP k && txT k)) → ∀ p, plL l p = (bareL l && txL l p) := by
  have key : ∀ l : List PT, (∀ k ∈ l, plT k = (bareP k && txT k)) → ∀ p, plL l p = (bareL l && txL l p) := by
    intro l
    induction l with
    | nil => intro _ p; simp [plL, bareL, txL]
    | cons a l ih =>
      intro h p
      rw [plL, bareL, txL, h a (by simp), ih (fun k hk => h k (by simp [hk]))]
      cases bareP a <;> cases txT a <;> cases bareL l <;> simp
  refine ⟨?_, key⟩
  induction t using PT.ind with
  | h tag txt key' attrs kids ih =>
    rw [plT, bareP, txT, key kids ih]
    cases key'.toList.isEmpty <;> cases attrs.all (fun a => !a.st) <;> simp
theorem plL_tx (l : List PT) (p : Bool) : plL l p = (bareL l && txL l p) := (pl_tx (.mk ⟨#[]⟩ ⟨#[]⟩ ⟨#[]⟩ [] [])).2 l (fun k _ => (pl_tx k).1) p
/-! ### The document's answer -/
/-- s is the HTML of the trees l -/
def IsHtml (s : List UInt8) (l : List PT) : Prop := mayL l = true ∧ plL l false = true ∧ deepL l ≤ 200 ∧ allH l = s
def guessL (s : List UInt8) : List PT × List UInt8 := gF (s.length + 1) 0 s []
theorem guess_html {s : List UInt8} {l : List PT} (h : IsHtml s l) : guessL s = (l, []) := by
  obtain ⟨h1, h2, h3, rfl⟩ := h
  have := gF_ok _ l ((allH l).length + 1) 0 [] [] false (Nat.le_refl _) (by simp) h1 h2 (.inl rfl) (by omega)
  simpa [guessL] using this
/-- its trees and its error's number -/
def getR (s : List UInt8) : List PT × Nat :=
  if 6000 < s.length then ([], 13)
  else if mayL (guessL s).1 && decide (allH (guessL s).1 = s) && txL (guessL s).1 false && decide (deepL (guessL s).1 ≤ 200) then ((guessL s).1, 0)
  else ([], 7)
theorem getR_yes {s : List UInt8} {l : List PT} (hs : s.length ≤ 6000) (h : IsHtml s l) : getR s = (l, 0) := by
  have hg := guess_html h
  obtain ⟨h1, h2, h3, h4⟩ := h
  rw [plL_tx, Bool.and_eq_true] at h2
  rw [getR, if_neg (by omega), hg]
  simp [h1, h2.2, h3, h4]
theorem getR_no {s : List UInt8} (hs : s.length ≤ 6000) (h : ∀ l, ¬ IsHtml s l) : getR s = ([], 7) := by
  rw [getR, if_neg (by omega), if_neg]
  intro hc
  simp only [Bool.and_eq_true, decide_eq_true_eq] at hc
  refine h (guessL s).1 ⟨hc.1.1.1, ?_, hc.2, hc.1.1.2⟩
  rw [plL_tx, hc.1.2, Bool.and_true]
  exact gF_bare _ _ _ _ rfl
theorem getR_long {s : List UInt8} (hs : 6000 < s.length) : getR s = ([], 13) := by rw [getR, if_pos hs]
theorem html_one {s : List UInt8} {l m : List PT} (h : IsHtml s l) (k : IsHtml s m) : l = m := by
  have h1 := guess_html h
  rw [guess_html k] at h1
  exact (Prod.mk.inj h1).1.symm
theorem guess_w (s : List UInt8) : wL (guessL s).1 ≤ 2 * s.length := by
  have := gF_w (s.length + 1) 0 s []
  simp only [wL] at this
  unfold guessL
  omega
end Go.Proofs.Ytbdcbjeeaebfeaa.P10
