/- HTML as trees, plain: what the program reads; that what it reads is right where there is something to read, and that it takes nothing else. No condition. -/
import Derived.Lib.IndexLaws
import Derived.Lib.IndexMore
import Derived.Test.YtbdcbjeeaebfeaaM18
set_option linter.unusedVariables false
set_option linter.unusedSimpArgs false
namespace Go.Proofs.Ytbdcbjeeaebfeaa.P10
open Go.RowKit Kd P4 P5 P8 P9

/-! ### A text that is cut -/
theorem index_one (c : UInt8) : ∀ s : List UInt8, Lib.index s [c] = if untilL s [c] < s.length then ((untilL s [c] : Nat) : Int) else -1
  | [] => rfl
  | b :: l => by
    by_cases h : b = c
    · subst h
      rw [until_yes (by simp), Lib.index, if_pos (by simp [List.isPrefixOf])]
      simp
    · have h' : c ≠ b := fun e => h e.symm
      have hp : List.isPrefixOf [c] (b :: l) = false := by
        simp only [List.isPrefixOf, Bool.and_true]
        exact beq_false_of_ne h'
      rw [until_no (by simpa using h), Lib.index, hp, if_neg (by decide), index_one c l, List.length_cons]
      by_cases hl : untilL l [c] < l.length
      · rw [if_pos hl, if_neg (by simp only [beq_iff_eq]; omega), if_pos (by omega)]
        omega
      · rw [if_neg hl, if_pos (by rfl), if_neg (by omega)]
theorem cut_one (s : List UInt8) (c : UInt8) : Lib.cut s [c] = (s.take (untilL s [c]), s.drop (untilL s [c] + 1), decide (untilL s [c] < s.length)) := by
  have hle := until_le s [c]
  unfold Lib.cut
  rw [index_one]
  by_cases hl : untilL s [c] < s.length
  · rw [if_pos hl, if_pos (by omega)]
    simp [hl]
  · rw [if_neg hl, if_neg (by omega), List.take_of_length_le (by omega), List.drop_of_length_le (by omega)]
    simp [hl]
theorem index_two {x r : List UInt8} (h : ∀ c ∈ x, c ≠ 61) : Lib.index (x ++ 61 :: 34 :: r) [61, 34] = (x.length : Int) := by
  induction x with
  | nil => simp [Lib.index, List.isPrefixOf]
  | cons a x ih =>
    have ha : a ≠ 61 := h a (by simp)
    rw [List.cons_append, Lib.index, ih (fun c hc => h c (by simp [hc]))]
    have : List.isPrefixOf [61, 34] (a :: (x ++ 61 :: 34 :: r)) = false := by
      simp only [List.isPrefixOf, Bool.and_eq_false_iff]
      left
      simpa using fun e : (61 : UInt8) = a => ha e.symm
    rw [if_neg (by rw [this]; decide), if_neg (by simp only [beq_iff_eq]; omega)]
    simp
theorem cut_two {x r : List UInt8} (h : ∀ c ∈ x, c ≠ 61) : Lib.cut (x ++ 61 :: 34 :: r) [61, 34] = (x, r, true) := by
  unfold Lib.cut
  rw [index_two h, if_pos (by omega)]
  simp
theorem cut_len (s sep : List UInt8) : (Lib.cut s sep).1.length + (Lib.cut s sep).2.1.length ≤ s.length := by
  unfold Lib.cut
  split
  · simp only [List.length_take, List.length_drop]
    omega
  · simp
/-! ### What is read -/
def raF : Nat → List UInt8 → List P3.At → List P3.At
  | 0, _, acc => acc
  | f + 1, s, acc =>
    if s = [] then acc
    else
      let p := Lib.cut (s.drop 1) [61, 34]
      let q := Lib.cut p.2.1 [34]
      raF f q.2.1 (acc ++ [⟨bs p.1, bs (unesc q.1), false⟩])
def attrsR (s : List UInt8) : List P3.At := raF (s.length + 1) s []
def reF (g : List UInt8 → List PT × List UInt8) (s : List UInt8) : PT × List UInt8 :=
  let p := Lib.cut (s.drop 1) [62]
  let tag := (Lib.cut p.1 [32]).1
  let ats := attrsR (p.1.drop tag.length)
  if P1.voidB tag then (elT tag ats [], p.2.1)
  else
    let k := g p.2.1
    (elT tag ats k.1, Lib.trimPrefix k.2 (60 :: 47 :: (tag ++ [62])))
def rtF (s : List UInt8) : PT × List UInt8 := (textT (unesc (Lib.cut s [60]).1), s.drop (Lib.cut s [60]).1.length)
def rdF : Nat → List UInt8 → List PT → List PT × List UInt8
  | 0, s, acc => (acc, s)
  | f + 1, s, acc =>
    if s = [] ∨ Lib.hasPrefix s [60, 47] = true then (acc, s)
    else if s.head? = some 60 then
      let p := reF (fun s => rdF f s []) s
      rdF f p.2 (acc ++ [p.1])
    else
      let p := rtF s
      rdF f p.2 (acc ++ [p.1])
def readL (s : List UInt8) : List PT × List UInt8 := rdF (s.length + 1) s []
/-! ### What is left is less; what is read weighs no more -/
theorem raF_w : ∀ (f : Nat) (s : List UInt8) (acc : List P3.At), wA (raF f s acc) ≤ wA acc + s.length
  | 0, s, acc => by rw [raF]; omega
  | f + 1, s, acc => by
    rw [raF]
    split
    · omega
    · rename_i hs
      have h1 := cut_len (s.drop 1) [61, 34]
      simp only
      have h2 := cut_len (Lib.cut (s.drop 1) [61, 34]).2.1 [34]
      have h3 := unesc_len (Lib.cut (Lib.cut (s.drop 1) [61, 34]).2.1 [34]).1
      have ih := raF_w f (Lib.cut (Lib.cut (s.drop 1) [61, 34]).2.1 [34]).2.1 (acc ++ [⟨bs (Lib.cut (s.drop 1) [61, 34]).1, bs (unesc (Lib.cut (Lib.cut (s.drop 1) [61, 34]).2.1 [34]).1), false⟩])
      have hpos : 0 < s.length := List.length_pos_iff.2 hs
      rw [wA_append] at ih
      simp only [wA, List.map_cons, List.map_nil, List.sum_cons, List.sum_nil, bs_size, List.length_drop] at ih h1 ⊢
      omega
theorem attrsR_w (s : List UInt8) : wA (attrsR s) ≤ s.length := by
  have := raF_w (s.length + 1) s []
  simp only [wA, List.map_nil, List.sum_nil] at this ⊢
  unfold attrsR
  omega
theorem trim_len (s p : List UInt8) : (Lib.trimPrefix s p).length ≤ s.length := by
  unfold Lib.trimPrefix
  split
  · simp
  · exact Nat.le_refl _
theorem cutTag_len (s : List UInt8) : (Lib.cut s [32]).1.length ≤ s.length := by have := cut_len s [32]; omega
theorem reF_w {g : List UInt8 → List PT × List UInt8} {s : List UInt8} (hs : s ≠ []) (hg : ∀ r, wL (g r).1 + 2 * (g r).2.length ≤ 2 * r.length) : wP (reF g s).1 + 2 * (reF g s).2.length ≤ 2 * s.length ∧ (reF g s).2.length < s.length := by
  have hpos : 0 < s.length := List.length_pos_iff.2 hs
  unfold reF
  have h1 := cut_len (s.drop 1) [62]
  simp only
  generalize Lib.cut (s.drop 1) [62] = p at h1 ⊢
  have h2 := cutTag_len p.1
  generalize (Lib.cut p.1 [32]).1 = tag at h2 ⊢
  have h3 := attrsR_w (p.1.drop tag.length)
  generalize attrsR (p.1.drop tag.length) = ats at h3 ⊢
  have h4 := hg p.2.1
  generalize g p.2.1 = k at h4 ⊢
  have h5 := trim_len k.2 (60 :: 47 :: (tag ++ [62]))
  rw [List.length_drop] at h1 h3
  split
  · simp only [wP_el, wL]
    omega
  · simp only [wP_el]
    omega
theorem rtF_w {s : List UInt8} (h0 : s ≠ []) (h60 : s.head? ≠ some 60) : wP (rtF s).1 + 2 * (rtF s).2.length ≤ 2 * s.length ∧ (rtF s).2.length < s.length := by
  have h1 : 1 ≤ untilL s [60] := by
    cases s with
    | nil => simp at h0
    | cons c r =>
      rw [until_no (by
        simp only [List.head?_cons, ne_eq, Option.some.injEq] at h60
        simpa using h60)]
      omega
  have h2 := until_le s [60]
  have h3 := unesc_len (s.take (untilL s [60]))
  unfold rtF
  simp only [cut_one, wP_text, List.length_drop, List.length_take] at h3 ⊢
  omega
theorem rdF_w : ∀ (f : Nat) (s : List UInt8) (acc : List PT), wL (rdF f s acc).1 + 2 * (rdF f s acc).2.length ≤ wL acc + 2 * s.length
  | 0, s, acc => by rw [rdF]; exact Nat.le_refl _
  | f + 1, s, acc => by
    rw [rdF]
    split
    · exact Nat.le_refl _
    · rename_i h0
      have h00 : s ≠ [] := fun e => h0 (.inl e)
      split
      · have hE := (reF_w (g := fun s => rdF f s []) h00 (fun r => by have := rdF_w f r []; simp only [wL] at this ⊢; omega)).1
        have := rdF_w f (reF (fun s => rdF f s []) s).2 (acc ++ [(reF (fun s => rdF f s []) s).1])
        simp only [wL_append, wL] at this ⊢
        omega
      · rename_i h60
        have hT := (rtF_w h00 h60).1
        have := rdF_w f (rtF s).2 (acc ++ [(rtF s).1])
        simp only [wL_append, wL] at this ⊢
        omega
theorem read_w (s : List UInt8) : wL (readL s).1 ≤ 2 * s.length := by
  have := rdF_w (s.length + 1) s []
  simp only [wL] at this
  unfold readL
  omega
/-! ### What is read has neither keys nor static attributes -/
theorem raF_bare : ∀ (f : Nat) (s : List UInt8) (acc : List P3.At), acc.all (fun a => !a.st) = true → (raF f s acc).all (fun a => !a.st) = true
  | 0, s, acc, h => by rw [raF]; exact h
  | f + 1, s, acc, h => by
    rw [raF]
    split
    · exact h
    · exact raF_bare f _ _ (by rw [List.all_append, h]; rfl)
theorem reF_bare {g : List UInt8 → List PT × List UInt8} {s : List UInt8} (hg : ∀ r, bareL (g r).1 = true) : bareP (reF g s).1 = true := by
  unfold reF
  simp only
  have hA : (attrsR ((Lib.cut (s.drop 1) [62]).1.drop (Lib.cut (Lib.cut (s.drop 1) [62]).1 [32]).1.length)).all (fun a => !a.st) = true := raF_bare _ _ [] rfl
  split
  · exact bare_el _ hA rfl
  · exact bare_el _ hA (hg _)
theorem rdF_bare : ∀ (f : Nat) (s : List UInt8) (acc : List PT), bareL acc = true → bareL (rdF f s acc).1 = true
  | 0, s, acc, h => by rw [rdF]; exact h
  | f + 1, s, acc, h => by
    rw [rdF]
    split
    · exact h
    · split
      · exact rdF_bare f _ _ (by rw [bareL_append, h, bareL, reF_bare (g := fun s => rdF f s []) (fun r => rdF_bare f r [] rfl)]; rfl)
      · exact rdF_bare f _ _ (by rw [bareL_append, h, bareL, rtF, bare_text]; rfl)
/-! ### Texts beside each other made one, empty ones left out -/
def flushT (p : List UInt8) : List PT := if p = [] then [] else [textT p]
mutual
def mgT : PT → PT
  | .mk tag txt key attrs kids => .mk tag txt key attrs (mgL kids [])
def mgL : List PT → List UInt8 → List PT
  | [], p => flushT p
  | a :: l, p => if a.tag.toList.isEmpty then mgL l (p ++ a.txt.data.toList) else flushT p ++ mgT a :: mgL l []
end
theorem mg_tag (a : PT) : (mgT a).tag = a.tag := by cases a; rw [mgT]; rfl
theorem txL_flush (p : List UInt8) (l : List PT) (h : txL l (!p.isEmpty) = true) : txL (flushT p ++ l) false = true := by
  unfold flushT
  split
  · rename_i hp
    subst hp
    exact h
  · rename_i hp
    have hb : p.isEmpty = false := by simpa using hp
    have e1 : (textT p).tag.toList.isEmpty = true := nil_bytes
    have e2 : (textT p).txt.toList.isEmpty = false := by
      show (bs p).toList.isEmpty = false
      rw [ByteArray.toList_eq, bs_data]
      exact hb
    have e3 : txT (textT p) = true := rfl
    rw [List.singleton_append, txL, e1, e2, e3]
    rw [hb] at h
    simpa using h
theorem tx_mg (t : PT) : txT (mgT t) = true := by
  induction t using PT.ind with
  | h tag txt key attrs kids ih =>
    have key : ∀ l : List PT, (∀ k ∈ l, txT (mgT k) = true) → ∀ p, txL (mgL l p) false = true := by
      intro l
      induction l with
      | nil =>
        intro _ p
        have := txL_flush p [] rfl
        rw [List.append_nil] at this
        rw [mgL]
        exact this
      | cons a l ihl =>
        intro h p
        rw [mgL]
        split
        · exact ihl (fun k hk => h k (by simp [hk])) _
        · rename_i ha
          refine txL_flush p _ ?_
          rw [txL, mg_tag, h a (by simp)]
          have hb : a.tag.toList.isEmpty = false := by simpa using ha
          rw [hb, ihl (fun k hk => h k (by simp [hk])) []]
          simp
    rw [mgT, txT]
    exact key kids ih []
theorem txL_mg : ∀ (l : List PT) (p : List UInt8), txL (mgL l p) false = true
  | [], p => by
    have := txL_flush p [] rfl
    rw [List.append_nil] at this
    rw [mgL]
    exact this
  | a :: l, p => by
    rw [mgL]
    split
    · exact txL_mg l _
    · rename_i ha
      refine txL_flush p _ ?_
      rw [txL, mg_tag, tx_mg]
      have hb : a.tag.toList.isEmpty = false := by simpa using ha
      rw [hb, txL_mg l []]
      simp
/-- a text that may be, without a key, is its text alone -/
theorem text_is {a : PT} (ht : a.tag.toList.isEmpty = true) (hm : mayP a = true) : a = textT a.txt.data.toList := by
  obtain ⟨tag, txt, key, attrs, kids⟩ := a
  have ht : tag.toList.isEmpty = true := ht
  rw [mayP, if_pos ht] at hm
  simp only [Bool.and_eq_true] at hm
  have h1 : kids = [] := by simpa using hm.2
  have h2 : attrs = [] := by simpa using hm.1.2
  have h3 := bs_nil hm.1.1.2
  have h4 := bs_nil ht
  subst h1; subst h2; subst h3; subst h4
  rw [textT]
  show _ = PT.mk _ (bs txt.data.toList) _ _ _
  rw [bs_eta]
theorem mg_id_all (n : Nat) : ∀ l : List PT, countL l ≤ n → mayL l = true → (txL l false = true → mgL l [] = l) ∧ (∀ p, p ≠ [] → txL l true = true → mgL l p = textT p :: l) := by
  induction n with
  | zero =>
    intro l hn _
    cases l with
    | cons a l => have := count_pos a; simp [countL] at hn; omega
    | nil => exact ⟨fun _ => by rw [mgL]; rfl, fun p hp _ => by rw [mgL, flushT, if_neg hp]⟩
  | succ n ih =>
    intro l hn hm
    cases l with
    | nil => exact ⟨fun _ => by rw [mgL]; rfl, fun p hp _ => by rw [mgL, flushT, if_neg hp]⟩
    | cons a l =>
      rw [countL] at hn
      have hc := count_pos a
      rw [mayL, Bool.and_eq_true] at hm
      obtain ⟨i1, i2⟩ := ih l (by omega) hm.2
      have hel : a.tag.toList.isEmpty = false → txT a = true → mgT a = a := by
        intro ht hx
        obtain ⟨tag, txt, key, attrs, kids⟩ := a
        have ht : tag.toList.isEmpty = false := ht
        have hm1 := hm.1
        rw [mayP, if_neg (by simp [ht])] at hm1
        simp only [Bool.and_eq_true] at hm1
        rw [countP] at hn
        rw [txT] at hx
        rw [mgT, (ih kids (by omega) hm1.2).1 hx]
      constructor
      · intro hx
        rw [txL] at hx
        simp only [Bool.and_eq_true] at hx
        cases ht : a.tag.toList.isEmpty with
        | true =>
          rw [ht] at hx
          have hne : a.txt.data.toList ≠ [] := by
            intro e
            have h2 := hx.1.2
            rw [ByteArray.toList_eq, e] at h2
            simp at h2
          rw [mgL, if_pos ht, List.nil_append, i2 _ hne hx.2, ← text_is ht hm.1]
        | false =>
          rw [ht] at hx
          rw [mgL, if_neg (by simp [ht]), i1 hx.2, hel ht hx.1.1]
          rfl
      · intro p hp hx
        rw [txL] at hx
        simp only [Bool.and_eq_true] at hx
        cases ht : a.tag.toList.isEmpty with
        | true => rw [ht] at hx; simp at hx
        | false =>
          rw [ht] at hx
          rw [mgL, if_neg (by simp [ht]), i1 hx.2, hel ht hx.1.1, flushT, if_neg hp]
          rfl
theorem mg_id {l : List PT} (hm : mayL l = true) (hx : txL l false = true) : mgL l [] = l := (mg_id_all _ l (Nat.le_refl _) hm).1 hx
/-! ### What is HTML of some trees is read as they are, texts made one -/
theorem raF_ok : ∀ (ats : List P3.At) (f : Nat) (acc : List P3.At), (∀ a ∈ ats, P1.nameB a.nm.data.toList = true ∧ a.st = false) → ats.length < f → raF f (attrsH ats) acc = acc ++ ats
  | [], f, acc, _, hf => by
    obtain ⟨f, rfl⟩ : ∃ g, f = g + 1 := ⟨f - 1, by simp at hf; omega⟩
    rw [raF, if_pos (by simp [attrsH])]
    simp
  | a :: ats, f, acc, ha, hf => by
    obtain ⟨f, rfl⟩ : ∃ g, f = g + 1 := ⟨f - 1, by omega⟩
    have h1 := name_in (ha a (by simp)).1
    have e : attrsH (a :: ats) = 32 :: (a.nm.data.toList ++ 61 :: 34 :: (P2.putL a.vl.data.toList ++ (34 :: attrsH ats))) := by simp [attrsH, attrH]
    rw [raF, if_neg (by rw [e]; simp), e]
    simp only [List.drop_succ_cons, List.drop_zero]
    rw [cut_two (fun c hc => (in_ne (h1.2 c hc)).2.2.1)]
    simp only
    have u2 : untilL (P2.putL a.vl.data.toList ++ (34 :: attrsH ats)) [34] = (P2.putL a.vl.data.toList).length := until_at (fun c hc => by
      have := (P2.putL_clean hc).2.2
      simpa using this) (.inr ⟨34, _, rfl, by decide⟩)
    rw [cut_one, u2]
    simp only [List.take_left]
    rw [show (P2.putL a.vl.data.toList ++ (34 :: attrsH ats)).drop ((P2.putL a.vl.data.toList).length + 1) = attrsH ats by rw [← List.drop_drop, List.drop_left]; rfl]
    rw [unesc_put, bs_eta, bs_eta, raF_ok ats f _ (fun b hb => ha b (by simp [hb])) (by simp at hf; omega)]
    have e2 : (⟨a.nm, a.vl, false⟩ : P3.At) = a := by rw [← (ha a (by simp)).2]
    rw [e2]
    simp
theorem attrsH_no62 {ats : List P3.At} (h : ∀ a ∈ ats, P1.nameB a.nm.data.toList = true ∧ a.st = false) : ∀ c ∈ attrsH ats, c ≠ 62 := by
  intro c hc
  simp only [attrsH, List.mem_flatMap, attrH, List.mem_cons, List.mem_append, List.not_mem_nil, or_false] at hc
  obtain ⟨a, ha, h1⟩ := hc
  have hn := name_in (h a ha).1
  rcases h1 with rfl | h1 | rfl | rfl | h1 | rfl
  · decide
  · exact (in_ne (hn.2 c h1)).2.1
  · decide
  · decide
  · exact (P2.putL_clean h1).2.1
  · decide
theorem trim_front (p u : List UInt8) : Lib.trimPrefix (p ++ u) p = u := by
  unfold Lib.trimPrefix
  rw [if_pos (P2.hasPrefix_append p u), List.drop_left]
theorem reF_ok {g : List UInt8 → List PT × List UInt8} {tag txt key : ByteArray} {attrs : List P3.At} {kids ks : List PT} {u : List UInt8} (ht : tag.toList.isEmpty = false) (hm : mayP (.mk tag txt key attrs kids) = true) (hp : bareP (.mk tag txt key attrs kids) = true) (hk0 : kids = [] → ks = [])
    (hg : P1.voidB tag.data.toList = false → g (allH kids ++ 60 :: 47 :: (tag.data.toList ++ 62 :: u)) = (ks, 60 :: 47 :: (tag.data.toList ++ 62 :: u))) : reF g (putH (.mk tag txt key attrs kids) ++ u) = (.mk tag txt key attrs ks, u) := by
  rw [mayP, if_neg (by simp [ht])] at hm
  simp only [Bool.and_eq_true] at hm
  obtain ⟨⟨⟨⟨⟨na, _⟩, ma⟩, xa⟩, va⟩, la⟩ := hm
  rw [bareP, Bool.and_eq_true, Bool.and_eq_true] at hp
  obtain ⟨⟨ka, sa⟩, _⟩ := hp
  have hx := bs_nil xa
  have hk := bs_nil ka
  have nin := name_in na
  have pa := pl_attrs ma sa
  obtain ⟨v, hv, hvl⟩ : ∃ v, putH (.mk tag txt key attrs kids) ++ u = 60 :: ((tag.data.toList ++ attrsH attrs) ++ 62 :: v) ∧ v = (if P1.voidB tag.data.toList then u else allH kids ++ 60 :: 47 :: (tag.data.toList ++ 62 :: u)) := by
    refine ⟨_, ?_, rfl⟩
    cases hvd : P1.voidB tag.data.toList with
    | true => rw [putH_void ht hvd]; simp [openH]
    | false => rw [putH_el ht hvd]; simp [openH]
  rw [hv]
  have u1 : untilL ((tag.data.toList ++ attrsH attrs) ++ 62 :: v) [62] = (tag.data.toList ++ attrsH attrs).length := until_at (fun c hc => by
    have hne : c ≠ 62 := by
      rcases List.mem_append.1 hc with h | h
      · exact (in_ne (nin.2 c h)).2.1
      · exact attrsH_no62 pa c h
    simpa using hne) (.inr ⟨62, _, rfl, by decide⟩)
  have st : Stop (fun c => !([32] : List UInt8).contains c) (attrsH attrs) := by
    cases attrs with
    | nil => exact .inl rfl
    | cons a r => exact .inr ⟨32, _, rfl, by decide⟩
  have u2 : untilL (tag.data.toList ++ attrsH attrs) [32] = tag.data.toList.length := until_at (fun c hc => by
    have := (in_ne (nin.2 c hc)).1
    simpa using this) st
  have e1 : ((tag.data.toList ++ attrsH attrs) ++ 62 :: v).drop ((tag.data.toList ++ attrsH attrs).length + 1) = v := by rw [← List.drop_drop, List.drop_left]; rfl
  have c1 := cut_one ((tag.data.toList ++ attrsH attrs) ++ 62 :: v) 62
  rw [u1, List.take_left, e1] at c1
  have c2 := cut_one (tag.data.toList ++ attrsH attrs) 32
  rw [u2, List.take_left] at c2
  unfold reF
  simp only [List.drop_succ_cons, List.drop_zero]
  rw [c1]
  simp only
  rw [c2]
  simp only [List.drop_left]
  have hat : attrsR (attrsH attrs) = attrs := by
    have := raF_ok attrs ((attrsH attrs).length + 1) [] pa (by have := attrsH_longer attrs; omega)
    rw [List.nil_append] at this
    exact this
  rw [hat]
  have fin : ∀ l, elT tag.data.toList attrs l = .mk tag txt key attrs l := fun l => by rw [elT, bs_eta, hx, hk]
  cases hvd : P1.voidB tag.data.toList with
  | true =>
    rw [hvd] at hvl va
    have hkn : kids = [] := by simpa using va
    rw [if_pos rfl, fin, hk0 hkn, hvl]
    simp
  | false =>
    rw [hvd, if_neg (by simp)] at hvl
    rw [if_neg (by simp), hvl, hg hvd, fin]
    congr 1
    have := trim_front (60 :: 47 :: (tag.data.toList ++ [62])) u
    simpa using this
theorem not_end {s : List UInt8} (h : s.head? ≠ some 60) : Lib.hasPrefix s [60, 47] ≠ true := by
  intro e
  obtain ⟨r, rfl⟩ := P2.hasPrefix_iff.1 e
  simp at h
theorem rd_stop {f : Nat} {e : List UInt8} {acc : List PT} (he : P9.Ends e) : rdF f e acc = (acc, e) := by
  cases f with
  | zero => rw [rdF]
  | succ f =>
    rw [rdF, if_pos]
    rcases he with rfl | ⟨r, rfl⟩
    · exact .inl rfl
    · exact .inr (P2.hasPrefix_append [60, 47] r)
theorem rd_text {f : Nat} {p v : List UInt8} {acc : List PT} (hp : p ≠ []) (hv : v = [] ∨ ∃ r, v = 60 :: r) : rdF (f + 1) (P2.putL p ++ v) acc = rdF f v (acc ++ [textT p]) := by
  have hpos := put_ne hp
  obtain ⟨c, r, hc⟩ : ∃ c r, P2.putL p = c :: r := by
    cases h : P2.putL p with
    | nil => exact absurd h hpos
    | cons c r => exact ⟨c, r, rfl⟩
  have hh : (P2.putL p ++ v).head? ≠ some 60 := by
    rw [hc]
    simp only [List.cons_append, List.head?_cons, ne_eq, Option.some.injEq]
    exact (P2.putL_clean (l := p) (by rw [hc]; simp)).1
  have st : Stop (fun c => !([60] : List UInt8).contains c) v := by
    rcases hv with rfl | ⟨r, rfl⟩
    · exact .inl rfl
    · exact .inr ⟨60, r, rfl, by decide⟩
  have u1 : untilL (P2.putL p ++ v) [60] = (P2.putL p).length := until_at (fun c hc => by have := (P2.putL_clean hc).1; simpa using this) st
  rw [rdF, if_neg (by
    rintro (h | h)
    · rw [hc] at h; cases h
    · exact not_end hh h), if_neg hh]
  simp only [rtF, cut_one, u1, List.take_left, List.drop_left, unesc_put]
theorem rd_ok : ∀ (n : Nat) (l : List PT) (f : Nat) (p e : List UInt8) (acc : List PT), countL l ≤ n → (P2.putL p ++ (allH l ++ e)).length < f → mayL l = true → bareL l = true → P9.Ends e → rdF f (P2.putL p ++ (allH l ++ e)) acc = (acc ++ mgL l p, e) := by
  intro n
  have base : ∀ (f : Nat) (p e : List UInt8) (acc : List PT), (P2.putL p ++ (allH [] ++ e)).length < f → P9.Ends e → rdF f (P2.putL p ++ (allH [] ++ e)) acc = (acc ++ mgL [] p, e) := by
    intro f p e acc hf he
    rw [mgL, allH, List.nil_append] at *
    by_cases hp : p = []
    · subst hp
      rw [show P2.putL [] = [] from rfl, List.nil_append, rd_stop he, flushT, if_pos rfl, List.append_nil]
    · obtain ⟨f, rfl⟩ : ∃ g, f = g + 1 := ⟨f - 1, by omega⟩
      rw [rd_text hp (by
        rcases he with rfl | ⟨r, rfl⟩
        · exact .inl rfl
        · exact .inr ⟨_, rfl⟩), rd_stop he, flushT, if_neg hp]
  induction n with
  | zero =>
    intro l f p e acc hn hf _ _ he
    cases l with
    | cons a l => have := count_pos a; simp [countL] at hn; omega
    | nil => exact base f p e acc hf he
  | succ n ih =>
    intro l f p e acc hn hf hm hb he
    cases l with
    | nil => exact base f p e acc hf he
    | cons a l =>
      rw [mayL, Bool.and_eq_true] at hm
      obtain ⟨hm1, hm2⟩ := hm
      rw [bareL, Bool.and_eq_true] at hb
      obtain ⟨hb1, hb2⟩ := hb
      have hca := count_pos a
      have e1 : allH (a :: l) ++ e = putH a ++ (allH l ++ e) := by rw [allH, List.append_assoc]
      rw [e1] at hf ⊢
      cases ht : a.tag.toList.isEmpty with
      | true =>
        rw [mgL, if_pos ht]
        have hpt : putH a = P2.putL a.txt.data.toList := by
          obtain ⟨tag, txt, key, attrs, kids⟩ := a
          exact putH_text ht
        rw [hpt] at hf ⊢
        rw [← List.append_assoc, ← P2.putL_append] at hf ⊢
        rw [countL] at hn
        exact ih l f _ e acc (by omega) hf hm2 hb2 he
      | false =>
        rw [mgL, if_neg (by simp [ht])]
        obtain ⟨tag, txt, key, attrs, kids⟩ := a
        have ht : tag.toList.isEmpty = false := ht
        rw [countL, countP] at hn
        have hhd : ∃ r, putH (.mk tag txt key attrs kids) ++ (allH l ++ e) = 60 :: r := by
          cases hvd : P1.voidB tag.data.toList with
          | true => rw [putH_void ht hvd]; exact ⟨_, rfl⟩
          | false => rw [putH_el ht hvd]; exact ⟨_, rfl⟩
        -- the element itself
        have step : ∀ (f : Nat) (acc : List PT), (putH (.mk tag txt key attrs kids) ++ (allH l ++ e)).length < f → rdF f (putH (.mk tag txt key attrs kids) ++ (allH l ++ e)) acc = (acc ++ mgT (.mk tag txt key attrs kids) :: mgL l [], e) := by
          intro f acc hf
          obtain ⟨f, rfl⟩ : ∃ g, f = g + 1 := ⟨f - 1, by omega⟩
          have hlen : 1 ≤ (putH (.mk tag txt key attrs kids)).length := by
            cases hvd : P1.voidB tag.data.toList with
            | true => rw [putH_void ht hvd, openH, List.length_cons]; omega
            | false => rw [putH_el ht hvd, openH, List.cons_append, List.length_cons]; omega
          have hm1' := hm1
          rw [mayP, if_neg (by simp [ht])] at hm1'
          simp only [Bool.and_eq_true] at hm1'
          have hb1' := hb1
          rw [bareP, Bool.and_eq_true] at hb1'
          have hel : reF (fun s => rdF f s []) (putH (.mk tag txt key attrs kids) ++ (allH l ++ e)) = (.mk tag txt key attrs (mgL kids []), allH l ++ e) := by
            refine reF_ok ht hm1 hb1 (fun hk => by rw [hk, mgL]; rfl) fun hvd => ?_
            rw [putH_el ht hvd] at hf
            have := ih kids f [] (60 :: 47 :: (tag.data.toList ++ 62 :: (allH l ++ e))) [] (by omega) (by
              simp only [openH, List.length_append, List.length_cons, List.length_nil, show P2.putL [] = [] from rfl] at hf ⊢
              omega) hm1'.2 hb1'.2 (.inr ⟨_, rfl⟩)
            rw [show P2.putL [] = [] from rfl, List.nil_append, List.nil_append] at this
            exact this
          have hh2 : ¬ (putH (.mk tag txt key attrs kids) ++ (allH l ++ e) = [] ∨ Lib.hasPrefix (putH (.mk tag txt key attrs kids) ++ (allH l ++ e)) [60, 47] = true) := by
            rintro (h | h)
            · obtain ⟨r, hr⟩ := hhd
              rw [hr] at h
              cases h
            · obtain ⟨c, r, hc, hne⟩ := tag_cons hm1'.1.1.1.1.1
              obtain ⟨r2, hr2⟩ := P2.hasPrefix_iff.1 h
              rw [putH, if_neg (by simp [ht]), hc] at hr2
              simp only [List.cons_append, List.cons.injEq, List.nil_append] at hr2
              exact hne hr2.2.1
          obtain ⟨r, hr⟩ := hhd
          rw [rdF, if_neg hh2, if_pos (by rw [hr]; rfl), hel]
          simp only
          have := ih l f [] e (acc ++ [.mk tag txt key attrs (mgL kids [])]) (by omega) (by
            rw [List.length_append] at hf
            rw [show P2.putL [] = [] from rfl, List.nil_append]
            omega) hm2 hb2 he
          rw [show P2.putL [] = [] from rfl, List.nil_append] at this
          rw [this, mgT]
          simp
        by_cases hp : p = []
        · subst hp
          rw [show P2.putL [] = [] from rfl, List.nil_append] at hf ⊢
          rw [step f acc hf, flushT, if_pos rfl]
          rfl
        · obtain ⟨f, rfl⟩ : ∃ g, f = g + 1 := ⟨f - 1, by omega⟩
          have hl2 : 1 ≤ (P2.putL p).length := List.length_pos_iff.2 (put_ne hp)
          rw [rd_text hp (.inr hhd), step f _ (by rw [List.length_append] at hf; omega), flushT, if_neg hp]
          simp
theorem read_ok {l : List PT} (hm : mayL l = true) (hb : bareL l = true) : readL (allH l) = (mgL l [], []) := by
  have := rd_ok _ l ((allH l).length + 1) [] [] [] (Nat.le_refl _) (by simp [show P2.putL [] = [] from rfl]) hm hb (.inl rfl)
  simpa [readL, show P2.putL [] = [] from rfl] using this
/-! ### How deep -/
mutual
def dpT : PT → Nat
  | .mk _ _ _ _ kids => dpL kids
def dpL : List PT → Nat
  | [] => 0
  | a :: l => max (if a.tag.toList.isEmpty then 0 else 1 + dpT a) (dpL l)
end
theorem dp_deep (n : Nat) : ∀ l : List PT, countL l ≤ n → mayL l = true → dpL l = deepL l := by
  induction n with
  | zero =>
    intro l hn _
    cases l with
    | cons a l => have := count_pos a; simp [countL] at hn; omega
    | nil => rw [dpL, deepL]
  | succ n ih =>
    intro l hn hm
    cases l with
    | nil => rw [dpL, deepL]
    | cons a l =>
      rw [countL] at hn
      have hc := count_pos a
      rw [mayL, Bool.and_eq_true] at hm
      obtain ⟨tag, txt, key, attrs, kids⟩ := a
      have hm1 := hm.1
      rw [mayP] at hm1
      rw [dpL, deepL, ih l (by omega) hm.2, deepP, dpT]
      show max (if tag.toList.isEmpty then 0 else 1 + dpL kids) _ = _
      cases ht : tag.toList.isEmpty with
      | true =>
        rw [if_pos ht] at hm1
        simp only [Bool.and_eq_true] at hm1
        have hk : kids = [] := by simpa using hm1.2
        rw [hk, deepL]
        simp
      | false =>
        rw [if_neg (by simp [ht])] at hm1
        simp only [Bool.and_eq_true] at hm1
        rw [countP] at hn
        rw [ih kids (by omega) hm1.2]
        simp [Nat.add_comm]
theorem dpL_w' : ∀ l : List PT, (∀ k ∈ l, dpT k + 1 ≤ wP k) → dpL l ≤ wL l
  | [], _ => by simp [dpL]
  | a :: l, h => by
    have h1 := h a (by simp)
    have h2 := dpL_w' l (fun k hk => h k (by simp [hk]))
    rw [dpL, wL]
    split <;> omega
theorem dp_w (t : PT) : dpT t + 1 ≤ wP t := by
  induction t using PT.ind with
  | h tag txt key attrs kids ih =>
    have := dpL_w' kids ih
    rw [dpT, wP]
    omega
theorem dpL_w (l : List PT) : dpL l ≤ wL l := dpL_w' l (fun k _ => dp_w k)
theorem dpL_append : ∀ l m : List PT, dpL (l ++ m) = max (dpL l) (dpL m)
  | [], m => by simp [dpL]
  | a :: l, m => by rw [List.cons_append, dpL, dpL, dpL_append l m]; omega
/-! ### The program's answer -/
theorem getR_is (s : List UInt8) (hs : s.length ≤ 6000) : getR s = if decide (dpL (readL s).1 ≤ 200) && mayL (readL s).1 && decide (allH (readL s).1 = s) then ((readL s).1, 0) else ([], 7) := by
  split
  · rename_i h
    simp only [Bool.and_eq_true, decide_eq_true_eq] at h
    obtain ⟨⟨h1, h2⟩, h3⟩ := h
    have hb : bareL (readL s).1 = true := rdF_bare _ _ [] rfl
    have hr := read_ok h2 hb
    rw [h3] at hr
    refine getR_yes hs ⟨h2, ?_, by rw [← dp_deep _ _ (Nat.le_refl _) h2]; exact h1, h3⟩
    rw [plL_tx, hb, Bool.true_and, hr]
    exact txL_mg _ _
  · rename_i h
    refine getR_no hs fun l hl => h ?_
    obtain ⟨h1, h2, h3, h4⟩ := hl
    rw [plL_tx, Bool.and_eq_true] at h2
    have hr := read_ok h1 h2.1
    rw [h4, mg_id h1 h2.2] at hr
    rw [hr]
    simp only [Bool.and_eq_true, decide_eq_true_eq]
    exact ⟨⟨by rw [dp_deep _ _ (Nat.le_refl _) h1]; exact h3, h1⟩, h4⟩
end Go.Proofs.Ytbdcbjeeaebfeaa.P10
