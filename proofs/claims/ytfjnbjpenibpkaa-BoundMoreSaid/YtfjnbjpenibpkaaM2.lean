/- The plain functions of layer 3: lists of attributes: found, joined, a new one's, the same, whether they may be. No condition. -/
import Derived.Test.YtfjnbjpenibpkaaM1
set_option linter.unusedVariables false
set_option linter.unusedSimpArgs false
set_option linter.unusedVariables false
set_option linter.unusedSimpArgs false
namespace Go.Proofs.Ytfjnbjpenibpkaa.P3

structure At where
  nm : ByteArray
  vl : ByteArray
  st : Bool
def At.none : At := ⟨⟨#[]⟩, ⟨#[]⟩, false⟩

/-! ### Found -/
def sameN (s : ByteArray) (a : At) : Bool := a.nm.toList == s.toList
def findA (l : List At) (s : ByteArray) : Option At := l.find? (sameN s)
def hasA (l : List At) (s : ByteArray) : Bool := (findA l s).isSome
theorem findA_none {l : List At} {s : ByteArray} {n : Nat} (hn : l.length = n) (h : findA (l.take n) s = none) : findA l s = none := by subst hn; simpa using h
theorem findA_next {l : List At} {s : ByteArray} {k : Nat} (h : findA (l.take k) s = none) (hk : k < l.length) (he : (l[k].nm.toList == s.toList) = false) : findA (l.take (k + 1)) s = none := by
  rw [List.take_succ_eq_append_getElem hk, findA, List.find?_append]
  unfold findA at h
  rw [h]
  simp [sameN, he]
theorem findA_some {l : List At} {s : ByteArray} {k : Nat} (h : findA (l.take k) s = none) (hk : k < l.length) (he : (l[k].nm.toList == s.toList) = true) : findA l s = some l[k] := by
  have e : List.find? (sameN s) (l.take k ++ (l[k] :: l.drop (k + 1))) = some l[k] := by
    unfold findA at h
    rw [List.find?_append, h, List.find?_cons]
    simp [sameN, he]
  rw [← List.drop_eq_getElem_cons hk, List.take_append_drop] at e
  exact e
/-- from behind: what stands from place k on -/
theorem findA_drop_yes {l : List At} {s : ByteArray} {k : Nat} (hk : k < l.length) (he : (l[k].nm.toList == s.toList) = true) : findA (l.drop k) s = some l[k] := by
  rw [List.drop_eq_getElem_cons hk, findA, List.find?_cons]
  simp [sameN, he]
theorem findA_drop_no {l : List At} {s : ByteArray} {k : Nat} (hk : k < l.length) (he : (l[k].nm.toList == s.toList) = false) : findA (l.drop k) s = findA (l.drop (k + 1)) s := by
  rw [List.drop_eq_getElem_cons hk, findA, List.find?_cons]
  simp [sameN, he, findA]
theorem hasA_iff {l : List At} {s : ByteArray} : hasA l s = true ↔ ∃ a ∈ l, a.nm.toList = s.toList := by
  unfold hasA findA
  rw [List.find?_isSome]
  simp [sameN]
theorem hasA_iff_no {l : List At} {s : ByteArray} : hasA l s = false ↔ ∀ a ∈ l, a.nm.toList ≠ s.toList := by
  rw [← Bool.not_eq_true, hasA_iff]
  simp

/-! ### The same -/
def atB (a b : At) : Bool := a.nm.toList == b.nm.toList && a.vl.toList == b.vl.toList && a.st == b.st
def sameA : List At → List At → Bool
  | [], [] => true
  | a :: l, b :: m => atB a b && sameA l m
  | _, _ => false
theorem atB_refl (a : At) : atB a a = true := by simp [atB]
theorem sameA_refl (l : List At) : sameA l l = true := by
  induction l with
  | nil => rfl
  | cons a l ih => simp [sameA, atB_refl, ih]
theorem sameA_len {l m : List At} (h : l.length ≠ m.length) : sameA l m = false := by
  induction l generalizing m with
  | nil => cases m <;> simp_all [sameA]
  | cons a l ih =>
    cases m with
    | nil => rfl
    | cons b m => simp only [sameA, ih (by simpa using h), Bool.and_false]
theorem sameA_bad {l m : List At} {k : Nat} (hk : k < l.length) (hm : k < m.length) (h : atB l[k] m[k] = false) : sameA l m = false := by
  induction l generalizing m k with
  | nil => simp at hk
  | cons a l ih =>
    cases m with
    | nil => rfl
    | cons b m =>
      cases k with
      | zero => simp at h; simp [sameA, h]
      | succ k => simp at h hk hm; simp [sameA, ih hk hm h]
def SameTo (l m : List At) (k : Nat) : Prop := ∀ j (h : j < l.length) (h' : j < m.length), j < k → atB l[j] m[j] = true
theorem SameTo.zero (l m : List At) : SameTo l m 0 := fun _ _ _ h => absurd h (by omega)
theorem SameTo.next {l m : List At} {k : Nat} (h : SameTo l m k) (hk : k < l.length) (hm : k < m.length) (hb : atB l[k] m[k] = true) : SameTo l m (k + 1) := by
  intro j hj hj' hlt
  by_cases e : j = k
  · subst e; exact hb
  · exact h j hj hj' (by omega)
theorem SameTo.all {l m : List At} {k : Nat} (h : SameTo l m k) (hl : l.length = k) (hm : m.length = k) : sameA l m = true := by
  induction l generalizing m k with
  | nil =>
    cases m with
    | nil => rfl
    | cons b m => simp at hl hm; omega
  | cons a l ih =>
    cases m with
    | nil => simp at hl hm; omega
    | cons b m =>
      have h0 := h 0 (by simp) (by simp) (by simp at hl; omega)
      simp at h0
      simp only [sameA, h0, Bool.true_and]
      refine ih (k := l.length) (fun j hj hj' _ => ?_) rfl (by simp at hl hm; omega)
      have := h (j + 1) (by simpa using hj) (by simpa using hj') (by simp at hl; omega)
      simpa using this

/-! ### Those that are static, or aren't -/
def thoseA (l : List At) (s : Bool) : List At := l.filter fun a => a.st == s
theorem thoseA_yes {l : List At} {s : Bool} {k : Nat} (hk : k < l.length) (h : (l[k].st == s) = true) : thoseA (l.take (k + 1)) s = thoseA (l.take k) s ++ [l[k]] := by
  rw [List.take_succ_eq_append_getElem hk, thoseA, List.filter_append]
  simp [h, thoseA]
theorem thoseA_no {l : List At} {s : Bool} {k : Nat} (hk : k < l.length) (h : (l[k].st == s) = false) : thoseA (l.take (k + 1)) s = thoseA (l.take k) s := by
  rw [List.take_succ_eq_append_getElem hk, thoseA, List.filter_append]
  simp [h, thoseA]
theorem thoseA_all {l : List At} {s : Bool} {n : Nat} (hn : l.length = n) : thoseA (l.take n) s = thoseA l s := by subst hn; simp
theorem thoseA_len (l : List At) (s : Bool) : (thoseA l s).length ≤ l.length := List.length_filter_le _ _
theorem thoseA_take_len (l : List At) (s : Bool) (k : Nat) : (thoseA (l.take k) s).length ≤ l.length := Nat.le_trans (thoseA_len _ _) (by rw [List.length_take]; omega)
theorem thoseA_mem {l : List At} {s : Bool} {a : At} : a ∈ thoseA l s ↔ a ∈ l ∧ a.st = s := by simp [thoseA]

/-! ### Joined; a new one's -/
def addA (laid : List At) : List At → List At
  | [] => laid
  | a :: m => if hasA laid a.nm then addA laid m else addA (laid ++ [a]) m
def newA (l : List At) : List At := thoseA l true ++ thoseA l false
def joinA (old want : List At) : List At := (addA (thoseA old true) (thoseA want false)).take 8
theorem addA_snoc_yes {laid m : List At} {a : At} (h : hasA (addA laid m) a.nm = true) : addA laid (m ++ [a]) = addA laid m := by
  induction m generalizing laid with
  | nil => simp only [List.nil_append, addA] at h ⊢; rw [if_pos h]
  | cons b m ih =>
    simp only [List.cons_append, addA] at h ⊢
    split
    · rename_i hb; rw [if_pos hb] at h; exact ih h
    · rename_i hb; rw [if_neg hb] at h; exact ih h
theorem addA_snoc_no {laid m : List At} {a : At} (h : hasA (addA laid m) a.nm = false) : addA laid (m ++ [a]) = addA laid m ++ [a] := by
  induction m generalizing laid with
  | nil => simp only [List.nil_append, addA] at h ⊢; rw [if_neg (by simp [h])]
  | cons b m ih =>
    simp only [List.cons_append, addA] at h ⊢
    split
    · rename_i hb; rw [if_pos hb] at h; exact ih h
    · rename_i hb; rw [if_neg hb] at h; exact ih h
theorem addA_pre (laid m : List At) : ∃ r, addA laid m = laid ++ r ∧ r.length ≤ m.length := by
  induction m generalizing laid with
  | nil => exact ⟨[], by simp [addA], by simp⟩
  | cons b m ih =>
    simp only [addA]
    split
    · obtain ⟨r, h1, h2⟩ := ih laid; exact ⟨r, h1, by simp; omega⟩
    · obtain ⟨r, h1, h2⟩ := ih (laid ++ [b]); exact ⟨b :: r, by rw [h1]; simp, by simp; omega⟩
theorem addA_append (laid m r : List At) : addA laid (m ++ r) = addA (addA laid m) r := by
  induction m generalizing laid with
  | nil => rfl
  | cons b m ih => simp only [List.cons_append, addA]; split <;> exact ih _
theorem addA_take_snoc_yes {laid m : List At} {k : Nat} (hk : k < m.length) (h : hasA (addA laid (m.take k)) m[k].nm = true) : addA laid (m.take (k + 1)) = addA laid (m.take k) := by
  rw [List.take_succ_eq_append_getElem hk]; exact addA_snoc_yes h
theorem addA_take_snoc_no {laid m : List At} {k : Nat} (hk : k < m.length) (h : hasA (addA laid (m.take k)) m[k].nm = false) : addA laid (m.take (k + 1)) = addA laid (m.take k) ++ [m[k]] := by
  rw [List.take_succ_eq_append_getElem hk]; exact addA_snoc_no h
theorem hasA_take_succ {l : List At} {s : ByteArray} {j : Nat} (hj : j < l.length) : hasA (l.take (j + 1)) s = (hasA (l.take j) s || (l[j].nm.toList == s.toList)) := by
  unfold hasA findA
  rw [List.take_succ_eq_append_getElem hj, List.find?_append]
  cases (l.take j).find? (sameN s) <;> simp [sameN]
  split <;> simp_all
/-- the reference's way: over all that are wanted, the static ones too -/
theorem radd_yes {S m : List At} {k : Nat} (hk : k < m.length) (h : true = (m[k].st || hasA (addA S (thoseA (m.take k) false)) m[k].nm)) : addA S (thoseA (m.take (k + 1)) false) = addA S (thoseA (m.take k) false) := by
  cases hs : m[k].st
  · rw [thoseA_yes hk (by rw [hs]; rfl)]
    rw [hs] at h
    exact addA_snoc_yes (by simpa using h.symm)
  · rw [thoseA_no hk (by rw [hs]; rfl)]
theorem radd_no {S m : List At} {k : Nat} (hk : k < m.length) (h : false = (m[k].st || hasA (addA S (thoseA (m.take k) false)) m[k].nm)) : addA S (thoseA (m.take (k + 1)) false) = addA S (thoseA (m.take k) false) ++ [m[k]] := by
  have h' := h.symm
  rw [Bool.or_eq_false_iff] at h'
  rw [thoseA_yes hk (by rw [h'.1]; rfl)]
  exact addA_snoc_no h'.2
/-- once there are eight, no more come into the first eight -/
theorem addA_full {laid m : List At} {k : Nat} (h : 8 ≤ (addA laid (m.take k)).length) : (addA laid m).take 8 = (addA laid (m.take k)).take 8 := by
  have e : addA laid m = addA (addA laid (m.take k)) (m.drop k) := by rw [← addA_append, List.take_append_drop]
  obtain ⟨r, h1, _⟩ := addA_pre (addA laid (m.take k)) (m.drop k)
  rw [e, h1, List.take_append_of_le_length h]
theorem addA_len (laid m : List At) : (addA laid m).length ≤ laid.length + m.length := by
  obtain ⟨r, h1, h2⟩ := addA_pre laid m
  rw [h1, List.length_append]; omega
theorem addA_take_len (laid m : List At) (k : Nat) : (addA laid (m.take k)).length ≤ laid.length + m.length :=
  Nat.le_trans (addA_len _ _) (by rw [List.length_take]; omega)
theorem radd_len (S m : List At) (k : Nat) : (addA S (thoseA (m.take k) false)).length ≤ S.length + m.length :=
  Nat.le_trans (addA_len _ _) (by have := thoseA_take_len m false k; omega)
theorem newA_len (l : List At) : (newA l).length = l.length := by
  unfold newA
  induction l with
  | nil => rfl
  | cons a l ih =>
    rw [List.length_append] at ih ⊢
    cases hs : a.st <;> simp [thoseA, hs] at ih ⊢ <;> omega
theorem joinA_len (l m : List At) : (joinA l m).length ≤ 8 := by unfold joinA; rw [List.length_take]; omega

/-! ### Whether a list may be -/
def goodA (l : List At) (j : Nat) : Bool :=
  match l[j]? with
  | some a => P1.nameB a.nm.data.toList && P1.textB a.vl.data.toList && !hasA (l.take j) a.nm
  | none => true
def okA (l : List At) : Bool := (List.range l.length).all (goodA l)
def mayA (l : List At) : Bool := decide (l.length ≤ 8) && okA l
theorem goodA_at {l : List At} {k : Nat} (hk : k < l.length) : goodA l k = (P1.nameB l[k].nm.data.toList && P1.textB l[k].vl.data.toList && !hasA (l.take k) l[k].nm) := by
  unfold goodA; rw [List.getElem?_eq_getElem hk]
def GoodTo (l : List At) (k : Nat) : Prop := ∀ j, j < k → goodA l j = true
theorem GoodTo.zero (l : List At) : GoodTo l 0 := fun _ h => absurd h (by omega)
theorem GoodTo.next {l : List At} {k : Nat} (h : GoodTo l k) (hb : goodA l k = true) : GoodTo l (k + 1) := by
  intro j hj
  by_cases e : j = k
  · subst e; exact hb
  · exact h j (by omega)
theorem okA_bad {l : List At} {k : Nat} (hk : k < l.length) (h : goodA l k = false) : okA l = false := by
  unfold okA
  rw [List.all_eq_false]
  exact ⟨k, List.mem_range.2 hk, by simp [h]⟩
theorem GoodTo.all {l : List At} {k : Nat} (h : GoodTo l k) (hl : l.length = k) : okA l = true := by
  unfold okA
  rw [List.all_eq_true]
  intro j hj
  exact h j (by rw [← hl]; exact List.mem_range.1 hj)
theorem mayA_bad {l : List At} {k : Nat} (hk : k < l.length) (h : goodA l k = false) : mayA l = false := by
  unfold mayA; rw [okA_bad hk h]; simp
theorem mayA_long {l : List At} (h : 8 < l.length) : mayA l = false := by
  unfold mayA; simp; omega
theorem mayA_ok {l : List At} {k : Nat} (h : GoodTo l k) (hl : l.length = k) : mayA l = decide (k ≤ 8) := by
  unfold mayA; rw [h.all hl, hl]; simp
/-- in words: few, each of a name and a text, no two of one name -/
theorem mayA_iff {l : List At} : mayA l = true ↔ l.length ≤ 8 ∧ (∀ a ∈ l, P1.nameB a.nm.data.toList = true ∧ P1.textB a.vl.data.toList = true) ∧ l.Pairwise fun a b => a.nm.toList ≠ b.nm.toList := by
  unfold mayA okA
  simp only [Bool.and_eq_true, decide_eq_true_eq, List.all_eq_true, List.mem_range]
  refine and_congr Iff.rfl ⟨fun h => ⟨fun a ha => ?_, ?_⟩, fun ⟨h1, h2⟩ j hj => ?_⟩
  · obtain ⟨j, hj, rfl⟩ := List.getElem_of_mem ha
    have := h j hj
    rw [goodA_at hj] at this
    simp only [Bool.and_eq_true] at this
    exact ⟨this.1.1, this.1.2⟩
  · rw [List.pairwise_iff_getElem]
    intro i j hi hj hij
    have := h j hj
    rw [goodA_at hj] at this
    simp only [Bool.and_eq_true, Bool.not_eq_true'] at this
    exact hasA_iff_no.1 this.2 l[i] (by rw [List.mem_take_iff_getElem]; exact ⟨i, by omega, rfl⟩)
  · rw [goodA_at hj]
    simp only [Bool.and_eq_true, Bool.not_eq_true']
    refine ⟨h1 _ (List.getElem_mem hj), hasA_iff_no.2 fun a ha => ?_⟩
    obtain ⟨i, hi, rfl⟩ := List.mem_take_iff_getElem.1 ha
    exact (List.pairwise_iff_getElem.1 h2) i j (by omega) hj (by omega)

/-! ### Few, and short -/
def shortA (a : At) : Bool := decide (a.nm.size ≤ 100) && decide (a.vl.size ≤ 100)
def fewA (l : List At) : Bool := decide (l.length ≤ 20) && l.all shortA
end Go.Proofs.Ytfjnbjpenibpkaa.P3
