/- What follows of layer 3, by the plain functions: of lists that may be what is joined may be, and stays. -/
import Derived.Test.YthdgaoifbejpjaaM1
set_option linter.unusedVariables false
set_option linter.unusedSimpArgs false
set_option linter.unusedVariables false
set_option linter.unusedSimpArgs false
namespace Go.Proofs.Ythdgaoifbejpjaa.P3

def Diff (a b : At) : Prop := a.nm.toList ≠ b.nm.toList
theorem addA_mem {laid m : List At} {a : At} (h : a ∈ addA laid m) : a ∈ laid ∨ a ∈ m := by
  induction m generalizing laid with
  | nil => exact .inl h
  | cons b m ih =>
    simp only [addA] at h
    split at h
    · rcases ih h with h | h
      · exact .inl h
      · exact .inr (List.mem_cons_of_mem _ h)
    · rcases ih h with h | h
      · rcases List.mem_append.1 h with h | h
        · exact .inl h
        · exact .inr (by rw [List.mem_singleton] at h; subst h; exact List.mem_cons_self)
      · exact .inr (List.mem_cons_of_mem _ h)
theorem addA_diff {laid m : List At} (h : laid.Pairwise Diff) : (addA laid m).Pairwise Diff := by
  induction m generalizing laid with
  | nil => exact h
  | cons b m ih =>
    simp only [addA]
    split
    · exact ih h
    · rename_i hb
      refine ih (List.pairwise_append.2 ⟨h, List.pairwise_singleton _ _, fun x hx y hy => ?_⟩)
      rw [List.mem_singleton] at hy
      subst hy
      exact hasA_iff_no.1 (by simpa using hb) x hx
theorem addA_from (laid m : List At) : ∃ r, addA laid m = laid ++ r ∧ ∀ a ∈ r, a ∈ m := by
  induction m generalizing laid with
  | nil => exact ⟨[], by simp [addA], by simp⟩
  | cons b m ih =>
    simp only [addA]
    split
    · obtain ⟨r, h1, h2⟩ := ih laid
      exact ⟨r, h1, fun a ha => List.mem_cons_of_mem _ (h2 a ha)⟩
    · obtain ⟨r, h1, h2⟩ := ih (laid ++ [b])
      refine ⟨b :: r, by rw [h1]; simp, fun a ha => ?_⟩
      rcases List.mem_cons.1 ha with rfl | ha
      · exact List.mem_cons_self
      · exact List.mem_cons_of_mem _ (h2 a ha)
/-- where all names differ, all are laid -/
theorem addA_all {laid m : List At} (h : (laid ++ m).Pairwise Diff) : addA laid m = laid ++ m := by
  induction m generalizing laid with
  | nil => simp [addA]
  | cons b m ih =>
    have hb : hasA laid b.nm = false := hasA_iff_no.2 fun a ha => (List.pairwise_append.1 h).2.2 a ha b List.mem_cons_self
    simp only [addA]
    rw [if_neg (by simp [hb]), ih (by simpa using h)]
    simp
theorem joinA_mem {l m : List At} {a : At} (h : a ∈ joinA l m) : a ∈ l ∨ a ∈ m := by
  rcases addA_mem (List.mem_of_mem_take h) with h | h
  · exact .inl (thoseA_mem.1 h).1
  · exact .inr (thoseA_mem.1 h).1
theorem newA_mem {m : List At} {a : At} (h : a ∈ newA m) : a ∈ m := by
  rcases List.mem_append.1 h with h | h <;> exact (thoseA_mem.1 h).1
theorem thoseA_diff {l : List At} (s : Bool) (h : l.Pairwise Diff) : (thoseA l s).Pairwise Diff := h.sublist List.filter_sublist
theorem diff_two {m : List At} (h : m.Pairwise Diff) {a b : At} (ha : a ∈ m) (hb : b ∈ m) (hne : a.st ≠ b.st) : Diff a b := by
  obtain ⟨i, hi, rfl⟩ := List.getElem_of_mem ha
  obtain ⟨j, hj, rfl⟩ := List.getElem_of_mem hb
  rcases Nat.lt_trichotomy i j with hij | hij | hij
  · exact List.pairwise_iff_getElem.1 h i j hi hj hij
  · subst hij; exact absurd rfl hne
  · exact fun e => List.pairwise_iff_getElem.1 h j i hj hi hij e.symm
theorem newA_diff {m : List At} (h : m.Pairwise Diff) : (newA m).Pairwise Diff := by
  unfold newA
  refine List.pairwise_append.2 ⟨thoseA_diff _ h, thoseA_diff _ h, fun a ha b hb => ?_⟩
  obtain ⟨ha1, ha2⟩ := thoseA_mem.1 ha
  obtain ⟨hb1, hb2⟩ := thoseA_mem.1 hb
  exact diff_two h ha1 hb1 (by rw [ha2, hb2]; decide)
theorem joinA_may {l m : List At} (hl : mayA l = true) (hm : mayA m = true) : mayA (joinA l m) = true := by
  obtain ⟨_, hl2, hl3⟩ := mayA_iff.1 hl
  obtain ⟨_, hm2, _⟩ := mayA_iff.1 hm
  refine mayA_iff.2 ⟨joinA_len l m, fun a ha => ?_, ?_⟩
  · rcases joinA_mem ha with h | h
    · exact hl2 a h
    · exact hm2 a h
  · exact (addA_diff (thoseA_diff true hl3)).sublist (List.take_sublist _ _)
theorem newA_may {m : List At} (hm : mayA m = true) : mayA (newA m) = true := by
  obtain ⟨h1, h2, h3⟩ := mayA_iff.1 hm
  exact mayA_iff.2 ⟨by rw [newA_len]; exact h1, fun a ha => h2 a (newA_mem ha), newA_diff h3⟩
theorem thoseA_append (l m : List At) (s : Bool) : thoseA (l ++ m) s = thoseA l s ++ thoseA m s := by simp [thoseA]
theorem thoseA_same (l : List At) (s : Bool) : thoseA (thoseA l s) s = thoseA l s := by simp [thoseA]
theorem thoseA_none {l : List At} {s : Bool} (h : ∀ a ∈ l, a.st ≠ s) : thoseA l s = [] := by
  unfold thoseA
  rw [List.filter_eq_nil_iff]
  intro a ha
  simpa using h a ha
/-- joined again it stays -/
theorem joinA_again {l m : List At} (hl : mayA l = true) : joinA (joinA l m) m = joinA l m := by
  have h8 := (mayA_iff.1 hl).1
  have e : thoseA (joinA l m) true = thoseA l true := by
    obtain ⟨r, h1, h2⟩ := addA_from (thoseA l true) (thoseA m false)
    have hs : (thoseA l true).length ≤ 8 := Nat.le_trans (thoseA_len _ _) h8
    unfold joinA
    rw [h1, List.take_append, List.take_of_length_le hs, thoseA_append, thoseA_same, thoseA_none (l := List.take _ r), List.append_nil]
    intro a ha
    have := (thoseA_mem.1 (h2 a (List.mem_of_mem_take ha))).2
    rw [this]; decide
  show (addA (thoseA (joinA l m) true) (thoseA m false)).take 8 = joinA l m
  rw [e]; rfl
/-- a new one's, joined with the same, stay -/
theorem joinA_new {m : List At} (hm : mayA m = true) : joinA (newA m) m = newA m := by
  obtain ⟨h1, _, h3⟩ := mayA_iff.1 hm
  have e : thoseA (newA m) true = thoseA m true := by
    unfold newA
    rw [thoseA_append, thoseA_same, thoseA_none (l := thoseA m false), List.append_nil]
    intro a ha
    rw [(thoseA_mem.1 ha).2]; decide
  unfold joinA
  rw [e, addA_all (newA_diff h3)]
  exact List.take_of_length_le (by rw [← newA, newA_len]; exact h1)
end Go.Proofs.Ythdgaoifbejpjaa.P3
