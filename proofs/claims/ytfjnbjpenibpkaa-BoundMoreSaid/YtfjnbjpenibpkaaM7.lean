/- Slots with identities, as plain lists: where an identity stands, one more, one less, one set anew. No condition. -/
set_option linter.unusedVariables false
set_option linter.unusedSimpArgs false
set_option linter.unusedVariables false
set_option linter.unusedSimpArgs false
namespace Go.Proofs.Ytfjnbjpenibpkaa.P4

/-- a slot: an identity, and what is there -/
structure Sl (α : Type) where
  id : Int
  x : α

variable {α : Type}
/-- how many identities are below t, from the front -/
def posA : List (Sl α) → Int → Nat
  | [], _ => 0
  | s :: r, t => if s.id < t then posA r t + 1 else 0
/-- identities rise, from 1 to n -/
def Asc (n : Int) (l : List (Sl α)) : Prop := l.Pairwise (fun a b => a.id < b.id) ∧ ∀ s ∈ l, 1 ≤ s.id ∧ s.id ≤ n
/-- does t stand at place k? -/
def atB (l : List (Sl α)) (k : Nat) (t : Int) : Bool := match l[k]? with
  | some s => s.id == t
  | none => false
def hasA (l : List (Sl α)) (t : Int) : Bool := atB l (posA l t) t

theorem posA_le (l : List (Sl α)) (t : Int) : posA l t ≤ l.length := by
  induction l with
  | nil => simp [posA]
  | cons s r ih => simp only [posA, List.length_cons]; split <;> omega
theorem posA_of : ∀ (l : List (Sl α)) (t : Int) (i : Nat), i ≤ l.length → (∀ k (h : k < l.length), k < i → l[k].id < t) → (∀ k (h : k < l.length), i ≤ k → t ≤ l[k].id) → posA l t = i
  | [], t, i, hi, _, _ => by simp at hi; simp [posA, hi]
  | s :: r, t, 0, _, _, h2 => by
    have := h2 0 (by simp) (by omega)
    simp only [List.getElem_cons_zero] at this
    simp only [posA]
    rw [if_neg (by omega)]
  | s :: r, t, i + 1, hi, h1, h2 => by
    have h0 := h1 0 (by simp) (by omega)
    simp only [List.getElem_cons_zero] at h0
    simp only [posA]
    rw [if_pos h0, posA_of r t i (by simpa using hi) (fun k hk hki => h1 (k + 1) (by simpa using hk) (by omega)) (fun k hk hki => h2 (k + 1) (by simpa using hk) (by omega))]
theorem atB_lt {l : List (Sl α)} {k : Nat} {t : Int} (h : atB l k t = true) : k < l.length := by
  unfold atB at h
  split at h
  · rename_i s hs; exact (List.getElem?_eq_some_iff.1 hs).1
  · cases h
theorem atB_id {l : List (Sl α)} {k : Nat} {t : Int} (h : atB l k t = true) (hk : k < l.length) : l[k].id = t := by
  unfold atB at h
  rw [List.getElem?_eq_getElem hk] at h
  simpa using h
theorem atB_at {l : List (Sl α)} {k : Nat} {t : Int} (hk : k < l.length) : atB l k t = (l[k].id == t) := by
  unfold atB
  rw [List.getElem?_eq_getElem hk]
theorem atB_none {l : List (Sl α)} {k : Nat} {t : Int} (hk : l.length ≤ k) : atB l k t = false := by
  unfold atB
  rw [List.getElem?_eq_none hk]
theorem asc_lt {n : Int} {l : List (Sl α)} (h : Asc n l) {i j : Nat} (hi : i < l.length) (hj : j < l.length) (hij : i < j) : l[i].id < l[j].id :=
  List.pairwise_iff_getElem.1 h.1 i j hi hj hij
theorem asc_inj {n : Int} {l : List (Sl α)} (h : Asc n l) {i j : Nat} (hi : i < l.length) (hj : j < l.length) (he : l[i].id = l[j].id) : i = j := by
  rcases Nat.lt_trichotomy i j with hl | hl | hl
  · have := asc_lt h hi hj hl; omega
  · exact hl
  · have := asc_lt h hj hi hl; omega
/-- an identity that is there stands where it is looked for -/
theorem posA_at {n : Int} {l : List (Sl α)} (h : Asc n l) {k : Nat} (hk : k < l.length) : posA l l[k].id = k := by
  refine posA_of l _ k (by omega) (fun i hi hik => asc_lt h hi hk hik) (fun i hi hki => ?_)
  rcases Nat.lt_or_eq_of_le hki with hlt | rfl
  · have := asc_lt h hk hi hlt; omega
  · exact Int.le_refl _
theorem hasA_at {n : Int} {l : List (Sl α)} (h : Asc n l) {k : Nat} (hk : k < l.length) : hasA l l[k].id = true := by
  unfold hasA
  rw [posA_at h hk, atB_at hk]
  simp
theorem hasA_mem {l : List (Sl α)} {t : Int} (h : hasA l t = true) : ∃ s ∈ l, s.id = t := by
  have hk := atB_lt h
  exact ⟨l[posA l t], List.getElem_mem _, atB_id h hk⟩
theorem hasA_iff {n : Int} {l : List (Sl α)} (h : Asc n l) (t : Int) : hasA l t = true ↔ ∃ s ∈ l, s.id = t := by
  refine ⟨hasA_mem, ?_⟩
  rintro ⟨s, hs, rfl⟩
  obtain ⟨k, hk, rfl⟩ := List.mem_iff_getElem.1 hs
  exact hasA_at h hk
theorem hasA_no {n : Int} {l : List (Sl α)} (h : Asc n l) {t : Int} (ht : ∀ s ∈ l, s.id ≠ t) : hasA l t = false := by
  rw [← Bool.not_eq_true, hasA_iff h]
  rintro ⟨s, hs, e⟩
  exact ht s hs e
theorem hasA_big {n : Int} {l : List (Sl α)} (h : Asc n l) {t : Int} (ht : n < t ∨ t < 1) : hasA l t = false :=
  hasA_no h fun s hs e => by have := h.2 s hs; omega

/-! ### One more, one less, one set anew -/
theorem asc_nil : Asc 0 ([] : List (Sl α)) := ⟨List.Pairwise.nil, fun _ h => absurd h (by simp)⟩
theorem asc_put {n : Int} {l : List (Sl α)} (h : Asc n l) (hn : 0 ≤ n) (x : α) : Asc (n + 1) (l ++ [⟨n + 1, x⟩]) := by
  refine ⟨List.pairwise_append.2 ⟨h.1, by simp, fun a ha b hb => ?_⟩, fun s hs => ?_⟩
  · simp only [List.mem_singleton] at hb
    subst hb
    have := h.2 a ha
    show a.id < n + 1
    omega
  · simp only [List.mem_append, List.mem_singleton] at hs
    rcases hs with hs | rfl
    · have := h.2 s hs; omega
    · show 1 ≤ n + 1 ∧ n + 1 ≤ n + 1; omega
theorem asc_drop {n : Int} {l : List (Sl α)} (h : Asc n l) (k : Nat) : Asc n (l.eraseIdx k) :=
  ⟨h.1.sublist (List.eraseIdx_sublist _ _), fun s hs => h.2 s ((List.eraseIdx_sublist _ _).subset hs)⟩
theorem asc_set {n : Int} {l : List (Sl α)} (h : Asc n l) {k : Nat} {t : Int} (hk : atB l k t = true) (x : α) : Asc n (l.set k ⟨t, x⟩) := by
  have hkl := atB_lt hk
  have hid := atB_id hk hkl
  have key : ∀ i (hi : i < (l.set k ⟨t, x⟩).length), (l.set k ⟨t, x⟩)[i].id = (l[i]'(by simpa using hi)).id := by
    intro i hi
    rw [List.getElem_set]
    split
    · rename_i e; subst e; exact hid.symm
    · rfl
  refine ⟨List.pairwise_iff_getElem.2 fun i j hi hj hij => ?_, fun s hs => ?_⟩
  · rw [key i hi, key j hj]
    exact asc_lt h (by simpa using hi) (by simpa using hj) hij
  · obtain ⟨i, hi, rfl⟩ := List.mem_iff_getElem.1 hs
    rw [key i hi]
    exact h.2 _ (List.getElem_mem _)
/-- what was taken away is not there -/
theorem drop_gone {n : Int} {l : List (Sl α)} (h : Asc n l) {t : Int} (ht : hasA l t = true) : ∀ s ∈ l.eraseIdx (posA l t), s.id ≠ t := by
  have hk := atB_lt ht
  have hid := atB_id ht hk
  intro s hs e
  obtain ⟨j, hj, rfl⟩ := List.mem_iff_getElem.1 hs
  rw [List.getElem_eraseIdx] at e
  split at e
  · rename_i hlt
    have := asc_inj h (by omega) hk (e.trans hid.symm)
    omega
  · rename_i hlt
    have hj' : j + 1 < l.length := by rw [List.length_eraseIdx_of_lt hk] at hj; omega
    have := asc_inj h hj' hk (e.trans hid.symm)
    omega
theorem mem_drop {l : List (Sl α)} {k : Nat} {s : Sl α} (h : s ∈ l.eraseIdx k) : s ∈ l := (List.eraseIdx_sublist _ _).subset h

/-! ### The two lists of the law -/
def idsA (l : List (Sl α)) : List Int := l.map (·.id)
def valsA (l : List (Sl α)) : List α := l.map (·.x)
theorem ids_put (l : List (Sl α)) (n : Int) (x : α) : idsA (l ++ [⟨n, x⟩]) = idsA l ++ [n] := by simp [idsA]
theorem vals_put (l : List (Sl α)) (n : Int) (x : α) : valsA (l ++ [⟨n, x⟩]) = valsA l ++ [x] := by simp [valsA]
theorem eraseIdx_eq {β : Type} (l : List β) (k : Nat) : l.eraseIdx k = l.take k ++ l.drop (k + 1) := List.eraseIdx_eq_take_drop_succ l k
theorem ids_drop (l : List (Sl α)) (k : Nat) : idsA (l.eraseIdx k) = (idsA l).take k ++ (idsA l).drop (k + 1) := by
  rw [← eraseIdx_eq]; simp [idsA, eraseIdx_eq]
theorem vals_drop (l : List (Sl α)) (k : Nat) : valsA (l.eraseIdx k) = (valsA l).take k ++ (valsA l).drop (k + 1) := by
  rw [← eraseIdx_eq]; simp [valsA, eraseIdx_eq]
theorem ids_set {l : List (Sl α)} {k : Nat} {t : Int} (h : atB l k t = true) (x : α) : idsA (l.set k ⟨t, x⟩) = idsA l := by
  have hk := atB_lt h
  have hid := atB_id h hk
  simp only [idsA, List.map_set]
  apply List.ext_getElem
  · simp
  · intro i h1 h2
    rw [List.getElem_set]
    split
    · rename_i e; subst e; simp [hid]
    · rfl
theorem vals_set (l : List (Sl α)) (k : Nat) (t : Int) (x : α) : valsA (l.set k ⟨t, x⟩) = (valsA l).set k x := by
  simp [valsA, List.map_set]
/-- where the law has found the identity t among the first k -/
def seenA (l : List (Sl α)) (t : Int) (k : Nat) : Int := if posA l t < k ∧ hasA l t = true then posA l t else -1
theorem seen_zero (l : List (Sl α)) (t : Int) : seenA l t 0 = -1 := by simp [seenA]
theorem seen_yes {n : Int} {l : List (Sl α)} (h : Asc n l) {t : Int} {k : Nat} (hk : k < l.length) (he : l[k].id = t) : seenA l t (k + 1) = k := by
  subst he
  unfold seenA
  rw [posA_at h hk, if_pos ⟨by omega, hasA_at h hk⟩]
theorem seen_no {l : List (Sl α)} {t : Int} {k : Nat} (hk : k < l.length) (he : l[k].id ≠ t) : seenA l t (k + 1) = seenA l t k := by
  unfold seenA
  by_cases hh : hasA l t = true
  · have hp : posA l t ≠ k := by
      intro e
      have := atB_id hh (atB_lt hh)
      subst e
      exact he this
    by_cases hlt : posA l t < k
    · rw [if_pos ⟨by omega, hh⟩, if_pos ⟨hlt, hh⟩]
    · rw [if_neg (by omega), if_neg (by omega)]
  · rw [if_neg (by simp [hh]), if_neg (by simp [hh])]
theorem seen_all_yes {l : List (Sl α)} {t : Int} (h : hasA l t = true) : seenA l t l.length = posA l t := by
  unfold seenA
  rw [if_pos ⟨atB_lt h, h⟩]
theorem seen_all_no {l : List (Sl α)} {t : Int} (h : hasA l t = false) : seenA l t l.length = -1 := by
  unfold seenA
  rw [if_neg (by simp [h])]

/-- an integer modulo 8, as the law takes it -/
def pickA (c n : Int) : Int := (if c < 0 then -(c + 1) else c) % n
theorem pickA_range (c : Int) : 0 ≤ pickA c 8 ∧ pickA c 8 < 8 := by unfold pickA; omega
end Go.Proofs.Ytfjnbjpenibpkaa.P4
