/- The plain functions of layer 2: a text escaped, and taken back. No condition. -/
import Derived.WalkKit
import Derived.Lib.Strings
import Derived.Lib.UnsafeStr
namespace Go.Proofs.Ytbkckclieihnnaa.P2

def isSign (c : UInt8) : Bool := c == 38 || c == 60 || c == 62 || c == 34
def insL (c : UInt8) : List UInt8 :=
  if c = 38 then [38, 97, 109, 112, 59] else if c = 60 then [38, 108, 116, 59] else if c = 62 then [38, 103, 116, 59] else if c = 34 then [38, 113, 117, 111, 116, 59] else []
def signL (c : UInt8) : List UInt8 := if isSign c then insL c else [c]
def insB (c : UInt8) : ByteArray := ⟨(insL c).toArray⟩
def signB (c : UInt8) : ByteArray := ⟨(signL c).toArray⟩
def putL (l : List UInt8) : List UInt8 := l.flatMap signL
def putB (s : ByteArray) : ByteArray := ⟨(putL s.data.toList).toArray⟩

/-- the byte whose escaped form is in front, and that form's length -/
def headL (l : List UInt8) : Option (UInt8 × Nat) :=
  match l with
  | [] => none
  | c :: _ =>
    if isSign c = false then some (c, 1)
    else if Lib.hasPrefix l (signL 38) then some (38, 5)
    else if Lib.hasPrefix l (signL 60) then some (60, 4)
    else if Lib.hasPrefix l (signL 62) then some (62, 4)
    else if Lib.hasPrefix l (signL 34) then some (34, 6)
    else none
def getF : Nat → List UInt8 → Option (List UInt8)
  | 0, l => if l = [] then some [] else none
  | n + 1, l =>
    if l = [] then some [] else
    match headL l with
    | none => none
    | some (c, k) => (getF n (l.drop k)).map (c :: ·)
def getL (l : List UInt8) : Option (List UInt8) := getF l.length l

theorem isSign_cases {c : UInt8} (h : isSign c = true) : c = 38 ∨ c = 60 ∨ c = 62 ∨ c = 34 := by
  simpa [isSign, or_assoc] using h
theorem signL_no {c : UInt8} (h : isSign c = false) : signL c = [c] := by simp [signL, h]
theorem signL_len (c : UInt8) : 1 ≤ (signL c).length ∧ (signL c).length ≤ 6 := by
  cases h : isSign c
  · simp [signL_no h]
  · rcases isSign_cases h with rfl | rfl | rfl | rfl <;> decide
theorem putL_len (l : List UInt8) : (putL l).length ≤ 6 * l.length := by
  induction l with
  | nil => simp [putL]
  | cons c r ih =>
    have := (signL_len c).2
    simp only [putL, List.flatMap_cons, List.length_append, List.length_cons] at ih ⊢
    omega
theorem putL_append (a b : List UInt8) : putL (a ++ b) = putL a ++ putL b := by simp [putL]

theorem hasPrefix_append (p r : List UInt8) : Lib.hasPrefix (p ++ r) p = true := by
  unfold Lib.hasPrefix; rw [List.isPrefixOf_iff_prefix]; exact List.prefix_append _ _
theorem hasPrefix_iff {l p : List UInt8} : Lib.hasPrefix l p = true ↔ ∃ r, l = p ++ r := by
  unfold Lib.hasPrefix
  rw [List.isPrefixOf_iff_prefix]
  constructor
  · rintro ⟨r, h⟩; exact ⟨r, h.symm⟩
  · rintro ⟨r, h⟩; exact ⟨r, h.symm⟩

/-- whose form is in front -/
theorem headL_of_prefix {l : List UInt8} {c : UInt8} (h : Lib.hasPrefix l (signL c) = true) : headL l = some (c, (signL c).length) := by
  obtain ⟨r, rfl⟩ := hasPrefix_iff.1 h
  cases hs : isSign c
  · simp [signL_no hs, headL, hs]
  · rcases isSign_cases hs with rfl | rfl | rfl | rfl <;> simp [signL, insL, headL, isSign, Lib.hasPrefix]
theorem prefix_of_headL {l : List UInt8} {c : UInt8} {k : Nat} (h : headL l = some (c, k)) : Lib.hasPrefix l (signL c) = true ∧ k = (signL c).length := by
  cases l with
  | nil => simp [headL] at h
  | cons a r =>
    cases hs : isSign a
    · simp only [headL, hs, if_true, Option.some.injEq, Prod.mk.injEq] at h
      obtain ⟨rfl, rfl⟩ := h
      exact ⟨by rw [signL_no hs]; exact hasPrefix_append [a] r, by rw [signL_no hs]; rfl⟩
    · simp only [headL, hs, Bool.true_eq_false, if_false] at h
      split at h
      · cases h; exact ⟨by assumption, rfl⟩
      · split at h
        · cases h; exact ⟨by assumption, rfl⟩
        · split at h
          · cases h; exact ⟨by assumption, rfl⟩
          · split at h
            · cases h; exact ⟨by assumption, rfl⟩
            · cases h
theorem headL_none {l : List UInt8} (h : ∀ c : UInt8, Lib.hasPrefix l (signL c) = false) : headL l = none := by
  cases e : headL l with
  | none => rfl
  | some p =>
    obtain ⟨c, k⟩ := p
    have := (prefix_of_headL e).1
    rw [h c] at this; cases this

theorem getF_put (a : List UInt8) : ∀ n, (putL a).length ≤ n → getF n (putL a) = some a := by
  induction a with
  | nil => intro n _; cases n <;> simp [putL, getF]
  | cons c r ih =>
    intro n hn
    have hl := (signL_len c).1
    have e : putL (c :: r) = signL c ++ putL r := rfl
    rw [e] at hn ⊢
    have hne : signL c ++ putL r ≠ [] := by
      intro h
      have := congrArg List.length h
      simp only [List.length_append, List.length_nil] at this
      omega
    rw [List.length_append] at hn
    obtain ⟨m, rfl⟩ : ∃ m, n = m + 1 := ⟨n - 1, by omega⟩
    rw [getF, if_neg hne, headL_of_prefix (hasPrefix_append _ _)]
    show (getF m ((signL c ++ putL r).drop (signL c).length)).map (c :: ·) = _
    rw [List.drop_left, ih m (by omega)]; rfl
theorem getL_put (a : List UInt8) : getL (putL a) = some a := getF_put a _ (Nat.le_refl _)

/-- no sign but 38 stands in an escaped text -/
theorem putL_clean {l : List UInt8} {x : UInt8} (h : x ∈ putL l) : x ≠ 60 ∧ x ≠ 62 ∧ x ≠ 34 := by
  simp only [putL, List.mem_flatMap] at h
  obtain ⟨c, _, hx⟩ := h
  cases hs : isSign c
  · rw [signL_no hs] at hx
    simp only [List.mem_singleton] at hx
    subst hx
    simp [isSign] at hs
    exact ⟨hs.1.1.2, hs.1.2, hs.2⟩
  · rcases isSign_cases hs with rfl | rfl | rfl | rfl <;> (simp [signL, isSign, insL] at hx; rcases hx with rfl | rfl | rfl | rfl | rfl | rfl <;> decide)

theorem take_snoc (s : ByteArray) (k : Nat) (h : k < s.size) : s.data.toList.take (k + 1) = s.data.toList.take k ++ [s[k]] := by
  rw [List.take_succ_eq_append_getElem (by simpa using h)]; rfl
theorem putL_snoc (s : ByteArray) (k : Nat) (h : k < s.size) : putL (s.data.toList.take (k + 1)) = putL (s.data.toList.take k) ++ signL s[k] := by
  rw [take_snoc s k h, putL_append]; simp [putL]
end Go.Proofs.Ytbkckclieihnnaa.P2
