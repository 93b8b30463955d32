/- The plain functions of layer 1: which bytes a name, a text and a void tag have. No condition. -/
import Derived.WalkKit
set_option linter.unusedVariables false
set_option linter.unusedSimpArgs false
set_option linter.unusedVariables false
set_option linter.unusedSimpArgs false
namespace Go.Proofs.Ythdgaoifbejpjaa.P1

def letB (c : UInt8) : Bool := decide (97 ≤ (c.toNat : Int)) && decide ((c.toNat : Int) ≤ 122)
def digB (c : UInt8) : Bool := decide (48 ≤ (c.toNat : Int)) && decide ((c.toNat : Int) ≤ 57)
def inB (c : UInt8) : Bool := letB c || digB c || decide ((c.toNat : Int) = 45)
def nameB : List UInt8 → Bool
  | [] => false
  | c :: r => decide (r.length < 12) && letB c && r.all inB
def okB (c : UInt8) : Bool := decide (32 ≤ (c.toNat : Int)) && decide ((c.toNat : Int) ≤ 126)
def textB (l : List UInt8) : Bool := decide (l.length ≤ 60) && l.all okB

theorem ret_bool {a b : Bool} (h : a = b) : Ending.returned (.bool a) = .returned (.bool b) := by rw [h]

theorem letB_mk {c : UInt8} {p : Prop} [Decidable p] (h : p ↔ (97 ≤ (c.toNat : Int) ∧ (c.toNat : Int) ≤ 122)) : decide p = letB c := by
  unfold letB; simp [h]
theorem letB_no {c : UInt8} (h : (c.toNat : Int) < 97 ∨ 122 < (c.toNat : Int)) : letB c = false := by
  unfold letB; simp; omega
theorem letB_yes {c : UInt8} (h : letB c = true) : 97 ≤ (c.toNat : Int) ∧ (c.toNat : Int) ≤ 122 := by
  unfold letB at h; simpa using h
theorem digB_no {c : UInt8} (h : (c.toNat : Int) < 48 ∨ 57 < (c.toNat : Int)) : digB c = false := by
  unfold digB; simp; omega

theorem inB_let {c : UInt8} (h : letB c = true) : inB c = true := by simp [inB, h]
theorem inB_dig {c : UInt8} (h : digB c = true) : inB c = true := by simp [inB, h]
theorem inB_dash {c : UInt8} (h : ((c.toNat : Int) != 45) = false) : inB c = true := by
  have : (c.toNat : Int) = 45 := by simpa using h
  simp [inB, this]
theorem inB_no {c : UInt8} (h1 : ¬ letB c = true) (h2 : ¬ digB c = true) (h3 : ((c.toNat : Int) != 45) = true) : inB c = false := by
  have h : ¬ (c.toNat : Int) = 45 := by simpa using h3
  simp [inB, h1, h2, h]

theorem inB_no' {c : UInt8} (h1 : ¬ letB c = true) (h2 : (c.toNat : Int) < 48 ∨ 57 < (c.toNat : Int)) (h3 : ((c.toNat : Int) != 45) = true) : inB c = false :=
  inB_no h1 (by rw [digB_no h2]; simp) h3
theorem inB_dig' {c : UInt8} (h1 : 48 ≤ (c.toNat : Int)) (h2 : (c.toNat : Int) ≤ 57) : inB c = true :=
  inB_dig (by simp [digB, h1, h2])

theorem toList_nil {s : ByteArray} (h : s.size = 0) : s.toList = [] := by
  rw [ByteArray.toList_eq]
  apply List.eq_nil_of_length_eq_zero
  simpa using h
theorem toList_cons {s : ByteArray} (h : 0 < s.size) : s.toList.isEmpty = false := by
  rw [ByteArray.toList_eq]
  cases e : s.data.toList with
  | nil => have : s.data.toList.length = s.size := by simp
           rw [e] at this; simp at this; omega
  | cons c r => rfl

/-- the bytes at the places 1 to k - 1 may stand inside a name -/
def InTo (s : ByteArray) (k : Nat) : Prop := ∀ j (h : j < s.size), 1 ≤ j → j < k → inB s[j] = true
theorem InTo.one (s : ByteArray) : InTo s 1 := fun _ _ h1 h2 => absurd h2 (by omega)
theorem InTo.next {s : ByteArray} {k : Nat} (h : InTo s k) (hk : k < s.size) (hi : inB s[k] = true) : InTo s (k + 1) := by
  intro j hj h1 h2
  by_cases e : j = k
  · subst e; exact hi
  · exact h j hj h1 (by omega)

theorem at_list (s : ByteArray) (k : Nat) (h : k < s.size) : s.data.toList[k]'(by simpa using h) = s[k] := rfl

theorem nameB_empty {s : ByteArray} (h : s.size = 0) : nameB s.data.toList = false := by
  have : s.data.toList = [] := by
    apply List.eq_nil_of_length_eq_zero
    simpa using h
  rw [this]; rfl
theorem list_cons (s : ByteArray) (h : 0 < s.size) : ∃ r, s.data.toList = s[0] :: r ∧ r.length + 1 = s.size ∧ ∀ j (hj : j < r.length) (hs : j + 1 < s.size), r[j] = s[j + 1] := by
  cases e : s.data.toList with
  | nil => have : s.data.toList.length = s.size := by simp
           rw [e] at this; simp at this; omega
  | cons c r =>
    have hl : s.data.toList.length = s.size := by simp
    have h0 := at_list s 0 h
    refine ⟨r, ?_, ?_, ?_⟩
    · rw [← h0]; simp [e]
    · rw [e] at hl; simpa using hl
    · intro j hj hs
      have := at_list s (j + 1) hs
      rw [← this]; simp [e]
theorem nameB_long {s : ByteArray} (h : 12 < s.size) : nameB s.data.toList = false := by
  obtain ⟨r, e, hl, _⟩ := list_cons s (by omega)
  rw [e]; simp [nameB]; omega
theorem nameB_head {s : ByteArray} (h : 0 < s.size) (h0 : letB s[0] = false) : nameB s.data.toList = false := by
  obtain ⟨r, e, hl, _⟩ := list_cons s (by omega)
  rw [e]; simp [nameB, h0]
theorem nameB_bad {s : ByteArray} {k : Nat} (h1 : 1 ≤ k) (h : k < s.size) (h0 : inB s[k] = false) : nameB s.data.toList = false := by
  obtain ⟨r, e, hl, hr⟩ := list_cons s (by omega)
  rw [e]
  have : r.all inB = false := by
    rw [List.all_eq_false]
    obtain ⟨m, rfl⟩ : ∃ m, k = m + 1 := ⟨k - 1, by omega⟩
    exact ⟨r[m], List.getElem_mem _, by rw [hr m (by omega) h, h0]; simp⟩
  simp only [nameB, this, Bool.and_false]
theorem nameB_ok {s : ByteArray} (h : 0 < s.size) (h12 : s.size ≤ 12) (h0 : letB s[0] = true) (ha : InTo s s.size) : nameB s.data.toList = true := by
  obtain ⟨r, e, hl, hr⟩ := list_cons s (by omega)
  rw [e]
  have : r.all inB = true := by
    rw [List.all_eq_true]
    intro x hx
    obtain ⟨j, hj, rfl⟩ := List.getElem_of_mem hx
    rw [hr j hj (by omega)]
    exact ha (j + 1) (by omega) (by omega) (by omega)
  simp [nameB, this, h0]; omega

def OkTo (s : ByteArray) (k : Nat) : Prop := ∀ j (h : j < s.size), j < k → okB s[j] = true
theorem OkTo.zero (s : ByteArray) : OkTo s 0 := fun _ _ h2 => absurd h2 (by omega)
theorem OkTo.next {s : ByteArray} {k : Nat} (h : OkTo s k) (hk : k < s.size) (h1 : 32 ≤ (s[k].toNat : Int)) (h2 : (s[k].toNat : Int) ≤ 126) : OkTo s (k + 1) := by
  intro j hj h2
  by_cases e : j = k
  · subst e; unfold okB; simp; omega
  · exact h j hj (by omega)
theorem textB_ok {s : ByteArray} (h : s.size ≤ 60) (ha : OkTo s s.size) : textB s.data.toList = true := by
  have : s.data.toList.all okB = true := by
    rw [List.all_eq_true]
    intro x hx
    obtain ⟨j, hj, rfl⟩ := List.getElem_of_mem hx
    have hj' : j < s.size := by simpa using hj
    exact ha j hj' hj'
  simp only [textB, this, Bool.and_true]; simp; exact h
theorem textB_all {s : ByteArray} (ha : OkTo s s.size) : textB s.data.toList = decide (s.size ≤ 60) := by
  have : s.data.toList.all okB = true := by
    rw [List.all_eq_true]
    intro x hx
    obtain ⟨j, hj, rfl⟩ := List.getElem_of_mem hx
    have hj' : j < s.size := by simpa using hj
    exact ha j hj' hj'
  simp only [textB, this, Bool.and_true]; simp
theorem textB_bad {s : ByteArray} {k : Nat} (h : k < s.size) (h0 : (s[k].toNat : Int) < 32 ∨ 126 < (s[k].toNat : Int)) : textB s.data.toList = false := by
  have : s.data.toList.all okB = false := by
    rw [List.all_eq_false]
    refine ⟨s[k], List.getElem_mem (by simpa using h), ?_⟩
    unfold okB; simp; omega
  simp only [textB, this, Bool.and_false]
theorem textB_long {s : ByteArray} (h : 60 < s.size) : textB s.data.toList = false := by
  simp [textB]; omega


/-- 'br', 'hr', 'img', 'input' -/
def voidB (l : List UInt8) : Bool := l == [98, 114] || l == [104, 114] || l == [105, 109, 103] || l == [105, 110, 112, 117, 116]
theorem voidB_at {s : ByteArray} {b : Bool} (h : (s.toList == [98, 114] || s.toList == [104, 114] || s.toList == [105, 109, 103] || s.toList == [105, 110, 112, 117, 116]) = b) : b = voidB s.data.toList := by
  rw [← h, ByteArray.toList_eq]; rfl

theorem nameB_len {s : ByteArray} (h : nameB s.data.toList = true) : 1 ≤ s.size ∧ s.size ≤ 12 := by
  by_cases h0 : s.size = 0
  · rw [nameB_empty h0] at h; cases h
  · by_cases h1 : 12 < s.size
    · rw [nameB_long h1] at h; cases h
    · omega
theorem okB_in {c : UInt8} (h : inB c = true) : okB c = true := by
  unfold inB letB digB at h
  unfold okB
  simp at h ⊢
  omega
theorem okB_let {c : UInt8} (h : letB c = true) : okB c = true := okB_in (inB_let h)
theorem nameB_cons {c : UInt8} {r : List UInt8} (h : nameB (c :: r) = true) : r.length < 12 ∧ letB c = true ∧ r.all inB = true := by
  simp only [nameB, Bool.and_eq_true, decide_eq_true_eq] at h
  exact ⟨h.1.1, h.1.2, h.2⟩
theorem nameB_text {l : List UInt8} (h : nameB l = true) : textB l = true := by
  cases l with
  | nil => rfl
  | cons c r =>
    obtain ⟨h1, h2, h3⟩ := nameB_cons h
    have : r.all okB = true := by
      rw [List.all_eq_true] at h3 ⊢
      exact fun x hx => okB_in (h3 x hx)
    simp only [textB, List.all_cons, okB_let h2, this, Bool.and_true, List.length_cons, decide_eq_true_eq]
    omega
theorem nameB_snoc {l : List UInt8} (h : nameB l = true) {c : UInt8} (hc : inB c = true) : nameB (l ++ [c]) = decide (l.length < 12) := by
  cases l with
  | nil => cases h
  | cons a r =>
    obtain ⟨h1, h2, h3⟩ := nameB_cons h
    simp only [List.cons_append, nameB, h2, List.all_append, h3, List.all_cons, hc, List.all_nil, Bool.and_true, List.length_append, List.length_cons, List.length_nil]
theorem nameB_snoc_no {l : List UInt8} (h : nameB l = true) {c : UInt8} (hc : inB c = false) : nameB (l ++ [c]) = false := by
  cases l with
  | nil => cases h
  | cons a r => simp [nameB, hc]
theorem nameB_take {l : List UInt8} (h : nameB l = true) {k : Nat} (hk : 0 < k) : nameB (l.take k) = true := by
  cases l with
  | nil => cases h
  | cons a r =>
    obtain ⟨h1, h2, h3⟩ := nameB_cons h
    obtain ⟨m, rfl⟩ : ∃ m, k = m + 1 := ⟨k - 1, by omega⟩
    have : (r.take m).all inB = true := by
      rw [List.all_eq_true] at h3 ⊢
      exact fun x hx => h3 x (List.mem_of_mem_take hx)
    simp only [List.take_succ_cons, nameB, h2, this, Bool.and_true, decide_eq_true_eq]
    have := List.length_take (i := m) (l := r)
    omega
theorem data_append (a b : ByteArray) : (a ++ b).data.toList = a.data.toList ++ b.data.toList := by
  simp
end Go.Proofs.Ythdgaoifbejpjaa.P1

/- The plain functions of layer 3: lists of attributes: found, joined, a new one's, the same, whether they may be. No condition. -/
set_option linter.unusedVariables false
set_option linter.unusedSimpArgs false
namespace Go.Proofs.Ythdgaoifbejpjaa.P3

structure At where
  nm : ByteArray
  vl : ByteArray
  st : Bool
def At.none : At := ⟨⟨#[]⟩, ⟨#[]⟩, false⟩

/-! ### Found -/
def sameN (s : ByteArray) (a : At) : Bool := a.nm.toList == s.toList
def findA (l : List At) (s : ByteArray) : Option At := l.find? (sameN s)
def hasA (l : List At) (s : ByteArray) : Bool := (findA l s).isSome
theorem findA_none {l : List At} {s : ByteArray} {n : Nat} (hn : l.length = n) (h : findA (l.take n) s = none) : findA l s = none := by subst hn; simpa using h
theorem findA_next {l : List At} {s : ByteArray} {k : Nat} (h : findA (l.take k) s = none) (hk : k < l.length) (he : (l[k].nm.toList == s.toList) = false) : findA (l.take (k + 1)) s = none := by
  rw [List.take_succ_eq_append_getElem hk, findA, List.find?_append]
  unfold findA at h
  rw [h]
  simp [sameN, he]
theorem findA_some {l : List At} {s : ByteArray} {k : Nat} (h : findA (l.take k) s = none) (hk : k < l.length) (he : (l[k].nm.toList == s.toList) = true) : findA l s = some l[k] := by
  have e : List.find? (sameN s) (l.take k ++ (l[k] :: l.drop (k + 1))) = some l[k] := by
    unfold findA at h
    rw [List.find?_append, h, List.find?_cons]
    simp [sameN, he]
  rw [← List.drop_eq_getElem_cons hk, List.take_append_drop] at e
  exact e
/-- from behind: what stands from place k on -/
theorem findA_drop_yes {l : List At} {s : ByteArray} {k : Nat} (hk : k < l.length) (he : (l[k].nm.toList == s.toList) = true) : findA (l.drop k) s = some l[k] := by
  rw [List.drop_eq_getElem_cons hk, findA, List.find?_cons]
  simp [sameN, he]
theorem findA_drop_no {l : List At} {s : ByteArray} {k : Nat} (hk : k < l.length) (he : (l[k].nm.toList == s.toList) = false) : findA (l.drop k) s = findA (l.drop (k + 1)) s := by
  rw [List.drop_eq_getElem_cons hk, findA, List.find?_cons]
  simp [sameN, he, findA]
theorem hasA_iff {l : List At} {s : ByteArray} : hasA l s = true ↔ ∃ a ∈ l, a.nm.toList = s.toList := by
  unfold hasA findA
  rw [List.find?_isSome]
  simp [sameN]
theorem hasA_iff_no {l : List At} {s : ByteArray} : hasA l s = false ↔ ∀ a ∈ l, a.nm.toList ≠ s.toList := by
  rw [← Bool.not_eq_true, hasA_iff]
  simp

/-! ### The same -/
def atB (a b : At) : Bool := a.nm.toList == b.nm.toList && a.vl.toList == b.vl.toList && a.st == b.st
def sameA : List At → List At → Bool
  | [], [] => true
  | a :: l, b :: m => atB a b && sameA l m
  | _, _ => false
theorem atB_refl (a : At) : atB a a = true := by simp [atB]
theorem sameA_refl (l : List At) : sameA l l = true := by
  induction l with
  | nil => rfl
  | cons a l ih => simp [sameA, atB_refl, ih]
theorem sameA_len {l m : List At} (h : l.length ≠ m.length) : sameA l m = false := by
  induction l generalizing m with
  | nil => cases m <;> simp_all [sameA]
  | cons a l ih =>
    cases m with
    | nil => rfl
    | cons b m => simp only [sameA, ih (by simpa using h), Bool.and_false]
theorem sameA_bad {l m : List At} {k : Nat} (hk : k < l.length) (hm : k < m.length) (h : atB l[k] m[k] = false) : sameA l m = false := by
  induction l generalizing m k with
  | nil => simp at hk
  | cons a l ih =>
    cases m with
    | nil => rfl
    | cons b m =>
      cases k with
      | zero => simp at h; simp [sameA, h]
      | succ k => simp at h hk hm; simp [sameA, ih hk hm h]
def SameTo (l m : List At) (k : Nat) : Prop := ∀ j (h : j < l.length) (h' : j < m.length), j < k → atB l[j] m[j] = true
theorem SameTo.zero (l m : List At) : SameTo l m 0 := fun _ _ _ h => absurd h (by omega)
theorem SameTo.next {l m : List At} {k : Nat} (h : SameTo l m k) (hk : k < l.length) (hm : k < m.length) (hb : atB l[k] m[k] = true) : SameTo l m (k + 1) := by
  intro j hj hj' hlt
  by_cases e : j = k
  · subst e; exact hb
  · exact h j hj hj' (by omega)
theorem SameTo.all {l m : List At} {k : Nat} (h : SameTo l m k) (hl : l.length = k) (hm : m.length = k) : sameA l m = true := by
  induction l generalizing m k with
  | nil =>
    cases m with
    | nil => rfl
    | cons b m => simp at hl hm; omega
  | cons a l ih =>
    cases m with
    | nil => simp at hl hm; omega
    | cons b m =>
      have h0 := h 0 (by simp) (by simp) (by simp at hl; omega)
      simp at h0
      simp only [sameA, h0, Bool.true_and]
      refine ih (k := l.length) (fun j hj hj' _ => ?_) rfl (by simp at hl hm; omega)
      have := h (j + 1) (by simpa using hj) (by simpa using hj') (by simp at hl; omega)
      simpa using this

/-! ### Those that are static, or aren't -/
def thoseA (l : List At) (s : Bool) : List At := l.filter fun a => a.st == s
theorem thoseA_yes {l : List At} {s : Bool} {k : Nat} (hk : k < l.length) (h : (l[k].st == s) = true) : thoseA (l.take (k + 1)) s = thoseA (l.take k) s ++ [l[k]] := by
  rw [List.take_succ_eq_append_getElem hk, thoseA, List.filter_append]
  simp [h, thoseA]
theorem thoseA_no {l : List At} {s : Bool} {k : Nat} (hk : k < l.length) (h : (l[k].st == s) = false) : thoseA (l.take (k + 1)) s = thoseA (l.take k) s := by
  rw [List.take_succ_eq_append_getElem hk, thoseA, List.filter_append]
  simp [h, thoseA]
theorem thoseA_all {l : List At} {s : Bool} {n : Nat} (hn : l.length = n) : thoseA (l.take n) s = thoseA l s := by subst hn; simp
theorem thoseA_len (l : List At) (s : Bool) : (thoseA l s).length ≤ l.length := List.length_filter_le _ _
theorem thoseA_take_len (l : List At) (s : Bool) (k : Nat) : (thoseA (l.take k) s).length ≤ l.length := Nat.le_trans (thoseA_len _ _) (by rw [List.length_take]; omega)
theorem thoseA_mem {l : List At} {s : Bool} {a : At} : a ∈ thoseA l s ↔ a ∈ l ∧ a.st = s := by simp [thoseA]

/-! ### Joined; a new one's -/
def addA (laid : List At) : List At → List At
  | [] => laid
  | a :: m => if hasA laid a.nm then addA laid m else addA (laid ++ [a]) m
def newA (l : List At) : List At := thoseA l true ++ thoseA l false
def joinA (old want : List At) : List At := (addA (thoseA old true) (thoseA want false)).take 8
theorem addA_snoc_yes {laid m : List At} {a : At} (h : hasA (addA laid m) a.nm = true) : addA laid (m ++ [a]) = addA laid m := by
  induction m generalizing laid with
  | nil => simp only [List.nil_append, addA] at h ⊢; rw [if_pos h]
  | cons b m ih =>
    simp only [List.cons_append, addA] at h ⊢
    split
    · rename_i hb; rw [if_pos hb] at h; exact ih h
    · rename_i hb; rw [if_neg hb] at h; exact ih h
theorem addA_snoc_no {laid m : List At} {a : At} (h : hasA (addA laid m) a.nm = false) : addA laid (m ++ [a]) = addA laid m ++ [a] := by
  induction m generalizing laid with
  | nil => simp only [List.nil_append, addA] at h ⊢; rw [if_neg (by simp [h])]
  | cons b m ih =>
    simp only [List.cons_append, addA] at h ⊢
    split
    · rename_i hb; rw [if_pos hb] at h; exact ih h
    · rename_i hb; rw [if_neg hb] at h; exact ih h
theorem addA_pre (laid m : List At) : ∃ r, addA laid m = laid ++ r ∧ r.length ≤ m.length := by
  induction m generalizing laid with
  | nil => exact ⟨[], by simp [addA], by simp⟩
  | cons b m ih =>
    simp only [addA]
    split
    · obtain ⟨r, h1, h2⟩ := ih laid; exact ⟨r, h1, by simp; omega⟩
    · obtain ⟨r, h1, h2⟩ := ih (laid ++ [b]); exact ⟨b :: r, by rw [h1]; simp, by simp; omega⟩
theorem addA_append (laid m r : List At) : addA laid (m ++ r) = addA (addA laid m) r := by
  induction m generalizing laid with
  | nil => rfl
  | cons b m ih => simp only [List.cons_append, addA]; split <;> exact ih _
theorem addA_take_snoc_yes {laid m : List At} {k : Nat} (hk : k < m.length) (h : hasA (addA laid (m.take k)) m[k].nm = true) : addA laid (m.take (k + 1)) = addA laid (m.take k) := by
  rw [List.take_succ_eq_append_getElem hk]; exact addA_snoc_yes h
theorem addA_take_snoc_no {laid m : List At} {k : Nat} (hk : k < m.length) (h : hasA (addA laid (m.take k)) m[k].nm = false) : addA laid (m.take (k + 1)) = addA laid (m.take k) ++ [m[k]] := by
  rw [List.take_succ_eq_append_getElem hk]; exact addA_snoc_no h
theorem hasA_take_succ {l : List At} {s : ByteArray} {j : Nat} (hj : j < l.length) : hasA (l.take (j + 1)) s = (hasA (l.take j) s || (l[j].nm.toList == s.toList)) := by
  unfold hasA findA
  rw [List.take_succ_eq_append_getElem hj, List.find?_append]
  cases (l.take j).find? (sameN s) <;> simp [sameN]
  split <;> simp_all
/-- the reference's way: over all that are wanted, the static ones too -/
theorem radd_yes {S m : List At} {k : Nat} (hk : k < m.length) (h : true = (m[k].st || hasA (addA S (thoseA (m.take k) false)) m[k].nm)) : addA S (thoseA (m.take (k + 1)) false) = addA S (thoseA (m.take k) false) := by
  cases hs : m[k].st
  · rw [thoseA_yes hk (by rw [hs]; rfl)]
    rw [hs] at h
    exact addA_snoc_yes (by simpa using h.symm)
  · rw [thoseA_no hk (by rw [hs]; rfl)]
theorem radd_no {S m : List At} {k : Nat} (hk : k < m.length) (h : false = (m[k].st || hasA (addA S (thoseA (m.take k) false)) m[k].nm)) : addA S (thoseA (m.take (k + 1)) false) = addA S (thoseA (m.take k) false) ++ [m[k]] := by
  have h' := h.symm
  rw [Bool.or_eq_false_iff] at h'
  rw [thoseA_yes hk (by rw [h'.1]; rfl)]
  exact addA_snoc_no h'.2
/-- once there are eight, no more come into the first eight -/
theorem addA_full {laid m : List At} {k : Nat} (h : 8 ≤ (addA laid (m.take k)).length) : (addA laid m).take 8 = (addA laid (m.take k)).take 8 := by
  have e : addA laid m = addA (addA laid (m.take k)) (m.drop k) := by rw [← addA_append, List.take_append_drop]
  obtain ⟨r, h1, _⟩ := addA_pre (addA laid (m.take k)) (m.drop k)
  rw [e, h1, List.take_append_of_le_length h]
theorem addA_len (laid m : List At) : (addA laid m).length ≤ laid.length + m.length := by
  obtain ⟨r, h1, h2⟩ := addA_pre laid m
  rw [h1, List.length_append]; omega
theorem addA_take_len (laid m : List At) (k : Nat) : (addA laid (m.take k)).length ≤ laid.length + m.length :=
  Nat.le_trans (addA_len _ _) (by rw [List.length_take]; omega)
theorem radd_len (S m : List At) (k : Nat) : (addA S (thoseA (m.take k) false)).length ≤ S.length + m.length :=
  Nat.le_trans (addA_len _ _) (by have := thoseA_take_len m false k; omega)
theorem newA_len (l : List At) : (newA l).length = l.length := by
  unfold newA
  induction l with
  | nil => rfl
  | cons a l ih =>
    rw [List.length_append] at ih ⊢
    cases hs : a.st <;> simp [thoseA, hs] at ih ⊢ <;> omega
theorem joinA_len (l m : List At) : (joinA l m).length ≤ 8 := by unfold joinA; rw [List.length_take]; omega

/-! ### Whether a list may be -/
def goodA (l : List At) (j : Nat) : Bool :=
  match l[j]? with
  | some a => P1.nameB a.nm.data.toList && P1.textB a.vl.data.toList && !hasA (l.take j) a.nm
  | none => true
def okA (l : List At) : Bool := (List.range l.length).all (goodA l)
def mayA (l : List At) : Bool := decide (l.length ≤ 8) && okA l
theorem goodA_at {l : List At} {k : Nat} (hk : k < l.length) : goodA l k = (P1.nameB l[k].nm.data.toList && P1.textB l[k].vl.data.toList && !hasA (l.take k) l[k].nm) := by
  unfold goodA; rw [List.getElem?_eq_getElem hk]
def GoodTo (l : List At) (k : Nat) : Prop := ∀ j, j < k → goodA l j = true
theorem GoodTo.zero (l : List At) : GoodTo l 0 := fun _ h => absurd h (by omega)
theorem GoodTo.next {l : List At} {k : Nat} (h : GoodTo l k) (hb : goodA l k = true) : GoodTo l (k + 1) := by
  intro j hj
  by_cases e : j = k
  · subst e; exact hb
  · exact h j (by omega)
theorem okA_bad {l : List At} {k : Nat} (hk : k < l.length) (h : goodA l k = false) : okA l = false := by
  unfold okA
  rw [List.all_eq_false]
  exact ⟨k, List.mem_range.2 hk, by simp [h]⟩
theorem GoodTo.all {l : List At} {k : Nat} (h : GoodTo l k) (hl : l.length = k) : okA l = true := by
  unfold okA
  rw [List.all_eq_true]
  intro j hj
  exact h j (by rw [← hl]; exact List.mem_range.1 hj)
theorem mayA_bad {l : List At} {k : Nat} (hk : k < l.length) (h : goodA l k = false) : mayA l = false := by
  unfold mayA; rw [okA_bad hk h]; simp
theorem mayA_long {l : List At} (h : 8 < l.length) : mayA l = false := by
  unfold mayA; simp; omega
theorem mayA_ok {l : List At} {k : Nat} (h : GoodTo l k) (hl : l.length = k) : mayA l = decide (k ≤ 8) := by
  unfold mayA; rw [h.all hl, hl]; simp
/-- in words: few, each of a name and a text, no two of one name -/
theorem mayA_iff {l : List At} : mayA l = true ↔ l.length ≤ 8 ∧ (∀ a ∈ l, P1.nameB a.nm.data.toList = true ∧ P1.textB a.vl.data.toList = true) ∧ l.Pairwise fun a b => a.nm.toList ≠ b.nm.toList := by
  unfold mayA okA
  simp only [Bool.and_eq_true, decide_eq_true_eq, List.all_eq_true, List.mem_range]
  refine and_congr Iff.rfl ⟨fun h => ⟨fun a ha => ?_, ?_⟩, fun ⟨h1, h2⟩ j hj => ?_⟩
  · obtain ⟨j, hj, rfl⟩ := List.getElem_of_mem ha
    have := h j hj
    rw [goodA_at hj] at this
    simp only [Bool.and_eq_true] at this
    exact ⟨this.1.1, this.1.2⟩
  · rw [List.pairwise_iff_getElem]
    intro i j hi hj hij
    have := h j hj
    rw [goodA_at hj] at this
    simp only [Bool.and_eq_true, Bool.not_eq_true'] at this
    exact hasA_iff_no.1 this.2 l[i] (by rw [List.mem_take_iff_getElem]; exact ⟨i, by omega, rfl⟩)
  · rw [goodA_at hj]
    simp only [Bool.and_eq_true, Bool.not_eq_true']
    refine ⟨h1 _ (List.getElem_mem hj), hasA_iff_no.2 fun a ha => ?_⟩
    obtain ⟨i, hi, rfl⟩ := List.mem_take_iff_getElem.1 ha
    exact (List.pairwise_iff_getElem.1 h2) i j (by omega) hj (by omega)

/-! ### Few, and short -/
def shortA (a : At) : Bool := decide (a.nm.size ≤ 100) && decide (a.vl.size ≤ 100)
def fewA (l : List At) : Bool := decide (l.length ≤ 20) && l.all shortA
end Go.Proofs.Ythdgaoifbejpjaa.P3
