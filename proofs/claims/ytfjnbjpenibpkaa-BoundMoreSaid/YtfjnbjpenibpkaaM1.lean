/- The plain functions of layer 1: which bytes a name, a text and a void tag have. No condition. -/
import Derived.WalkKit
set_option linter.unusedVariables false
set_option linter.unusedSimpArgs false
set_option linter.unusedVariables false
set_option linter.unusedSimpArgs false
namespace Go.Proofs.Ytfjnbjpenibpkaa.P1

def letB (c : UInt8) : Bool := decide (97 ≤ (c.toNat : Int)) && decide ((c.toNat : Int) ≤ 122)
def digB (c : UInt8) : Bool := decide (48 ≤ (c.toNat : Int)) && decide ((c.toNat : Int) ≤ 57)
def inB (c : UInt8) : Bool := letB c || digB c || decide ((c.toNat : Int) = 45)
def nameB : List UInt8 → Bool
  | [] => false
  | c :: r => decide (r.length < 12) && letB c && r.all inB
def okB (c : UInt8) : Bool := decide (32 ≤ (c.toNat : Int)) && decide ((c.toNat : Int) ≤ 126)
def textB (l : List UInt8) : Bool := decide (l.length ≤ 60) && l.all okB

theorem ret_bool {a b : Bool} (h : a = b) : Ending.returned (.bool a) = .returned (.bool b) := by rw [h]

theorem letB_mk {c : UInt8} {p : Prop} [Decidable p] (h : p ↔ (97 ≤ (c.toNat : Int) ∧ (c.toNat : Int) ≤ 122)) : decide p = letB c := by
  unfold letB; simp [h]
theorem letB_no {c : UInt8} (h : (c.toNat : Int) < 97 ∨ 122 < (c.toNat : Int)) : letB c = false := by
  unfold letB; simp; omega
theorem letB_yes {c : UInt8} (h : letB c = true) : 97 ≤ (c.toNat : Int) ∧ (c.toNat : Int) ≤ 122 := by
  unfold letB at h; simpa using h
theorem digB_no {c : UInt8} (h : (c.toNat : Int) < 48 ∨ 57 < (c.toNat : Int)) : digB c = false := by
  unfold digB; simp; omega

theorem inB_let {c : UInt8} (h : letB c = true) : inB c = true := by simp [inB, h]
theorem inB_dig {c : UInt8} (h : digB c = true) : inB c = true := by simp [inB, h]
theorem inB_dash {c : UInt8} (h : ((c.toNat : Int) != 45) = false) : inB c = true := by
  have : (c.toNat : Int) = 45 := by simpa using h
  simp [inB, this]
theorem inB_no {c : UInt8} (h1 : ¬ letB c = true) (h2 : ¬ digB c = true) (h3 : ((c.toNat : Int) != 45) = true) : inB c = false := by
  have h : ¬ (c.toNat : Int) = 45 := by simpa using h3
  simp [inB, h1, h2, h]

theorem inB_no' {c : UInt8} (h1 : ¬ letB c = true) (h2 : (c.toNat : Int) < 48 ∨ 57 < (c.toNat : Int)) (h3 : ((c.toNat : Int) != 45) = true) : inB c = false :=
  inB_no h1 (by rw [digB_no h2]; simp) h3
theorem inB_dig' {c : UInt8} (h1 : 48 ≤ (c.toNat : Int)) (h2 : (c.toNat : Int) ≤ 57) : inB c = true :=
  inB_dig (by simp [digB, h1, h2])

theorem toList_nil {s : ByteArray} (h : s.size = 0) : s.toList = [] := by
  rw [ByteArray.toList_eq]
  apply List.eq_nil_of_length_eq_zero
  simpa using h
theorem toList_cons {s : ByteArray} (h : 0 < s.size) : s.toList.isEmpty = false := by
  rw [ByteArray.toList_eq]
  cases e : s.data.toList with
  | nil => have : s.data.toList.length = s.size := by simp
           rw [e] at this; simp at this; omega
  | cons c r => rfl

/-- the bytes at the places 1 to k - 1 may stand inside a name -/
def InTo (s : ByteArray) (k : Nat) : Prop := ∀ j (h : j < s.size), 1 ≤ j → j < k → inB s[j] = true
theorem InTo.one (s : ByteArray) : InTo s 1 := fun _ _ h1 h2 => absurd h2 (by omega)
theorem InTo.next {s : ByteArray} {k : Nat} (h : InTo s k) (hk : k < s.size) (hi : inB s[k] = true) : InTo s (k + 1) := by
  intro j hj h1 h2
  by_cases e : j = k
  · subst e; exact hi
  · exact h j hj h1 (by omega)

theorem at_list (s : ByteArray) (k : Nat) (h : k < s.size) : s.data.toList[k]'(by simpa using h) = s[k] := rfl

theorem nameB_empty {s : ByteArray} (h : s.size = 0) : nameB s.data.toList = false := by
  have : s.data.toList = [] := by
    apply List.eq_nil_of_length_eq_zero
    simpa using h
  rw [this]; rfl
theorem list_cons (s : ByteArray) (h : 0 < s.size) : ∃ r, s.data.toList = s[0] :: r ∧ r.length + 1 = s.size ∧ ∀ j (hj : j < r.length) (hs : j + 1 < s.size), r[j] = s[j + 1] := by
  cases e : s.data.toList with
  | nil => have : s.data.toList.length = s.size := by simp
           rw [e] at this; simp at this; omega
  | cons c r =>
    have hl : s.data.toList.length = s.size := by simp
    have h0 := at_list s 0 h
    refine ⟨r, ?_, ?_, ?_⟩
    · rw [← h0]; simp [e]
    · rw [e] at hl; simpa using hl
    · intro j hj hs
      have := at_list s (j + 1) hs
      rw [← this]; simp [e]
theorem nameB_long {s : ByteArray} (h : 12 < s.size) : nameB s.data.toList = false := by
  obtain ⟨r, e, hl, _⟩ := list_cons s (by omega)
  rw [e]; simp [nameB]; omega
theorem nameB_head {s : ByteArray} (h : 0 < s.size) (h0 : letB s[0] = false) : nameB s.data.toList = false := by
  obtain ⟨r, e, hl, _⟩ := list_cons s (by omega)
  rw [e]; simp [nameB, h0]
theorem nameB_bad {s : ByteArray} {k : Nat} (h1 : 1 ≤ k) (h : k < s.size) (h0 : inB s[k] = false) : nameB s.data.toList = false := by
  obtain ⟨r, e, hl, hr⟩ := list_cons s (by omega)
  rw [e]
  have : r.all inB = false := by
    rw [List.all_eq_false]
    obtain ⟨m, rfl⟩ : ∃ m, k = m + 1 := ⟨k - 1, by omega⟩
    exact ⟨r[m], List.getElem_mem _, by rw [hr m (by omega) h, h0]; simp⟩
  simp only [nameB, this, Bool.and_false]
theorem nameB_ok {s : ByteArray} (h : 0 < s.size) (h12 : s.size ≤ 12) (h0 : letB s[0] = true) (ha : InTo s s.size) : nameB s.data.toList = true := by
  obtain ⟨r, e, hl, hr⟩ := list_cons s (by omega)
  rw [e]
  have : r.all inB = true := by
    rw [List.all_eq_true]
    intro x hx
    obtain ⟨j, hj, rfl⟩ := List.getElem_of_mem hx
    rw [hr j hj (by omega)]
    exact ha (j + 1) (by omega) (by omega) (by omega)
  simp [nameB, this, h0]; omega

def OkTo (s : ByteArray) (k : Nat) : Prop := ∀ j (h : j < s.size), j < k → okB s[j] = true
theorem OkTo.zero (s : ByteArray) : OkTo s 0 := fun _ _ h2 => absurd h2 (by omega)
theorem OkTo.next {s : ByteArray} {k : Nat} (h : OkTo s k) (hk : k < s.size) (h1 : 32 ≤ (s[k].toNat : Int)) (h2 : (s[k].toNat : Int) ≤ 126) : OkTo s (k + 1) := by
  intro j hj h2
  by_cases e : j = k
  · subst e; unfold okB; simp; omega
  · exact h j hj (by omega)
theorem textB_ok {s : ByteArray} (h : s.size ≤ 60) (ha : OkTo s s.size) : textB s.data.toList = true := by
  have : s.data.toList.all okB = true := by
    rw [List.all_eq_true]
    intro x hx
    obtain ⟨j, hj, rfl⟩ := List.getElem_of_mem hx
    have hj' : j < s.size := by simpa using hj
    exact ha j hj' hj'
  simp only [textB, this, Bool.and_true]; simp; exact h
theorem textB_all {s : ByteArray} (ha : OkTo s s.size) : textB s.data.toList = decide (s.size ≤ 60) := by
  have : s.data.toList.all okB = true := by
    rw [List.all_eq_true]
    intro x hx
    obtain ⟨j, hj, rfl⟩ := List.getElem_of_mem hx
    have hj' : j < s.size := by simpa using hj
    exact ha j hj' hj'
  simp only [textB, this, Bool.and_true]; simp
theorem textB_bad {s : ByteArray} {k : Nat} (h : k < s.size) (h0 : (s[k].toNat : Int) < 32 ∨ 126 < (s[k].toNat : Int)) : textB s.data.toList = false := by
  have : s.data.toList.all okB = false := by
    rw [List.all_eq_false]
    refine ⟨s[k], List.getElem_mem (by simpa using h), ?_⟩
    unfold okB; simp; omega
  simp only [textB, this, Bool.and_false]
theorem textB_long {s : ByteArray} (h : 60 < s.size) : textB s.data.toList = false := by
  simp [textB]; omega


/-- 'br', 'hr', 'img', 'input' -/
def voidB (l : List UInt8) : Bool := l == [98, 114] || l == [104, 114] || l == [105, 109, 103] || l == [105, 110, 112, 117, 116]
theorem voidB_at {s : ByteArray} {b : Bool} (h : (s.toList == [98, 114] || s.toList == [104, 114] || s.toList == [105, 109, 103] || s.toList == [105, 110, 112, 117, 116]) = b) : b = voidB s.data.toList := by
  rw [← h, ByteArray.toList_eq]; rfl

theorem nameB_len {s : ByteArray} (h : nameB s.data.toList = true) : 1 ≤ s.size ∧ s.size ≤ 12 := by
  by_cases h0 : s.size = 0
  · rw [nameB_empty h0] at h; cases h
  · by_cases h1 : 12 < s.size
    · rw [nameB_long h1] at h; cases h
    · omega
theorem okB_in {c : UInt8} (h : inB c = true) : okB c = true := by
  unfold inB letB digB at h
  unfold okB
  simp at h ⊢
  omega
theorem okB_let {c : UInt8} (h : letB c = true) : okB c = true := okB_in (inB_let h)
theorem nameB_cons {c : UInt8} {r : List UInt8} (h : nameB (c :: r) = true) : r.length < 12 ∧ letB c = true ∧ r.all inB = true := by
  simp only [nameB, Bool.and_eq_true, decide_eq_true_eq] at h
  exact ⟨h.1.1, h.1.2, h.2⟩
theorem nameB_text {l : List UInt8} (h : nameB l = true) : textB l = true := by
  cases l with
  | nil => rfl
  | cons c r =>
    obtain ⟨h1, h2, h3⟩ := nameB_cons h
    have : r.all okB = true := by
      rw [List.all_eq_true] at h3 ⊢
      exact fun x hx => okB_in (h3 x hx)
    simp only [textB, List.all_cons, okB_let h2, this, Bool.and_true, List.length_cons, decide_eq_true_eq]
    omega
theorem nameB_snoc {l : List UInt8} (h : nameB l = true) {c : UInt8} (hc : inB c = true) : nameB (l ++ [c]) = decide (l.length < 12) := by
  cases l with
  | nil => cases h
  | cons a r =>
    obtain ⟨h1, h2, h3⟩ := nameB_cons h
    simp only [List.cons_append, nameB, h2, List.all_append, h3, List.all_cons, hc, List.all_nil, Bool.and_true, List.length_append, List.length_cons, List.length_nil]
theorem nameB_snoc_no {l : List UInt8} (h : nameB l = true) {c : UInt8} (hc : inB c = false) : nameB (l ++ [c]) = false := by
  cases l with
  | nil => cases h
  | cons a r => simp [nameB, hc]
theorem nameB_take {l : List UInt8} (h : nameB l = true) {k : Nat} (hk : 0 < k) : nameB (l.take k) = true := by
  cases l with
  | nil => cases h
  | cons a r =>
    obtain ⟨h1, h2, h3⟩ := nameB_cons h
    obtain ⟨m, rfl⟩ : ∃ m, k = m + 1 := ⟨k - 1, by omega⟩
    have : (r.take m).all inB = true := by
      rw [List.all_eq_true] at h3 ⊢
      exact fun x hx => h3 x (List.mem_of_mem_take hx)
    simp only [List.take_succ_cons, nameB, h2, this, Bool.and_true, decide_eq_true_eq]
    have := List.length_take (i := m) (l := r)
    omega
theorem data_append (a b : ByteArray) : (a ++ b).data.toList = a.data.toList ++ b.data.toList := by
  simp
end Go.Proofs.Ytfjnbjpenibpkaa.P1
