/- Programs as bytes, plain: what was put is got, what is got has those bytes. No condition. -/
import Derived.Test.YtfjnbjpenibpkaaM8
set_option linter.unusedVariables false
set_option linter.unusedSimpArgs false
set_option linter.unusedVariables false
set_option linter.unusedSimpArgs false
namespace Go.Proofs.Ytfjnbjpenibpkaa.P12
open Go.RowKit Kd P4 P11

def bs (l : List UInt8) : ByteArray := ⟨l.toArray⟩
theorem bs_data (l : List UInt8) : (bs l).data.toList = l := by simp [bs]
theorem bs_eta (b : ByteArray) : bs b.data.toList = b := by
  apply ByteArray.ext
  simp [bs]
theorem bs_size (l : List UInt8) : (bs l).size = l.length := by show l.toArray.size = _; simp
theorem bs_nil {b : ByteArray} (h : b.toList.isEmpty = true) : b = bs [] := by
  rw [ByteArray.toList_eq, List.isEmpty_iff] at h
  rw [← h, bs_eta]
/-- how many texts an op has -/
def textsN (op : Int) : Nat := if op = 1 ∨ op = 3 ∨ op = 5 ∨ op = 6 then 2 else if op = 4 then 1 else 0
def textH (s : ByteArray) : List UInt8 := UInt8.ofNat s.size :: s.data.toList
def byteOf (op : Int) : UInt8 := UInt8.ofNat op.toNat
def insH (i : In) : List UInt8 := byteOf i.op :: ((if 0 < textsN i.op then textH i.a else []) ++ (if 1 < textsN i.op then textH i.b else []))
def putI (l : List In) : List UInt8 := l.flatMap insH
/-- a text that bytes begin with, and what stands behind -/
def cut1 : List UInt8 → Option (List UInt8 × List UInt8)
  | [] => none
  | k :: r => if r.length < k.toNat then none else some (r.take k.toNat, r.drop k.toNat)
def candI (c : UInt8) (r : List UInt8) : Option (In × List UInt8) :=
  if textsN c.toNat = 0 then some (⟨c.toNat, bs [], bs []⟩, r)
  else match cut1 r with
    | none => none
    | some (t, r1) =>
      if textsN c.toNat = 1 then some (⟨c.toNat, bs t, bs []⟩, r1)
      else match cut1 r1 with
        | none => none
        | some (u, r2) => some (⟨c.toNat, bs t, bs u⟩, r2)
/-- the instruction that bytes begin with, and what stands behind -/
def oneP : List UInt8 → Option (In × List UInt8)
  | [] => none
  | c :: r => match candI c r with
    | none => none
    | some (i, r1) => if mayI i then some (i, r1) else none
def getI : Nat → List UInt8 → List In → List In × Nat
  | 0, _, acc => (acc, 0)
  | f + 1, b, acc =>
    if b = [] then (acc, 0)
    else match oneP b with
      | none => ([], 7)
      | some (i, r) => if acc.length = 120 then ([], 13) else getI f r (acc ++ [i])
def getP (b : List UInt8) : List In × Nat := getI (b.length + 1) b []
/-! ### What may be is small -/
theorem nameB_len {l : List UInt8} (h : P1.nameB l = true) : l.length ≤ 60 := by
  cases l with
  | nil => simp
  | cons c r =>
    simp only [P1.nameB, Bool.and_eq_true, decide_eq_true_eq] at h
    simp
    omega
theorem textB_len {l : List UInt8} (h : P1.textB l = true) : l.length ≤ 60 := by
  simp only [P1.textB, Bool.and_eq_true, decide_eq_true_eq] at h
  omega
theorem voidB_len {l : List UInt8} (h : P1.voidB l = true) : l.length ≤ 60 := by
  simp only [P1.voidB, Bool.or_eq_true, beq_iff_eq] at h
  rcases h with ((rfl | rfl) | rfl) | rfl <;> decide
theorem len_size (b : ByteArray) : b.data.toList.length = b.size := by simp
theorem may_small {i : In} (h : mayI i = true) : i.a.size ≤ 60 ∧ i.b.size ≤ 60 ∧ 1 ≤ i.op ∧ i.op ≤ 8 ∧ (textsN i.op = 0 → i.a = bs [] ∧ i.b = bs []) ∧ (textsN i.op = 1 → i.b = bs []) := by
  obtain ⟨op, a, b⟩ := i
  unfold mayI at h
  simp only at h ⊢
  have ea := len_size a
  have eb := len_size b
  have nil_size : ∀ {x : ByteArray}, x.toList.isEmpty = true → x.size ≤ 60 := fun {x} hx => by rw [bs_nil hx, bs_size]; simp
  by_cases h1 : op = 1
  · subst h1
    rw [if_pos rfl] at h
    simp only [Bool.and_eq_true] at h
    have := nameB_len h.1.1
    have := textB_len h.2
    refine ⟨by omega, by omega, by omega, by omega, fun e => by simp [textsN] at e, fun e => by simp [textsN] at e⟩
  rw [if_neg h1] at h
  by_cases h3 : op = 3
  · subst h3
    rw [if_pos rfl] at h
    simp only [Bool.and_eq_true] at h
    have := voidB_len h.1
    have := textB_len h.2
    refine ⟨by omega, by omega, by omega, by omega, fun e => by simp [textsN] at e, fun e => by simp [textsN] at e⟩
  rw [if_neg h3] at h
  by_cases h4 : op = 4
  · subst h4
    rw [if_pos rfl] at h
    simp only [Bool.and_eq_true] at h
    have := textB_len h.1
    have := nil_size h.2
    refine ⟨by omega, by omega, by omega, by omega, fun e => by simp [textsN] at e, fun _ => bs_nil h.2⟩
  rw [if_neg h4] at h
  by_cases h5 : op = 5 ∨ op = 6
  · rw [if_pos h5] at h
    simp only [Bool.and_eq_true] at h
    have := nameB_len h.1
    have := textB_len h.2
    refine ⟨by omega, by omega, by omega, by omega, fun e => ?_, fun e => ?_⟩
    · rcases h5 with rfl | rfl <;> simp [textsN] at e
    · rcases h5 with rfl | rfl <;> simp [textsN] at e
  rw [if_neg h5] at h
  by_cases h2 : op = 2 ∨ op = 7 ∨ op = 8
  · rw [if_pos h2] at h
    simp only [Bool.and_eq_true] at h
    have := nil_size h.1
    have := nil_size h.2
    refine ⟨by omega, by omega, by omega, by omega, fun _ => ⟨bs_nil h.1, bs_nil h.2⟩, fun e => ?_⟩
    rcases h2 with rfl | rfl | rfl <;> simp [textsN] at e
  rw [if_neg h2] at h
  cases h
theorem textsN_cases (op : Int) : textsN op = 0 ∨ textsN op = 1 ∨ textsN op = 2 := by
  unfold textsN
  split
  · exact .inr (.inr rfl)
  · split
    · exact .inr (.inl rfl)
    · exact .inl rfl
theorem byte_size {s : ByteArray} (h : s.size ≤ 255) : (UInt8.ofNat s.size).toNat = s.size := by simp; omega
theorem cut_text {s : ByteArray} {r : List UInt8} (h : s.size ≤ 255) : cut1 (textH s ++ r) = some (s.data.toList, r) := by
  rw [textH, List.cons_append, cut1, byte_size h, if_neg (by simp)]
  rw [← len_size s, List.take_left, List.drop_left]
theorem byteOf_nat {op : Int} (h1 : 1 ≤ op) (h8 : op ≤ 8) : ((byteOf op).toNat : Int) = op := by
  unfold byteOf
  simp
  omega
theorem one_put {i : In} {r : List UInt8} (h : mayI i = true) : oneP (insH i ++ r) = some (i, r) := by
  obtain ⟨h1, h2, h3, h4, h5, h6⟩ := may_small h
  have hb := byteOf_nat h3 h4
  have ha : cut1 (textH i.a ++ r) = some (i.a.data.toList, r) := cut_text (by omega)
  have key : candI (byteOf i.op) (((if 0 < textsN i.op then textH i.a else []) ++ (if 1 < textsN i.op then textH i.b else [])) ++ r) = some (i, r) := by
    unfold candI
    rw [hb]
    rcases textsN_cases i.op with e | e | e
    · rw [e, if_pos rfl, if_neg (by decide), if_neg (by decide)]
      obtain ⟨e1, e2⟩ := h5 e
      obtain ⟨op, a, b⟩ := i
      simp only at e1 e2
      rw [e1, e2]
      rfl
    · rw [e, if_neg (by decide), if_pos (by decide), if_neg (by decide), List.append_nil, ha]
      have e2 := h6 e
      obtain ⟨op, a, b⟩ := i
      simp only at e2 ⊢
      rw [e2, bs_eta]
      rfl
    · rw [e, if_neg (by decide), if_pos (by decide), if_pos (by decide), List.append_assoc, cut_text (by omega)]
      simp only
      rw [if_neg (by decide), cut_text (by omega)]
      simp only
      rw [bs_eta, bs_eta]
  rw [insH, List.cons_append, oneP, key]
  simp only
  rw [if_pos h]
theorem insH_pos (i : In) : 1 ≤ (insH i).length := by simp [insH]
theorem putI_cons (i : In) (l : List In) : putI (i :: l) = insH i ++ putI l := rfl
theorem get_put : ∀ (l : List In) (f : Nat) (acc : List In), (∀ i ∈ l, mayI i = true) → acc.length + l.length ≤ 120 → (putI l).length < f → getI f (putI l) acc = (acc ++ l, 0)
  | [], f, acc, _, _, hf => by
    obtain ⟨f, rfl⟩ : ∃ g, f = g + 1 := ⟨f - 1, by omega⟩
    rw [getI, if_pos (by simp [putI])]
    simp
  | i :: l, f, acc, hm, hl, hf => by
    obtain ⟨f, rfl⟩ : ∃ g, f = g + 1 := ⟨f - 1, by omega⟩
    have hp := insH_pos i
    rw [putI_cons, List.length_append] at hf
    rw [getI, putI_cons, if_neg (by intro e; have := congrArg List.length e; rw [List.length_append, List.length_nil] at this; omega), one_put (hm i (by simp))]
    simp only [List.length_cons] at hl ⊢
    rw [if_neg (by omega), get_put l f (acc ++ [i]) (fun k hk => hm k (by simp [hk])) (by simp; omega) (by omega)]
    simp
theorem get_many : ∀ (l : List In) (f : Nat) (acc : List In), (∀ i ∈ l, mayI i = true) → acc.length ≤ 120 → 120 < acc.length + l.length → (putI l).length < f → getI f (putI l) acc = ([], 13)
  | [], f, acc, _, h1, h2, hf => by simp at h2; omega
  | i :: l, f, acc, hm, h1, h2, hf => by
    obtain ⟨f, rfl⟩ : ∃ g, f = g + 1 := ⟨f - 1, by omega⟩
    have hp := insH_pos i
    rw [putI_cons, List.length_append] at hf
    rw [getI, putI_cons, if_neg (by intro e; have := congrArg List.length e; rw [List.length_append, List.length_nil] at this; omega), one_put (hm i (by simp))]
    simp only [List.length_cons] at h2 ⊢
    by_cases he : acc.length = 120
    · rw [if_pos he]
    · rw [if_neg he, get_many l f (acc ++ [i]) (fun k hk => hm k (by simp [hk])) (by simp; omega) (by simp; omega) (by omega)]
theorem cut_back {b t r : List UInt8} (h : cut1 b = some (t, r)) : b = textH (bs t) ++ r ∧ t.length ≤ 255 := by
  cases b with
  | nil => cases h
  | cons k s =>
    rw [cut1] at h
    split at h
    · cases h
    · injection h with h
      injection h with e1 e2
      have hk := k.toNat_lt
      have hl : t.length = k.toNat := by rw [← e1, List.length_take]; omega
      refine ⟨?_, by omega⟩
      rw [textH, bs_data, bs_size, hl, List.cons_append, ← e1, ← e2, List.take_append_drop]
      simp
theorem one_back {b : List UInt8} {i : In} {r : List UInt8} (h : oneP b = some (i, r)) : b = insH i ++ r ∧ mayI i = true := by
  cases b with
  | nil => cases h
  | cons c s =>
    rw [oneP] at h
    have hb : ∀ n : Nat, n = c.toNat → byteOf (n : Int) = c := fun n hn => by subst hn; unfold byteOf; simp
    cases hc : candI c s with
    | none => rw [hc] at h; cases h
    | some p =>
      obtain ⟨j, r1⟩ := p
      rw [hc] at h
      simp only at h
      split at h
      · rename_i hm
        injection h with h
        injection h with e1 e2
        subst e1; subst e2
        refine ⟨?_, hm⟩
        unfold candI at hc
        split at hc
        · rename_i e
          injection hc with hc
          injection hc with e1 e2
          subst e2
          rw [← e1, insH]
          simp only
          rw [e, if_neg (by decide), if_neg (by decide), hb _ rfl]
          rfl
        · rename_i e0
          cases h1 : cut1 s with
          | none => rw [h1] at hc; cases hc
          | some q =>
            obtain ⟨t, r2⟩ := q
            rw [h1] at hc
            simp only at hc
            obtain ⟨g1, _⟩ := cut_back h1
            split at hc
            · rename_i e
              injection hc with hc
              injection hc with e1 e2
              subst e2
              rw [← e1, insH]
              simp only
              rw [e, if_pos (by decide), if_neg (by decide), hb _ rfl, List.append_nil, List.cons_append, ← g1]
            · rename_i e1'
              have e2' : textsN (c.toNat : Int) = 2 := by
                rcases textsN_cases (c.toNat : Int) with e | e | e
                · exact absurd e e0
                · exact absurd e e1'
                · exact e
              cases h2 : cut1 r2 with
              | none => rw [h2] at hc; cases hc
              | some q2 =>
                obtain ⟨u, r3⟩ := q2
                rw [h2] at hc
                simp only at hc
                obtain ⟨g2, _⟩ := cut_back h2
                injection hc with hc
                injection hc with e1 e2
                subst e2
                rw [← e1, insH]
                simp only
                rw [e2', if_pos (by decide), if_pos (by decide), hb _ rfl, List.cons_append, List.append_assoc, ← g2, ← g1]
      · cases h
theorem get_back : ∀ (f : Nat) (b : List UInt8) (acc l : List In), getI f b acc = (l, 0) → b.length < f → acc.length ≤ 120 → ∃ m, l = acc ++ m ∧ putI m = b ∧ (∀ i ∈ m, mayI i = true) ∧ l.length ≤ 120
  | 0, b, acc, l, _, hf, _ => by omega
  | f + 1, b, acc, l, h, hf, ha => by
    rw [getI] at h
    split at h
    · rename_i hb
      injection h with h _
      subst h
      exact ⟨[], by simp, by rw [hb]; rfl, (by intro i hi; cases hi), ha⟩
    · cases ho : oneP b with
      | none => rw [ho] at h; simp at h
      | some p =>
        obtain ⟨i, r⟩ := p
        rw [ho] at h
        simp only at h
        obtain ⟨g1, g2⟩ := one_back ho
        have hp := insH_pos i
        have hl := congrArg List.length g1
        rw [List.length_append] at hl
        split at h
        · simp at h
        · rename_i hne
          obtain ⟨m, e1, e2, e3, e4⟩ := get_back f r (acc ++ [i]) l h (by omega) (by simp; omega)
          refine ⟨i :: m, by rw [e1]; simp, by rw [putI_cons, e2, ← g1], ?_, e4⟩
          intro k hk
          rcases List.mem_cons.1 hk with rfl | hk
          · exact g2
          · exact e3 k hk
theorem getI_code : ∀ (f : Nat) (b : List UInt8) (acc : List In), (getI f b acc).2 = 0 ∨ getI f b acc = ([], 7) ∨ getI f b acc = ([], 13)
  | 0, _, _ => .inl rfl
  | f + 1, b, acc => by
    rw [getI]
    split
    · exact .inl rfl
    · cases oneP b with
      | none => exact .inr (.inl rfl)
      | some p =>
        simp only
        split
        · exact .inr (.inr rfl)
        · exact getI_code f _ _
end Go.Proofs.Ytfjnbjpenibpkaa.P12
