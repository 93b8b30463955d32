/- The plain functions of layer 3: lists of attributes: found, joined, a new one's, the same, whether they may be. No condition. -/
import Derived.Test.YtkagaobelhpojaaM2
set_option linter.unusedVariables false
set_option linter.unusedSimpArgs false
namespace Go.Proofs.Ytkagaobelhpojaa.P3

structure At where
  nm : ByteArray
  vl : ByteArray
  st : Bool
def At.none : At := ⟨⟨#[]⟩, ⟨#[]⟩, false⟩

/-! ### Found -/
def sameN (s : ByteArray) (a : At) : Bool := a.nm.toList == s.toList
def findA (l : List At) (s : ByteArray) : Option At := l.find? (sameN s)
def hasA (l : List At) (s : ByteArray) : Bool := (findA l s).isSome
theorem findA_none {l : List At} {s : ByteArray} {n : Nat} (hn : l.length = n) (h : findA (l.take n) s = none) : findA l s = none := by subst hn; simpa using h
theorem findA_next {l : List At} {s : ByteArray} {k : Nat} (h : findA (l.take k) s = none) (hk : k < l.length) (he : (l[k].nm.toList == s.toList) = false) : findA (l.take (k + 1)) s = none := by
  rw [List.take_succ_eq_append_getElem hk, findA, List.find?_append]
  unfold findA at h
  rw [h]
  simp [sameN, he]
theorem findA_some {l : List At} {s : ByteArray} {k : Nat} (h : findA (l.take k) s = none) (hk : k < l.length) (he : (l[k].nm.toList == s.toList) = true) : findA l s = some l[k] := by
  have e : List.find? (sameN s) (l.take k ++ (l[k] :: l.drop (k + 1))) = some l[k] := by
    unfold findA at h
    rw [List.find?_append, h, List.find?_cons]
    simp [sameN, he]
  rw [← List.drop_eq_getElem_cons hk, List.take_append_drop] at e
  exact e
/-- from behind: what stands from place k on -/
theorem findA_drop_yes {l : List At} {s : ByteArray} {k : Nat} (hk : k < l.length) (he : (l[k].nm.toList == s.toList) = true) : findA (l.drop k) s = some l[k] := by
  rw [List.drop_eq_getElem_cons hk, findA, List.find?_cons]
  simp [sameN, he]
theorem findA_drop_no {l : List At} {s : ByteArray} {k : Nat} (hk : k < l.length) (he : (l[k].nm.toList == s.toList) = false) : findA (l.drop k) s = findA (l.drop (k + 1)) s := by
  rw [List.drop_eq_getElem_cons hk, findA, List.find?_cons]
  simp [sameN, he, findA]
theorem hasA_iff {l : List At} {s : ByteArray} : hasA l s = true ↔ ∃ a ∈ l, a.nm.toList = s.toList := by
  unfold hasA findA
  rw [List.find?_isSome]
  simp [sameN]
theorem hasA_iff_no {l : List At} {s : ByteArray} : hasA l s = false ↔ ∀ a ∈ l, a.nm.toList ≠ s.toList := by
  rw [← Bool.not_eq_true, hasA_iff]
  simp

/-! ### The same -/
def atB (a b : At) : Bool := a.nm.toList == b.nm.toList && a.vl.toList == b.vl.toList && a.st == b.st
def sameA : List At → List At → Bool
  | [], [] => true
  | a :: l, b :: m => atB a b && sameA l m
  | _, _ => false
theorem atB_refl (a : At) : atB a a = true := by simp [atB]
theorem sameA_refl (l : List At) : sameA l l = true := by
  induction l with
  | nil => rfl
  | cons a l ih => simp [sameA, atB_refl, ih]
theorem sameA_len {l m : List At} (h : l.length ≠ m.length) : sameA l m = false := by
  induction l generalizing m with
  | nil => cases m <;> simp_all [sameA]
  | cons a l ih =>
    cases m with
    | nil => rfl
    | cons b m => simp only [sameA, ih (by simpa using h), Bool.and_false]
theorem sameA_bad {l m : List At} {k : Nat} (hk : k < l.length) (hm : k < m.length) (h : atB l[k] m[k] = false) : sameA l m = false := by
  induction l generalizing m k with
  | nil => simp at hk
  | cons a l ih =>
    cases m with
    | nil => rfl
    | cons b m =>
      cases k with
      | zero => simp at h; simp [sameA, h]
      | succ k => simp at h hk hm; simp [sameA, ih hk hm h]
def SameTo (l m : List At) (k : Nat) : Prop := ∀ j (h : j < l.length) (h' : j < m.length), j < k → atB l[j] m[j] = true
theorem SameTo.zero (l m : List At) : SameTo l m 0 := fun _ _ _ h => absurd h (by omega)
theorem SameTo.next {l m : List At} {k : Nat} (h : SameTo l m k) (hk : k < l.length) (hm : k < m.length) (hb : atB l[k] m[k] = true) : SameTo l m (k + 1) := by
  intro j hj hj' hlt
  by_cases e : j = k
  · subst e; exact hb
  · exact h j hj hj' (by omega)
theorem SameTo.all {l m : List At} {k : Nat} (h : SameTo l m k) (hl : l.length = k) (hm : m.length = k) : sameA l m = true := by
  induction l generalizing m k with
  | nil =>
    cases m with
    | nil => rfl
    | cons b m => simp at hl hm; omega
  | cons a l ih =>
    cases m with
    | nil => simp at hl hm; omega
    | cons b m =>
      have h0 := h 0 (by simp) (by simp) (by simp at hl; omega)
      simp at h0
      simp only [sameA, h0, Bool.true_and]
      refine ih (k := l.length) (fun j hj hj' _ => ?_) rfl (by simp at hl hm; omega)
      have := h (j + 1) (by simpa using hj) (by simpa using hj') (by simp at hl; omega)
      simpa using this

/-! ### Those that are static, or aren't -/
def thoseA (l : List At) (s : Bool) : List At := l.filter fun a => a.st == s
theorem thoseA_yes {l : List At} {s : Bool} {k : Nat} (hk : k < l.length) (h : (l[k].st == s) = true) : thoseA (l.take (k + 1)) s = thoseA (l.take k) s ++ [l[k]] := by
  rw [List.take_succ_eq_append_getElem hk, thoseA, List.filter_append]
  simp [h, thoseA]
theorem thoseA_no {l : List At} {s : Bool} {k : Nat} (hk : k < l.length) (h : (l[k].st == s) = false) : thoseA (l.take (k + 1)) s = thoseA (l.take k) s := by
  rw [List.take_succ_eq_append_getElem hk, thoseA, List.filter_append]
  simp [h, thoseA]
theorem thoseA_all {l : List At} {s : Bool} {n : Nat} (hn : l.length = n) : thoseA (l.take n) s = thoseA l s := by subst hn; simp
theorem thoseA_len (l : List At) (s : Bool) : (thoseA l s).length ≤ l.length := List.length_filter_le _ _
theorem thoseA_take_len (l : List At) (s : Bool) (k : Nat) : (thoseA (l.take k) s).length ≤ l.length := Nat.le_trans (thoseA_len _ _) (by rw [List.length_take]; omega)
theorem thoseA_mem {l : List At} {s : Bool} {a : At} : a ∈ thoseA l s ↔ a ∈ l ∧ a.st = s := by simp [thoseA]

/-! ### Joined; a new one's -/
def addA (laid : List At) : List At → List At
  | [] => laid
  | a :: m => if hasA laid a.nm then addA laid m else addA (laid ++ [a]) m
def newA (l : List At) : List At := thoseA l true ++ thoseA l false
def joinA (old want : List At) : List At := (addA (thoseA old true) (thoseA want false)).take 8
theorem addA_snoc_yes {laid m : List At} {a : At} (h : hasA (addA laid m) a.nm = true) : addA laid (m ++ [a]) = addA laid m := by
  induction m generalizing laid with
  | nil => simp only [List.nil_append, addA] at h ⊢; rw [if_pos h]
  | cons b m ih =>
    simp only [List.cons_append, addA] at h ⊢
    split
    · rename_i hb; rw [if_pos hb] at h; exact ih h
    · rename_i hb; rw [if_neg hb] at h; exact ih h
theorem addA_snoc_no {laid m : List At} {a : At} (h : hasA (addA laid m) a.nm = false) : addA laid (m ++ [a]) = addA laid m ++ [a] := by
  induction m generalizing laid with
  | nil => simp only [List.nil_append, addA] at h ⊢; rw [if_neg (by simp [h])]
  | cons b m ih =>
    simp only [List.cons_append, addA] at h ⊢
    split
    · rename_i hb; rw [if_pos hb] at h; exact ih h
    · rename_i hb; rw [if_neg hb] at h; exact ih h
theorem addA_pre (laid m : List At) : ∃ r, addA laid m = laid ++ r ∧ r.length ≤ m.length := by
  induction m generalizing laid with
  | nil => exact ⟨[], by simp [addA], by simp⟩
  | cons b m ih =>
    simp only [addA]
    split
    · obtain ⟨r, h1, h2⟩ := ih laid; exact ⟨r, h1, by simp; omega⟩
    · obtain ⟨r, h1, h2⟩ := ih (laid ++ [b]); exact ⟨b :: r, by rw [h1]; simp, by simp; omega⟩
theorem addA_append (laid m r : List At) : addA laid (m ++ r) = addA (addA laid m) r := by
  induction m generalizing laid with
  | nil => rfl
  | cons b m ih => simp only [List.cons_append, addA]; split <;> exact ih _
theorem addA_take_snoc_yes {laid m : List At} {k : Nat} (hk : k < m.length) (h : hasA (addA laid (m.take k)) m[k].nm = true) : addA laid (m.take (k + 1)) = addA laid (m.take k) := by
  rw [List.take_succ_eq_append_getElem hk]; exact addA_snoc_yes h
theorem addA_take_snoc_no {laid m : List At} {k : Nat} (hk : k < m.length) (h : hasA (addA laid (m.take k)) m[k].nm = false) : addA laid (m.take (k + 1)) = addA laid (m.take k) ++ [m[k]] := by
  rw [List.take_succ_eq_append_getElem hk]; exact addA_snoc_no h
theorem hasA_take_succ {l : List At} {s : ByteArray} {j : Nat} (hj : j < l.length) : hasA (l.take (j + 1)) s = (hasA (l.take j) s || (l[j].nm.toList == s.toList)) := by
  unfold hasA findA
  rw [List.take_succ_eq_append_getElem hj, List.find?_append]
  cases (l.take j).find? (sameN s) <;> simp [sameN]
  split <;> simp_all
/-- the reference's way: over all that are wanted, the static ones too -/
theorem radd_yes {S m : List At} {k : Nat} (hk : k < m.length) (h : true = (m[k].st || hasA (addA S (thoseA (m.take k) false)) m[k].nm)) : addA S (thoseA (m.take (k + 1)) false) = addA S (thoseA (m.take k) false) := by
  cases hs : m[k].st
  · rw [thoseA_yes hk (by rw [hs]; rfl)]
    rw [hs] at h
    exact addA_snoc_yes (by simpa using h.symm)
  · rw [thoseA_no hk (by rw [hs]; rfl)]
theorem radd_no {S m : List At} {k : Nat} (hk : k < m.length) (h : false = (m[k].st || hasA (addA S (thoseA (m.take k) false)) m[k].nm)) : addA S (thoseA (m.take (k + 1)) false) = addA S (thoseA (m.take k) false) ++ [m[k]] := by
  have h' := h.symm
  rw [Bool.or_eq_false_iff] at h'
  rw [thoseA_yes hk (by rw [h'.1]; rfl)]
  exact addA_snoc_no h'.2
/-- once there are eight, no more come into the first eight -/
theorem addA_full {laid m : List At} {k : Nat} (h : 8 ≤ (addA laid (m.take k)).length) : (addA laid m).take 8 = (addA laid (m.take k)).take 8 := by
  have e : addA laid m = addA (addA laid (m.take k)) (m.drop k) := by rw [← addA_append, List.take_append_drop]
  obtain ⟨r, h1, _⟩ := addA_pre (addA laid (m.take k)) (m.drop k)
  rw [e, h1, List.take_append_of_le_length h]
theorem addA_len (laid m : List At) : (addA laid m).length ≤ laid.length + m.length := by
  obtain ⟨r, h1, h2⟩ := addA_pre laid m
  rw [h1, List.length_append]; omega
theorem addA_take_len (laid m : List At) (k : Nat) : (addA laid (m.take k)).length ≤ laid.length + m.length :=
  Nat.le_trans (addA_len _ _) (by rw [List.length_take]; omega)
theorem radd_len (S m : List At) (k : Nat) : (addA S (thoseA (m.take k) false)).length ≤ S.length + m.length :=
  Nat.le_trans (addA_len _ _) (by have := thoseA_take_len m false k; omega)
theorem newA_len (l : List At) : (newA l).length = l.length := by
  unfold newA
  induction l with
  | nil => rfl
  | cons a l ih =>
    rw [List.length_append] at ih ⊢
    cases hs : a.st <;> simp [thoseA, hs] at ih ⊢ <;> omega
theorem joinA_len (l m : List At) : (joinA l m).length ≤ 8 := by unfold joinA; rw [List.length_take]; omega

/-! ### Whether a list may be -/
def goodA (l : List At) (j : Nat) : Bool :=
  match l[j]? with
  | some a => P1.nameB a.nm.data.toList && P1.textB a.vl.data.toList && !hasA (l.take j) a.nm
  | none => true
def okA (l : List At) : Bool := (List.range l.length).all (goodA l)
def mayA (l : List At) : Bool := decide (l.length ≤ 8) && okA l
theorem goodA_at {l : List At} {k : Nat} (hk : k < l.length) : goodA l k = (P1.nameB l[k].nm.data.toList && P1.textB l[k].vl.data.toList && !hasA (l.take k) l[k].nm) := by
  unfold goodA; rw [List.getElem?_eq_getElem hk]
def GoodTo (l : List At) (k : Nat) : Prop := ∀ j, j < k → goodA l j = true
theorem GoodTo.zero (l : List At) : GoodTo l 0 := fun _ h => absurd h (by omega)
theorem GoodTo.next {l : List At} {k : Nat} (h : GoodTo l k) (hb : goodA l k = true) : GoodTo l (k + 1) := by
  intro j hj
  by_cases e : j = k
  · subst e; exact hb
  · exact h j (by omega)
theorem okA_bad {l : List At} {k : Nat} (hk : k < l.length) (h : goodA l k = false) : okA l = false := by
  unfold okA
  rw [List.all_eq_false]
  exact ⟨k, List.mem_range.2 hk, by simp [h]⟩
theorem GoodTo.all {l : List At} {k : Nat} (h : GoodTo l k) (hl : l.length = k) : okA l = true := by
  unfold okA
  rw [List.all_eq_true]
  intro j hj
  exact h j (by rw [← hl]; exact List.mem_range.1 hj)
theorem mayA_bad {l : List At} {k : Nat} (hk : k < l.length) (h : goodA l k = false) : mayA l = false := by
  unfold mayA; rw [okA_bad hk h]; simp
theorem mayA_long {l : List At} (h : 8 < l.length) : mayA l = false := by
  unfold mayA; simp; omega
theorem mayA_ok {l : List At} {k : Nat} (h : GoodTo l k) (hl : l.length = k) : mayA l = decide (k ≤ 8) := by
  unfold mayA; rw [h.all hl, hl]; simp
/-- in words: few, each of a name and a text, no two of one name -/
theorem mayA_iff {l : List At} : mayA l = true ↔ l.length ≤ 8 ∧ (∀ a ∈ l, P1.nameB a.nm.data.toList = true ∧ P1.textB a.vl.data.toList = true) ∧ l.Pairwise fun a b => a.nm.toList ≠ b.nm.toList := by
  unfold mayA okA
  simp only [Bool.and_eq_true, decide_eq_true_eq, List.all_eq_true, List.mem_range]
  refine and_congr Iff.rfl ⟨fun h => ⟨fun a ha => ?_, ?_⟩, fun ⟨h1, h2⟩ j hj => ?_⟩
  · obtain ⟨j, hj, rfl⟩ := List.getElem_of_mem ha
    have := h j hj
    rw [goodA_at hj] at this
    simp only [Bool.and_eq_true] at this
    exact ⟨this.1.1, this.1.2⟩
  · rw [List.pairwise_iff_getElem]
    intro i j hi hj hij
    have := h j hj
    rw [goodA_at hj] at this
    simp only [Bool.and_eq_true, Bool.not_eq_true'] at this
    exact hasA_iff_no.1 this.2 l[i] (by rw [List.mem_take_iff_getElem]; exact ⟨i, by omega, rfl⟩)
  · rw [goodA_at hj]
    simp only [Bool.and_eq_true, Bool.not_eq_true']
    refine ⟨h1 _ (List.getElem_mem hj), hasA_iff_no.2 fun a ha => ?_⟩
    obtain ⟨i, hi, rfl⟩ := List.mem_take_iff_getElem.1 ha
    exact (List.pairwise_iff_getElem.1 h2) i j (by omega) hj (by omega)

/-! ### Few, and short -/
def shortA (a : At) : Bool := decide (a.nm.size ≤ 100) && decide (a.vl.size ≤ 100)
def fewA (l : List At) : Bool := decide (l.length ≤ 20) && l.all shortA
end Go.Proofs.Ytkagaobelhpojaa.P3

/- The slices that layer 5 has, beside those of integers: of slots of nodes, of nodes, of attributes, of the law's deeds. No condition. -/
namespace Go.Proofs.Ytkagaobelhpojaa.P4
open Go.RowKit Kd

theorem infoSP : (Try.prog.info? 121).map (fun i => (i.zero, i.size, i.bytes)) = some (some (.agg #[.int .i64 0, .pointer none]), 2, 16) := by kernel_rfl
theorem infoA : (Try.prog.info? 117).map (fun i => (i.zero, i.size, i.bytes)) = some (some (.agg #[.string ⟨#[]⟩, .string ⟨#[]⟩, .bool false]), 3, 40) := by kernel_rfl
theorem infoN : (Try.prog.info? 52).map (fun i => (i.zero, i.size, i.bytes)) = some (some (.agg #[.int .i64 0, .int .i64 0, .string ⟨#[]⟩, .string ⟨#[]⟩, .string ⟨#[]⟩, .slice none 0 0, .slice none 0 0, .int .i64 0]), 8, 120) := by kernel_rfl
theorem infoE : (Try.prog.info? 37).map (fun i => (i.zero, i.size, i.bytes)) = some (some (.agg #[.int .i64 0, .bool false, .int .i64 0, .int .i64 0, .int .i64 0, .int .i64 0, .string ⟨#[]⟩, .string ⟨#[]⟩, .string ⟨#[]⟩, .slice none 0 0, .int .i64 0, .int .i64 0]), 12, 136) := by kernel_rfl

def kSP : Kind Try.prog (Sl Nat) where
  t := 112
  e := 121
  size := 2
  bytes := 16
  z := .agg #[.int .i64 0, .pointer none]
  cs := fun a => [.int .i64 a.id, .pointer (some ⟨a.x, 0, none⟩)]
  ht := Try.underlying112
  info := info_ex infoSP
  hzs := rfl
  hpos := by decide
  hbb := by decide
  len := fun _ => rfl
  one := fun a u hu => by simp at hu; rcases hu with rfl | rfl <;> rfl
def kA : Kind Try.prog P3.At where
  t := 33
  e := 117
  size := 3
  bytes := 40
  z := .agg #[.string ⟨#[]⟩, .string ⟨#[]⟩, .bool false]
  cs := fun a => [.string a.nm, .string a.vl, .bool a.st]
  ht := Try.underlying33
  info := info_ex infoA
  hzs := rfl
  hpos := by decide
  hbb := by decide
  len := fun _ => rfl
  one := fun a u hu => by simp at hu; rcases hu with rfl | rfl | rfl <;> rfl

/-- a slice, as a value that lies in a cell -/
structure Sv where
  A : Option Addr
  n : Nat
  c : Nat
def Sv.val (s : Sv) : Value := .slice s.A s.n s.c
/-- a node as its cells are -/
structure RN where
  id : Int
  par : Int
  tag : ByteArray
  txt : ByteArray
  key : ByteArray
  va : Sv
  vk : Sv
  note : Int
def RN.cells (a : RN) : List Value := [.int .i64 a.id, .int .i64 a.par, .string a.tag, .string a.txt, .string a.key, a.va.val, a.vk.val, .int .i64 a.note]
/-- a deed of the law, as its cells are -/
structure RE where
  what : Int
  next : Bool
  op : Int
  rid : Int
  par : Int
  bef : Int
  tag : ByteArray
  txt : ByteArray
  key : ByteArray
  va : Sv
  id : Int
  n : Int
def RE.cells (a : RE) : List Value := [.int .i64 a.what, .bool a.next, .int .i64 a.op, .int .i64 a.rid, .int .i64 a.par, .int .i64 a.bef, .string a.tag, .string a.txt, .string a.key, a.va.val, .int .i64 a.id, .int .i64 a.n]
def kN : Kind Try.prog RN where
  t := 81
  e := 52
  size := 8
  bytes := 120
  z := .agg #[.int .i64 0, .int .i64 0, .string ⟨#[]⟩, .string ⟨#[]⟩, .string ⟨#[]⟩, .slice none 0 0, .slice none 0 0, .int .i64 0]
  cs := RN.cells
  ht := Try.underlying81
  info := info_ex infoN
  hzs := rfl
  hpos := by decide
  hbb := by decide
  len := fun _ => rfl
  one := fun a u hu => by simp [RN.cells, Sv.val] at hu; rcases hu with rfl | rfl | rfl | rfl | rfl | rfl | rfl | rfl <;> rfl
def kE : Kind Try.prog RE where
  t := 22
  e := 37
  size := 12
  bytes := 136
  z := .agg #[.int .i64 0, .bool false, .int .i64 0, .int .i64 0, .int .i64 0, .int .i64 0, .string ⟨#[]⟩, .string ⟨#[]⟩, .string ⟨#[]⟩, .slice none 0 0, .int .i64 0, .int .i64 0]
  cs := RE.cells
  ht := Try.underlying22
  info := info_ex infoE
  hzs := rfl
  hpos := by decide
  hbb := by decide
  len := fun _ => rfl
  one := fun a u hu => by simp [RE.cells, Sv.val] at hu; rcases hu with rfl | rfl | rfl | rfl | rfl | rfl | rfl | rfl | rfl | rfl | rfl | rfl <;> rfl
end Go.Proofs.Ytkagaobelhpojaa.P4

/- What find tells of an arena's slots (of *placket/api.Node): the place of an identity, and whether it is there. -/
namespace Go.Proofs.Ytkagaobelhpojaa.P4
open Go.RowKit Kd

theorem atP {w : World} {B : Nat} {A : Option Addr} {l : List (Sl Nat)} (h : kSP.Holds w B A l) {k : Nat} (hk : k < l.length) :
    ∃ b o, A = some ⟨b, o, none⟩ ∧ b < B ∧ w.cell? ⟨b, o + k * 2, none⟩ = some (.int .i64 l[k].id) ∧ w.cell? ⟨b, o + k * 2 + 1, none⟩ = some (.pointer (some ⟨l[k].x, 0, none⟩)) := by
  obtain ⟨b, o, rfl, hb, hc⟩ := h.at hk
  exact ⟨b, o, rfl, hb, hc 0 _ rfl, hc 1 _ rfl⟩

set_option maxHeartbeats 400000 in
theorem keyP_any (s : Sl Nat) (t : Int) (w : World) : Calls Try.prog 106 #[.agg #[.int .i64 s.id, (.pointer (some ⟨s.x, 0, none⟩))], .int .i64 t] w fun e w' => e = .returned (.int .i64 (cmpA s.id t)) ∧ Below w.heap.size w w' := by
  go_enter Try.func106, Try.ntmps106
  go_wp2_with fail
  refine (compare_any _ _ _).mono ?_
  rintro e w' ⟨rfl, rfl⟩
  go_wp2
  go_ret
  exact ⟨rfl, (Below.refl _ _).alloc (Nat.le_refl _) _⟩

def SearchP (w : World) (l : List (Sl Nat)) (t : Int) (e : Ending) (w' : World) : Prop :=
  e = .returned (.tuple #[.int .i64 (posA l t), .bool (hasA l t)]) ∧ Below w.heap.size w w'

set_option maxHeartbeats 1000000 in
theorem searchP_any (l : List (Sl Nat)) (N : Int) (A : Option Addr) (n c : Nat) (t : Int) (w : World) (hn : l.length = n) (hn2 : n ≤ 1000000) (hl : Asc N l) (H : kSP.Holds w w.heap.size A l) :
    Calls Try.prog 105 #[.slice A n c, .int .i64 t, .func (.func 106) #[] #[]] w (SearchP w l t) := by
  have HH := Lib.hid H
  have HN := Lib.hid hn
  have HL := Lib.hid hl
  clear H hn hl
  go_enter Try.func105, Try.ntmps105
  go_wp2_with fail
  go_loopw [9, 10] (fun i j wr => ∃ a b : Nat, a ≤ b ∧ b ≤ n ∧ i = .int .i64 a ∧ j = .int .i64 b ∧ Hid (∀ k (h : k < l.length), k < a → l[k].id < t) ∧ Hid (∀ k (h : k < l.length), b ≤ k → t ≤ l[k].id) ∧ Hid (Below w.heap.size w wr)) (fun i j _ => (intOf j - intOf i).toNat)
  case atStart => exact ⟨0, n, by omega, by omega, rfl, rfl, Lib.hid (fun k _ h => by omega), Lib.hid (fun k h hb => by have := HN.out; omega), Lib.hid (Below.refl _ _)⟩
  case round =>
    obtain ⟨a, b, hab, hbn, rfl, rfl, HA, HB, HW⟩ := hrel
    by_cases hlt : a < b
    · obtain ⟨h, hh⟩ : ∃ h : Nat, ((a : Int) + b) / 2 = h := ⟨(a + b) / 2, by omega⟩
      have ha : a ≤ h := by omega
      have hb : h < b := by omega
      have hn : h < n := by omega
      have hl : h < l.length := by have := HN.out; omega
      obtain ⟨g, o, rfl, hg, h0, h1⟩ := atP (HH.out.below HW.out (Nat.le_refl _)) hl
      by_cases hc : l[h].id < t
      · have hlss : cmpA l[h].id t < 0 := by unfold cmpA; rw [if_pos hc]; decide
        go_wp2_with fail
        refine (keyP_any l[h] t _).mono ?_
        rintro e w1 ⟨rfl, b1⟩
        have B1 := Lib.hid b1
        clear b1
        go_wp2_with fail
        go_roundw
        case rel => exact ⟨h + 1, b, by omega, by omega, by go_num, rfl, Lib.hid (fun k hk hkh => below_at HL.out hl hc hk (by omega)), HB, Lib.hid (HW.out.trans (B1.out.mono HW.out.size))⟩
        case measure => simp [intOf]; omega
      · have hge : ¬ cmpA l[h].id t < 0 := by unfold cmpA; rw [if_neg hc]; split <;> decide
        go_wp2_with fail
        refine (keyP_any l[h] t _).mono ?_
        rintro e w1 ⟨rfl, b1⟩
        have B1 := Lib.hid b1
        clear b1
        go_wp2_with fail
        go_roundw
        case rel => exact ⟨a, h, by omega, by omega, rfl, rfl, HA, Lib.hid (fun k hk hkh => above_at HL.out hl (by omega) hk hkh), Lib.hid (HW.out.trans (B1.out.mono HW.out.size))⟩
        case measure => simp [intOf]; omega
    · obtain rfl : a = b := by omega
      have hp : posA l t = a := posA_of l t a (by have := HN.out; omega) HA.out HB.out
      have HP := Lib.hid hp
      clear hp HA HB
      by_cases ha : a < n
      · have hl : a < l.length := by have := HN.out; omega
        obtain ⟨g, o, rfl, hg, h0, h1⟩ := atP (HH.out.below HW.out (Nat.le_refl _)) hl
        go_wp2_with fail
        refine (keyP_any l[a] t _).mono ?_
        rintro e w1 ⟨rfl, b1⟩
        have B1 := Lib.hid b1
        clear b1
        go_wp2_with fail
        go_ret2
        exact ⟨ret_two HP.out (by unfold hasA; rw [HP.out, atB_at hl]; exact cmp_zero _ _), HW.out.trans (B1.out.mono HW.out.size)⟩
      · go_wp2_with fail
        go_ret2
        exact ⟨ret_two HP.out (by unfold hasA; rw [HP.out, atB_none (by have := HN.out; omega)]), HW.out⟩

/-- an arena at block p: room R, last identity n, its slots l in the slice v, none of it below block B -/
structure ArP (w : World) (B p R : Nat) (n : Int) (v : Value) (l : List (Sl Nat)) : Prop where
  blk : w.heap[p]? = some (.cells #[.int .i64 R, .int .i64 n, v] 114 (0, 0))
  own : kSP.Own w B v l
  base : B ≤ p
  asc : Asc n l
  pos : 0 ≤ n
  len : l.length ≤ R
  room : R ≤ 200
section
variable {w w' : World} {B p R : Nat} {n : Int} {v : Value} {l : List (Sl Nat)}
theorem ArP.lt (h : ArP w B p R n v l) : p < w.heap.size := heap_lt h.blk
theorem ArP.c0 (h : ArP w B p R n v l) : w.cell? ⟨p, 0, none⟩ = some (.int .i64 R) := cell_of_row w p 0 _ _ (0, 0) h.blk
theorem ArP.c1 (h : ArP w B p R n v l) : w.cell? ⟨p, 1, none⟩ = some (.int .i64 n) := cell_of_row w p 1 _ _ (0, 0) h.blk
theorem ArP.c2 (h : ArP w B p R n v l) : w.cell? ⟨p, 2, none⟩ = some v := cell_of_row w p 2 _ _ (0, 0) h.blk
theorem ArP.frozen (h : ArP w B p R n v l) (i : Nat) : w.frozen? ⟨p, i, none⟩ = false := by
  have := h.blk
  simp [World.frozen?, this]
theorem ArP.keep (h : ArP w B p R n v l) (hp : w'.heap[p]? = w.heap[p]?) (hv : ∀ g, v.ownBlock = some g → w'.heap[g]? = w.heap[g]?) : ArP w' B p R n v l :=
  ⟨hp.trans h.blk, h.own.keep hv, h.base, h.asc, h.pos, h.len, h.room⟩
theorem ArP.but {S : Nat → Prop} (h : ArP w B p R n v l) (hb : But S w w') (hp : ¬ S p) (hv : ∀ g, v.ownBlock = some g → ¬ S g) : ArP w' B p R n v l :=
  h.keep (hb.block p h.lt hp) (fun g hg => hb.block g (h.own.lt hg).2 (hv g hg))
theorem ArP.below {C : Nat} (h : ArP w B p R n v l) (hb : Below C w w') (hC : w.heap.size ≤ C) : ArP w' B p R n v l :=
  h.keep (hb.block p (by have := h.lt; omega)) (fun g hg => hb.block g (by have := (h.own.lt hg).2; omega))
theorem ArP.base_le {B' : Nat} (h : ArP w B p R n v l) (hB : B' ≤ B) : ArP w B' p R n v l := ⟨h.blk, h.own.base_le hB, by have := h.base; omega, h.asc, h.pos, h.len, h.room⟩
theorem ArP.drewN (h : ArP w B p R n v l) (k : Nat) : ArP (w.drewN k) B p R n v l := ⟨h.blk, h.own, h.base, h.asc, h.pos, h.len, h.room⟩
theorem ArP.ge (h : ArP w B p R n v l) {k : Nat} (hk : Arm p v k) : B ≤ k := by
  rcases hk with rfl | hk
  · exact h.base
  · exact (h.own.lt hk).1
theorem ArP.lt_arm (h : ArP w B p R n v l) {k : Nat} (hk : Arm p v k) : k < w.heap.size := by
  rcases hk with rfl | hk
  · exact h.lt
  · exact (h.own.lt hk).2
theorem ArP.step (h : ArP w B p R n v l) (hb : But (Arm p v) w w') : Below B w w' := hb.to_below (fun _ _ hi => h.ge hi) (by have := h.base; have := h.lt; omega)
/-- the arena's own block is not its slots' -/
theorem ArP.apart (h : ArP w B p R n v l) : v.ownBlock ≠ some p := fun e => by
  obtain ⟨c, hc⟩ := h.own.ty e
  exact heap_ne hc h.blk (by decide) rfl
/-- what is of neither type is none of the arena's blocks -/
theorem ArP.other (h : ArP w B p R n v l) {g : Nat} {c : Array Value} {t : TypeId} {f : Nat × Nat} (hg : w.heap[g]? = some (.cells c t f)) (h1 : t ≠ 114) (h2 : t ≠ 121) : ¬ Arm p v g := by
  rintro (rfl | hv)
  · exact heap_ne hg h.blk h1 rfl
  · obtain ⟨d, hd⟩ := h.own.ty hv
    exact heap_ne hg hd h2 rfl
end

set_option maxHeartbeats 400000 in
theorem findP_any (t : Int) {B p R : Nat} {n : Int} {v : Value} {l : List (Sl Nat)} (w : World) (h : ArP w B p R n v l) :
    Calls Try.prog 81 #[.pointer (some ⟨p, 0, none⟩), .int .i64 t] w (SearchP w l t) := by
  obtain ⟨A, k, c, rfl, hk, hkc, hcm, hz, hh⟩ := h.own.slice
  have HK := Lib.hid hk
  have HH := Lib.hid hh
  have HA := Lib.hid h.asc
  have c2 := h.c2
  have hk2 : k ≤ 1000000 := by have := h.len; have := h.room; omega
  clear hk hh hz hcm hkc h
  go_enter Try.func81, Try.ntmps81
  go_wp2_with fail
  refine (searchP_any l n A k c t w HK.out hk2 HA.out HH.out).mono ?_
  rintro e w1 ⟨rfl, b1⟩
  have B1 := Lib.hid b1
  clear b1
  go_wp2_with fail
  go_ret2
  exact ⟨rfl, B1.out⟩
end Go.Proofs.Ytkagaobelhpojaa.P4
