/- What placketref11.texts, text and Put answer. No condition but those stated. -/
import Derived.Lib.ConvBytes
import Derived.Deep.DeepCutAuto
import Derived.Deep.CutBlock
import Derived.Test.YtfjnbjpenibpkaaM8
import Derived.Test.YtfjnbjpenibpkaaM9
set_option linter.unusedVariables false
set_option linter.unusedSimpArgs false
set_option linter.unusedVariables false
set_option linter.unusedSimpArgs false
namespace Go.Proofs.Ytfjnbjpenibpkaa.P12
open Go.RowKit Kd P4 P11

theorem infoB : (Try.prog.info? 5).map (fun i => (i.zero, i.size, i.bytes)) = some (some (.int .u8 0), 1, 1) := by kernel_rfl
theorem bytes_below (w : World) (s : ByteArray) : Below w.heap.size w (Lib.bytesWorld w 5 s) :=
  ⟨by simp [Lib.bytesWorld, World.freeze]; rfl, by simp [Lib.bytesWorld, World.freeze], by simp [Lib.bytesWorld, World.freeze]; rfl, by rw [Lib.bytesWorld_size]; omega, fun k hk => Lib.bytesWorld_at_old w _ s k hk⟩
end Go.Proofs.Ytfjnbjpenibpkaa.P12

/- A slice of instructions, and a slice of bytes, opened out of arguments. No condition. -/
set_option linter.unusedVariables false
set_option linter.unusedSimpArgs false
namespace Go.Proofs.Ytfjnbjpenibpkaa.P12
open Go.RowKit Go.ChangeShapes Go.WideShapes Go.Deep Kd P4 P11

theorem cellsU8 : Try.prog.cellsOf 5 = 1 := by kernel_rfl
set_option maxRecDepth 100000 in
theorem open_inss {H : Type} {enc : TypeId × Value → H} {w : World} {v : Value} {d : DataW H} {p : List MemPlace} {base : Nat}
    (hv : Value.okWide Try.prog w .any base 22 v) (h : DataW.Trod enc Try.prog w 0 (fun _ => true) true 22 v d p) :
    ∃ A n c l, v = .slice A n c ∧ l.length = n ∧ n ≤ c ∧ c ≤ maxLen ∧ (∀ a ∈ l, a.a.size ≤ maxLen ∧ a.b.size ≤ maxLen) ∧ kX.Holds w w.heap.size A l :=
  kX.open_ (base := base) (⟨0, ⟨#[]⟩, ⟨#[]⟩⟩ : In) (fun a => a.a.size ≤ maxLen ∧ a.b.size ≤ maxLen) cellsX (fun fuel cs x h hl => open_ins_cells fuel cs x h hl) hv h
set_option maxRecDepth 100000 in
/-- a nil slice that is handed in has no room -/
theorem nil_room {H : Type} {enc : TypeId × Value → H} {w : World} {t e : TypeId} (ht : Try.prog.underlying t = some (.slice e)) {n c : Nat} {d : DataW H} {p : List MemPlace}
    (h : DataW.Trod enc Try.prog w 0 (fun _ => true) true t (.slice none n c) d p) : c = 0 := by
  obtain ⟨fuel, hf⟩ := h
  rcases DataW.trod_slice ht hf with ⟨hcs, _⟩ | ⟨ad, len, cap, elems, rest, m, hfu, hcs, _⟩
  · have e : n = 0 ∧ c = 0 := by simpa [Value.cells] using hcs
    exact e.2
  · exact absurd hcs (by simp [Value.cells])
end Go.Proofs.Ytfjnbjpenibpkaa.P12

/- Which programs may be, as the document's answer reckons it, plain. No condition. -/
set_option linter.unusedVariables false
set_option linter.unusedSimpArgs false
namespace Go.Proofs.Ytfjnbjpenibpkaa.P13
open Go.RowKit Kd P4 P11 P12

def tellsO (op : Int) : Bool := decide (op = 5 ∨ op = 6)
def makesO (op : Int) : Bool := decide (op = 1 ∨ op = 3)
def stepB (k : Nat) (o : List Int) (x : In) : List Int := if x.op = 1 then o ++ [(k : Int) + 1] else if x.op = 2 then o.dropLast else o
/-- where what is open begins, behind k instructions; the last one opened last -/
def opensK (l : List In) : Nat → List Int
  | 0 => []
  | k + 1 => match l[k]? with
    | some x => stepB k (opensK l k) x
    | none => opensK l k
def beginP (l : List In) (k : Nat) : Int × Nat := match (opensK l k).getLast? with
  | none => (0, 0)
  | some p => (p, (opensK l k).length)
def deltaO (op : Int) : Int := if op = 1 then 1 else if op = 2 then -1 else 0
def stepA (s : List In × Int) (x : In) : List In × Int := (if s.2 = 0 ∧ x.op ≠ 2 then s.1 ++ [x] else s.1, s.2 + deltaO x.op)
def aheadP (l : List In) (k : Nat) : List In := (((l.take k).drop (beginP l k).1.toNat).foldl stepA ([], 0)).1
def attrD (l : List In) (a : List UInt8) : Nat → Nat → Nat
  | 0, _ => 9
  | k + 1, n => match l[k]? with
    | none => 9
    | some y => if tellsO y.op then (if y.a.toList = a then 9 else attrD l a k (n + 1)) else if 8 ≤ n then 9 else if makesO y.op then 0 else 9
def keyB (x y : In) : Bool := makesO y.op && (y.b.toList == x.b.toList)
def wrongAt (l : List In) (k : Nat) (x : In) : Nat :=
  if mayI x = false then 7
  else if tellsO x.op then attrD l x.a.toList k 0
  else if x.op = 2 then (if (beginP l k).2 = 0 then 8 else 0)
  else if (aheadP l k).any (fun y => decide (y.op = 7)) then 11
  else if makesO x.op && !x.b.toList.isEmpty && (aheadP l k).any (keyB x) then 10
  else if x.op = 1 ∧ 8 ≤ (beginP l k).2 then 12
  else 0
def wrongP (l : List In) (k : Nat) : Nat := match l[k]? with
  | none => 0
  | some x => wrongAt l k x
/-- the first error of k instructions -/
def firstW (l : List In) : Nat → Nat
  | 0 => 0
  | k + 1 => if firstW l k = 0 then wrongP l k else firstW l k
def checkP (l : List In) : Nat :=
  if 120 < l.length then 13
  else if firstW l l.length = 0 then (if 0 < (beginP l l.length).2 then 8 else 0)
  else firstW l l.length
theorem opensK_step {l : List In} {k : Nat} (h : k < l.length) : opensK l (k + 1) = stepB k (opensK l k) l[k] := by
  rw [opensK, List.getElem?_eq_getElem h]
theorem opensK_len (l : List In) : ∀ k, (opensK l k).length ≤ k
  | 0 => by simp [opensK]
  | k + 1 => by
    have := opensK_len l k
    rw [opensK]
    split
    · unfold stepB
      split
      · simp; omega
      · split
        · simp; omega
        · omega
    · omega
theorem opensK_in (l : List In) : ∀ k, ∀ p ∈ opensK l k, 1 ≤ p ∧ p ≤ (k : Int)
  | 0 => by simp [opensK]
  | k + 1 => by
    have ih := opensK_in l k
    intro p hp
    rw [opensK] at hp
    have key : ∀ q ∈ opensK l k, 1 ≤ q ∧ q ≤ ((k + 1 : Nat) : Int) := fun q hq => by have := ih q hq; omega
    split at hp
    · unfold stepB at hp
      split at hp
      · rcases List.mem_append.1 hp with h | h
        · exact key p h
        · rw [List.mem_singleton] at h; omega
      · split at hp
        · exact key p (List.dropLast_subset _ hp)
        · exact key p hp
    · exact key p hp
theorem beginP_none {l : List In} {k : Nat} (h : (opensK l k).length = 0) : beginP l k = (0, 0) := by
  rw [beginP, List.eq_nil_of_length_eq_zero h]
  rfl
theorem beginP_some {l : List In} {k m : Nat} (hm : m < (opensK l k).length) (h : (opensK l k).length = m + 1) : beginP l k = ((opensK l k)[m], m + 1) := by
  have e1 : (opensK l k)[(opensK l k).length - 1]? = some ((opensK l k)[m]) := by
    rw [show (opensK l k).length - 1 = m by omega]
    exact List.getElem?_eq_getElem hm
  rw [beginP, List.getLast?_eq_getElem?, e1]
  simp only [h]
theorem beginP_snd (l : List In) (k : Nat) : (beginP l k).2 = (opensK l k).length := by
  rcases Nat.eq_zero_or_pos (opensK l k).length with h | h
  · rw [beginP_none h, h]
  · obtain ⟨m, hm⟩ : ∃ m, (opensK l k).length = m + 1 := ⟨(opensK l k).length - 1, by omega⟩
    rw [beginP_some (by omega) hm]
    simp only [hm]
theorem beginP_fst (l : List In) (k : Nat) : ∃ f : Nat, (beginP l k).1 = f ∧ f ≤ k := by
  rcases Nat.eq_zero_or_pos (opensK l k).length with h | h
  · rw [beginP_none h]; exact ⟨0, rfl, by omega⟩
  · obtain ⟨m, hm⟩ : ∃ m, (opensK l k).length = m + 1 := ⟨(opensK l k).length - 1, by omega⟩
    rw [beginP_some (by omega) hm]
    have := opensK_in l k _ (List.getElem_mem (h := (by omega : m < (opensK l k).length)))
    refine ⟨((opensK l k)[m]'(by omega)).toNat, ?_, ?_⟩
    · simp only; omega
    · omega
/-- what stands ahead, behind j of those from f on -/
def aheadK (l : List In) (f j : Nat) : List In × Int := ((l.drop f).take j).foldl stepA ([], 0)
theorem aheadK_zero (l : List In) (f : Nat) : aheadK l f 0 = ([], 0) := by simp [aheadK]
theorem aheadK_succ {l : List In} {f j : Nat} (h : f + j < l.length) : aheadK l f (j + 1) = stepA (aheadK l f j) l[f + j] := by
  unfold aheadK
  rw [List.take_add_one, List.getElem?_drop, List.getElem?_eq_getElem h, List.foldl_append]
  rfl
theorem aheadK_all {l : List In} {k f : Nat} (h : (beginP l k).1 = (f : Int)) : (aheadK l f (k - f)).1 = aheadP l k := by
  rw [aheadP, h, Int.toNat_natCast, List.drop_take]
  rfl
theorem stepA_len (s : List In × Int) (x : In) : (stepA s x).1.length ≤ s.1.length + 1 := by
  unfold stepA
  simp only
  split
  · simp
  · omega
theorem aheadK_len (l : List In) (f : Nat) : ∀ j, (aheadK l f j).1.length ≤ j ∧ -(j : Int) ≤ (aheadK l f j).2 ∧ (aheadK l f j).2 ≤ j
  | 0 => by simp [aheadK]
  | j + 1 => by
    obtain ⟨h1, h2, h3⟩ := aheadK_len l f j
    rcases Nat.lt_or_ge (f + j) l.length with h | h
    · rw [aheadK_succ h]
      have := stepA_len (aheadK l f j) l[f + j]
      refine ⟨by omega, ?_, ?_⟩ <;> (simp only [stepA, deltaO]; split <;> try split) <;> omega
    · have e : aheadK l f (j + 1) = aheadK l f j := by
        unfold aheadK
        rw [List.take_of_length_le (by simp; omega), List.take_of_length_le (by simp; omega)]
      rw [e]
      omega
theorem attrD_code (l : List In) (a : List UInt8) : ∀ k n, attrD l a k n ≤ 13
  | 0, _ => by simp [attrD]
  | k + 1, n => by
    rw [attrD]
    split
    · omega
    · split
      · split
        · omega
        · exact attrD_code l a k (n + 1)
      · split
        · omega
        · split <;> omega
theorem wrongP_code (l : List In) (k : Nat) : wrongP l k ≤ 13 := by
  unfold wrongP
  split
  · omega
  · unfold wrongAt
    have := attrD_code l
    repeat' split
    all_goals first | omega | exact this _ _ _
theorem firstW_code (l : List In) : ∀ k, firstW l k ≤ 13
  | 0 => by simp [firstW]
  | k + 1 => by
    rw [firstW]
    split
    · exact wrongP_code l k
    · exact firstW_code l k
theorem checkP_code (l : List In) : checkP l ≤ 13 := by
  unfold checkP
  have := firstW_code l l.length
  repeat' split
  all_goals omega
theorem firstW_stays {l : List In} {k : Nat} (h : firstW l k ≠ 0) : ∀ j, firstW l (k + j) = firstW l k
  | 0 => rfl
  | j + 1 => by
    rw [← Nat.add_assoc, firstW, if_neg (by rw [firstW_stays h j]; exact h), firstW_stays h j]
theorem firstW_at {l : List In} {k : Nat} (h : firstW l k = 0) (hw : wrongP l k ≠ 0) (hk : k < l.length) : firstW l l.length = wrongP l k := by
  have h1 : firstW l (k + 1) = wrongP l k := by rw [firstW, if_pos h]
  have h2 := firstW_stays (l := l) (k := k + 1) (by rw [h1]; exact hw) (l.length - (k + 1))
  rw [show k + 1 + (l.length - (k + 1)) = l.length by omega] at h2
  rw [h2, h1]
end Go.Proofs.Ytfjnbjpenibpkaa.P13
