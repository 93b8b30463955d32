/- Slices of integers; cmp.Compare and the three atomic calls; an arena's own blocks. No condition. -/
import Derived.Test.YtddfkeilifcidaaChecked
import Derived.Test.YtddfkeilifcidaaPlain4
import Derived.Test.YtddfkeilifcidaaKind
import Derived.Laws.LoneSync
set_option linter.unusedVariables false
set_option linter.unusedSimpArgs false
namespace Go.Proofs.Ytddfkeilifcidaa.P4
open Go.RowKit Kd

theorem infoI : (Try.prog.info? 3).map (fun i => (i.zero, i.size, i.bytes)) = some (some (.int .i64 0), 1, 8) := by kernel_rfl

theorem info_ex {P : Program} {e : TypeId} {z : Value} {size bytes : Nat} (h : (P.info? e).map (fun i => (i.zero, i.size, i.bytes)) = some (some z, size, bytes)) : ∃ i, P.info? e = some i ∧ i.zero = some z ∧ i.size = size ∧ i.bytes = bytes := by
  obtain ⟨i, h1, h2, h3, h4⟩ := info_parts h
  exact ⟨i, h1, h2, h3, h4⟩

def kI : Kind Try.prog Int where
  t := 55
  e := 3
  size := 1
  bytes := 8
  z := .int .i64 0
  cs := fun a => [.int .i64 a]
  ht := Try.underlying55
  info := info_ex infoI
  hzs := rfl
  hpos := by decide
  hbb := by decide
  len := fun _ => rfl
  one := fun a u hu => by simp at hu; subst hu; rfl

/-! ### cmp.Compare, and the three atomic calls -/
theorem ret_int {a b : Int} (h : a = b) : Ending.returned (.int .i64 a) = .returned (.int .i64 b) := by rw [h]
theorem ret_bool {a b : Bool} (h : a = b) : Ending.returned (.bool a) = .returned (.bool b) := by rw [h]
def cmpA (a b : Int) : Int := if a < b then -1 else if b < a then 1 else 0
theorem cmp_zero (a b : Int) : (a == b) = (cmpA a b == 0) := by
  unfold cmpA
  by_cases h1 : a < b
  · rw [if_pos h1, beq_eq_false_iff_ne.2 (by omega)]; rfl
  · by_cases h2 : b < a
    · rw [if_neg h1, if_pos h2, beq_eq_false_iff_ne.2 (by omega)]; rfl
    · rw [if_neg h1, if_neg h2, beq_iff_eq.2 (by omega)]; rfl
theorem ret_two {p a : Nat} {x y : Bool} (h : p = a) (h2 : x = y) : Ending.returned (.tuple #[.int .i64 a, .bool y]) = .returned (.tuple #[.int .i64 p, .bool x]) := by rw [h, h2]
theorem below_at {α : Type} {N : Int} {l : List (Sl α)} (h : Asc N l) {j : Nat} (hj : j < l.length) {t : Int} (ht : l[j].id < t) {k : Nat} (hk : k < l.length) (hkj : k ≤ j) : l[k].id < t := by
  rcases Nat.lt_or_eq_of_le hkj with hlt | rfl
  · have := asc_lt h hk hj hlt; omega
  · exact ht
theorem above_at {α : Type} {N : Int} {l : List (Sl α)} (h : Asc N l) {j : Nat} (hj : j < l.length) {t : Int} (ht : t ≤ l[j].id) {k : Nat} (hk : k < l.length) (hkj : j ≤ k) : t ≤ l[k].id := by
  rcases Nat.lt_or_eq_of_le hkj with hlt | rfl
  · have := asc_lt h hj hk hlt; omega
  · exact ht
/-- an arena's own blocks: its own, and the one of its slots -/
def Arm (p : Nat) (v : Value) (k : Nat) : Prop := k = p ∨ v.ownBlock = some k
end Go.Proofs.Ytddfkeilifcidaa.P4
