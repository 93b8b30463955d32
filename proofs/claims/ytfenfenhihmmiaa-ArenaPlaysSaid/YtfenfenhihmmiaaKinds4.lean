/- The slices that layer 4 has: of integers, of slots, of the law's deeds; an arena as it lies in memory. No condition. -/
import Derived.Test.YtfenfenhihmmiaaChecked
import Derived.Test.YtfenfenhihmmiaaPlain4
import Derived.Test.YtfenfenhihmmiaaKind
import Derived.Laws.LoneSync
namespace Go.Proofs.Ytfenfenhihmmiaa.P4
open Go.RowKit Kd

theorem infoI : (Try.prog.info? 3).map (fun i => (i.zero, i.size, i.bytes)) = some (some (.int .i64 0), 1, 8) := by kernel_rfl
theorem infoD : (Try.prog.info? 32).map (fun i => (i.zero, i.size, i.bytes)) = some (some (.agg #[.int .i64 0, .int .i64 0, .int .i64 0]), 3, 24) := by kernel_rfl
theorem infoSI : (Try.prog.info? 62).map (fun i => (i.zero, i.size, i.bytes)) = some (some (.agg #[.int .i64 0, .int .i64 0]), 2, 16) := by kernel_rfl
theorem infoSS : (Try.prog.info? 71).map (fun i => (i.zero, i.size, i.bytes)) = some (some (.agg #[.int .i64 0, .string ⟨#[]⟩]), 2, 24) := by kernel_rfl

theorem info_ex {P : Program} {e : TypeId} {z : Value} {size bytes : Nat} (h : (P.info? e).map (fun i => (i.zero, i.size, i.bytes)) = some (some z, size, bytes)) : ∃ i, P.info? e = some i ∧ i.zero = some z ∧ i.size = size ∧ i.bytes = bytes := by
  obtain ⟨i, h1, h2, h3, h4⟩ := info_parts h
  exact ⟨i, h1, h2, h3, h4⟩

/-- a deed of the law -/
structure Deed where
  what : Int
  id : Int
  n : Int

def kI : Kind Try.prog Int where
  t := 30
  e := 3
  size := 1
  bytes := 8
  z := .int .i64 0
  cs := fun a => [.int .i64 a]
  ht := Try.underlying30
  info := info_ex infoI
  hzs := rfl
  hpos := by decide
  hbb := by decide
  len := fun _ => rfl
  one := fun a u hu => by simp at hu; subst hu; rfl
def kD : Kind Try.prog Deed where
  t := 22
  e := 32
  size := 3
  bytes := 24
  z := .agg #[.int .i64 0, .int .i64 0, .int .i64 0]
  cs := fun a => [.int .i64 a.what, .int .i64 a.id, .int .i64 a.n]
  ht := Try.underlying22
  info := info_ex infoD
  hzs := rfl
  hpos := by decide
  hbb := by decide
  len := fun _ => rfl
  one := fun a u hu => by simp at hu; rcases hu with rfl | rfl | rfl <;> rfl
def kSI : Kind Try.prog (Sl Int) where
  t := 57
  e := 62
  size := 2
  bytes := 16
  z := .agg #[.int .i64 0, .int .i64 0]
  cs := fun a => [.int .i64 a.id, .int .i64 a.x]
  ht := Try.underlying57
  info := info_ex infoSI
  hzs := rfl
  hpos := by decide
  hbb := by decide
  len := fun _ => rfl
  one := fun a u hu => by simp at hu; rcases hu with rfl | rfl <;> rfl
def kSS : Kind Try.prog (Sl ByteArray) where
  t := 67
  e := 71
  size := 2
  bytes := 24
  z := .agg #[.int .i64 0, .string ⟨#[]⟩]
  cs := fun a => [.int .i64 a.id, .string a.x]
  ht := Try.underlying67
  info := info_ex infoSS
  hzs := rfl
  hpos := by decide
  hbb := by decide
  len := fun _ => rfl
  one := fun a u hu => by simp at hu; rcases hu with rfl | rfl <;> rfl

/-! ### cmp.Compare, and the three atomic calls -/
theorem ret_int {a b : Int} (h : a = b) : Ending.returned (.int .i64 a) = .returned (.int .i64 b) := by rw [h]
theorem ret_bool {a b : Bool} (h : a = b) : Ending.returned (.bool a) = .returned (.bool b) := by rw [h]
def cmpA (a b : Int) : Int := if a < b then -1 else if b < a then 1 else 0
theorem compare_any (a b : Int) (w : World) : Calls Try.prog 34 #[.int .i64 a, .int .i64 b] w fun e w' => e = .returned (.int .i64 (cmpA a b)) ∧ w = w' := by
  have hn : ∀ (x : Int) (w : World), Calls Try.prog 39 #[.int .i64 x] w fun e w' => e = .returned (.bool false) ∧ w = w' := by
    intro x w
    go_enter Try.func39, Try.ntmps39
    go_wp2
    go_ret
    exact ⟨ret_bool (by simp), rfl⟩
  have HN := Lib.hid hn
  clear hn
  by_cases h1 : a < b
  · have h2 : ¬ b < a := by omega
    go_enter Try.func34, Try.ntmps34
    go_wp2_with fail
    refine (HN.out _ _).mono ?_
    rintro e w' ⟨rfl, rfl⟩
    go_wp2_with fail
    refine (HN.out _ _).mono ?_
    rintro e w' ⟨rfl, rfl⟩
    go_wp2
    go_ret
    exact ⟨ret_int (by unfold cmpA; rw [if_pos (by omega)]), rfl⟩
  · by_cases h2 : b < a
    · go_enter Try.func34, Try.ntmps34
      go_wp2_with fail
      refine (HN.out _ _).mono ?_
      rintro e w' ⟨rfl, rfl⟩
      go_wp2_with fail
      refine (HN.out _ _).mono ?_
      rintro e w' ⟨rfl, rfl⟩
      go_wp2
      go_ret
      exact ⟨ret_int (by unfold cmpA; rw [if_neg (by omega), if_pos (by omega)]), rfl⟩
    · go_enter Try.func34, Try.ntmps34
      go_wp2_with fail
      refine (HN.out _ _).mono ?_
      rintro e w' ⟨rfl, rfl⟩
      go_wp2_with fail
      refine (HN.out _ _).mono ?_
      rintro e w' ⟨rfl, rfl⟩
      go_wp2
      go_ret
      exact ⟨ret_int (by unfold cmpA; rw [if_neg (by omega), if_neg (by omega)]), rfl⟩

theorem cmp_zero (a b : Int) : (a == b) = (cmpA a b == 0) := by
  unfold cmpA
  by_cases h1 : a < b
  · rw [if_pos h1, beq_eq_false_iff_ne.2 (by omega)]; rfl
  · by_cases h2 : b < a
    · rw [if_neg h1, if_pos h2, beq_eq_false_iff_ne.2 (by omega)]; rfl
    · rw [if_neg h1, if_neg h2, beq_iff_eq.2 (by omega)]; rfl
theorem ret_two {p a : Nat} {x y : Bool} (h : p = a) (h2 : x = y) : Ending.returned (.tuple #[.int .i64 a, .bool y]) = .returned (.tuple #[.int .i64 p, .bool x]) := by rw [h, h2]
theorem below_at {α : Type} {N : Int} {l : List (Sl α)} (h : Asc N l) {j : Nat} (hj : j < l.length) {t : Int} (ht : l[j].id < t) {k : Nat} (hk : k < l.length) (hkj : k ≤ j) : l[k].id < t := by
  rcases Nat.lt_or_eq_of_le hkj with hlt | rfl
  · have := asc_lt h hk hj hlt; omega
  · exact ht
theorem above_at {α : Type} {N : Int} {l : List (Sl α)} (h : Asc N l) {j : Nat} (hj : j < l.length) {t : Int} (ht : t ≤ l[j].id) {k : Nat} (hk : k < l.length) (hkj : j ≤ k) : t ≤ l[k].id := by
  rcases Nat.lt_or_eq_of_le hkj with hlt | rfl
  · have := asc_lt h hj hk hlt; omega
  · exact ht
/-- an arena's own blocks: its own, and the one of its slots -/
def Arm (p : Nat) (v : Value) (k : Nat) : Prop := k = p ∨ v.ownBlock = some k
theorem load_any (b o : Nat) (x : Int) (w : World) (hc : w.cell? ⟨b, o, none⟩ = some (.int .i64 x)) :
    Calls Try.prog 28 #[.pointer (some ⟨b, o, none⟩)] w fun e w' => e = .returned (.int .i64 x) ∧ w = w' := by
  have hl := run_call_load (P := Try.prog) (f := 36) Try.func36 (by kernel_rfl) (by kernel_rfl) (by kernel_rfl) .i64 rfl hc
  go_enter Try.func28, Try.ntmps28
  go_wp2
  go_ret
  exact ⟨rfl, rfl⟩
theorem add_any (b o : Nat) (x : Int) (w : World) (hx : 0 ≤ x) (hx2 : x ≤ 1000000) (hc : w.cell? ⟨b, o, none⟩ = some (.int .i64 x)) (hf : w.frozen? ⟨b, o, none⟩ = false) :
    Calls Try.prog 23 #[.pointer (some ⟨b, o, none⟩), .int .i64 1] w fun e w' => e = .returned (.int .i64 (x + 1)) ∧ w.setCell ⟨b, o, none⟩ (.int .i64 (x + 1)) = w' := by
  have hl := run_call_add (P := Try.prog) (f := 31) Try.func31 (by kernel_rfl) (by kernel_rfl) (by kernel_rfl) .i64 rfl (y := 1) (s := x + 1) hc hf (by simp [go_sem, IntKind.wrap_i64]; omega)
  go_enter Try.func23, Try.ntmps23
  go_wp2
  go_ret
  exact ⟨rfl, rfl⟩
theorem store_any (b o : Nat) (x : Int) (u : Value) (w : World) (hc : w.cell? ⟨b, o, none⟩ = some u) (hf : w.frozen? ⟨b, o, none⟩ = false) :
    Calls Try.prog 27 #[.pointer (some ⟨b, o, none⟩), .int .i64 x] w fun e w' => e = .returned (.tuple #[]) ∧ w.setCell ⟨b, o, none⟩ (.int .i64 x) = w' := by
  have hl := run_call_store (P := Try.prog) (f := 35) Try.func35 (by kernel_rfl) (by kernel_rfl) (by kernel_rfl) rfl (k := .i64) (y := x) hc hf
  go_enter Try.func27, Try.ntmps27
  go_wp2
  go_end0
  exact ⟨rfl, rfl⟩
end Go.Proofs.Ytfenfenhihmmiaa.P4
