/- Slices of integers; cmp.Compare and the three atomic calls; an arena's own blocks. No condition. -/
import Derived.Test.YtopnadaedcpaaaaChecked
import Derived.Test.YtopnadaedcpaaaaPlain4
import Derived.Test.YtopnadaedcpaaaaKind
import Derived.Laws.LoneSync
namespace Go.Proofs.Ytopnadaedcpaaaa.P4
open Go.RowKit Kd

theorem infoI : (Try.prog.info? 3).map (fun i => (i.zero, i.size, i.bytes)) = some (some (.int .i64 0), 1, 8) := by kernel_rfl

theorem info_ex {P : Program} {e : TypeId} {z : Value} {size bytes : Nat} (h : (P.info? e).map (fun i => (i.zero, i.size, i.bytes)) = some (some z, size, bytes)) : ∃ i, P.info? e = some i ∧ i.zero = some z ∧ i.size = size ∧ i.bytes = bytes := by
  obtain ⟨i, h1, h2, h3, h4⟩ := info_parts h
  exact ⟨i, h1, h2, h3, h4⟩

def kI : Kind Try.prog Int where
  t := 50
  e := 3
  size := 1
  bytes := 8
  z := .int .i64 0
  cs := fun a => [.int .i64 a]
  ht := Try.underlying50
  info := info_ex infoI
  hzs := rfl
  hpos := by decide
  hbb := by decide
  len := fun _ => rfl
  one := fun a u hu => by simp at hu; subst hu; rfl

/-! ### cmp.Compare, and the three atomic calls -/
theorem ret_int {a b : Int} (h : a = b) : Ending.returned (.int .i64 a) = .returned (.int .i64 b) := by rw [h]
theorem ret_bool {a b : Bool} (h : a = b) : Ending.returned (.bool a) = .returned (.bool b) := by rw [h]
def cmpA (a b : Int) : Int := if a < b then -1 else if b < a then 1 else 0
theorem compare_any (a b : Int) (w : World) : Calls Try.prog 77 #[.int .i64 a, .int .i64 b] w fun e w' => e = .returned (.int .i64 (cmpA a b)) ∧ w = w' := by
  have hn : ∀ (x : Int) (w : World), Calls Try.prog 90 #[.int .i64 x] w fun e w' => e = .returned (.bool false) ∧ w = w' := by
    intro x w
    go_enter Try.func90, Try.ntmps90
    go_wp2
    go_ret
    exact ⟨ret_bool (by simp), rfl⟩
  have HN := Lib.hid hn
  clear hn
  by_cases h1 : a < b
  · have h2 : ¬ b < a := by omega
    go_enter Try.func77, Try.ntmps77
    go_wp2_with fail
    refine (HN.out _ _).mono ?_
    rintro e w' ⟨rfl, rfl⟩
    go_wp2_with fail
    refine (HN.out _ _).mono ?_
    rintro e w' ⟨rfl, rfl⟩
    go_wp2
    go_ret
    exact ⟨ret_int (by unfold cmpA; rw [if_pos (by omega)]), rfl⟩
  · by_cases h2 : b < a
    · go_enter Try.func77, Try.ntmps77
      go_wp2_with fail
      refine (HN.out _ _).mono ?_
      rintro e w' ⟨rfl, rfl⟩
      go_wp2_with fail
      refine (HN.out _ _).mono ?_
      rintro e w' ⟨rfl, rfl⟩
      go_wp2
      go_ret
      exact ⟨ret_int (by unfold cmpA; rw [if_neg (by omega), if_pos (by omega)]), rfl⟩
    · go_enter Try.func77, Try.ntmps77
      go_wp2_with fail
      refine (HN.out _ _).mono ?_
      rintro e w' ⟨rfl, rfl⟩
      go_wp2_with fail
      refine (HN.out _ _).mono ?_
      rintro e w' ⟨rfl, rfl⟩
      go_wp2
      go_ret
      exact ⟨ret_int (by unfold cmpA; rw [if_neg (by omega), if_neg (by omega)]), rfl⟩

theorem cmp_zero (a b : Int) : (a == b) = (cmpA a b == 0) := by
  unfold cmpA
  by_cases h1 : a < b
  · rw [if_pos h1, beq_eq_false_iff_ne.2 (by omega)]; rfl
  · by_cases h2 : b < a
    · rw [if_neg h1, if_pos h2, beq_eq_false_iff_ne.2 (by omega)]; rfl
    · rw [if_neg h1, if_neg h2, beq_iff_eq.2 (by omega)]; rfl
theorem ret_two {p a : Nat} {x y : Bool} (h : p = a) (h2 : x = y) : Ending.returned (.tuple #[.int .i64 a, .bool y]) = .returned (.tuple #[.int .i64 p, .bool x]) := by rw [h, h2]
theorem below_at {α : Type} {N : Int} {l : List (Sl α)} (h : Asc N l) {j : Nat} (hj : j < l.length) {t : Int} (ht : l[j].id < t) {k : Nat} (hk : k < l.length) (hkj : k ≤ j) : l[k].id < t := by
  rcases Nat.lt_or_eq_of_le hkj with hlt | rfl
  · have := asc_lt h hk hj hlt; omega
  · exact ht
theorem above_at {α : Type} {N : Int} {l : List (Sl α)} (h : Asc N l) {j : Nat} (hj : j < l.length) {t : Int} (ht : t ≤ l[j].id) {k : Nat} (hk : k < l.length) (hkj : j ≤ k) : t ≤ l[k].id := by
  rcases Nat.lt_or_eq_of_le hkj with hlt | rfl
  · have := asc_lt h hj hk hlt; omega
  · exact ht
/-- an arena's own blocks: its own, and the one of its slots -/
def Arm (p : Nat) (v : Value) (k : Nat) : Prop := k = p ∨ v.ownBlock = some k
theorem load_any (b o : Nat) (x : Int) (w : World) (hc : w.cell? ⟨b, o, none⟩ = some (.int .i64 x)) :
    Calls Try.prog 55 #[.pointer (some ⟨b, o, none⟩)] w fun e w' => e = .returned (.int .i64 x) ∧ w = w' := by
  have hl := run_call_load (P := Try.prog) (f := 79) Try.func79 (by kernel_rfl) (by kernel_rfl) (by kernel_rfl) .i64 rfl hc
  go_enter Try.func55, Try.ntmps55
  go_wp2
  go_ret
  exact ⟨rfl, rfl⟩
theorem add_any (b o : Nat) (x : Int) (w : World) (hx : 0 ≤ x) (hx2 : x ≤ 1000000) (hc : w.cell? ⟨b, o, none⟩ = some (.int .i64 x)) (hf : w.frozen? ⟨b, o, none⟩ = false) :
    Calls Try.prog 74 #[.pointer (some ⟨b, o, none⟩), .int .i64 1] w fun e w' => e = .returned (.int .i64 (x + 1)) ∧ w.setCell ⟨b, o, none⟩ (.int .i64 (x + 1)) = w' := by
  have hl := run_call_add (P := Try.prog) (f := 89) Try.func89 (by kernel_rfl) (by kernel_rfl) (by kernel_rfl) .i64 rfl (y := 1) (s := x + 1) hc hf (by simp [go_sem, IntKind.wrap_i64]; omega)
  go_enter Try.func74, Try.ntmps74
  go_wp2
  go_ret
  exact ⟨rfl, rfl⟩
theorem store_any (b o : Nat) (x : Int) (u : Value) (w : World) (hc : w.cell? ⟨b, o, none⟩ = some u) (hf : w.frozen? ⟨b, o, none⟩ = false) :
    Calls Try.prog 54 #[.pointer (some ⟨b, o, none⟩), .int .i64 x] w fun e w' => e = .returned (.tuple #[]) ∧ w.setCell ⟨b, o, none⟩ (.int .i64 x) = w' := by
  have hl := run_call_store (P := Try.prog) (f := 78) Try.func78 (by kernel_rfl) (by kernel_rfl) (by kernel_rfl) rfl (k := .i64) (y := x) hc hf
  go_enter Try.func54, Try.ntmps54
  go_wp2
  go_end0
  exact ⟨rfl, rfl⟩
end Go.Proofs.Ytopnadaedcpaaaa.P4
