/- Trees: layer 8's example, and the walk of TreeTells, over the contracts of the program's calls. -/
import Derived.Deep.RegionWith
import Derived.Test.YtkagaobelhpojaaGreatM33
set_option linter.unusedVariables false
set_option linter.unusedSimpArgs false
namespace Go.Proofs.YtkagaobelhpojaaGreat.P8
open Go.RowKit Kd P4 P5

/-! ### What the program's calls are to do -/
def MayC : Prop := ∀ (t : TV) (w : World), TOk w w.heap.size t → fewP (er t) = true → countP (er t) ≤ 1000 → Calls Tryz.prog 21 #[.agg #[.string t.tag, .string t.txt, .string t.key, .slice t.sa.A t.sa.n t.sa.c, .slice t.sk.A t.sk.n t.sk.c]] w fun e w' => e = .returned (.bool (mayP (er t))) ∧ Below w.heap.size w w'
def CountC : Prop := ∀ (t : TV) (w : World), TOk w w.heap.size t → countP (er t) ≤ 1000 → Calls Tryz.prog 20 #[.agg #[.string t.tag, .string t.txt, .string t.key, .slice t.sa.A t.sa.n t.sa.c, .slice t.sk.A t.sk.n t.sk.c]] w fun e w' => e = .returned (.int .i64 (countP (er t) : Nat)) ∧ Below w.heap.size w w'
def SameC : Prop := ∀ (t u : TV) (w : World), TOk w w.heap.size t → TOk w w.heap.size u → fewP (er t) = true → fewP (er u) = true → countP (er t) ≤ 1000 → countP (er u) ≤ 1000 → Calls Tryz.prog 22 #[.agg #[.string t.tag, .string t.txt, .string t.key, .slice t.sa.A t.sa.n t.sa.c, .slice t.sk.A t.sk.n t.sk.c], .agg #[.string u.tag, .string u.txt, .string u.key, .slice u.sa.A u.sa.n u.sa.c, .slice u.sk.A u.sk.n u.sk.c]] w fun e w' => e = .returned (.bool (sameP (er t) (er u))) ∧ Below w.heap.size w w'
def OfNilC : Prop := ∀ w : World, Calls Tryz.prog 16 #[.pointer none, .int .i64 1] w fun e w' => e = .returned (.tuple #[.agg #[.string ⟨#[]⟩, .string ⟨#[]⟩, .string ⟨#[]⟩, .slice none 0 0, .slice none 0 0], .bool false]) ∧ Below w.heap.size w w'

/-! ### The example -/
def txtT (b : UInt8) : TV := .mk ⟨#[]⟩ ⟨#[b]⟩ ⟨#[]⟩ ⟨none, 0, 0⟩ [] ⟨none, 0, 0⟩ []
def upT (s : Nat) : TV := .mk ⟨#[112]⟩ ⟨#[]⟩ ⟨#[]⟩ ⟨none, 0, 0⟩ [] ⟨some ⟨s, 0, none⟩, 2, 2⟩ [txtT 97, txtT 98]
def brT (s : Nat) : TV := .mk ⟨#[98, 114]⟩ ⟨#[]⟩ ⟨#[]⟩ ⟨none, 0, 0⟩ [] ⟨some ⟨s, 0, none⟩, 2, 2⟩ [txtT 97, txtT 98]
theorem txt_ok (w : World) (C : Nat) (b : UInt8) : TOk w C (txtT b) := ⟨rfl, Nat.le_refl _, fun _ => rfl, Kind.Holds.nil _ _ _, rfl, Nat.le_refl _, fun _ => rfl, Kind.Holds.nil _ _ _, fun k hk => by cases hk⟩
section
variable {w : World} {s : Nat}
theorem kids_ok (h : w.heap[s]? = some (.cells #[.string ⟨#[]⟩, .string ⟨#[97]⟩, .string ⟨#[]⟩, .slice none 0 0, .slice none 0 0, .string ⟨#[]⟩, .string ⟨#[98]⟩, .string ⟨#[]⟩, .slice none 0 0, .slice none 0 0] 26 (0, 0))) : kT.Holds w w.heap.size (some ⟨s, 0, none⟩) [txtT 97, txtT 98] := (Kind.Holds.lit h rfl).more (heap_lt h)
theorem up_ok (h : w.heap[s]? = some (.cells #[.string ⟨#[]⟩, .string ⟨#[97]⟩, .string ⟨#[]⟩, .slice none 0 0, .slice none 0 0, .string ⟨#[]⟩, .string ⟨#[98]⟩, .string ⟨#[]⟩, .slice none 0 0, .slice none 0 0] 26 (0, 0))) : TOk w w.heap.size (upT s) :=
  ⟨rfl, Nat.le_refl _, fun _ => rfl, Kind.Holds.nil _ _ _, rfl, Nat.le_refl _, (fun e => by cases e), kids_ok h, fun k hk => by
    rcases List.mem_cons.1 hk with rfl | hk
    · exact txt_ok _ _ _
    · rw [List.mem_singleton.1 hk]; exact txt_ok _ _ _⟩
theorem br_ok (h : w.heap[s]? = some (.cells #[.string ⟨#[]⟩, .string ⟨#[97]⟩, .string ⟨#[]⟩, .slice none 0 0, .slice none 0 0, .string ⟨#[]⟩, .string ⟨#[98]⟩, .string ⟨#[]⟩, .slice none 0 0, .slice none 0 0] 26 (0, 0))) : TOk w w.heap.size (brT s) :=
  ⟨rfl, Nat.le_refl _, fun _ => rfl, Kind.Holds.nil _ _ _, rfl, Nat.le_refl _, (fun e => by cases e), kids_ok h, fun k hk => by
    rcases List.mem_cons.1 hk with rfl | hk
    · exact txt_ok _ _ _
    · rw [List.mem_singleton.1 hk]; exact txt_ok _ _ _⟩
end
theorem up_count (s : Nat) : countP (er (upT s)) = 3 := by simp [upT, txtT, er, erL, countP, countL]
theorem br_count (s : Nat) : countP (er (brT s)) = 3 := by simp [brT, txtT, er, erL, countP, countL]
theorem up_few (s : Nat) : fewP (er (upT s)) = true := by
  simp only [upT, txtT, er, erL, fewP, fewL]
  decide
theorem br_few (s : Nat) : fewP (er (brT s)) = true := by
  simp only [brT, txtT, er, erL, fewP, fewL]
  decide
theorem l0 : (⟨#[]⟩ : ByteArray).toList = [] := by rw [ByteArray.toList_eq]
theorem l112 : (⟨#[112]⟩ : ByteArray).toList = [112] := by rw [ByteArray.toList_eq]
theorem lbr : (⟨#[98, 114]⟩ : ByteArray).toList = [98, 114] := by rw [ByteArray.toList_eq]
theorem up_may (s : Nat) : mayP (er (upT s)) = true := by
  simp only [upT, txtT, er, erL, mayP, mayL, l0, l112]
  decide
theorem br_may (s : Nat) : mayP (er (brT s)) = false := by
  simp only [brT, txtT, er, erL, mayP, mayL, l0, lbr]
  decide
set_option maxHeartbeats 4000000 in
theorem up8_any (PM : MayC) (PC : CountC) (PS : SameC) (PO : OfNilC) (w : World) : Calls Tryz.prog 4 #[] w fun e w' => e = .returned (.bool true) ∧ Below w.heap.size w w' := by
  have B1 : Hid (Below w.heap.size w ((w.alloc (.cells #[.string ⟨#[]⟩, .string ⟨#[97]⟩, .string ⟨#[]⟩, .slice none 0 0, .slice none 0 0, .string ⟨#[]⟩, .string ⟨#[98]⟩, .string ⟨#[]⟩, .slice none 0 0, .slice none 0 0] 26)).alloc (.cells #[.string ⟨#[112]⟩, .string ⟨#[]⟩, .string ⟨#[]⟩, .slice none 0 0, .slice (some ⟨w.heap.size, 0, none⟩) 2 2] 26))) := Lib.hid (((Below.refl _ _).alloc (Nat.le_refl _) _).alloc (by simp) _)
  have K1 : Hid (((w.alloc (.cells #[.string ⟨#[]⟩, .string ⟨#[97]⟩, .string ⟨#[]⟩, .slice none 0 0, .slice none 0 0, .string ⟨#[]⟩, .string ⟨#[98]⟩, .string ⟨#[]⟩, .slice none 0 0, .slice none 0 0] 26)).alloc (.cells #[.string ⟨#[112]⟩, .string ⟨#[]⟩, .string ⟨#[]⟩, .slice none 0 0, .slice (some ⟨w.heap.size, 0, none⟩) 2 2] 26)).heap[w.heap.size]? = some (.cells #[.string ⟨#[]⟩, .string ⟨#[97]⟩, .string ⟨#[]⟩, .slice none 0 0, .slice none 0 0, .string ⟨#[]⟩, .string ⟨#[98]⟩, .string ⟨#[]⟩, .slice none 0 0, .slice none 0 0] 26 (0, 0))) := Lib.hid (heap_up (heap_alloc_new w _))
  have N1 : Hid (TB ((w.alloc (.cells #[.string ⟨#[]⟩, .string ⟨#[97]⟩, .string ⟨#[]⟩, .slice none 0 0, .slice none 0 0, .string ⟨#[]⟩, .string ⟨#[98]⟩, .string ⟨#[]⟩, .slice none 0 0, .slice none 0 0] 26)).alloc (.cells #[.string ⟨#[112]⟩, .string ⟨#[]⟩, .string ⟨#[]⟩, .slice none 0 0, .slice (some ⟨w.heap.size, 0, none⟩) 2 2] 26)) (w.heap.size + 1) (upT w.heap.size)) := Lib.hid (heap_top (by simp))
  go_enter Tryz.func4, Tryz.ntmps4
  go_upto_region 2 with fail
  generalize (w.alloc (.cells #[.string ⟨#[]⟩, .string ⟨#[97]⟩, .string ⟨#[]⟩, .slice none 0 0, .slice none 0 0, .string ⟨#[]⟩, .string ⟨#[98]⟩, .string ⟨#[]⟩, .slice none 0 0, .slice none 0 0] 26)).alloc (.cells #[.string ⟨#[112]⟩, .string ⟨#[]⟩, .string ⟨#[]⟩, .slice none 0 0, .slice (some ⟨w.heap.size, 0, none⟩) 2 2] 26) = W at B1 K1 N1 ⊢
  go_wp2_with fail
  refine (PO W).mono ?_
  rintro e w2 ⟨rfl, b2⟩
  have B2 := Lib.hid (B1.out.trans (b2.mono B1.out.size))
  have K2 : Hid (w2.heap[w.heap.size]? = some (.cells #[.string ⟨#[]⟩, .string ⟨#[97]⟩, .string ⟨#[]⟩, .slice none 0 0, .slice none 0 0, .string ⟨#[]⟩, .string ⟨#[98]⟩, .string ⟨#[]⟩, .slice none 0 0, .slice none 0 0] 26 (0, 0))) := Lib.hid ((b2.block _ (heap_lt K1.out)).trans K1.out)
  have N2 := Lib.hid (N1.out.below b2 N1.out.lt)
  clear b2
  have B3 : Hid (Below w.heap.size w (w2.alloc (.cells #[.string ⟨#[]⟩, .string ⟨#[]⟩, .string ⟨#[]⟩, .slice none 0 0, .slice none 0 0] 26))) := Lib.hid (B2.out.alloc B2.out.size _)
  have K3 : Hid ((w2.alloc (.cells #[.string ⟨#[]⟩, .string ⟨#[]⟩, .string ⟨#[]⟩, .slice none 0 0, .slice none 0 0] 26)).heap[w.heap.size]? = some (.cells #[.string ⟨#[]⟩, .string ⟨#[97]⟩, .string ⟨#[]⟩, .slice none 0 0, .slice none 0 0, .string ⟨#[]⟩, .string ⟨#[98]⟩, .string ⟨#[]⟩, .slice none 0 0, .slice none 0 0] 26 (0, 0))) := Lib.hid (heap_up K2.out)
  have N3 : Hid (TB (w2.alloc (.cells #[.string ⟨#[]⟩, .string ⟨#[]⟩, .string ⟨#[]⟩, .slice none 0 0, .slice none 0 0] 26)) (w.heap.size + 1) (upT w.heap.size)) := Lib.hid (heap_up N2.out)
  go_upto_region 3 with fail
  generalize w2.alloc (.cells #[.string ⟨#[]⟩, .string ⟨#[]⟩, .string ⟨#[]⟩, .slice none 0 0, .slice none 0 0] 26) = W3 at B3 K3 N3 ⊢
  clear B1 B2 K1 K2 N1 N2
  have UP : Hid (∀ w9, Below W3.heap.size W3 w9 → TOk w9 w9.heap.size (upT w.heap.size)) := Lib.hid (fun w9 h => up_ok ((h.block _ (heap_lt K3.out)).trans K3.out))
  have BR : Hid (∀ w9, Below W3.heap.size W3 w9 → TOk w9 w9.heap.size (brT w.heap.size)) := Lib.hid (fun w9 h => br_ok ((h.block _ (heap_lt K3.out)).trans K3.out))
  have CC : Hid (∀ w9, Below W3.heap.size W3 w9 → Calls Tryz.prog 20 #[.agg #[.string ⟨#[112]⟩, .string ⟨#[]⟩, .string ⟨#[]⟩, .slice none 0 0, .slice (some ⟨w.heap.size, 0, none⟩) 2 2]] w9 fun e w' => e = .returned (.int .i64 3) ∧ Below w9.heap.size w9 w') := Lib.hid (fun w9 h => by have := PC (upT w.heap.size) w9 (UP.out w9 h) (by rw [up_count]; omega); rw [up_count] at this; exact this)
  have CM : Hid (∀ w9, Below W3.heap.size W3 w9 → Calls Tryz.prog 21 #[.agg #[.string ⟨#[112]⟩, .string ⟨#[]⟩, .string ⟨#[]⟩, .slice none 0 0, .slice (some ⟨w.heap.size, 0, none⟩) 2 2]] w9 fun e w' => e = .returned (.bool true) ∧ Below w9.heap.size w9 w') := Lib.hid (fun w9 h => by have := PM (upT w.heap.size) w9 (UP.out w9 h) (up_few w.heap.size) (by rw [up_count]; omega); rw [up_may] at this; exact this)
  have CB : Hid (∀ w9, Below W3.heap.size W3 w9 → Calls Tryz.prog 21 #[.agg #[.string ⟨#[98, 114]⟩, .string ⟨#[]⟩, .string ⟨#[]⟩, .slice none 0 0, .slice (some ⟨w.heap.size, 0, none⟩) 2 2]] w9 fun e w' => e = .returned (.bool false) ∧ Below w9.heap.size w9 w') := Lib.hid (fun w9 h => by have := PM (brT w.heap.size) w9 (BR.out w9 h) (br_few w.heap.size) (by rw [br_count]; omega); rw [br_may] at this; exact this)
  have CS : Hid (∀ w9, Below W3.heap.size W3 w9 → Calls Tryz.prog 22 #[.agg #[.string ⟨#[112]⟩, .string ⟨#[]⟩, .string ⟨#[]⟩, .slice none 0 0, .slice (some ⟨w.heap.size, 0, none⟩) 2 2], .agg #[.string ⟨#[112]⟩, .string ⟨#[]⟩, .string ⟨#[]⟩, .slice none 0 0, .slice (some ⟨w.heap.size, 0, none⟩) 2 2]] w9 fun e w' => e = .returned (.bool true) ∧ Below w9.heap.size w9 w') := Lib.hid (fun w9 h => by have := PS (upT w.heap.size) (upT w.heap.size) w9 (UP.out w9 h) (UP.out w9 h) (up_few w.heap.size) (up_few w.heap.size) (by rw [up_count]; omega) (by rw [up_count]; omega); rw [sameP_refl] at this; exact this)
  have R3 : Hid (Below W3.heap.size W3 W3) := Lib.hid (Below.refl _ _)
  have a0 : W3.cell? ⟨w.heap.size + 1, 0, none⟩ = some (.string ⟨#[112]⟩) := N3.out.c0
  have a1 : W3.cell? ⟨w.heap.size + 1, 1, none⟩ = some (.string ⟨#[]⟩) := N3.out.c1
  have a2 : W3.cell? ⟨w.heap.size + 1, 2, none⟩ = some (.string ⟨#[]⟩) := N3.out.c2
  have a3 : W3.cell? ⟨w.heap.size + 1, 3, none⟩ = some (.slice none 0 0) := N3.out.c3
  have a4 : W3.cell? ⟨w.heap.size + 1, 4, none⟩ = some (.slice (some ⟨w.heap.size, 0, none⟩) 2 2) := N3.out.c4
  go_wp2_with fail
  refine (CC.out _ R3.out).mono ?_
  rintro e w4 ⟨rfl, b5⟩
  have R4 : Hid (Below W3.heap.size W3 w4) := Lib.hid (R3.out.trans (b5.mono R3.out.size))
  have N4 := Lib.hid (N3.out.below R4.out N3.out.lt)
  clear b5 a0 a1 a2 a3 a4
  have a0 : w4.cell? ⟨w.heap.size + 1, 0, none⟩ = some (.string ⟨#[112]⟩) := N4.out.c0
  have a1 : w4.cell? ⟨w.heap.size + 1, 1, none⟩ = some (.string ⟨#[]⟩) := N4.out.c1
  have a2 : w4.cell? ⟨w.heap.size + 1, 2, none⟩ = some (.string ⟨#[]⟩) := N4.out.c2
  have a3 : w4.cell? ⟨w.heap.size + 1, 3, none⟩ = some (.slice none 0 0) := N4.out.c3
  have a4 : w4.cell? ⟨w.heap.size + 1, 4, none⟩ = some (.slice (some ⟨w.heap.size, 0, none⟩) 2 2) := N4.out.c4
  go_wp2_with fail
  refine (CM.out _ R4.out).mono ?_
  rintro e w5 ⟨rfl, b5⟩
  have R5 : Hid (Below W3.heap.size W3 w5) := Lib.hid (R4.out.trans (b5.mono R4.out.size))
  have N5 := Lib.hid (N3.out.below R5.out N3.out.lt)
  clear b5 a0 a1 a2 a3 a4
  have a0 : w5.cell? ⟨w.heap.size + 1, 0, none⟩ = some (.string ⟨#[112]⟩) := N5.out.c0
  have a1 : w5.cell? ⟨w.heap.size + 1, 1, none⟩ = some (.string ⟨#[]⟩) := N5.out.c1
  have a2 : w5.cell? ⟨w.heap.size + 1, 2, none⟩ = some (.string ⟨#[]⟩) := N5.out.c2
  have a3 : w5.cell? ⟨w.heap.size + 1, 3, none⟩ = some (.slice none 0 0) := N5.out.c3
  have a4 : w5.cell? ⟨w.heap.size + 1, 4, none⟩ = some (.slice (some ⟨w.heap.size, 0, none⟩) 2 2) := N5.out.c4
  go_wp2_with fail
  refine (CB.out _ R5.out).mono ?_
  rintro e w6 ⟨rfl, b5⟩
  have R6 : Hid (Below W3.heap.size W3 w6) := Lib.hid (R5.out.trans (b5.mono R5.out.size))
  have N6 := Lib.hid (N3.out.below R6.out N3.out.lt)
  clear b5 a0 a1 a2 a3 a4
  have a0 : w6.cell? ⟨w.heap.size + 1, 0, none⟩ = some (.string ⟨#[112]⟩) := N6.out.c0
  have a1 : w6.cell? ⟨w.heap.size + 1, 1, none⟩ = some (.string ⟨#[]⟩) := N6.out.c1
  have a2 : w6.cell? ⟨w.heap.size + 1, 2, none⟩ = some (.string ⟨#[]⟩) := N6.out.c2
  have a3 : w6.cell? ⟨w.heap.size + 1, 3, none⟩ = some (.slice none 0 0) := N6.out.c3
  have a4 : w6.cell? ⟨w.heap.size + 1, 4, none⟩ = some (.slice (some ⟨w.heap.size, 0, none⟩) 2 2) := N6.out.c4
  go_wp2_with fail
  refine (CS.out _ R6.out).mono ?_
  rintro e w7 ⟨rfl, b5⟩
  have R7 : Hid (Below W3.heap.size W3 w7) := Lib.hid (R6.out.trans (b5.mono R6.out.size))
  have N7 := Lib.hid (N3.out.below R7.out N3.out.lt)
  clear b5 a0 a1 a2 a3 a4
  have a0 : w7.cell? ⟨w.heap.size + 1, 0, none⟩ = some (.string ⟨#[112]⟩) := N7.out.c0
  have a1 : w7.cell? ⟨w.heap.size + 1, 1, none⟩ = some (.string ⟨#[]⟩) := N7.out.c1
  have a2 : w7.cell? ⟨w.heap.size + 1, 2, none⟩ = some (.string ⟨#[]⟩) := N7.out.c2
  have a3 : w7.cell? ⟨w.heap.size + 1, 3, none⟩ = some (.slice none 0 0) := N7.out.c3
  have a4 : w7.cell? ⟨w.heap.size + 1, 4, none⟩ = some (.slice (some ⟨w.heap.size, 0, none⟩) 2 2) := N7.out.c4
  go_wp2_with fail
  go_ret
  exact ⟨rfl, B3.out.trans (R7.out.mono B3.out.size)⟩

/-! ### TreeTells -/
end Go.Proofs.YtkagaobelhpojaaGreat.P8
