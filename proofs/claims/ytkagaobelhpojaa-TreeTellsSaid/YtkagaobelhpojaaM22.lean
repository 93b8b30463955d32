/- Trees: layer 8's example, and the walk of TreeTells, over the contracts of the program's calls. -/
import Derived.Deep.RegionWith
import Derived.Test.YtkagaobelhpojaaM9
import Derived.Test.YtkagaobelhpojaaM21
set_option linter.unusedVariables false
set_option linter.unusedSimpArgs false
namespace Go.Proofs.Ytkagaobelhpojaa.P8
open Go.RowKit Kd P4 P5

/-! ### What the program's calls are to do -/
def MayC : Prop := ∀ (t : TV) (w : World), TOk w w.heap.size t → fewP (er t) = true → countP (er t) ≤ 1000 → Calls Try.prog 32 #[.agg #[.string t.tag, .string t.txt, .string t.key, .slice t.sa.A t.sa.n t.sa.c, .slice t.sk.A t.sk.n t.sk.c]] w fun e w' => e = .returned (.bool (mayP (er t))) ∧ Below w.heap.size w w'
def CountC : Prop := ∀ (t : TV) (w : World), TOk w w.heap.size t → countP (er t) ≤ 1000 → Calls Try.prog 34 #[.agg #[.string t.tag, .string t.txt, .string t.key, .slice t.sa.A t.sa.n t.sa.c, .slice t.sk.A t.sk.n t.sk.c]] w fun e w' => e = .returned (.int .i64 (countP (er t) : Nat)) ∧ Below w.heap.size w w'
def SameC : Prop := ∀ (t u : TV) (w : World), TOk w w.heap.size t → TOk w w.heap.size u → fewP (er t) = true → fewP (er u) = true → countP (er t) ≤ 1000 → countP (er u) ≤ 1000 → Calls Try.prog 36 #[.agg #[.string t.tag, .string t.txt, .string t.key, .slice t.sa.A t.sa.n t.sa.c, .slice t.sk.A t.sk.n t.sk.c], .agg #[.string u.tag, .string u.txt, .string u.key, .slice u.sa.A u.sa.n u.sa.c, .slice u.sk.A u.sk.n u.sk.c]] w fun e w' => e = .returned (.bool (sameP (er t) (er u))) ∧ Below w.heap.size w w'
def OfNilC : Prop := ∀ w : World, Calls Try.prog 39 #[.pointer none, .int .i64 1] w fun e w' => e = .returned (.tuple #[.agg #[.string ⟨#[]⟩, .string ⟨#[]⟩, .string ⟨#[]⟩, .slice none 0 0, .slice none 0 0], .bool false]) ∧ Below w.heap.size w w'

/-! ### The example -/
def txtT (b : UInt8) : TV := .mk ⟨#[]⟩ ⟨#[b]⟩ ⟨#[]⟩ ⟨none, 0, 0⟩ [] ⟨none, 0, 0⟩ []
def upT (s : Nat) : TV := .mk ⟨#[112]⟩ ⟨#[]⟩ ⟨#[]⟩ ⟨none, 0, 0⟩ [] ⟨some ⟨s, 0, none⟩, 2, 2⟩ [txtT 97, txtT 98]
def brT (s : Nat) : TV := .mk ⟨#[98, 114]⟩ ⟨#[]⟩ ⟨#[]⟩ ⟨none, 0, 0⟩ [] ⟨some ⟨s, 0, none⟩, 2, 2⟩ [txtT 97, txtT 98]
theorem txt_ok (w : World) (C : Nat) (b : UInt8) : TOk w C (txtT b) := ⟨rfl, Nat.le_refl _, fun _ => rfl, Kind.Holds.nil _ _ _, rfl, Nat.le_refl _, fun _ => rfl, Kind.Holds.nil _ _ _, fun k hk => by cases hk⟩
section
variable {w : World} {s : Nat}
theorem kids_ok (h : w.heap[s]? = some (.cells #[.string ⟨#[]⟩, .string ⟨#[97]⟩, .string ⟨#[]⟩, .slice none 0 0, .slice none 0 0, .string ⟨#[]⟩, .string ⟨#[98]⟩, .string ⟨#[]⟩, .slice none 0 0, .slice none 0 0] 63 (0, 0))) : kT.Holds w w.heap.size (some ⟨s, 0, none⟩) [txtT 97, txtT 98] := (Kind.Holds.lit h rfl).more (heap_lt h)
theorem up_ok (h : w.heap[s]? = some (.cells #[.string ⟨#[]⟩, .string ⟨#[97]⟩, .string ⟨#[]⟩, .slice none 0 0, .slice none 0 0, .string ⟨#[]⟩, .string ⟨#[98]⟩, .string ⟨#[]⟩, .slice none 0 0, .slice none 0 0] 63 (0, 0))) : TOk w w.heap.size (upT s) :=
  ⟨rfl, Nat.le_refl _, fun _ => rfl, Kind.Holds.nil _ _ _, rfl, Nat.le_refl _, (fun e => by cases e), kids_ok h, fun k hk => by
    rcases List.mem_cons.1 hk with rfl | hk
    · exact txt_ok _ _ _
    · rw [List.mem_singleton.1 hk]; exact txt_ok _ _ _⟩
theorem br_ok (h : w.heap[s]? = some (.cells #[.string ⟨#[]⟩, .string ⟨#[97]⟩, .string ⟨#[]⟩, .slice none 0 0, .slice none 0 0, .string ⟨#[]⟩, .string ⟨#[98]⟩, .string ⟨#[]⟩, .slice none 0 0, .slice none 0 0] 63 (0, 0))) : TOk w w.heap.size (brT s) :=
  ⟨rfl, Nat.le_refl _, fun _ => rfl, Kind.Holds.nil _ _ _, rfl, Nat.le_refl _, (fun e => by cases e), kids_ok h, fun k hk => by
    rcases List.mem_cons.1 hk with rfl | hk
    · exact txt_ok _ _ _
    · rw [List.mem_singleton.1 hk]; exact txt_ok _ _ _⟩
end
theorem up_count (s : Nat) : countP (er (upT s)) = 3 := by simp [upT, txtT, er, erL, countP, countL]
theorem br_count (s : Nat) : countP (er (brT s)) = 3 := by simp [brT, txtT, er, erL, countP, countL]
theorem up_few (s : Nat) : fewP (er (upT s)) = true := by
  simp only [upT, txtT, er, erL, fewP, fewL]
  decide
theorem br_few (s : Nat) : fewP (er (brT s)) = true := by
  simp only [brT, txtT, er, erL, fewP, fewL]
  decide
theorem l0 : (⟨#[]⟩ : ByteArray).toList = [] := by rw [ByteArray.toList_eq]
theorem l112 : (⟨#[112]⟩ : ByteArray).toList = [112] := by rw [ByteArray.toList_eq]
theorem lbr : (⟨#[98, 114]⟩ : ByteArray).toList = [98, 114] := by rw [ByteArray.toList_eq]
theorem up_may (s : Nat) : mayP (er (upT s)) = true := by
  simp only [upT, txtT, er, erL, mayP, mayL, l0, l112]
  decide
theorem br_may (s : Nat) : mayP (er (brT s)) = false := by
  simp only [brT, txtT, er, erL, mayP, mayL, l0, lbr]
  decide
set_option maxHeartbeats 4000000 in
theorem up8_any (PM : MayC) (PC : CountC) (PS : SameC) (PO : OfNilC) (w : World) : Calls Try.prog 30 #[] w fun e w' => e = .returned (.bool true) ∧ Below w.heap.size w w' := by
  have B1 : Hid (Below w.heap.size w ((w.alloc (.cells #[.string ⟨#[]⟩, .string ⟨#[97]⟩, .string ⟨#[]⟩, .slice none 0 0, .slice none 0 0, .string ⟨#[]⟩, .string ⟨#[98]⟩, .string ⟨#[]⟩, .slice none 0 0, .slice none 0 0] 63)).alloc (.cells #[.string ⟨#[112]⟩, .string ⟨#[]⟩, .string ⟨#[]⟩, .slice none 0 0, .slice (some ⟨w.heap.size, 0, none⟩) 2 2] 63))) := Lib.hid (((Below.refl _ _).alloc (Nat.le_refl _) _).alloc (by simp) _)
  have K1 : Hid (((w.alloc (.cells #[.string ⟨#[]⟩, .string ⟨#[97]⟩, .string ⟨#[]⟩, .slice none 0 0, .slice none 0 0, .string ⟨#[]⟩, .string ⟨#[98]⟩, .string ⟨#[]⟩, .slice none 0 0, .slice none 0 0] 63)).alloc (.cells #[.string ⟨#[112]⟩, .string ⟨#[]⟩, .string ⟨#[]⟩, .slice none 0 0, .slice (some ⟨w.heap.size, 0, none⟩) 2 2] 63)).heap[w.heap.size]? = some (.cells #[.string ⟨#[]⟩, .string ⟨#[97]⟩, .string ⟨#[]⟩, .slice none 0 0, .slice none 0 0, .string ⟨#[]⟩, .string ⟨#[98]⟩, .string ⟨#[]⟩, .slice none 0 0, .slice none 0 0] 63 (0, 0))) := Lib.hid (heap_up (heap_alloc_new w _))
  have N1 : Hid (TB ((w.alloc (.cells #[.string ⟨#[]⟩, .string ⟨#[97]⟩, .string ⟨#[]⟩, .slice none 0 0, .slice none 0 0, .string ⟨#[]⟩, .string ⟨#[98]⟩, .string ⟨#[]⟩, .slice none 0 0, .slice none 0 0] 63)).alloc (.cells #[.string ⟨#[112]⟩, .string ⟨#[]⟩, .string ⟨#[]⟩, .slice none 0 0, .slice (some ⟨w.heap.size, 0, none⟩) 2 2] 63)) (w.heap.size + 1) (upT w.heap.size)) := Lib.hid (heap_top (by simp))
  go_enter Try.func30, Try.ntmps30
  go_upto_region 2 with fail
  generalize (w.alloc (.cells #[.string ⟨#[]⟩, .string ⟨#[97]⟩, .string ⟨#[]⟩, .slice none 0 0, .slice none 0 0, .string ⟨#[]⟩, .string ⟨#[98]⟩, .string ⟨#[]⟩, .slice none 0 0, .slice none 0 0] 63)).alloc (.cells #[.string ⟨#[112]⟩, .string ⟨#[]⟩, .string ⟨#[]⟩, .slice none 0 0, .slice (some ⟨w.heap.size, 0, none⟩) 2 2] 63) = W at B1 K1 N1 ⊢
  go_wp2_with fail
  refine (PO W).mono ?_
  rintro e w2 ⟨rfl, b2⟩
  have B2 := Lib.hid (B1.out.trans (b2.mono B1.out.size))
  have K2 : Hid (w2.heap[w.heap.size]? = some (.cells #[.string ⟨#[]⟩, .string ⟨#[97]⟩, .string ⟨#[]⟩, .slice none 0 0, .slice none 0 0, .string ⟨#[]⟩, .string ⟨#[98]⟩, .string ⟨#[]⟩, .slice none 0 0, .slice none 0 0] 63 (0, 0))) := Lib.hid ((b2.block _ (heap_lt K1.out)).trans K1.out)
  have N2 := Lib.hid (N1.out.below b2 N1.out.lt)
  clear b2
  have B3 : Hid (Below w.heap.size w (w2.alloc (.cells #[.string ⟨#[]⟩, .string ⟨#[]⟩, .string ⟨#[]⟩, .slice none 0 0, .slice none 0 0] 63))) := Lib.hid (B2.out.alloc B2.out.size _)
  have K3 : Hid ((w2.alloc (.cells #[.string ⟨#[]⟩, .string ⟨#[]⟩, .string ⟨#[]⟩, .slice none 0 0, .slice none 0 0] 63)).heap[w.heap.size]? = some (.cells #[.string ⟨#[]⟩, .string ⟨#[97]⟩, .string ⟨#[]⟩, .slice none 0 0, .slice none 0 0, .string ⟨#[]⟩, .string ⟨#[98]⟩, .string ⟨#[]⟩, .slice none 0 0, .slice none 0 0] 63 (0, 0))) := Lib.hid (heap_up K2.out)
  have N3 : Hid (TB (w2.alloc (.cells #[.string ⟨#[]⟩, .string ⟨#[]⟩, .string ⟨#[]⟩, .slice none 0 0, .slice none 0 0] 63)) (w.heap.size + 1) (upT w.heap.size)) := Lib.hid (heap_up N2.out)
  go_upto_region 3 with fail
  generalize w2.alloc (.cells #[.string ⟨#[]⟩, .string ⟨#[]⟩, .string ⟨#[]⟩, .slice none 0 0, .slice none 0 0] 63) = W3 at B3 K3 N3 ⊢
  clear B1 B2 K1 K2 N1 N2
  have UP : Hid (∀ w9, Below W3.heap.size W3 w9 → TOk w9 w9.heap.size (upT w.heap.size)) := Lib.hid (fun w9 h => up_ok ((h.block _ (heap_lt K3.out)).trans K3.out))
  have BR : Hid (∀ w9, Below W3.heap.size W3 w9 → TOk w9 w9.heap.size (brT w.heap.size)) := Lib.hid (fun w9 h => br_ok ((h.block _ (heap_lt K3.out)).trans K3.out))
  have CC : Hid (∀ w9, Below W3.heap.size W3 w9 → Calls Try.prog 34 #[.agg #[.string ⟨#[112]⟩, .string ⟨#[]⟩, .string ⟨#[]⟩, .slice none 0 0, .slice (some ⟨w.heap.size, 0, none⟩) 2 2]] w9 fun e w' => e = .returned (.int .i64 3) ∧ Below w9.heap.size w9 w') := Lib.hid (fun w9 h => by have := PC (upT w.heap.size) w9 (UP.out w9 h) (by rw [up_count]; omega); rw [up_count] at this; exact this)
  have CM : Hid (∀ w9, Below W3.heap.size W3 w9 → Calls Try.prog 32 #[.agg #[.string ⟨#[112]⟩, .string ⟨#[]⟩, .string ⟨#[]⟩, .slice none 0 0, .slice (some ⟨w.heap.size, 0, none⟩) 2 2]] w9 fun e w' => e = .returned (.bool true) ∧ Below w9.heap.size w9 w') := Lib.hid (fun w9 h => by have := PM (upT w.heap.size) w9 (UP.out w9 h) (up_few w.heap.size) (by rw [up_count]; omega); rw [up_may] at this; exact this)
  have CB : Hid (∀ w9, Below W3.heap.size W3 w9 → Calls Try.prog 32 #[.agg #[.string ⟨#[98, 114]⟩, .string ⟨#[]⟩, .string ⟨#[]⟩, .slice none 0 0, .slice (some ⟨w.heap.size, 0, none⟩) 2 2]] w9 fun e w' => e = .returned (.bool false) ∧ Below w9.heap.size w9 w') := Lib.hid (fun w9 h => by have := PM (brT w.heap.size) w9 (BR.out w9 h) (br_few w.heap.size) (by rw [br_count]; omega); rw [br_may] at this; exact this)
  have CS : Hid (∀ w9, Below W3.heap.size W3 w9 → Calls Try.prog 36 #[.agg #[.string ⟨#[112]⟩, .string ⟨#[]⟩, .string ⟨#[]⟩, .slice none 0 0, .slice (some ⟨w.heap.size, 0, none⟩) 2 2], .agg #[.string ⟨#[112]⟩, .string ⟨#[]⟩, .string ⟨#[]⟩, .slice none 0 0, .slice (some ⟨w.heap.size, 0, none⟩) 2 2]] w9 fun e w' => e = .returned (.bool true) ∧ Below w9.heap.size w9 w') := Lib.hid (fun w9 h => by have := PS (upT w.heap.size) (upT w.heap.size) w9 (UP.out w9 h) (UP.out w9 h) (up_few w.heap.size) (up_few w.heap.size) (by rw [up_count]; omega) (by rw [up_count]; omega); rw [sameP_refl] at this; exact this)
  have R3 : Hid (Below W3.heap.size W3 W3) := Lib.hid (Below.refl _ _)
  have a0 : W3.cell? ⟨w.heap.size + 1, 0, none⟩ = some (.string ⟨#[112]⟩) := N3.out.c0
  have a1 : W3.cell? ⟨w.heap.size + 1, 1, none⟩ = some (.string ⟨#[]⟩) := N3.out.c1
  have a2 : W3.cell? ⟨w.heap.size + 1, 2, none⟩ = some (.string ⟨#[]⟩) := N3.out.c2
  have a3 : W3.cell? ⟨w.heap.size + 1, 3, none⟩ = some (.slice none 0 0) := N3.out.c3
  have a4 : W3.cell? ⟨w.heap.size + 1, 4, none⟩ = some (.slice (some ⟨w.heap.size, 0, none⟩) 2 2) := N3.out.c4
  go_wp2_with fail
  refine (CC.out _ R3.out).mono ?_
  rintro e w4 ⟨rfl, b5⟩
  have R4 : Hid (Below W3.heap.size W3 w4) := Lib.hid (R3.out.trans (b5.mono R3.out.size))
  have N4 := Lib.hid (N3.out.below R4.out N3.out.lt)
  clear b5 a0 a1 a2 a3 a4
  have a0 : w4.cell? ⟨w.heap.size + 1, 0, none⟩ = some (.string ⟨#[112]⟩) := N4.out.c0
  have a1 : w4.cell? ⟨w.heap.size + 1, 1, none⟩ = some (.string ⟨#[]⟩) := N4.out.c1
  have a2 : w4.cell? ⟨w.heap.size + 1, 2, none⟩ = some (.string ⟨#[]⟩) := N4.out.c2
  have a3 : w4.cell? ⟨w.heap.size + 1, 3, none⟩ = some (.slice none 0 0) := N4.out.c3
  have a4 : w4.cell? ⟨w.heap.size + 1, 4, none⟩ = some (.slice (some ⟨w.heap.size, 0, none⟩) 2 2) := N4.out.c4
  go_wp2_with fail
  refine (CM.out _ R4.out).mono ?_
  rintro e w5 ⟨rfl, b5⟩
  have R5 : Hid (Below W3.heap.size W3 w5) := Lib.hid (R4.out.trans (b5.mono R4.out.size))
  have N5 := Lib.hid (N3.out.below R5.out N3.out.lt)
  clear b5 a0 a1 a2 a3 a4
  have a0 : w5.cell? ⟨w.heap.size + 1, 0, none⟩ = some (.string ⟨#[112]⟩) := N5.out.c0
  have a1 : w5.cell? ⟨w.heap.size + 1, 1, none⟩ = some (.string ⟨#[]⟩) := N5.out.c1
  have a2 : w5.cell? ⟨w.heap.size + 1, 2, none⟩ = some (.string ⟨#[]⟩) := N5.out.c2
  have a3 : w5.cell? ⟨w.heap.size + 1, 3, none⟩ = some (.slice none 0 0) := N5.out.c3
  have a4 : w5.cell? ⟨w.heap.size + 1, 4, none⟩ = some (.slice (some ⟨w.heap.size, 0, none⟩) 2 2) := N5.out.c4
  go_wp2_with fail
  refine (CB.out _ R5.out).mono ?_
  rintro e w6 ⟨rfl, b5⟩
  have R6 : Hid (Below W3.heap.size W3 w6) := Lib.hid (R5.out.trans (b5.mono R5.out.size))
  have N6 := Lib.hid (N3.out.below R6.out N3.out.lt)
  clear b5 a0 a1 a2 a3 a4
  have a0 : w6.cell? ⟨w.heap.size + 1, 0, none⟩ = some (.string ⟨#[112]⟩) := N6.out.c0
  have a1 : w6.cell? ⟨w.heap.size + 1, 1, none⟩ = some (.string ⟨#[]⟩) := N6.out.c1
  have a2 : w6.cell? ⟨w.heap.size + 1, 2, none⟩ = some (.string ⟨#[]⟩) := N6.out.c2
  have a3 : w6.cell? ⟨w.heap.size + 1, 3, none⟩ = some (.slice none 0 0) := N6.out.c3
  have a4 : w6.cell? ⟨w.heap.size + 1, 4, none⟩ = some (.slice (some ⟨w.heap.size, 0, none⟩) 2 2) := N6.out.c4
  go_wp2_with fail
  refine (CS.out _ R6.out).mono ?_
  rintro e w7 ⟨rfl, b5⟩
  have R7 : Hid (Below W3.heap.size W3 w7) := Lib.hid (R6.out.trans (b5.mono R6.out.size))
  have N7 := Lib.hid (N3.out.below R7.out N3.out.lt)
  clear b5 a0 a1 a2 a3 a4
  have a0 : w7.cell? ⟨w.heap.size + 1, 0, none⟩ = some (.string ⟨#[112]⟩) := N7.out.c0
  have a1 : w7.cell? ⟨w.heap.size + 1, 1, none⟩ = some (.string ⟨#[]⟩) := N7.out.c1
  have a2 : w7.cell? ⟨w.heap.size + 1, 2, none⟩ = some (.string ⟨#[]⟩) := N7.out.c2
  have a3 : w7.cell? ⟨w.heap.size + 1, 3, none⟩ = some (.slice none 0 0) := N7.out.c3
  have a4 : w7.cell? ⟨w.heap.size + 1, 4, none⟩ = some (.slice (some ⟨w.heap.size, 0, none⟩) 2 2) := N7.out.c4
  go_wp2_with fail
  go_ret
  exact ⟨rfl, B3.out.trans (R7.out.mono B3.out.size)⟩

/-! ### TreeTells -/
set_option maxRecDepth 100000 in
set_option maxHeartbeats 20000000 in
theorem tells8_any (PM : MayC) (PC : CountC) (PS : SameC) (PO : OfNilC) (t u : TV) (w : World) (ht : TOk w w.heap.size t) (hu : TOk w w.heap.size u) (ft : TFit t) (fu : TFit u) : Calls Try.prog 5 #[.agg #[.string t.tag, .string t.txt, .string t.key, .slice t.sa.A t.sa.n t.sa.c, .slice t.sk.A t.sk.n t.sk.c], .agg #[.string u.tag, .string u.txt, .string u.key, .slice u.sa.A u.sa.n u.sa.c, .slice u.sk.A u.sk.n u.sk.c]] w fun e w' => e = .returned (.bool true) ∧ Below w.heap.size w w' := by
  have B1 : Hid (Below w.heap.size w ((w.alloc (.cells #[.string t.tag, .string t.txt, .string t.key, .slice t.sa.A t.sa.n t.sa.c, .slice t.sk.A t.sk.n t.sk.c] 63)).alloc (.cells #[.string u.tag, .string u.txt, .string u.key, .slice u.sa.A u.sa.n u.sa.c, .slice u.sk.A u.sk.n u.sk.c] 63))) := Lib.hid (((Below.refl _ _).alloc (Nat.le_refl _) _).alloc (by simp) _)
  have N1 : Hid (TB ((w.alloc (.cells #[.string t.tag, .string t.txt, .string t.key, .slice t.sa.A t.sa.n t.sa.c, .slice t.sk.A t.sk.n t.sk.c] 63)).alloc (.cells #[.string u.tag, .string u.txt, .string u.key, .slice u.sa.A u.sa.n u.sa.c, .slice u.sk.A u.sk.n u.sk.c] 63)) w.heap.size t) := Lib.hid (heap_up (TB.new w t))
  have M1 : Hid (TB ((w.alloc (.cells #[.string t.tag, .string t.txt, .string t.key, .slice t.sa.A t.sa.n t.sa.c, .slice t.sk.A t.sk.n t.sk.c] 63)).alloc (.cells #[.string u.tag, .string u.txt, .string u.key, .slice u.sa.A u.sa.n u.sa.c, .slice u.sk.A u.sk.n u.sk.c] 63)) (w.heap.size + 1) u) := Lib.hid (heap_top (by simp))
  have HT : Hid (∀ w9, Below w.heap.size w w9 → TOk w9 w9.heap.size t) := Lib.hid (fun w9 h => ht.on h)
  have HU : Hid (∀ w9, Below w.heap.size w w9 → TOk w9 w9.heap.size u) := Lib.hid (fun w9 h => hu.on h)
  clear ht hu
  go_enter Try.func5, Try.ntmps5
  go_upto_region 1 with fail
  generalize (w.alloc (.cells #[.string t.tag, .string t.txt, .string t.key, .slice t.sa.A t.sa.n t.sa.c, .slice t.sk.A t.sk.n t.sk.c] 63)).alloc (.cells #[.string u.tag, .string u.txt, .string u.key, .slice u.sa.A u.sa.n u.sa.c, .slice u.sk.A u.sk.n u.sk.c] 63) = W0 at B1 N1 M1 ⊢
  go_wp2_with fail
  refine (up8_any PM PC PS PO W0).mono ?_
  rintro e w1 ⟨rfl, b⟩
  have B2 := Lib.hid (B1.out.trans (b.mono B1.out.size))
  have N2 := Lib.hid (N1.out.below b N1.out.lt)
  have M2 := Lib.hid (M1.out.below b M1.out.lt)
  clear b B1 N1 M1
  have a0 := N2.out.c0; have a1 := N2.out.c1; have a2 := N2.out.c2; have a3 := N2.out.c3; have a4 := N2.out.c4
  go_wp2_with fail
  refine (many_any t 60 w1 (by omega) (HT.out w1 B2.out) ft).mono ?_
  rintro e w2 ⟨m, rfl, hm1, hm2, hm3, b⟩
  have B3 := Lib.hid (B2.out.trans (b.mono B2.out.size))
  have N3 := Lib.hid (N2.out.below b N2.out.lt)
  have M3 := Lib.hid (M2.out.below b M2.out.lt)
  clear b B2 N2 M2 a0 a1 a2 a3 a4
  have b0 := M3.out.c0; have b1 := M3.out.c1; have b2 := M3.out.c2; have b3 := M3.out.c3; have b4 := M3.out.c4
  by_cases hm : 60 < m
  · have q1 : decide ((60 : Int) < (m : Int)) = true := by simp; omega
    go_wp2_with fail
    go_ret
    exact ⟨rfl, B3.out⟩
  have q1 : decide ((60 : Int) < (m : Int)) = false := by simp; omega
  obtain ⟨hmc, hmf⟩ := hm3 (by omega)
  go_wp2_with fail
  refine (many_any u 60 w2 (by omega) (HU.out w2 B3.out) fu).mono ?_
  rintro e w3 ⟨m', rfl, hm1', hm2', hm3', b⟩
  have B4 := Lib.hid (B3.out.trans (b.mono B3.out.size))
  have N4 := Lib.hid (N3.out.below b N3.out.lt)
  have M4 := Lib.hid (M3.out.below b M3.out.lt)
  clear b B3 N3 M3 b0 b1 b2 b3 b4
  by_cases hm' : 60 < m'
  · have q2 : decide ((60 : Int) < (m' : Int)) = true := by simp; omega
    go_wp2_with fail
    go_ret
    exact ⟨rfl, B4.out⟩
  have q2 : decide ((60 : Int) < (m' : Int)) = false := by simp; omega
  obtain ⟨hmc', hmf'⟩ := hm3' (by omega)
  have hc1 : countP (er t) ≤ 1000 := by omega
  have hc2 : countP (er u) ≤ 1000 := by omega
  obtain ⟨W, rfl⟩ : ∃ W, W = w3 := ⟨_, rfl⟩
  obtain ⟨bm, hbm⟩ : ∃ b, mayP (er t) = b := ⟨_, rfl⟩
  obtain ⟨bs, hbs⟩ : ∃ b, sameP (er t) (er u) = b := ⟨_, rfl⟩
  obtain ⟨cn, hcn⟩ : ∃ b, countP (er t) = b := ⟨_, rfl⟩
  have hT : ∀ w9, Below W.heap.size W w9 → TOk w9 w9.heap.size t := fun w9 h => HT.out w9 (B4.out.trans (h.mono B4.out.size))
  have hU : ∀ w9, Below W.heap.size W w9 → TOk w9 w9.heap.size u := fun w9 h => HU.out w9 (B4.out.trans (h.mono B4.out.size))
  have CM : Hid (∀ w9, Below W.heap.size W w9 → Calls Try.prog 32 #[.agg #[.string t.tag, .string t.txt, .string t.key, .slice t.sa.A t.sa.n t.sa.c, .slice t.sk.A t.sk.n t.sk.c]] w9 fun e w' => e = .returned (.bool bm) ∧ Below w9.heap.size w9 w') := Lib.hid (fun w9 h => by have := PM t w9 (hT w9 h) hmf hc1; rw [hbm] at this; exact this)
  have CR : Hid (∀ w9, Below W.heap.size W w9 → Calls Try.prog 33 #[.agg #[.string t.tag, .string t.txt, .string t.key, .slice t.sa.A t.sa.n t.sa.c, .slice t.sk.A t.sk.n t.sk.c]] w9 fun e w' => e = .returned (.bool bm) ∧ Below w9.heap.size w9 w') := Lib.hid (fun w9 h => by have := rmay8_any t w9 (hT w9 h) hmf hc1; rw [hbm] at this; exact this)
  have CC : Hid (∀ w9, Below W.heap.size W w9 → Calls Try.prog 34 #[.agg #[.string t.tag, .string t.txt, .string t.key, .slice t.sa.A t.sa.n t.sa.c, .slice t.sk.A t.sk.n t.sk.c]] w9 fun e w' => e = .returned (.int .i64 (cn : Nat)) ∧ Below w9.heap.size w9 w') := Lib.hid (fun w9 h => by have := PC t w9 (hT w9 h) hc1; rw [hcn] at this; exact this)
  have CX : Hid (∀ w9, Below W.heap.size W w9 → Calls Try.prog 35 #[.agg #[.string t.tag, .string t.txt, .string t.key, .slice t.sa.A t.sa.n t.sa.c, .slice t.sk.A t.sk.n t.sk.c]] w9 fun e w' => e = .returned (.int .i64 (cn : Nat)) ∧ Below w9.heap.size w9 w') := Lib.hid (fun w9 h => by have := rcount_any t w9 (hT w9 h) hc1; rw [hcn] at this; exact this)
  have CS : Hid (∀ w9, Below W.heap.size W w9 → Calls Try.prog 36 #[.agg #[.string t.tag, .string t.txt, .string t.key, .slice t.sa.A t.sa.n t.sa.c, .slice t.sk.A t.sk.n t.sk.c], .agg #[.string u.tag, .string u.txt, .string u.key, .slice u.sa.A u.sa.n u.sa.c, .slice u.sk.A u.sk.n u.sk.c]] w9 fun e w' => e = .returned (.bool bs) ∧ Below w9.heap.size w9 w') := Lib.hid (fun w9 h => by have := PS t u w9 (hT w9 h) (hU w9 h) hmf hmf' hc1 hc2; rw [hbs] at this; exact this)
  have CY : Hid (∀ w9, Below W.heap.size W w9 → Calls Try.prog 37 #[.agg #[.string t.tag, .string t.txt, .string t.key, .slice t.sa.A t.sa.n t.sa.c, .slice t.sk.A t.sk.n t.sk.c], .agg #[.string u.tag, .string u.txt, .string u.key, .slice u.sa.A u.sa.n u.sa.c, .slice u.sk.A u.sk.n u.sk.c]] w9 fun e w' => e = .returned (.bool bs) ∧ Below w9.heap.size w9 w') := Lib.hid (fun w9 h => by have := rsame8_any t u w9 (hT w9 h) (hU w9 h) hmf hmf' hc1 hc2; rw [hbs] at this; exact this)
  have CZ : Hid (∀ w9, Below W.heap.size W w9 → Calls Try.prog 36 #[.agg #[.string t.tag, .string t.txt, .string t.key, .slice t.sa.A t.sa.n t.sa.c, .slice t.sk.A t.sk.n t.sk.c], .agg #[.string t.tag, .string t.txt, .string t.key, .slice t.sa.A t.sa.n t.sa.c, .slice t.sk.A t.sk.n t.sk.c]] w9 fun e w' => e = .returned (.bool true) ∧ Below w9.heap.size w9 w') := Lib.hid (fun w9 h => by have := PS t t w9 (hT w9 h) (hT w9 h) hmf hmf hc1 hc1; rw [sameP_refl] at this; exact this)
  have SKEEP : Hid (∀ w', Below W.heap.size W w' → (w'.cell? ⟨w.heap.size, 0, none⟩ = some (.string t.tag) ∧ w'.cell? ⟨w.heap.size, 1, none⟩ = some (.string t.txt) ∧ w'.cell? ⟨w.heap.size, 2, none⟩ = some (.string t.key) ∧ w'.cell? ⟨w.heap.size, 3, none⟩ = some (.slice t.sa.A t.sa.n t.sa.c) ∧ w'.cell? ⟨w.heap.size, 4, none⟩ = some (.slice t.sk.A t.sk.n t.sk.c) ∧ w'.cell? ⟨w.heap.size + 1, 0, none⟩ = some (.string u.tag) ∧ w'.cell? ⟨w.heap.size + 1, 1, none⟩ = some (.string u.txt) ∧ w'.cell? ⟨w.heap.size + 1, 2, none⟩ = some (.string u.key) ∧ w'.cell? ⟨w.heap.size + 1, 3, none⟩ = some (.slice u.sa.A u.sa.n u.sa.c) ∧ w'.cell? ⟨w.heap.size + 1, 4, none⟩ = some (.slice u.sk.A u.sk.n u.sk.c))) := Lib.hid (fun w' h => ⟨(N4.out.below h N4.out.lt).c0, (N4.out.below h N4.out.lt).c1, (N4.out.below h N4.out.lt).c2, (N4.out.below h N4.out.lt).c3, (N4.out.below h N4.out.lt).c4, (M4.out.below h M4.out.lt).c0, (M4.out.below h M4.out.lt).c1, (M4.out.below h M4.out.lt).c2, (M4.out.below h M4.out.lt).c3, (M4.out.below h M4.out.lt).c4⟩)
  have BW : Hid (Below W.heap.size W W) := Lib.hid (Below.refl _ _)
  clear hT hU hmc hmc' hmf hmf' hm3 hm3' hbm hbs hcn
  have a0 := N4.out.c0; have a1 := N4.out.c1; have a2 := N4.out.c2; have a3 := N4.out.c3; have a4 := N4.out.c4; have b0 := M4.out.c0; have b1 := M4.out.c1; have b2 := M4.out.c2; have b3 := M4.out.c3; have b4 := M4.out.c4
  clear N4 M4 HT HU
  go_wp2_with fail
  go_region_held3 (fun w' => w'.cell? ⟨w.heap.size, 0, none⟩ = some (.string t.tag) ∧ w'.cell? ⟨w.heap.size, 1, none⟩ = some (.string t.txt) ∧ w'.cell? ⟨w.heap.size, 2, none⟩ = some (.string t.key) ∧ w'.cell? ⟨w.heap.size, 3, none⟩ = some (.slice t.sa.A t.sa.n t.sa.c) ∧ w'.cell? ⟨w.heap.size, 4, none⟩ = some (.slice t.sk.A t.sk.n t.sk.c) ∧ w'.cell? ⟨w.heap.size + 1, 0, none⟩ = some (.string u.tag) ∧ w'.cell? ⟨w.heap.size + 1, 1, none⟩ = some (.string u.txt) ∧ w'.cell? ⟨w.heap.size + 1, 2, none⟩ = some (.string u.key) ∧ w'.cell? ⟨w.heap.size + 1, 3, none⟩ = some (.slice u.sa.A u.sa.n u.sa.c) ∧ w'.cell? ⟨w.heap.size + 1, 4, none⟩ = some (.slice u.sk.A u.sk.n u.sk.c)) (first | go_keep | exact SK) ((first
    | (go_at_call 32; refine (CM.out _ (by first | exact BW.out | exact Below_drewN BW.out _)).mono ?_; rintro e w5 ⟨rfl, b5⟩; have BW : Hid (Below W.heap.size W w5) := Lib.hid (by first | exact BW.out.trans (b5.mono BW.out.size) | exact (Below_drewN BW.out _).trans (b5.mono BW.out.size)); have SK := SKEEP.out w5 BW.out; clear b5)
    | (go_at_call 33; refine (CR.out _ (by first | exact BW.out | exact Below_drewN BW.out _)).mono ?_; rintro e w5 ⟨rfl, b5⟩; have BW : Hid (Below W.heap.size W w5) := Lib.hid (by first | exact BW.out.trans (b5.mono BW.out.size) | exact (Below_drewN BW.out _).trans (b5.mono BW.out.size)); have SK := SKEEP.out w5 BW.out; clear b5)
    | (go_at_call 34; refine (CC.out _ (by first | exact BW.out | exact Below_drewN BW.out _)).mono ?_; rintro e w5 ⟨rfl, b5⟩; have BW : Hid (Below W.heap.size W w5) := Lib.hid (by first | exact BW.out.trans (b5.mono BW.out.size) | exact (Below_drewN BW.out _).trans (b5.mono BW.out.size)); have SK := SKEEP.out w5 BW.out; clear b5)
    | (go_at_call 35; refine (CX.out _ (by first | exact BW.out | exact Below_drewN BW.out _)).mono ?_; rintro e w5 ⟨rfl, b5⟩; have BW : Hid (Below W.heap.size W w5) := Lib.hid (by first | exact BW.out.trans (b5.mono BW.out.size) | exact (Below_drewN BW.out _).trans (b5.mono BW.out.size)); have SK := SKEEP.out w5 BW.out; clear b5)
    | (go_at_call_of 36 (Value.string u.tag); refine (CS.out _ (by first | exact BW.out | exact Below_drewN BW.out _)).mono ?_; rintro e w5 ⟨rfl, b5⟩; have BW : Hid (Below W.heap.size W w5) := Lib.hid (by first | exact BW.out.trans (b5.mono BW.out.size) | exact (Below_drewN BW.out _).trans (b5.mono BW.out.size)); have SK := SKEEP.out w5 BW.out; clear b5)
    | (go_at_call 36; refine (CZ.out _ (by first | exact BW.out | exact Below_drewN BW.out _)).mono ?_; rintro e w5 ⟨rfl, b5⟩; have BW : Hid (Below W.heap.size W w5) := Lib.hid (by first | exact BW.out.trans (b5.mono BW.out.size) | exact (Below_drewN BW.out _).trans (b5.mono BW.out.size)); have SK := SKEEP.out w5 BW.out; clear b5)
    | (go_at_call 37; refine (CY.out _ (by first | exact BW.out | exact Below_drewN BW.out _)).mono ?_; rintro e w5 ⟨rfl, b5⟩; have BW : Hid (Below W.heap.size W w5) := Lib.hid (by first | exact BW.out.trans (b5.mono BW.out.size) | exact (Below_drewN BW.out _).trans (b5.mono BW.out.size)); have SK := SKEEP.out w5 BW.out; clear b5)
    | fail))
  all_goals
    go_wp2_with fail
    go_ret
    exact ⟨rfl, B4.out.trans (BW.out.mono B4.out.size)⟩
end Go.Proofs.Ytkagaobelhpojaa.P8

/- What attr.Same (by slices.Equal) answers, for every list that isn't too long. -/
namespace Go.Proofs.Ytkagaobelhpojaa.P3
open Go.RowKit

set_option maxHeartbeats 400000 in
theorem equal_any (l m : List At) (A B : Option Addr) (n n' c d : Nat) (w : World) (hn : l.length = n) (hn' : m.length = n') (hl : n ≤ 1000000) (hm : n' ≤ 1000000) (H : Holds w w.heap.size A l) (H2 : Holds w w.heap.size B m) :
    Calls Try.prog 102 #[.slice A n c, .slice B n' d] w fun e w' => e = .returned (.bool (sameA l m)) ∧ Below w.heap.size w w' := by
  have HH := Lib.hid H
  have HH2 := Lib.hid H2
  have HN := Lib.hid hn
  have HN' := Lib.hid hn'
  clear H H2 hn hn'
  by_cases hlen : n = n'
  · subst hlen
    go_enter Try.func102, Try.ntmps102
    go_wp2_with fail
    go_loopw [13] (fun i wr => ∃ k : Nat, k ≤ n ∧ i = .int .i64 k ∧ Hid (Below w.heap.size w wr) ∧ Hid (SameTo l m k)) (fun i _ => n - (intOf i).toNat)
    case atStart => exact ⟨0, by omega, rfl, Lib.hid (Below.refl _ _), Lib.hid (SameTo.zero _ _)⟩
    case round =>
      obtain ⟨k, hk, rfl, HW, HS⟩ := hrel
      by_cases hlt : k < n
      · have hlt1 : k < l.length := by have := HN.out; omega
        have hlt2 : k < m.length := by have := HN'.out; omega
        obtain ⟨b, o, rfl, hb, h0, h1, h2⟩ := (HH.out.below HW.out (Nat.le_refl _)) k hlt1
        obtain ⟨b', o', rfl, hb', h0', h1', h2'⟩ := (HH2.out.below HW.out (Nat.le_refl _)) k hlt2
        have hg := eqg
        cases hat : atB l[k] m[k]
        · have hq := neq_at hat
          have HAT := Lib.hid hat
          clear hat
          go_wp2_with fail
          go_quiet (fail)
          go_wp2_with fail
          go_ret
          exact ⟨ret_bool (sameA_bad hlt1 hlt2 HAT.out).symm, Below_drewN HW.out _⟩
        · have hq := neq_at hat
          have HAT := Lib.hid hat
          clear hat
          go_wp2_with fail
          go_quiet (fail)
          go_wp2_with fail
          go_roundw
          case rel => exact ⟨k + 1, by omega, by go_num, Lib.hid (Below_drewN HW.out _), Lib.hid (HS.out.next hlt1 hlt2 HAT.out)⟩
          case measure => simp [intOf]; omega
      · obtain rfl : k = n := by omega
        go_wp2_with fail
        go_ret
        exact ⟨ret_bool (HS.out.all HN.out HN'.out).symm, HW.out⟩
  · have he : ((n : Int) != (n' : Int)) = true := by simp; omega
    have HL : Hid (l.length ≠ m.length) := Lib.hid (by rw [HN.out, HN'.out]; exact hlen)
    clear hlen
    go_enter Try.func102, Try.ntmps102
    go_wp2_with fail
    go_ret
    exact ⟨ret_bool (sameA_len HL.out).symm, Below.refl _ _⟩

theorem same_any (l m : List At) (A B : Option Addr) (n n' c d : Nat) (w : World) (hn : l.length = n) (hn' : m.length = n') (hl : n ≤ 1000000) (hm : n' ≤ 1000000) (H : Holds w w.heap.size A l) (H2 : Holds w w.heap.size B m) :
    Calls Try.prog 74 #[.slice A n c, .slice B n' d] w fun e w' => e = .returned (.bool (sameA l m)) ∧ Below w.heap.size w w' := by
  have HH := Lib.hid H
  have HH2 := Lib.hid H2
  have HN := Lib.hid hn
  have HN' := Lib.hid hn'
  clear H H2 hn hn'
  go_enter Try.func74, Try.ntmps74
  go_wp2_with fail
  refine (equal_any l m A B n n' c d _ HN.out HN'.out hl hm HH.out HH2.out).mono ?_
  rintro e w1 ⟨rfl, b1⟩
  have B1 := Lib.hid b1
  clear b1
  go_wp2_with fail
  go_ret
  exact ⟨rfl, B1.out⟩
theorem same_at (l m : List At) (A B : Option Addr) (n n' c d : Nat) (w : World) {r : Bool} (hr : sameA l m = r) (hn : l.length = n) (hn' : m.length = n') (hl : n ≤ 1000000) (hm : n' ≤ 1000000) (H : Holds w w.heap.size A l) (H2 : Holds w w.heap.size B m) :
    Calls Try.prog 74 #[.slice A n c, .slice B n' d] w fun e w' => e = .returned (.bool r) ∧ Below w.heap.size w w' := by
  subst hr; exact same_any l m A B n n' c d w hn hn' hl hm H H2
end Go.Proofs.Ytkagaobelhpojaa.P3
