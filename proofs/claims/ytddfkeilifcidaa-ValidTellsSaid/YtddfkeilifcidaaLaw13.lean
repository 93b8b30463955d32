/- Layer 13's example, and the walk of ValidTells, over the contract of the program's Check. No condition but those stated. -/
import Derived.Test.YtddfkeilifcidaaRchk13c
import Derived.Test.YtddfkeilifcidaaRe5
import Derived.Test.YtddfkeilifcidaaErr
set_option linter.unusedVariables false
set_option linter.unusedSimpArgs false
namespace Go.Proofs.Ytddfkeilifcidaa.P13
open Go.RowKit Kd P4 P5 P11 P12

/-- what the program's Check answers -/
def CheckC : Prop := ∀ (l : List In) (A : Option Addr) (n c : Nat) (w : World), kX.Holds w w.heap.size A l → l.length = n → n ≤ c → c ≤ maxLen → n ≤ 1000 → (∀ i ∈ l, i.a.size ≤ 300 ∧ i.b.size ≤ 300) →
  Calls Try.prog 7 #[.slice A n c] w fun e w' => e = .returned (errV (checkP l : Nat)) ∧ Below w.heap.size w w'
theorem ecode_any (m : Nat) (hm : m ≤ 13) (w : World) : Calls Try.prog 6 #[errV (m : Nat)] w fun e w' => e = .returned (.int .i64 m) ∧ w = w' := by
  by_cases h : m = 0
  · subst h
    have q4 := nil_eql_nil
    show Calls Try.prog 6 #[.nilIface] w _
    go_enter Try.func6, Try.ntmps6
    go_wp2
    go_ret
    exact ⟨rfl, rfl⟩
  · have e : errV ((m : Nat) : Int) = .iface 32 (.int .i64 m) := by unfold errV; rw [if_neg (by omega)]
    rw [e]
    exact code_any m (by omega) hm w
def oneX : List In := [⟨2, ⟨#[]⟩, ⟨#[]⟩⟩]
def twoX : List In := [⟨1, ⟨#[112]⟩, ⟨#[]⟩⟩, ⟨5, ⟨#[97]⟩, ⟨#[]⟩⟩, ⟨4, ⟨#[]⟩, ⟨#[]⟩⟩, ⟨2, ⟨#[]⟩, ⟨#[]⟩⟩]
theorem ez : (⟨#[]⟩ : ByteArray).toList = [] := by rw [ByteArray.toList_eq]
theorem one_code : checkP oneX = 8 := by
  have e : mayI ⟨2, ⟨#[]⟩, ⟨#[]⟩⟩ = true := by simp [mayI, ez]
  have f : firstW oneX 1 = 8 := by
    rw [firstW, firstW, if_pos rfl, wrongP]
    show wrongAt oneX 0 ⟨2, ⟨#[]⟩, ⟨#[]⟩⟩ = 8
    rw [wrongAt, if_neg (by rw [e]; decide), if_neg (by simp [tellsO]), if_pos rfl]
    rfl
  have h : firstW oneX oneX.length = 8 := f
  rw [checkP, if_neg (by decide), if_neg (by rw [h]; decide), h]
theorem two_code : checkP twoX = 0 := by
  have e0 : mayI ⟨1, ⟨#[112]⟩, ⟨#[]⟩⟩ = true := by simp only [mayI]; decide
  have e1 : mayI ⟨5, ⟨#[97]⟩, ⟨#[]⟩⟩ = true := by simp only [mayI]; decide
  have e2 : mayI ⟨4, ⟨#[]⟩, ⟨#[]⟩⟩ = true := by simp only [mayI, ez]; decide
  have e3 : mayI ⟨2, ⟨#[]⟩, ⟨#[]⟩⟩ = true := by simp [mayI, ez]
  have a0 : aheadP twoX 0 = [] := rfl
  have a2 : aheadP twoX 2 = [⟨5, ⟨#[97]⟩, ⟨#[]⟩⟩] := rfl
  have w0 : wrongP twoX 0 = 0 := by
    show wrongAt twoX 0 ⟨1, ⟨#[112]⟩, ⟨#[]⟩⟩ = 0
    rw [wrongAt, if_neg (by rw [e0]; decide), if_neg (by simp [tellsO]), if_neg (show ¬ ((1 : Int) = 2) by decide), a0, if_neg (by simp), if_neg (by simp), if_neg (by rintro ⟨_, h⟩; exact absurd h (by decide))]
  have w1 : wrongP twoX 1 = 0 := by
    show wrongAt twoX 1 ⟨5, ⟨#[97]⟩, ⟨#[]⟩⟩ = 0
    rw [wrongAt, if_neg (by rw [e1]; decide), if_pos (by simp [tellsO])]
    rfl
  have w2 : wrongP twoX 2 = 0 := by
    show wrongAt twoX 2 ⟨4, ⟨#[]⟩, ⟨#[]⟩⟩ = 0
    rw [wrongAt, if_neg (by rw [e2]; decide), if_neg (by simp [tellsO]), if_neg (show ¬ ((4 : Int) = 2) by decide), a2, if_neg (by simp), if_neg (by simp [makesO]), if_neg (by rintro ⟨h, _⟩; exact absurd h (by decide))]
  have w3 : wrongP twoX 3 = 0 := by
    show wrongAt twoX 3 ⟨2, ⟨#[]⟩, ⟨#[]⟩⟩ = 0
    rw [wrongAt, if_neg (by rw [e3]; decide), if_neg (by simp [tellsO]), if_pos rfl]
    rfl
  have f : firstW twoX 4 = 0 := by
    rw [firstW, firstW, firstW, firstW, firstW, w0, w1, w2, w3]
    rfl
  have h : firstW twoX twoX.length = 0 := f
  rw [checkP, if_neg (by decide), if_pos h]
  rfl
set_option maxRecDepth 100000 in
set_option maxHeartbeats 4000000 in
theorem up13_any (CC : CheckC) (w : World) : Calls Try.prog 4 #[] w fun e w' => e = .returned (.bool true) ∧ Below w.heap.size w w' := by
  have q4 := nil_eql_nil
  have C1 : Hid (∀ (w9 : World) (p : Nat), w9.heap[p]? = some (.cells #[.int .i64 2, .string ⟨#[]⟩, .string ⟨#[]⟩] 31 (0, 0)) → Calls Try.prog 7 #[.slice (some ⟨p, 0, none⟩) 1 1] w9 fun e w' => e = .returned (errV (8 : Nat)) ∧ Below w9.heap.size w9 w') := Lib.hid (fun w9 p h => by
    have := CC oneX (some ⟨p, 0, none⟩) 1 1 w9 ((Kind.Holds.lit h rfl).more (heap_lt h)) rfl (by omega) (by simp [maxLen]) (by omega) (fun i hi => by rw [List.mem_singleton.1 hi]; decide)
    rw [one_code] at this
    exact this)
  have C2 : Hid (∀ (w9 : World) (p : Nat), w9.heap[p]? = some (.cells #[.int .i64 1, .string ⟨#[112]⟩, .string ⟨#[]⟩, .int .i64 5, .string ⟨#[97]⟩, .string ⟨#[]⟩, .int .i64 4, .string ⟨#[]⟩, .string ⟨#[]⟩, .int .i64 2, .string ⟨#[]⟩, .string ⟨#[]⟩] 31 (0, 0)) → Calls Try.prog 7 #[.slice (some ⟨p, 0, none⟩) 4 4] w9 fun e w' => e = .returned .nilIface ∧ Below w9.heap.size w9 w') := Lib.hid (fun w9 p h => by
    have := CC twoX (some ⟨p, 0, none⟩) 4 4 w9 ((Kind.Holds.lit h rfl).more (heap_lt h)) rfl (by omega) (by simp [maxLen]) (by omega) (fun i hi => by
      simp only [twoX, List.mem_cons, List.not_mem_nil, or_false] at hi
      rcases hi with rfl | rfl | rfl | rfl <;> decide)
    rw [two_code] at this
    exact this)
  have W1 : Hid ((w.alloc (.cells #[.int .i64 2, .string ⟨#[]⟩, .string ⟨#[]⟩] 31)).heap[w.heap.size]? = some (.cells #[.int .i64 2, .string ⟨#[]⟩, .string ⟨#[]⟩] 31 (0, 0))) := Lib.hid (heap_alloc_new w _)
  have BX : Hid (Below w.heap.size w (w.alloc (.cells #[.int .i64 2, .string ⟨#[]⟩, .string ⟨#[]⟩] 31))) := Lib.hid ((Below.refl _ _).alloc (Nat.le_refl _) _)
  go_enter Try.func4, Try.ntmps4
  go_upto_region 2 with fail
  generalize w.alloc (.cells #[.int .i64 2, .string ⟨#[]⟩, .string ⟨#[]⟩] 31) = wa at W1 BX ⊢
  have W2 : Hid ((wa.alloc (.cells #[.int .i64 1, .string ⟨#[112]⟩, .string ⟨#[]⟩, .int .i64 5, .string ⟨#[97]⟩, .string ⟨#[]⟩, .int .i64 4, .string ⟨#[]⟩, .string ⟨#[]⟩, .int .i64 2, .string ⟨#[]⟩, .string ⟨#[]⟩] 31)).heap[wa.heap.size]? = some (.cells #[.int .i64 1, .string ⟨#[112]⟩, .string ⟨#[]⟩, .int .i64 5, .string ⟨#[97]⟩, .string ⟨#[]⟩, .int .i64 4, .string ⟨#[]⟩, .string ⟨#[]⟩, .int .i64 2, .string ⟨#[]⟩, .string ⟨#[]⟩] 31 (0, 0))) := Lib.hid (heap_alloc_new wa _)
  have BY : Hid (Below wa.heap.size wa (wa.alloc (.cells #[.int .i64 1, .string ⟨#[112]⟩, .string ⟨#[]⟩, .int .i64 5, .string ⟨#[97]⟩, .string ⟨#[]⟩, .int .i64 4, .string ⟨#[]⟩, .string ⟨#[]⟩, .int .i64 2, .string ⟨#[]⟩, .string ⟨#[]⟩] 31))) := Lib.hid ((Below.refl _ _).alloc (Nat.le_refl _) _)
  go_upto_region 3 with fail
  generalize wa.alloc (.cells #[.int .i64 1, .string ⟨#[112]⟩, .string ⟨#[]⟩, .int .i64 5, .string ⟨#[97]⟩, .string ⟨#[]⟩, .int .i64 4, .string ⟨#[]⟩, .string ⟨#[]⟩, .int .i64 2, .string ⟨#[]⟩, .string ⟨#[]⟩] 31) = wb at W2 BY ⊢
  have X1 : Hid (wb.heap[w.heap.size]? = some (.cells #[.int .i64 2, .string ⟨#[]⟩, .string ⟨#[]⟩] 31 (0, 0))) := Lib.hid ((BY.out.block _ (heap_lt W1.out)).trans W1.out)
  have D1 := Lib.hid (C1.out wb w.heap.size X1.out)
  have BB : Hid (Below w.heap.size w wb) := Lib.hid (BX.out.trans (BY.out.mono BX.out.size))
  go_wp2_with fail
  refine D1.out.mono ?_
  rintro e w3 ⟨rfl, b3⟩
  have B3 := Lib.hid (BB.out.trans (b3.mono BB.out.size))
  have X2 := Lib.hid ((b3.block _ (heap_lt W2.out)).trans W2.out)
  have D2 := Lib.hid (C2.out w3 wa.heap.size X2.out)
  clear b3 D1
  go_wp2_with fail
  refine (ecode_any 8 (by omega) w3).mono ?_
  rintro e w' ⟨rfl, rfl⟩
  go_wp2_with fail
  refine D2.out.mono ?_
  rintro e w4 ⟨rfl, b4⟩
  have B4 := Lib.hid (B3.out.trans (b4.mono B3.out.size))
  clear b4 D2
  go_wp2_with fail
  go_ret
  exact ⟨rfl, B4.out⟩
/-! ### ValidTells -/
set_option maxHeartbeats 4000000 in
theorem valids13_any (CC : CheckC) (l : List In) (A : Option Addr) (n c : Nat) (w : World) (hh : kX.Holds w w.heap.size A l) (hn : l.length = n) (hnc : n ≤ c) (hcm : c ≤ maxLen) :
    Calls Try.prog 3 #[.slice A n c] w fun e w' => e = .returned (.bool true) ∧ Below w.heap.size w w' := by
  have HU := Lib.hid (up13_any CC)
  have KH := Lib.hid hh
  have KN := Lib.hid hn
  have KC := Lib.hid hcm
  have HC := Lib.hid CC
  have hcm' : c ≤ 9223372036854775807 := by unfold maxLen at hcm; omega
  have hnm : n ≤ maxLen := by omega
  clear hh hn hcm
  go_enter Try.func3, Try.ntmps3
  go_wp2_with fail
  refine (HU.out w).mono ?_
  rintro e w1 ⟨rfl, b1⟩
  have B1 := Lib.hid b1
  clear b1 HU
  go_wp2_with fail
  refine (fewX_any l A n c w1 KN.out hnm (KH.out.on B1.out)).mono ?_
  rintro e w' ⟨hv, rfl⟩
  rcases hv with rfl | ⟨rfl, hl150, hsm⟩
  · go_wp2_with fail
    go_ret
    exact ⟨rfl, B1.out⟩
  have h150 : n ≤ 150 := by have := KN.out; omega
  have C1 := Lib.hid (HC.out l A n c w1 (KH.out.on B1.out) KN.out hnc KC.out (by omega) hsm)
  have C2 : Hid (∀ w9, Below w.heap.size w w9 → Calls Try.prog 8 #[.slice A n c] w9 fun e w' => e = .returned (.int .i64 (checkP l : Nat)) ∧ Below w9.heap.size w9 w') := Lib.hid (fun w9 h => rcheck_any l A n c w9 (KH.out.on h) KN.out (by omega) hsm)
  have hcd := checkP_code l
  clear hl150 hsm
  generalize checkP l = r at C1 C2 hcd
  go_wp2_with fail
  refine C1.out.mono ?_
  rintro e w2 ⟨rfl, b2⟩
  have B2 := Lib.hid (B1.out.trans (b2.mono B1.out.size))
  clear b2 C1
  go_wp2_with fail
  refine (ecode_any r hcd w2).mono ?_
  rintro e w' ⟨rfl, rfl⟩
  go_wp2_with fail
  refine (C2.out w2 B2.out).mono ?_
  rintro e w3 ⟨rfl, b3⟩
  have B3 := Lib.hid (B2.out.trans (b3.mono B2.out.size))
  clear b3 C2
  go_wp2_with fail
  go_ret
  exact ⟨by first | rfl | simp, B3.out⟩
end Go.Proofs.Ytddfkeilifcidaa.P13
