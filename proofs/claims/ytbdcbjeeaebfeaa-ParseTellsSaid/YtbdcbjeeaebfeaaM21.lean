/- What esc.instead, esc.first, placketref01.sign answer, for every byte and every text. -/
import Derived.Test.YtbdcbjeeaebfeaaChecked
import Derived.WalkKit
import Derived.ProofKit
import Derived.Outline
import Derived.WalkLawsBesides
import Derived.WalkSpells
import Derived.Lib.Hide
import Derived.Lib.SlBytesConst
import Derived.Test.YtbdcbjeeaebfeaaM13
import Derived.Test.YtbdcbjeeaebfeaaM20
set_option linter.unusedVariables false
set_option linter.unusedSimpArgs false
namespace Go.Proofs.Ytbdcbjeeaebfeaa.P2
open Go.RowKit

theorem ret_str {a b : ByteArray} (h : a = b) : Ending.returned (.string a) = .returned (.string b) := by rw [h]
theorem num_ne {c k : UInt8} (h : ¬ c = k) : ((c.toNat : Int) == (k.toNat : Int)) = false := by
  simp only [beq_eq_false_iff_ne, ne_eq]
  intro e
  exact h (UInt8.toNat_inj.1 (by omega))

theorem instead_any (c : UInt8) (w : World) : Calls Try.prog 61 #[.int .u8 (c.toNat : Int)] w fun e w' => e = .returned (.string (insB c)) ∧ w = w' := by
  by_cases h1 : c = 38
  · subst h1
    go_enter Try.func61, Try.ntmps61
    go_wp2_with fail
    go_ret
    exact ⟨rfl, rfl⟩
  · by_cases h2 : c = 60
    · subst h2
      go_enter Try.func61, Try.ntmps61
      go_wp2_with fail
      go_ret
      exact ⟨rfl, rfl⟩
    · by_cases h3 : c = 62
      · subst h3
        go_enter Try.func61, Try.ntmps61
        go_wp2_with fail
        go_ret
        exact ⟨rfl, rfl⟩
      · by_cases h4 : c = 34
        · subst h4
          go_enter Try.func61, Try.ntmps61
          go_wp2_with fail
          go_ret
          exact ⟨rfl, rfl⟩
        · have e1 : ((c.toNat : Int) == 38) = false := num_ne h1
          have e2 : ((c.toNat : Int) == 60) = false := num_ne h2
          have e3 : ((c.toNat : Int) == 62) = false := num_ne h3
          have e4 : ((c.toNat : Int) == 34) = false := num_ne h4
          go_enter Try.func61, Try.ntmps61
          go_wp2_with fail
          go_ret
          exact ⟨ret_str (by simp [insB, insL, h1, h2, h3, h4]), rfl⟩

theorem conv1 (c : UInt8) (w : World) : (convert 49 9 (.slice (some ⟨w.heap.size, 0, none⟩) 1 1)).run Try.prog (w.alloc (.cells #[.int .u8 (c.toNat : Int)] 5)) = .ok (.string ⟨#[c]⟩) (w.alloc (.cells #[.int .u8 (c.toNat : Int)] 5)) := by
  refine (run_convert_bytes_back (P := Try.prog) _ 49 9 5 ⟨w.heap.size, 0, none⟩ 1 [c] Try.underlying49 Try.underlying5 Try.underlying9 ?_).trans rfl
  intro j hj
  simp only [List.length_cons, List.length_nil] at hj
  obtain rfl : j = 0 := by omega
  simp [Addr.add]

theorem sign_any (c : UInt8) (w : World) : Calls Try.prog 47 #[.int .u8 (c.toNat : Int)] w fun e w' => e = .returned (.string (signB c)) ∧ Below w.heap.size w w' := by
  by_cases h1 : c = 38
  · subst h1
    go_enter Try.func47, Try.ntmps47
    go_wp2_with fail
    go_ret
    exact ⟨rfl, Below.refl _ _⟩
  · by_cases h2 : c = 60
    · subst h2
      go_enter Try.func47, Try.ntmps47
      go_wp2_with fail
      go_ret
      exact ⟨rfl, Below.refl _ _⟩
    · by_cases h3 : c = 62
      · subst h3
        go_enter Try.func47, Try.ntmps47
        go_wp2_with fail
        go_ret
        exact ⟨rfl, Below.refl _ _⟩
      · by_cases h4 : c = 34
        · subst h4
          go_enter Try.func47, Try.ntmps47
          go_wp2_with fail
          go_ret
          exact ⟨rfl, Below.refl _ _⟩
        · have e1 : ((c.toNat : Int) == 38) = false := num_ne h1
          have e2 : ((c.toNat : Int) == 60) = false := num_ne h2
          have e3 : ((c.toNat : Int) == 62) = false := num_ne h3
          have e4 : ((c.toNat : Int) == 34) = false := num_ne h4
          have hw := conv1 c w
          go_enter Try.func47, Try.ntmps47
          go_wp2_with fail
          go_ret
          exact ⟨ret_str (by simp [signB, signL, isSign, h1, h2, h3, h4]), (Below.refl _ _).alloc (Nat.le_refl _) _⟩

theorem prefix_at (s p : ByteArray) (w : World) {b : Bool} (h : Lib.hasPrefix s.data.toList p.data.toList = b) : Calls Try.prog 24 #[.string s, .string p] w fun e w' => e = .returned (.bool b) ∧ w = w' := by
  rw [← h]
  exact (Bd.prefix_any s p w).mono fun e w' h => ⟨h.1, h.2.symm⟩
theorem instead_n {n : Int} (c : UInt8) (w : World) (h : n = (c.toNat : Int)) : Calls Try.prog 61 #[.int .u8 n] w fun e w' => e = .returned (.string (insB c)) ∧ w = w' := by
  rw [h]; exact instead_any c w
theorem insB_no {c : UInt8} (h : isSign c = false) : insB c = ByteArray.empty := by
  have h38 : ¬ c = 38 := by rintro rfl; cases h
  have h60 : ¬ c = 60 := by rintro rfl; cases h
  have h62 : ¬ c = 62 := by rintro rfl; cases h
  have h34 : ¬ c = 34 := by rintro rfl; cases h
  simp [insB, insL, h38, h60, h62, h34]; rfl
theorem instead_no (c : UInt8) (w : World) (h : isSign c = false) : Calls Try.prog 61 #[.int .u8 (c.toNat : Int)] w fun e w' => e = .returned (.string ByteArray.empty) ∧ w = w' := by
  rw [← insB_no h]; exact instead_any c w
theorem insB_yes {c : UInt8} (h : isSign c = true) : (insB c).toList.isEmpty = false := by
  rw [ByteArray.toList_eq]
  rcases isSign_cases h with rfl | rfl | rfl | rfl <;> rfl
theorem insB_sign {c : UInt8} (h : isSign c = true) : (insB c).data.toList = signL c := by
  simp [insB, signL, h]

def sgn : Nat → UInt8
  | 0 => 38
  | 1 => 60
  | 2 => 62
  | _ => 34
/-- none of the signs ahead of place k has its form in front -/
def NoTo (l : List UInt8) (k : Nat) : Prop := ∀ j, j < k → Lib.hasPrefix l (signL (sgn j)) = false
theorem NoTo.next {l : List UInt8} {k : Nat} (h : NoTo l k) (hk : Lib.hasPrefix l (signL (sgn k)) = false) : NoTo l (k + 1) := by
  intro j hj
  by_cases e : j = k
  · subst e; exact hk
  · exact h j (by omega)
theorem NoTo.none {l : List UInt8} {c : UInt8} (h : NoTo l 4) (h0 : l.head? = some c) (hc : isSign c = true) : headL l = none := by
  cases l with
  | nil => rfl
  | cons a r =>
    cases h0
    have e0 := h 0 (by omega)
    have e1 := h 1 (by omega)
    have e2 := h 2 (by omega)
    have e3 := h 3 (by omega)
    simp only [sgn] at e0 e1 e2 e3
    simp [headL, hc, e0, e1, e2, e3]
theorem head_at (s : ByteArray) (h : 0 < s.size) : s.data.toList.head? = some s[0] := by
  rw [List.head?_eq_getElem?, List.getElem?_eq_getElem (by simpa using h)]; rfl
theorem headL_no {l : List UInt8} {c : UInt8} (h0 : l.head? = some c) (hc : isSign c = false) : headL l = some (c, 1) := by
  cases l with
  | nil => cases h0
  | cons a r => cases h0; simp [headL, hc]
theorem ret_two {a b : Int} {c d : Int} (h : a = b) (h2 : c = d) : Ending.returned (.tuple #[.int .u8 a, .int .i64 c]) = .returned (.tuple #[.int .u8 b, .int .i64 d]) := by rw [h, h2]

set_option maxHeartbeats 1000000 in
theorem first_any (s : ByteArray) (w : World) (h : 0 < s.size) : Calls Try.prog 55 #[.string s] w fun e w' => e = .returned (.tuple #[.int .u8 (((headL s.data.toList).getD (0, 0)).1.toNat : Int), .int .i64 (((headL s.data.toList).getD (0, 0)).2 : Int)]) ∧ w = w' := by
  have h0 := head_at s h
  cases hc : isSign s[0]
  · have e := headL_no h0 hc
    rw [e]
    have HC := Lib.hid hc
    clear h0 e hc
    go_enter Try.func55, Try.ntmps55
    go_wp2_with fail
    refine (instead_no _ _ HC.out).mono ?_
    rintro e w' ⟨rfl, rfl⟩
    go_wp2_with fail
    go_ret2
    exact ⟨rfl, rfl⟩
  · have hE := insB_yes hc
    have hE2 : ¬ (insB s[0]).toList = [] := by intro e; rw [e] at hE; cases hE
    have HC := Lib.hid hc
    have H0 := Lib.hid h0
    clear hc h0
    go_enter Try.func55, Try.ntmps55
    go_wp2_with fail
    refine (instead_any _ _).mono ?_
    rintro e w' ⟨rfl, rfl⟩
    go_wp2_with fail
    go_loop [4] (fun i => ∃ k : Nat, k ≤ 4 ∧ i = .int .i64 k ∧ NoTo s.data.toList k) (fun i => 4 - (intOf i).toNat)
    case atStart => exact ⟨0, by omega, rfl, fun _ h => absurd h (by omega)⟩
    case round =>
      obtain ⟨k, hk, rfl, hno⟩ := hrel
      have HN := Lib.hid hno
      clear hno
      by_cases hlt : k < 4
      · rcases (by omega : k = 0 ∨ k = 1 ∨ k = 2 ∨ k = 3) with rfl | rfl | rfl | rfl
        · cases hp : Lib.hasPrefix s.data.toList (insB 38).data.toList
          · have HP := Lib.hid hp
            clear hp
            go_wp2_with fail
            refine (instead_n 38 _ rfl).mono ?_
            rintro e w' ⟨rfl, rfl⟩
            go_wp2_with fail
            refine (prefix_at _ _ _ HP.out).mono ?_
            rintro e w' ⟨rfl, rfl⟩
            go_wp2_with fail
            go_round
            case rel => exact ⟨1, by omega, rfl, HN.out.next HP.out⟩
            case measure => simp [intOf]
          · have HP := Lib.hid hp
            clear hp
            go_wp2_with fail
            refine (instead_n 38 _ rfl).mono ?_
            rintro e w' ⟨rfl, rfl⟩
            go_wp2_with fail
            refine (prefix_at _ _ _ HP.out).mono ?_
            rintro e w' ⟨rfl, rfl⟩
            go_wp2_with fail
            go_ret2
            exact ⟨by rw [headL_of_prefix (c := 38) HP.out]; rfl, rfl⟩
        · cases hp : Lib.hasPrefix s.data.toList (insB 60).data.toList
          · have HP := Lib.hid hp
            clear hp
            go_wp2_with fail
            refine (instead_n 60 _ rfl).mono ?_
            rintro e w' ⟨rfl, rfl⟩
            go_wp2_with fail
            refine (prefix_at _ _ _ HP.out).mono ?_
            rintro e w' ⟨rfl, rfl⟩
            go_wp2_with fail
            go_round
            case rel => exact ⟨2, by omega, rfl, HN.out.next HP.out⟩
            case measure => simp [intOf]
          · have HP := Lib.hid hp
            clear hp
            go_wp2_with fail
            refine (instead_n 60 _ rfl).mono ?_
            rintro e w' ⟨rfl, rfl⟩
            go_wp2_with fail
            refine (prefix_at _ _ _ HP.out).mono ?_
            rintro e w' ⟨rfl, rfl⟩
            go_wp2_with fail
            go_ret2
            exact ⟨by rw [headL_of_prefix (c := 60) HP.out]; rfl, rfl⟩
        · cases hp : Lib.hasPrefix s.data.toList (insB 62).data.toList
          · have HP := Lib.hid hp
            clear hp
            go_wp2_with fail
            refine (instead_n 62 _ rfl).mono ?_
            rintro e w' ⟨rfl, rfl⟩
            go_wp2_with fail
            refine (prefix_at _ _ _ HP.out).mono ?_
            rintro e w' ⟨rfl, rfl⟩
            go_wp2_with fail
            go_round
            case rel => exact ⟨3, by omega, rfl, HN.out.next HP.out⟩
            case measure => simp [intOf]
          · have HP := Lib.hid hp
            clear hp
            go_wp2_with fail
            refine (instead_n 62 _ rfl).mono ?_
            rintro e w' ⟨rfl, rfl⟩
            go_wp2_with fail
            refine (prefix_at _ _ _ HP.out).mono ?_
            rintro e w' ⟨rfl, rfl⟩
            go_wp2_with fail
            go_ret2
            exact ⟨by rw [headL_of_prefix (c := 62) HP.out]; rfl, rfl⟩
        · cases hp : Lib.hasPrefix s.data.toList (insB 34).data.toList
          · have HP := Lib.hid hp
            clear hp
            go_wp2_with fail
            refine (instead_n 34 _ rfl).mono ?_
            rintro e w' ⟨rfl, rfl⟩
            go_wp2_with fail
            refine (prefix_at _ _ _ HP.out).mono ?_
            rintro e w' ⟨rfl, rfl⟩
            go_wp2_with fail
            go_round
            case rel => exact ⟨4, by omega, rfl, HN.out.next HP.out⟩
            case measure => simp [intOf]
          · have HP := Lib.hid hp
            clear hp
            go_wp2_with fail
            refine (instead_n 34 _ rfl).mono ?_
            rintro e w' ⟨rfl, rfl⟩
            go_wp2_with fail
            refine (prefix_at _ _ _ HP.out).mono ?_
            rintro e w' ⟨rfl, rfl⟩
            go_wp2_with fail
            go_ret2
            exact ⟨by rw [headL_of_prefix (c := 34) HP.out]; rfl, rfl⟩
      · obtain rfl : k = 4 := by omega
        go_wp2_with fail
        go_ret2
        exact ⟨by rw [HN.out.none H0.out HC.out]; rfl, rfl⟩
end Go.Proofs.Ytbdcbjeeaebfeaa.P2
