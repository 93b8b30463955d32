/- Attributes as they lie in memory: a slice's cells, three an attribute; a block that is known whole; a slice of the call's own. No condition. -/
import Derived.Test.YtgpbgimobcdogaaChecked
import Derived.WalkKit
import Derived.ProofKit
import Derived.Outline
import Derived.WalkLawsBesides
import Derived.WalkSpells
import Derived.OwnWalk
import Derived.Below
import Derived.Maps.AppendAt
import Derived.Laws.AppendOwnNone
import Derived.Deep.QuietTactic
import Derived.BigQuiet
import Derived.Laws.StructEq
import Derived.Lib.Hide
import Derived.Test.YtgpbgimobcdogaaM1
import Derived.Test.YtgpbgimobcdogaaM2
set_option linter.unusedVariables false
set_option linter.unusedSimpArgs false
set_option linter.unusedVariables false
set_option linter.unusedSimpArgs false
namespace Go.Proofs.Ytgpbgimobcdogaa.P3
open Go.RowKit

theorem Below_drewN {B : Nat} {a w : World} (h : Below B a w) (n : Nat) : Below B a (w.drewN n) := ⟨h.os, h.tape, h.output, h.size, h.block⟩
theorem ret_bool {a b : Bool} (h : a = b) : Ending.returned (.bool a) = .returned (.bool b) := by rw [h]

/-! ### A slice that is read -/
/-- the slice at A holds the attributes l, below block B -/
def Holds (w : World) (B : Nat) (A : Option Addr) (l : List At) : Prop :=
  ∀ k (h : k < l.length), ∃ b o, A = some ⟨b, o, none⟩ ∧ b < B ∧ w.cell? ⟨b, o + k * 3, none⟩ = some (.string l[k].nm) ∧ w.cell? ⟨b, o + k * 3 + 1, none⟩ = some (.string l[k].vl) ∧ w.cell? ⟨b, o + k * 3 + 2, none⟩ = some (.bool l[k].st)

theorem Holds.below {w w' : World} {B C : Nat} {A : Option Addr} {l : List At} (h : Holds w B A l) (hb : Below C w w') (hBC : B ≤ C) : Holds w' B A l := by
  intro k hk
  obtain ⟨b, o, hA, hlt, h0, h1, h2⟩ := h k hk
  refine ⟨b, o, hA, hlt, ?_, ?_, ?_⟩
  · rw [hb.cell (by show b < C; omega)]; exact h0
  · rw [hb.cell (by show b < C; omega)]; exact h1
  · rw [hb.cell (by show b < C; omega)]; exact h2
theorem Holds.more {w : World} {B B' : Nat} {A : Option Addr} {l : List At} (h : Holds w B A l) (hB : B ≤ B') : Holds w B' A l := by
  intro k hk
  obtain ⟨b, o, hA, hlt, h0⟩ := h k hk
  exact ⟨b, o, hA, by omega, h0⟩
theorem Holds.take {w : World} {B : Nat} {A : Option Addr} {l : List At} (h : Holds w B A l) (n : Nat) : Holds w B A (l.take n) := by
  intro k hk
  obtain ⟨b, o, hA, hlt, h0⟩ := h k (by rw [List.length_take] at hk; omega)
  exact ⟨b, o, hA, hlt, by simpa using h0⟩
theorem Holds.grown {w w' : World} {B : Nat} {A : Option Addr} {l : List At} {row : Option Nat} (h : Holds w B A l) (hg : w.grownBy w' row) (hB : B ≤ w.heap.size) (hr : ∀ b o, A = some ⟨b, o, none⟩ → some b ≠ row) : Holds w' B A l := by
  intro k hk
  obtain ⟨b, o, hA, hlt, h0, h1, h2⟩ := h k hk
  have key : ∀ i, w'.cell? ⟨b, i, none⟩ = w.cell? ⟨b, i, none⟩ := fun i => World.cell?_of_block (hg.block b (by omega) (hr b o hA))
  exact ⟨b, o, hA, hlt, by rw [key]; exact h0, by rw [key]; exact h1, by rw [key]; exact h2⟩
theorem Holds.one {w : World} {g : Nat} {a : At} (h : w.heap[g]? = some (.cells #[.string a.nm, .string a.vl, .bool a.st] 57 (0, 0))) : Holds w (g + 1) (some ⟨g, 0, none⟩) [a] := by
  intro k hk
  have : k = 0 := by simpa using hk
  subst this
  exact ⟨g, 0, rfl, by omega, cell_of_row w g 0 _ _ (0, 0) h, cell_of_row w g 1 _ _ (0, 0) h, cell_of_row w g 2 _ _ (0, 0) h⟩
/-- into a later world of a call -/
theorem Holds.on {w w' : World} {A : Option Addr} {l : List At} (h : Holds w w.heap.size A l) (hb : Below w.heap.size w w') : Holds w' w'.heap.size A l := (h.below hb (Nat.le_refl _)).more hb.size

/-! ### A block that is known whole -/
def Blk (w : World) (g : Nat) (a : At) : Prop := w.heap[g]? = some (.cells #[.string a.nm, .string a.vl, .bool a.st] 57 (0, 0))
section
variable {w w' : World} {g : Nat} {a : At}
theorem Blk.lt (h : Blk w g a) : g < w.heap.size := by
  rcases Nat.lt_or_ge g w.heap.size with hlt | hge
  · exact hlt
  · unfold Blk at h; rw [Array.getElem?_eq_none hge] at h; cases h
theorem Blk.c0 (h : Blk w g a) : w.cell? ⟨g, 0, none⟩ = some (.string a.nm) := cell_of_row w g 0 _ _ (0, 0) h
theorem Blk.c1 (h : Blk w g a) : w.cell? ⟨g, 1, none⟩ = some (.string a.vl) := cell_of_row w g 1 _ _ (0, 0) h
theorem Blk.c2 (h : Blk w g a) : w.cell? ⟨g, 2, none⟩ = some (.bool a.st) := cell_of_row w g 2 _ _ (0, 0) h
theorem Blk.frozen (h : Blk w g a) (i : Nat) : w.frozen? ⟨g, i, none⟩ = false := by
  unfold Blk at h
  simp [World.frozen?, h]
theorem Blk.new (w : World) (a : At) : Blk (w.alloc (.cells #[.string a.nm, .string a.vl, .bool a.st] 57)) w.heap.size a := heap_alloc_new w _
theorem Blk.newS (w : World) {a : At} {s : Bool} (h : a.st = s) : Blk (w.alloc (.cells #[.string a.nm, .string a.vl, .bool s] 57)) w.heap.size a := by
  subst h; exact Blk.new w a
theorem Blk.new2 (w : World) (o : Obj) (a : At) : Blk ((w.alloc o).alloc (.cells #[.string a.nm, .string a.vl, .bool a.st] 57)) (w.heap.size + 1) a := by
  have := Blk.new (w.alloc o) a
  simpa using this
theorem Blk.alloc (h : Blk w g a) (o : Obj) : Blk (w.alloc o) g a := (Below.heap_alloc w o g h.lt).trans h
theorem Blk.far (h : Blk w g a) {p : Addr} (hp : g ≠ p.block) (u : Value) : Blk (w.setCell p u) g a := (Below.heap_setCell w p u g hp).trans h
theorem Blk.set3 {a' : At} (h : Blk w g a) : Blk (((w.setCell ⟨g, 0, none⟩ (.string a'.nm)).setCell ⟨g, 1, none⟩ (.string a'.vl)).setCell ⟨g, 2, none⟩ (.bool a'.st)) g a' := by
  unfold Blk at h ⊢
  simp [World.setCell, Array.getElem?_modify, h]
theorem Blk.below {B : Nat} (h : Blk w g a) (hb : Below B w w') (hg : g < B) : Blk w' g a := (hb.block g hg).trans h
theorem Blk.drewN (h : Blk w g a) (n : Nat) : Blk (w.drewN n) g a := h
end

/-! ### Two attributes compared -/
theorem eqg : Try.prog.eqGuardType Try.prog.depth 57 = false := by kernel_rfl
theorem heldA : Try.prog.stoodInHeld 57 = false := by kernel_rfl
theorem eq_run (a b : At) (d : Nat) (w : World) : (Op.equalIn (d + 2) 57 (.agg #[.string a.nm, .string a.vl, .bool a.st]) (.agg #[.string b.nm, .string b.vl, .bool b.st])).run Try.prog w = .ok (atB a b) w := by
  rw [run_equalIn_struct w (d + 1) 57 _ _ (by unfold Program.fieldsOf; rw [Try.underlying57]) heldA]
  simp [Program.fieldsOf, Try.underlying57, Op.eqFields, go_sem, Try.underlying9, Try.underlying4, part]
  unfold atB
  by_cases h1 : a.nm.toList = b.nm.toList <;> by_cases h2 : a.vl.toList = b.vl.toList <;> by_cases h3 : a.st = b.st <;> simp [h1, h2, h3]
theorem neq_at {a b : At} {r : Bool} (h : atB a b = r) (w : World) : (binOp .neq 57 (.agg #[.string a.nm, .string a.vl, .bool a.st]) (.agg #[.string b.nm, .string b.vl, .bool b.st])).run Try.prog w = .ok (.bool (!r)) w := by
  rw [run_neq_struct, eq_run a b 9998 w, h]; rfl
theorem eql_at {a b : At} {r : Bool} (h : atB a b = r) (w : World) : (binOp .eql 57 (.agg #[.string a.nm, .string a.vl, .bool a.st]) (.agg #[.string b.nm, .string b.vl, .bool b.st])).run Try.prog w = .ok (.bool r) w := by
  rw [run_eql_struct, eq_run a b 9998 w, h]; rfl
end Go.Proofs.Ytgpbgimobcdogaa.P3

/- What attr.Find and attr.has answer, for every list that isn't too long. -/
set_option linter.unusedVariables false
set_option linter.unusedSimpArgs false
namespace Go.Proofs.Ytgpbgimobcdogaa.P3
open Go.RowKit

theorem ret_find {o o' : Option At} (h : o = o') : Ending.returned (.tuple #[.agg #[.string (o.getD At.none).nm, .string (o.getD At.none).vl, .bool (o.getD At.none).st], .bool o.isSome]) = .returned (.tuple #[.agg #[.string (o'.getD At.none).nm, .string (o'.getD At.none).vl, .bool (o'.getD At.none).st], .bool o'.isSome]) := by rw [h]

end Go.Proofs.Ytgpbgimobcdogaa.P3

/- What each call of layer 1 and of its reference answers, for every string. -/
set_option linter.unusedVariables false
set_option linter.unusedSimpArgs false
namespace Go.Proofs.Ytgpbgimobcdogaa.P1
open Go.RowKit

theorem letter_any (c : UInt8) (w : World) : Calls Try.prog 57 #[.int .u8 (c.toNat : Int)] w fun e w' => e = .returned (.bool (letB c)) ∧ w = w' := by
  go_enter Try.func57, Try.ntmps57
  go_wp2_with fail
  all_goals (go_ret; exact ⟨ret_bool (by first | (rw [letB_no (by omega)]) | exact letB_mk (by omega)), rfl⟩)
theorem rletter_any (c : UInt8) (w : World) : Calls Try.prog 56 #[.int .u8 (c.toNat : Int)] w fun e w' => e = .returned (.bool (letB c)) ∧ w = w' := by
  go_enter Try.func56, Try.ntmps56
  go_wp2_with fail
  all_goals (go_ret; exact ⟨ret_bool (by first | (rw [letB_no (by omega)]) | exact letB_mk (by omega)), rfl⟩)
theorem digit_any (c : UInt8) (w : World) : Calls Try.prog 58 #[.int .u8 (c.toNat : Int)] w fun e w' => e = .returned (.bool (digB c)) ∧ w = w' := by
  go_enter Try.func58, Try.ntmps58
  go_wp2_with fail
  all_goals (go_ret; exact ⟨ret_bool (by first | (rw [digB_no (by omega)]) | (unfold digB; simp; omega)), rfl⟩)

theorem may_any (s : ByteArray) (w : World) (hs : s.size ≤ maxLen) : Calls Try.prog 51 #[.string s] w fun e w' => e = .returned (.bool (nameB s.data.toList)) ∧ w = w' := by
  unfold maxLen at hs
  by_cases h0 : s.size = 0
  · have hE : s.toList = [] := toList_nil h0
    have hE2 : s.toList.isEmpty = true := by rw [hE]; rfl
    go_enter Try.func51, Try.ntmps51
    go_wp2_with fail
    go_ret
    exact ⟨ret_bool (nameB_empty h0).symm, rfl⟩
  · have h1 : 0 < s.size := by omega
    have hE2 : s.toList.isEmpty = false := toList_cons h1
    have hE3 : ¬ s.toList = [] := by intro e; rw [e] at hE2; cases hE2
    clear h0
    by_cases h12 : 12 < s.size
    · go_enter Try.func51, Try.ntmps51
      go_wp2_with fail
      go_ret
      exact ⟨ret_bool (nameB_long h12).symm, rfl⟩
    · go_enter Try.func51, Try.ntmps51
      go_wp2_with fail
      refine (letter_any _ _).mono ?_
      rintro e w' ⟨rfl, rfl⟩
      cases hl : letB s[0]
      · go_wp2_with fail
        go_ret
        exact ⟨ret_bool (nameB_head h1 hl).symm, rfl⟩
      · have HL := Lib.hid hl
        go_wp2_with fail
        clear hl
        go_loop [3] (fun i => ∃ k : Nat, 1 ≤ k ∧ k ≤ s.size ∧ i = .int .i64 k ∧ InTo s k) (fun i => s.size - (intOf i).toNat)
        case atStart => exact ⟨1, by omega, by omega, rfl, InTo.one s⟩
        case round =>
          obtain ⟨k, hk1, hk, rfl, hin⟩ := hrel
          have HIN := Lib.hid hin
          clear hin
          by_cases hlt : k < s.size
          · go_wp2_with (first | (go_at_call 57; refine (letter_any _ _).mono ?_; rintro e w' ⟨rfl, rfl⟩) | (go_at_call 58; refine (digit_any _ _).mono ?_; rintro e w' ⟨rfl, rfl⟩))
            all_goals first | (go_ret; exact ⟨ret_bool (nameB_bad hk1 hlt (inB_no ‹_› ‹_› ‹_›)).symm, rfl⟩) | skip
            all_goals
              go_round
              case rel => exact ⟨k + 1, by omega, by omega, by go_num, HIN.out.next hlt (by first | exact inB_let ‹_› | exact inB_dig ‹_› | exact inB_dash ‹_›)⟩
              case measure => simp [intOf]; omega
          · obtain rfl : k = s.size := by omega
            go_wp2_with fail
            go_ret
            exact ⟨ret_bool (nameB_ok h1 (by omega) HL.out HIN.out).symm, rfl⟩

theorem rname_any (s : ByteArray) (w : World) (hs : s.size ≤ maxLen) : Calls Try.prog 46 #[.string s] w fun e w' => e = .returned (.bool (nameB s.data.toList)) ∧ w = w' := by
  unfold maxLen at hs
  by_cases h0 : s.size < 1
  · go_enter Try.func46, Try.ntmps46
    go_wp2_with fail
    go_ret
    exact ⟨ret_bool (nameB_empty (by omega)).symm, rfl⟩
  · have h1 : 0 < s.size := by omega
    clear h0
    by_cases h12 : 12 < s.size
    · go_enter Try.func46, Try.ntmps46
      go_wp2_with fail
      go_ret
      exact ⟨ret_bool (nameB_long h12).symm, rfl⟩
    · go_enter Try.func46, Try.ntmps46
      go_wp2_with fail
      go_loop [3] (fun i => ∃ k : Nat, 0 ≤ k ∧ k ≤ s.size ∧ i = .int .i64 k ∧ InTo s k ∧ (0 < k → letB s[0] = true)) (fun i => s.size - (intOf i).toNat)
      case atStart => exact ⟨0, by omega, by omega, rfl, fun _ _ _ h => absurd h (by omega), fun h => absurd h (by omega)⟩
      case round =>
        obtain ⟨k, hk1, hk, rfl, hin, hl0⟩ := hrel
        have HIN := Lib.hid hin
        have HL := Lib.hid hl0
        clear hin hl0
        by_cases hlt : k < s.size
        · by_cases hk0 : k = 0
          · subst hk0
            go_wp2_with (go_at_call 56; refine (rletter_any _ _).mono ?_; rintro e w' ⟨rfl, rfl⟩)
            all_goals first | (go_ret; exact ⟨ret_bool (nameB_head h1 (Bool.eq_false_iff.mpr ‹_›)).symm, rfl⟩) | skip
            go_round
            case rel => exact ⟨1, by omega, by omega, rfl, InTo.one s, fun _ => ‹_›⟩
            case measure => simp [intOf]; omega
          · have hk1 : 1 ≤ k := by omega
            have hk2 : ((k : Int) == 0) = false := by simpa using hk0
            clear hk0
            by_cases hd1 : (s[k].toNat : Int) < 48
            · cases hd3 : ((s[k].toNat : Int) != 45)
              all_goals
                go_wp2_with (go_at_call 56; refine (rletter_any _ _).mono ?_; rintro e w' ⟨rfl, rfl⟩)
                all_goals first | (go_ret; exact ⟨ret_bool (nameB_bad hk1 hlt (inB_no' ‹_› (by omega) hd3)).symm, rfl⟩) | skip
                all_goals
                  go_round
                  case rel => exact ⟨k + 1, by omega, by omega, by go_num, HIN.out.next hlt (by first | exact inB_let ‹_› | exact inB_dash ‹_›), fun _ => HL.out hk1⟩
                  case measure => simp [intOf]; omega
            · have hd1' : 48 ≤ (s[k].toNat : Int) := by omega
              by_cases hd2 : 57 < (s[k].toNat : Int)
              · have hd3 : ((s[k].toNat : Int) != 45) = true := by simp; omega
                go_wp2_with (go_at_call 56; refine (rletter_any _ _).mono ?_; rintro e w' ⟨rfl, rfl⟩)
                all_goals first | (go_ret; exact ⟨ret_bool (nameB_bad hk1 hlt (inB_no' ‹_› (by omega) hd3)).symm, rfl⟩) | skip
                all_goals
                  go_round
                  case rel => exact ⟨k + 1, by omega, by omega, by go_num, HIN.out.next hlt (inB_let ‹_›), fun _ => HL.out hk1⟩
                  case measure => simp [intOf]; omega
              · go_wp2_with (go_at_call 56; refine (rletter_any _ _).mono ?_; rintro e w' ⟨rfl, rfl⟩)
                all_goals
                  go_round
                  case rel => exact ⟨k + 1, by omega, by omega, by go_num, HIN.out.next hlt (inB_dig' hd1' (by omega)), fun _ => HL.out hk1⟩
                  case measure => simp [intOf]; omega
        · obtain rfl : k = s.size := by omega
          go_wp2_with fail
          go_ret
          exact ⟨ret_bool (nameB_ok h1 (by omega) (HL.out h1) HIN.out).symm, rfl⟩

theorem text_any (s : ByteArray) (w : World) (hs : s.size ≤ maxLen) : Calls Try.prog 53 #[.string s] w fun e w' => e = .returned (.bool (textB s.data.toList)) ∧ w = w' := by
  unfold maxLen at hs
  by_cases h60 : 60 < s.size
  · go_enter Try.func53, Try.ntmps53
    go_wp2_with fail
    go_ret
    exact ⟨ret_bool (textB_long h60).symm, rfl⟩
  · go_enter Try.func53, Try.ntmps53
    go_wp2_with fail
    go_loop [3] (fun i => ∃ k : Nat, 0 ≤ k ∧ k ≤ s.size ∧ i = .int .i64 k ∧ OkTo s k) (fun i => s.size - (intOf i).toNat)
    case atStart => exact ⟨0, by omega, by omega, rfl, OkTo.zero s⟩
    case round =>
      obtain ⟨k, hk1, hk, rfl, hin⟩ := hrel
      have HIN := Lib.hid hin
      clear hin
      by_cases hlt : k < s.size
      · by_cases hb : (s[k].toNat : Int) < 32
        · go_wp2_with fail
          go_ret
          exact ⟨ret_bool (textB_bad hlt (.inl hb)).symm, rfl⟩
        · have hb1 : 32 ≤ (s[k].toNat : Int) := by omega
          by_cases hb2 : 126 < (s[k].toNat : Int)
          · go_wp2_with fail
            go_ret
            exact ⟨ret_bool (textB_bad hlt (.inr hb2)).symm, rfl⟩
          · go_wp2_with fail
            go_round
            case rel => exact ⟨k + 1, by omega, by omega, by go_num, HIN.out.next hlt hb1 (by omega)⟩
            case measure => simp [intOf]; omega
      · obtain rfl : k = s.size := by omega
        go_wp2_with fail
        go_ret
        exact ⟨ret_bool (textB_ok (by omega) HIN.out).symm, rfl⟩

theorem rtext_any (s : ByteArray) (w : World) (hs : s.size ≤ maxLen) : Calls Try.prog 48 #[.string s] w fun e w' => e = .returned (.bool (textB s.data.toList)) ∧ w = w' := by
  unfold maxLen at hs
  go_enter Try.func48, Try.ntmps48
  go_wp2_with fail
  go_loop [3] (fun i => ∃ k : Nat, 0 ≤ k ∧ k ≤ s.size ∧ i = .int .i64 k ∧ OkTo s k) (fun i => s.size - (intOf i).toNat)
  case atStart => exact ⟨0, by omega, by omega, rfl, OkTo.zero s⟩
  case round =>
    obtain ⟨k, hk1, hk, rfl, hin⟩ := hrel
    have HIN := Lib.hid hin
    clear hin
    by_cases hlt : k < s.size
    · by_cases hb : (s[k].toNat : Int) < 32
      · go_wp2_with fail
        go_ret
        exact ⟨ret_bool (textB_bad hlt (.inl hb)).symm, rfl⟩
      · have hb1 : 32 ≤ (s[k].toNat : Int) := by omega
        by_cases hb2 : 126 < (s[k].toNat : Int)
        · go_wp2_with fail
          go_ret
          exact ⟨ret_bool (textB_bad hlt (.inr hb2)).symm, rfl⟩
        · go_wp2_with fail
          go_round
          case rel => exact ⟨k + 1, by omega, by omega, by go_num, HIN.out.next hlt hb1 (by omega)⟩
          case measure => simp [intOf]; omega
    · obtain rfl : k = s.size := by omega
      go_wp2_with fail
      go_ret
      exact ⟨ret_bool (by rw [textB_all HIN.out]; exact decide_eq_decide.mpr (by omega)), rfl⟩
end Go.Proofs.Ytgpbgimobcdogaa.P1
