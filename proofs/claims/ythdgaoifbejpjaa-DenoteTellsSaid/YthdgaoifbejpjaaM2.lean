/- Attributes as they lie in memory: a slice's cells, three an attribute; a block that is known whole; a slice of the call's own. No condition. -/
import Derived.Test.YthdgaoifbejpjaaChecked
import Derived.WalkKit
import Derived.ProofKit
import Derived.Outline
import Derived.WalkLawsBesides
import Derived.WalkSpells
import Derived.OwnWalk
import Derived.Below
import Derived.Maps.AppendAt
import Derived.Laws.AppendOwnNone
import Derived.Deep.QuietTactic
import Derived.BigQuiet
import Derived.Laws.StructEq
import Derived.Lib.Hide
import Derived.Deep.RegionHeld3
import Derived.Test.YthdgaoifbejpjaaM1
set_option linter.unusedVariables false
set_option linter.unusedSimpArgs false
set_option linter.unusedVariables false
set_option linter.unusedSimpArgs false
namespace Go.Proofs.Ythdgaoifbejpjaa.P3
open Go.RowKit

theorem Below_drewN {B : Nat} {a w : World} (h : Below B a w) (n : Nat) : Below B a (w.drewN n) := ⟨h.os, h.tape, h.output, h.size, h.block⟩
theorem ret_bool {a b : Bool} (h : a = b) : Ending.returned (.bool a) = .returned (.bool b) := by rw [h]

/-! ### A slice that is read -/
/-- the slice at A holds the attributes l, below block B -/
def Holds (w : World) (B : Nat) (A : Option Addr) (l : List At) : Prop :=
  ∀ k (h : k < l.length), ∃ b o, A = some ⟨b, o, none⟩ ∧ b < B ∧ w.cell? ⟨b, o + k * 3, none⟩ = some (.string l[k].nm) ∧ w.cell? ⟨b, o + k * 3 + 1, none⟩ = some (.string l[k].vl) ∧ w.cell? ⟨b, o + k * 3 + 2, none⟩ = some (.bool l[k].st)

theorem Holds.below {w w' : World} {B C : Nat} {A : Option Addr} {l : List At} (h : Holds w B A l) (hb : Below C w w') (hBC : B ≤ C) : Holds w' B A l := by
  intro k hk
  obtain ⟨b, o, hA, hlt, h0, h1, h2⟩ := h k hk
  refine ⟨b, o, hA, hlt, ?_, ?_, ?_⟩
  · rw [hb.cell (by show b < C; omega)]; exact h0
  · rw [hb.cell (by show b < C; omega)]; exact h1
  · rw [hb.cell (by show b < C; omega)]; exact h2
theorem Holds.more {w : World} {B B' : Nat} {A : Option Addr} {l : List At} (h : Holds w B A l) (hB : B ≤ B') : Holds w B' A l := by
  intro k hk
  obtain ⟨b, o, hA, hlt, h0⟩ := h k hk
  exact ⟨b, o, hA, by omega, h0⟩
theorem Holds.take {w : World} {B : Nat} {A : Option Addr} {l : List At} (h : Holds w B A l) (n : Nat) : Holds w B A (l.take n) := by
  intro k hk
  obtain ⟨b, o, hA, hlt, h0⟩ := h k (by rw [List.length_take] at hk; omega)
  exact ⟨b, o, hA, hlt, by simpa using h0⟩
theorem Holds.grown {w w' : World} {B : Nat} {A : Option Addr} {l : List At} {row : Option Nat} (h : Holds w B A l) (hg : w.grownBy w' row) (hB : B ≤ w.heap.size) (hr : ∀ b o, A = some ⟨b, o, none⟩ → some b ≠ row) : Holds w' B A l := by
  intro k hk
  obtain ⟨b, o, hA, hlt, h0, h1, h2⟩ := h k hk
  have key : ∀ i, w'.cell? ⟨b, i, none⟩ = w.cell? ⟨b, i, none⟩ := fun i => World.cell?_of_block (hg.block b (by omega) (hr b o hA))
  exact ⟨b, o, hA, hlt, by rw [key]; exact h0, by rw [key]; exact h1, by rw [key]; exact h2⟩
theorem Holds.one {w : World} {g : Nat} {a : At} (h : w.heap[g]? = some (.cells #[.string a.nm, .string a.vl, .bool a.st] 85 (0, 0))) : Holds w (g + 1) (some ⟨g, 0, none⟩) [a] := by
  intro k hk
  have : k = 0 := by simpa using hk
  subst this
  exact ⟨g, 0, rfl, by omega, cell_of_row w g 0 _ _ (0, 0) h, cell_of_row w g 1 _ _ (0, 0) h, cell_of_row w g 2 _ _ (0, 0) h⟩
/-- into a later world of a call -/
theorem Holds.on {w w' : World} {A : Option Addr} {l : List At} (h : Holds w w.heap.size A l) (hb : Below w.heap.size w w') : Holds w' w'.heap.size A l := (h.below hb (Nat.le_refl _)).more hb.size

/-! ### A block that is known whole -/
def Blk (w : World) (g : Nat) (a : At) : Prop := w.heap[g]? = some (.cells #[.string a.nm, .string a.vl, .bool a.st] 85 (0, 0))
section
variable {w w' : World} {g : Nat} {a : At}
theorem Blk.lt (h : Blk w g a) : g < w.heap.size := by
  rcases Nat.lt_or_ge g w.heap.size with hlt | hge
  · exact hlt
  · unfold Blk at h; rw [Array.getElem?_eq_none hge] at h; cases h
theorem Blk.c0 (h : Blk w g a) : w.cell? ⟨g, 0, none⟩ = some (.string a.nm) := cell_of_row w g 0 _ _ (0, 0) h
theorem Blk.c1 (h : Blk w g a) : w.cell? ⟨g, 1, none⟩ = some (.string a.vl) := cell_of_row w g 1 _ _ (0, 0) h
theorem Blk.c2 (h : Blk w g a) : w.cell? ⟨g, 2, none⟩ = some (.bool a.st) := cell_of_row w g 2 _ _ (0, 0) h
theorem Blk.frozen (h : Blk w g a) (i : Nat) : w.frozen? ⟨g, i, none⟩ = false := by
  unfold Blk at h
  simp [World.frozen?, h]
theorem Blk.new (w : World) (a : At) : Blk (w.alloc (.cells #[.string a.nm, .string a.vl, .bool a.st] 85)) w.heap.size a := heap_alloc_new w _
theorem Blk.newS (w : World) {a : At} {s : Bool} (h : a.st = s) : Blk (w.alloc (.cells #[.string a.nm, .string a.vl, .bool s] 85)) w.heap.size a := by
  subst h; exact Blk.new w a
theorem Blk.new2 (w : World) (o : Obj) (a : At) : Blk ((w.alloc o).alloc (.cells #[.string a.nm, .string a.vl, .bool a.st] 85)) (w.heap.size + 1) a := by
  have := Blk.new (w.alloc o) a
  simpa using this
theorem Blk.alloc (h : Blk w g a) (o : Obj) : Blk (w.alloc o) g a := (Below.heap_alloc w o g h.lt).trans h
theorem Blk.far (h : Blk w g a) {p : Addr} (hp : g ≠ p.block) (u : Value) : Blk (w.setCell p u) g a := (Below.heap_setCell w p u g hp).trans h
theorem Blk.set3 {a' : At} (h : Blk w g a) : Blk (((w.setCell ⟨g, 0, none⟩ (.string a'.nm)).setCell ⟨g, 1, none⟩ (.string a'.vl)).setCell ⟨g, 2, none⟩ (.bool a'.st)) g a' := by
  unfold Blk at h ⊢
  simp [World.setCell, Array.getElem?_modify, h]
theorem Blk.below {B : Nat} (h : Blk w g a) (hb : Below B w w') (hg : g < B) : Blk w' g a := (hb.block g hg).trans h
theorem Blk.drewN (h : Blk w g a) (n : Nat) : Blk (w.drewN n) g a := h
end

/-! ### Two attributes compared -/
theorem eqg : Try.prog.eqGuardType Try.prog.depth 85 = false := by kernel_rfl
theorem heldA : Try.prog.stoodInHeld 85 = false := by kernel_rfl
theorem eq_run (a b : At) (d : Nat) (w : World) : (Op.equalIn (d + 2) 85 (.agg #[.string a.nm, .string a.vl, .bool a.st]) (.agg #[.string b.nm, .string b.vl, .bool b.st])).run Try.prog w = .ok (atB a b) w := by
  rw [run_equalIn_struct w (d + 1) 85 _ _ (by unfold Program.fieldsOf; rw [Try.underlying85]) heldA]
  simp [Program.fieldsOf, Try.underlying85, Op.eqFields, go_sem, Try.underlying9, Try.underlying4, part]
  unfold atB
  by_cases h1 : a.nm.toList = b.nm.toList <;> by_cases h2 : a.vl.toList = b.vl.toList <;> by_cases h3 : a.st = b.st <;> simp [h1, h2, h3]
theorem neq_at {a b : At} {r : Bool} (h : atB a b = r) (w : World) : (binOp .neq 85 (.agg #[.string a.nm, .string a.vl, .bool a.st]) (.agg #[.string b.nm, .string b.vl, .bool b.st])).run Try.prog w = .ok (.bool (!r)) w := by
  rw [run_neq_struct, eq_run a b 9998 w, h]; rfl
theorem eql_at {a b : At} {r : Bool} (h : atB a b = r) (w : World) : (binOp .eql 85 (.agg #[.string a.nm, .string a.vl, .bool a.st]) (.agg #[.string b.nm, .string b.vl, .bool b.st])).run Try.prog w = .ok (.bool r) w := by
  rw [run_eql_struct, eq_run a b 9998 w, h]; rfl
end Go.Proofs.Ythdgaoifbejpjaa.P3

/- What attr.Find and attr.has answer, for every list that isn't too long. -/
set_option linter.unusedVariables false
set_option linter.unusedSimpArgs false
namespace Go.Proofs.Ythdgaoifbejpjaa.P3
open Go.RowKit

theorem ret_find {o o' : Option At} (h : o = o') : Ending.returned (.tuple #[.agg #[.string (o.getD At.none).nm, .string (o.getD At.none).vl, .bool (o.getD At.none).st], .bool o.isSome]) = .returned (.tuple #[.agg #[.string (o'.getD At.none).nm, .string (o'.getD At.none).vl, .bool (o'.getD At.none).st], .bool o'.isSome]) := by rw [h]

set_option maxHeartbeats 400000 in
theorem find_any (l : List At) (A : Option Addr) (n c : Nat) (s : ByteArray) (w : World) (hn : l.length = n) (hl : n ≤ 1000000) (H : Holds w w.heap.size A l) :
    Calls Try.prog 66 #[.slice A n c, .string s] w fun e w' => e = .returned (.tuple #[.agg #[.string ((findA l s).getD At.none).nm, .string ((findA l s).getD At.none).vl, .bool ((findA l s).getD At.none).st], .bool (findA l s).isSome]) ∧ Below w.heap.size w w' := by
  have HH := Lib.hid H
  have HN0 := Lib.hid hn
  clear H hn
  go_enter Try.func66, Try.ntmps66
  go_wp2_with fail
  go_loopw [10] (fun i wr => ∃ k : Nat, k ≤ n ∧ i = .int .i64 k ∧ Hid (Below w.heap.size w wr) ∧ Hid (Blk wr w.heap.size At.none) ∧ Hid (findA (l.take k) s = none)) (fun i _ => n - (intOf i).toNat)
  case atStart => exact ⟨0, by omega, rfl, Lib.hid ((Below.refl _ _).alloc (Nat.le_refl _) _), Lib.hid (Blk.new w At.none), Lib.hid (by simp [findA])⟩
  case round =>
    obtain ⟨k, hk, rfl, HW, HB, HN⟩ := hrel
    have hz : w.heap.size < wr.heap.size := HB.out.lt
    have c0 := HB.out.c0
    have c1 := HB.out.c1
    have c2 := HB.out.c2
    have f0 := HB.out.frozen 0
    have f1 := HB.out.frozen 1
    have f2 := HB.out.frozen 2
    by_cases hlt : k < n
    · have hlt' : k < l.length := by have := HN0.out; omega
      obtain ⟨b, o, rfl, hb, h0, h1, h2⟩ := (HH.out.below HW.out (Nat.le_refl _)) k hlt'
      go_wp2_with fail
      · refine bodyPost_ret (v := .tuple #[.agg #[.string l[k].nm, .string l[k].vl, .bool l[k].st], .bool true]) (by simp [results, Try.results66, go_sem, c0, c1, c2, hz]) rfl ⟨ret_find (o := some l[k]) (findA_some HN.out hlt' ‹_›).symm, ?_⟩
        refine Below.alloc (Below.setCell (Below.setCell (Below.setCell HW.out ?_ _) ?_ _) ?_ _) ?_ _ <;> first | exact Nat.le_refl _ | (simp; omega)
      · go_roundw
        case rel => exact ⟨k + 1, by omega, by go_num, Lib.hid (HW.out.alloc (by omega) _), Lib.hid (HB.out.alloc _), Lib.hid (findA_next HN.out hlt' ‹_›)⟩
        case measure => simp [intOf]; omega
    · obtain rfl : k = n := by omega
      have HN2 := Lib.hid (findA_none HN0.out HN.out)
      go_wp2_with fail
      refine bodyPost_ret (v := .tuple #[.agg #[.string At.none.nm, .string At.none.vl, .bool At.none.st], .bool false]) (by simp [results, Try.results66, go_sem, c0, c1, c2, At.none]) rfl ⟨ret_find (o := none) HN2.out.symm, ?_⟩
      refine Below.setCell (Below.setCell (Below.setCell HW.out ?_ _) ?_ _) ?_ _ <;> exact Nat.le_refl _

theorem has_any (l : List At) (A : Option Addr) (n c : Nat) (s : ByteArray) (w : World) (hn : l.length = n) (hl : n ≤ 1000000) (H : Holds w w.heap.size A l) :
    Calls Try.prog 57 #[.slice A n c, .string s] w fun e w' => e = .returned (.bool (hasA l s)) ∧ Below w.heap.size w w' := by
  have HH := Lib.hid H
  have HN0 := Lib.hid hn
  clear H hn
  go_enter Try.func57, Try.ntmps57
  go_wp2_with fail
  refine (find_any l A n c s _ HN0.out hl HH.out).mono ?_
  rintro e w1 ⟨rfl, b1⟩
  have B1 := Lib.hid b1
  clear b1
  go_wp2_with fail
  go_ret
  exact ⟨rfl, B1.out.alloc B1.out.size _⟩
theorem has_at (l : List At) (A : Option Addr) (n c : Nat) (s : ByteArray) (w : World) {r : Bool} (hr : hasA l s = r) (hn : l.length = n) (hl : n ≤ 1000000) (H : Holds w w.heap.size A l) :
    Calls Try.prog 57 #[.slice A n c, .string s] w fun e w' => e = .returned (.bool r) ∧ Below w.heap.size w w' := by
  subst hr; exact has_any l A n c s w hn hl H
end Go.Proofs.Ythdgaoifbejpjaa.P3

/- What each call of layer 1 and of its reference answers, for every string. -/
set_option linter.unusedVariables false
set_option linter.unusedSimpArgs false
namespace Go.Proofs.Ythdgaoifbejpjaa.P1
open Go.RowKit

theorem letter_any (c : UInt8) (w : World) : Calls Try.prog 72 #[.int .u8 (c.toNat : Int)] w fun e w' => e = .returned (.bool (letB c)) ∧ w = w' := by
  go_enter Try.func72, Try.ntmps72
  go_wp2_with fail
  all_goals (go_ret; exact ⟨ret_bool (by first | (rw [letB_no (by omega)]) | exact letB_mk (by omega)), rfl⟩)
theorem rletter_any (c : UInt8) (w : World) : Calls Try.prog 41 #[.int .u8 (c.toNat : Int)] w fun e w' => e = .returned (.bool (letB c)) ∧ w = w' := by
  go_enter Try.func41, Try.ntmps41
  go_wp2_with fail
  all_goals (go_ret; exact ⟨ret_bool (by first | (rw [letB_no (by omega)]) | exact letB_mk (by omega)), rfl⟩)
theorem digit_any (c : UInt8) (w : World) : Calls Try.prog 73 #[.int .u8 (c.toNat : Int)] w fun e w' => e = .returned (.bool (digB c)) ∧ w = w' := by
  go_enter Try.func73, Try.ntmps73
  go_wp2_with fail
  all_goals (go_ret; exact ⟨ret_bool (by first | (rw [digB_no (by omega)]) | (unfold digB; simp; omega)), rfl⟩)

theorem may_any (s : ByteArray) (w : World) (hs : s.size ≤ maxLen) : Calls Try.prog 67 #[.string s] w fun e w' => e = .returned (.bool (nameB s.data.toList)) ∧ w = w' := by
  unfold maxLen at hs
  by_cases h0 : s.size = 0
  · have hE : s.toList = [] := toList_nil h0
    have hE2 : s.toList.isEmpty = true := by rw [hE]; rfl
    go_enter Try.func67, Try.ntmps67
    go_wp2_with fail
    go_ret
    exact ⟨ret_bool (nameB_empty h0).symm, rfl⟩
  · have h1 : 0 < s.size := by omega
    have hE2 : s.toList.isEmpty = false := toList_cons h1
    have hE3 : ¬ s.toList = [] := by intro e; rw [e] at hE2; cases hE2
    clear h0
    by_cases h12 : 12 < s.size
    · go_enter Try.func67, Try.ntmps67
      go_wp2_with fail
      go_ret
      exact ⟨ret_bool (nameB_long h12).symm, rfl⟩
    · go_enter Try.func67, Try.ntmps67
      go_wp2_with fail
      refine (letter_any _ _).mono ?_
      rintro e w' ⟨rfl, rfl⟩
      cases hl : letB s[0]
      · go_wp2_with fail
        go_ret
        exact ⟨ret_bool (nameB_head h1 hl).symm, rfl⟩
      · have HL := Lib.hid hl
        go_wp2_with fail
        clear hl
        go_loop [3] (fun i => ∃ k : Nat, 1 ≤ k ∧ k ≤ s.size ∧ i = .int .i64 k ∧ InTo s k) (fun i => s.size - (intOf i).toNat)
        case atStart => exact ⟨1, by omega, by omega, rfl, InTo.one s⟩
        case round =>
          obtain ⟨k, hk1, hk, rfl, hin⟩ := hrel
          have HIN := Lib.hid hin
          clear hin
          by_cases hlt : k < s.size
          · go_wp2_with (first | (go_at_call 72; refine (letter_any _ _).mono ?_; rintro e w' ⟨rfl, rfl⟩) | (go_at_call 73; refine (digit_any _ _).mono ?_; rintro e w' ⟨rfl, rfl⟩))
            all_goals first | (go_ret; exact ⟨ret_bool (nameB_bad hk1 hlt (inB_no ‹_› ‹_› ‹_›)).symm, rfl⟩) | skip
            all_goals
              go_round
              case rel => exact ⟨k + 1, by omega, by omega, by go_num, HIN.out.next hlt (by first | exact inB_let ‹_› | exact inB_dig ‹_› | exact inB_dash ‹_›)⟩
              case measure => simp [intOf]; omega
          · obtain rfl : k = s.size := by omega
            go_wp2_with fail
            go_ret
            exact ⟨ret_bool (nameB_ok h1 (by omega) HL.out HIN.out).symm, rfl⟩

theorem rname_any (s : ByteArray) (w : World) (hs : s.size ≤ maxLen) : Calls Try.prog 28 #[.string s] w fun e w' => e = .returned (.bool (nameB s.data.toList)) ∧ w = w' := by
  unfold maxLen at hs
  by_cases h0 : s.size < 1
  · go_enter Try.func28, Try.ntmps28
    go_wp2_with fail
    go_ret
    exact ⟨ret_bool (nameB_empty (by omega)).symm, rfl⟩
  · have h1 : 0 < s.size := by omega
    clear h0
    by_cases h12 : 12 < s.size
    · go_enter Try.func28, Try.ntmps28
      go_wp2_with fail
      go_ret
      exact ⟨ret_bool (nameB_long h12).symm, rfl⟩
    · go_enter Try.func28, Try.ntmps28
      go_wp2_with fail
      go_loop [3] (fun i => ∃ k : Nat, 0 ≤ k ∧ k ≤ s.size ∧ i = .int .i64 k ∧ InTo s k ∧ (0 < k → letB s[0] = true)) (fun i => s.size - (intOf i).toNat)
      case atStart => exact ⟨0, by omega, by omega, rfl, fun _ _ _ h => absurd h (by omega), fun h => absurd h (by omega)⟩
      case round =>
        obtain ⟨k, hk1, hk, rfl, hin, hl0⟩ := hrel
        have HIN := Lib.hid hin
        have HL := Lib.hid hl0
        clear hin hl0
        by_cases hlt : k < s.size
        · by_cases hk0 : k = 0
          · subst hk0
            go_wp2_with (go_at_call 41; refine (rletter_any _ _).mono ?_; rintro e w' ⟨rfl, rfl⟩)
            all_goals first | (go_ret; exact ⟨ret_bool (nameB_head h1 (Bool.eq_false_iff.mpr ‹_›)).symm, rfl⟩) | skip
            go_round
            case rel => exact ⟨1, by omega, by omega, rfl, InTo.one s, fun _ => ‹_›⟩
            case measure => simp [intOf]; omega
          · have hk1 : 1 ≤ k := by omega
            have hk2 : ((k : Int) == 0) = false := by simpa using hk0
            clear hk0
            by_cases hd1 : (s[k].toNat : Int) < 48
            · cases hd3 : ((s[k].toNat : Int) != 45)
              all_goals
                go_wp2_with (go_at_call 41; refine (rletter_any _ _).mono ?_; rintro e w' ⟨rfl, rfl⟩)
                all_goals first | (go_ret; exact ⟨ret_bool (nameB_bad hk1 hlt (inB_no' ‹_› (by omega) hd3)).symm, rfl⟩) | skip
                all_goals
                  go_round
                  case rel => exact ⟨k + 1, by omega, by omega, by go_num, HIN.out.next hlt (by first | exact inB_let ‹_› | exact inB_dash ‹_›), fun _ => HL.out hk1⟩
                  case measure => simp [intOf]; omega
            · have hd1' : 48 ≤ (s[k].toNat : Int) := by omega
              by_cases hd2 : 57 < (s[k].toNat : Int)
              · have hd3 : ((s[k].toNat : Int) != 45) = true := by simp; omega
                go_wp2_with (go_at_call 41; refine (rletter_any _ _).mono ?_; rintro e w' ⟨rfl, rfl⟩)
                all_goals first | (go_ret; exact ⟨ret_bool (nameB_bad hk1 hlt (inB_no' ‹_› (by omega) hd3)).symm, rfl⟩) | skip
                all_goals
                  go_round
                  case rel => exact ⟨k + 1, by omega, by omega, by go_num, HIN.out.next hlt (inB_let ‹_›), fun _ => HL.out hk1⟩
                  case measure => simp [intOf]; omega
              · go_wp2_with (go_at_call 41; refine (rletter_any _ _).mono ?_; rintro e w' ⟨rfl, rfl⟩)
                all_goals
                  go_round
                  case rel => exact ⟨k + 1, by omega, by omega, by go_num, HIN.out.next hlt (inB_dig' hd1' (by omega)), fun _ => HL.out hk1⟩
                  case measure => simp [intOf]; omega
        · obtain rfl : k = s.size := by omega
          go_wp2_with fail
          go_ret
          exact ⟨ret_bool (nameB_ok h1 (by omega) (HL.out h1) HIN.out).symm, rfl⟩

theorem text_any (s : ByteArray) (w : World) (hs : s.size ≤ maxLen) : Calls Try.prog 69 #[.string s] w fun e w' => e = .returned (.bool (textB s.data.toList)) ∧ w = w' := by
  unfold maxLen at hs
  by_cases h60 : 60 < s.size
  · go_enter Try.func69, Try.ntmps69
    go_wp2_with fail
    go_ret
    exact ⟨ret_bool (textB_long h60).symm, rfl⟩
  · go_enter Try.func69, Try.ntmps69
    go_wp2_with fail
    go_loop [3] (fun i => ∃ k : Nat, 0 ≤ k ∧ k ≤ s.size ∧ i = .int .i64 k ∧ OkTo s k) (fun i => s.size - (intOf i).toNat)
    case atStart => exact ⟨0, by omega, by omega, rfl, OkTo.zero s⟩
    case round =>
      obtain ⟨k, hk1, hk, rfl, hin⟩ := hrel
      have HIN := Lib.hid hin
      clear hin
      by_cases hlt : k < s.size
      · by_cases hb : (s[k].toNat : Int) < 32
        · go_wp2_with fail
          go_ret
          exact ⟨ret_bool (textB_bad hlt (.inl hb)).symm, rfl⟩
        · have hb1 : 32 ≤ (s[k].toNat : Int) := by omega
          by_cases hb2 : 126 < (s[k].toNat : Int)
          · go_wp2_with fail
            go_ret
            exact ⟨ret_bool (textB_bad hlt (.inr hb2)).symm, rfl⟩
          · go_wp2_with fail
            go_round
            case rel => exact ⟨k + 1, by omega, by omega, by go_num, HIN.out.next hlt hb1 (by omega)⟩
            case measure => simp [intOf]; omega
      · obtain rfl : k = s.size := by omega
        go_wp2_with fail
        go_ret
        exact ⟨ret_bool (textB_ok (by omega) HIN.out).symm, rfl⟩

theorem rtext_any (s : ByteArray) (w : World) (hs : s.size ≤ maxLen) : Calls Try.prog 27 #[.string s] w fun e w' => e = .returned (.bool (textB s.data.toList)) ∧ w = w' := by
  unfold maxLen at hs
  go_enter Try.func27, Try.ntmps27
  go_wp2_with fail
  go_loop [3] (fun i => ∃ k : Nat, 0 ≤ k ∧ k ≤ s.size ∧ i = .int .i64 k ∧ OkTo s k) (fun i => s.size - (intOf i).toNat)
  case atStart => exact ⟨0, by omega, by omega, rfl, OkTo.zero s⟩
  case round =>
    obtain ⟨k, hk1, hk, rfl, hin⟩ := hrel
    have HIN := Lib.hid hin
    clear hin
    by_cases hlt : k < s.size
    · by_cases hb : (s[k].toNat : Int) < 32
      · go_wp2_with fail
        go_ret
        exact ⟨ret_bool (textB_bad hlt (.inl hb)).symm, rfl⟩
      · have hb1 : 32 ≤ (s[k].toNat : Int) := by omega
        by_cases hb2 : 126 < (s[k].toNat : Int)
        · go_wp2_with fail
          go_ret
          exact ⟨ret_bool (textB_bad hlt (.inr hb2)).symm, rfl⟩
        · go_wp2_with fail
          go_round
          case rel => exact ⟨k + 1, by omega, by omega, by go_num, HIN.out.next hlt hb1 (by omega)⟩
          case measure => simp [intOf]; omega
    · obtain rfl : k = s.size := by omega
      go_wp2_with fail
      go_ret
      exact ⟨ret_bool (by rw [textB_all HIN.out]; exact decide_eq_decide.mpr (by omega)), rfl⟩
end Go.Proofs.Ythdgaoifbejpjaa.P1

/- What attr.May answers, for every list that isn't too long. -/
set_option linter.unusedVariables false
set_option linter.unusedSimpArgs false
namespace Go.Proofs.Ythdgaoifbejpjaa.P3
open Go.RowKit

theorem nmay_at (s : ByteArray) (w : World) {r : Bool} (h : P1.nameB s.data.toList = r) (hs : s.size ≤ maxLen) : Calls Try.prog 67 #[.string s] w fun e w' => e = .returned (.bool r) ∧ w = w' := by
  subst h; exact P1.may_any s w hs
theorem ntext_at (s : ByteArray) (w : World) {r : Bool} (h : P1.textB s.data.toList = r) (hs : s.size ≤ maxLen) : Calls Try.prog 69 #[.string s] w fun e w' => e = .returned (.bool r) ∧ w = w' := by
  subst h; exact P1.text_any s w hs
theorem quiet_left {P : Program} {f : FuncId} {args : Array Value} {w : World} {n : Nat} {v : Value}
    (h : Calls P f args (w.drewN n) fun e w' => e = .returned v ∧ w.drewN n = w') : Calls P f args (w.drewN n) fun e w' => e = .returned v ∧ ∃ m, w' = w.drewN m :=
  h.mono fun _ _ ⟨he, hm⟩ => ⟨he, n, hm.symm⟩

theorem may_below {a w w' : World} {B : Nat} {o : Obj} (h : Below B a w) (hB : B ≤ w.heap.size) (n : Nat) (h2 : Below ((w.alloc o).drewN n).heap.size ((w.alloc o).drewN n) w') : Below B a w' :=
  (Below_drewN (h.alloc hB o) n).trans (h2.mono (by show B ≤ (w.alloc o).heap.size; simp; omega))
/-- each text is as long as a text may be -/
def Wf (l : List At) : Prop := ∀ a ∈ l, a.nm.size ≤ maxLen ∧ a.vl.size ≤ maxLen
theorem Wf.at_ {l : List At} (h : Wf l) {k : Nat} (hk : k < l.length) : l[k].nm.size ≤ maxLen ∧ l[k].vl.size ≤ maxLen := h _ (List.getElem_mem hk)

end Go.Proofs.Ythdgaoifbejpjaa.P3

/- What the reference's May and Same answer, for every list that isn't too long. -/
set_option linter.unusedVariables false
set_option linter.unusedSimpArgs false
namespace Go.Proofs.Ythdgaoifbejpjaa.P3
open Go.RowKit

theorem rname_at (s : ByteArray) (w : World) {r : Bool} (h : P1.nameB s.data.toList = r) (hs : s.size ≤ maxLen) : Calls Try.prog 28 #[.string s] w fun e w' => e = .returned (.bool r) ∧ w = w' := by
  subst h; exact P1.rname_any s w hs
theorem rtext_at (s : ByteArray) (w : World) {r : Bool} (h : P1.textB s.data.toList = r) (hs : s.size ≤ maxLen) : Calls Try.prog 27 #[.string s] w fun e w' => e = .returned (.bool r) ∧ w = w' := by
  subst h; exact P1.rtext_any s w hs

set_option maxHeartbeats 400000 in
theorem rsame_any (l m : List At) (A B : Option Addr) (n n' c d : Nat) (w : World) (hn : l.length = n) (hn' : m.length = n') (hl : n ≤ 1000000) (hm : n' ≤ 1000000) (H : Holds w w.heap.size A l) (H2 : Holds w w.heap.size B m) :
    Calls Try.prog 34 #[.slice A n c, .slice B n' d] w fun e w' => e = .returned (.bool (sameA l m)) ∧ Below w.heap.size w w' := by
  have HH := Lib.hid H
  have HH2 := Lib.hid H2
  have HN := Lib.hid hn
  have HN' := Lib.hid hn'
  clear H H2 hn hn'
  by_cases hlen : n = n'
  · subst hlen
    go_enter Try.func34, Try.ntmps34
    go_wp2_with fail
    go_loopw [5] (fun i wr => ∃ k : Nat, k ≤ n ∧ i = .int .i64 k ∧ Hid (Below w.heap.size w wr) ∧ Hid (SameTo l m k)) (fun i _ => n - (intOf i).toNat)
    case atStart => exact ⟨0, by omega, rfl, Lib.hid (Below.refl _ _), Lib.hid (SameTo.zero _ _)⟩
    case round =>
      obtain ⟨k, hk, rfl, HW, HS⟩ := hrel
      by_cases hlt : k < n
      · have hlt1 : k < l.length := by have := HN.out; omega
        have hlt2 : k < m.length := by have := HN'.out; omega
        obtain ⟨b, o, rfl, hb, h0, h1, h2⟩ := (HH.out.below HW.out (Nat.le_refl _)) k hlt1
        obtain ⟨b', o', rfl, hb', h0', h1', h2'⟩ := (HH2.out.below HW.out (Nat.le_refl _)) k hlt2
        have hg := eqg
        cases hat : atB l[k] m[k]
        · have hq := neq_at hat
          have HAT := Lib.hid hat
          clear hat
          go_wp2_with fail
          go_quiet (fail)
          go_wp2_with fail
          go_ret
          exact ⟨ret_bool (sameA_bad hlt1 hlt2 HAT.out).symm, Below_drewN HW.out _⟩
        · have hq := neq_at hat
          have HAT := Lib.hid hat
          clear hat
          go_wp2_with fail
          go_quiet (fail)
          go_wp2_with fail
          go_roundw
          case rel => exact ⟨k + 1, by omega, by go_num, Lib.hid (Below_drewN HW.out _), Lib.hid (HS.out.next hlt1 hlt2 HAT.out)⟩
          case measure => simp [intOf]; omega
      · obtain rfl : k = n := by omega
        go_wp2_with fail
        go_ret
        exact ⟨ret_bool (HS.out.all HN.out HN'.out).symm, HW.out⟩
  · have he : ((n : Int) != (n' : Int)) = true := by simp; omega
    have HL : Hid (l.length ≠ m.length) := Lib.hid (by rw [HN.out, HN'.out]; exact hlen)
    clear hlen
    go_enter Try.func34, Try.ntmps34
    go_wp2_with fail
    go_ret
    exact ⟨ret_bool (sameA_len HL.out).symm, Below.refl _ _⟩

theorem hasA_of {l : List At} {s : ByteArray} {j k : Nat} (hj : j < l.length) (hjk : j < k) (he : (l[j].nm.toList == s.toList) = true) : hasA (l.take k) s = true :=
  hasA_iff.2 ⟨l[j], List.mem_take_iff_getElem.2 ⟨j, by omega, rfl⟩, by simpa using he⟩
theorem hasA_no {l : List At} {s : ByteArray} (h : findA l s = none) : hasA l s = false := by unfold hasA; rw [h]; rfl

set_option maxHeartbeats 1000000 in
theorem rmay_any (l : List At) (A : Option Addr) (n c : Nat) (w : World) (hn : l.length = n) (hl : n ≤ 1000000) (hwf : Wf l) (H : Holds w w.heap.size A l) :
    Calls Try.prog 29 #[.slice A n c] w fun e w' => e = .returned (.bool (mayA l)) ∧ Below w.heap.size w w' := by
  have HH := Lib.hid H
  have HN := Lib.hid hn
  have HF := Lib.hid hwf
  clear H hn hwf
  go_enter Try.func29, Try.ntmps29
  go_wp2_with fail
  go_loopw [3] (fun i wr => ∃ k : Nat, k ≤ n ∧ i = .int .i64 k ∧ Hid (Below w.heap.size w wr) ∧ Hid (GoodTo l k)) (fun i _ => n - (intOf i).toNat)
  case atStart => exact ⟨0, by omega, rfl, Lib.hid (Below.refl _ _), Lib.hid (GoodTo.zero _)⟩
  case round =>
    obtain ⟨k, hk, rfl, HW, HG⟩ := hrel
    by_cases hlt : k < n
    · have hlt' : k < l.length := by have := HN.out; omega
      obtain ⟨b, o, hA, hb, h0, h1, h2⟩ := (HH.out.below HW.out (Nat.le_refl _)) k hlt'
      subst hA
      obtain ⟨hs1, hs2⟩ := HF.out.at_ hlt'
      cases hnm : P1.nameB l[k].nm.data.toList
      · have HNM := Lib.hid hnm
        clear hnm
        go_wp2_with fail
        refine (rname_at _ _ HNM.out hs1).mono ?_
        rintro e w' ⟨rfl, rfl⟩
        go_wp2_with fail
        refine (P1.rtext_any _ _ hs2).mono ?_
        rintro e w' ⟨rfl, rfl⟩
        go_wp2_with fail
        go_ret
        exact ⟨ret_bool (mayA_bad hlt' (by rw [goodA_at hlt', HNM.out]; rfl)).symm, HW.out⟩
      · have HNM := Lib.hid hnm
        clear hnm
        cases htx : P1.textB l[k].vl.data.toList
        · have HTX := Lib.hid htx
          clear htx
          go_wp2_with fail
          refine (rname_at _ _ HNM.out hs1).mono ?_
          rintro e w' ⟨rfl, rfl⟩
          go_wp2_with fail
          refine (rtext_at _ _ HTX.out hs2).mono ?_
          rintro e w' ⟨rfl, rfl⟩
          go_wp2_with fail
          go_ret
          exact ⟨ret_bool (mayA_bad hlt' (by rw [goodA_at hlt', HTX.out]; simp)).symm, HW.out⟩
        · have HTX := Lib.hid htx
          clear htx
          go_wp2_with fail
          refine (rname_at _ _ HNM.out hs1).mono ?_
          rintro e w' ⟨rfl, rfl⟩
          go_wp2_with fail
          refine (rtext_at _ _ HTX.out hs2).mono ?_
          rintro e w' ⟨rfl, rfl⟩
          go_wp2_with fail
          obtain ⟨wo, rfl⟩ : ∃ wo : World, wo = wr := ⟨_, rfl⟩
          go_loopw [6] (fun i wr => ∃ j : Nat, j ≤ k ∧ i = .int .i64 j ∧ Hid (Below w.heap.size w wr) ∧ Hid (findA (l.take j) l[k].nm = none)) (fun i _ => k - (intOf i).toNat)
          case atStart => exact ⟨0, by omega, rfl, HW, Lib.hid (by simp [findA])⟩
          case round =>
            obtain ⟨j, hj, rfl, HWi, HFi⟩ := hrel
            by_cases hjk : j < k
            · have hjl : j < l.length := by omega
              obtain ⟨b', o', hA', hb', g0, g1, g2⟩ := (HH.out.below HWi.out (Nat.le_refl _)) j hjl
              obtain ⟨b'', o'', hA'', hb'', q0, q1, q2⟩ := (HH.out.below HWi.out (Nat.le_refl _)) k hlt'
              injection hA' with hA'
              injection hA' with e1 e2
              subst e1; subst e2
              injection hA'' with hA''
              injection hA'' with e1 e2
              subst e1; subst e2
              cases he : (l[j].nm.toList == l[k].nm.toList)
              · have HE := Lib.hid he
                go_wp2_with fail
                go_quiet (fail)
                go_wp2_with fail
                go_roundw
                case rel => exact ⟨j + 1, by omega, by go_num, Lib.hid (Below_drewN HWi.out _), Lib.hid (findA_next HFi.out hjl HE.out)⟩
                case measure => simp [intOf]; omega
              · have HE := Lib.hid he
                go_wp2_with fail
                go_quiet (fail)
                go_wp2_with fail
                go_ret
                exact ⟨ret_bool (mayA_bad hlt' (by rw [goodA_at hlt', hasA_of hjl hjk HE.out]; simp)).symm, Below_drewN HWi.out _⟩
            · obtain rfl : j = k := by omega
              go_wp2_with fail
              go_roundw
              case rel => exact ⟨j + 1, by omega, by go_num, HWi, Lib.hid (HG.out.next (by rw [goodA_at hlt', HNM.out, HTX.out, hasA_no HFi.out]; rfl))⟩
              case measure => simp [intOf]; omega
    · obtain rfl : k = n := by omega
      go_wp2_with fail
      go_ret
      exact ⟨ret_bool (by rw [mayA_ok HG.out HN.out]; exact decide_eq_decide.mpr (by omega)), HW.out⟩
end Go.Proofs.Ythdgaoifbejpjaa.P3

/- Which tags name.Void and its reference call void. No condition. -/
set_option linter.unusedVariables false
set_option linter.unusedSimpArgs false
namespace Go.Proofs.Ythdgaoifbejpjaa.P1
open Go.RowKit

theorem void_any (s : ByteArray) (w : World) : Calls Try.prog 68 #[.string s] w fun e w' => e = .returned (.bool (voidB s.data.toList)) ∧ w = w' := by
  cases h1 : (s.toList == [98, 114])
  · cases h2 : (s.toList == [104, 114])
    · cases h3 : (s.toList == [105, 109, 103])
      · cases h4 : (s.toList == [105, 110, 112, 117, 116])
        all_goals
          go_enter Try.func68, Try.ntmps68
          go_wp2_with fail
          go_ret
          exact ⟨ret_bool (voidB_at (by simp [h1, h2, h3, h4])), rfl⟩
      · go_enter Try.func68, Try.ntmps68
        go_wp2_with fail
        all_goals (go_ret; exact ⟨ret_bool (voidB_at (by simp [h1, h2, h3])), rfl⟩)
    · go_enter Try.func68, Try.ntmps68
      go_wp2_with fail
      all_goals (go_ret; exact ⟨ret_bool (voidB_at (by simp [h1, h2])), rfl⟩)
  · go_enter Try.func68, Try.ntmps68
    go_wp2_with fail
    all_goals (go_ret; exact ⟨ret_bool (voidB_at (by simp [h1])), rfl⟩)
theorem rvoid_any (s : ByteArray) (w : World) : Calls Try.prog 30 #[.string s] w fun e w' => e = .returned (.bool (voidB s.data.toList)) ∧ w = w' := by
  cases h1 : (s.toList == [98, 114])
  · cases h2 : (s.toList == [104, 114])
    · cases h3 : (s.toList == [105, 109, 103])
      · cases h4 : (s.toList == [105, 110, 112, 117, 116])
        all_goals
          go_enter Try.func30, Try.ntmps30
          go_wp2_with fail
          go_ret
          exact ⟨ret_bool (voidB_at (by simp [h1, h2, h3, h4])), rfl⟩
      · go_enter Try.func30, Try.ntmps30
        go_wp2_with fail
        all_goals (go_ret; exact ⟨ret_bool (voidB_at (by simp [h1, h2, h3])), rfl⟩)
    · go_enter Try.func30, Try.ntmps30
      go_wp2_with fail
      all_goals (go_ret; exact ⟨ret_bool (voidB_at (by simp [h1, h2])), rfl⟩)
  · go_enter Try.func30, Try.ntmps30
    go_wp2_with fail
    all_goals (go_ret; exact ⟨ret_bool (voidB_at (by simp [h1])), rfl⟩)
end Go.Proofs.Ythdgaoifbejpjaa.P1
