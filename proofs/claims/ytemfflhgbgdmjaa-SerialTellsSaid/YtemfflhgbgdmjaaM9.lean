/- What each call of layer 1 and of its reference answers, for every string. -/
import Derived.Test.YtemfflhgbgdmjaaChecked
import Derived.WalkKit
import Derived.ProofKit
import Derived.Outline
import Derived.WalkLawsBesides
import Derived.WalkSpells
import Derived.Lib.Hide
import Derived.Deep.RegionHeld3
import Derived.Test.YtemfflhgbgdmjaaM3
import Derived.Test.YtemfflhgbgdmjaaM8
set_option linter.unusedVariables false
set_option linter.unusedSimpArgs false
namespace Go.Proofs.Ytemfflhgbgdmjaa.P1
open Go.RowKit

theorem rletter_any (c : UInt8) (w : World) : Calls Try.prog 30 #[.int .u8 (c.toNat : Int)] w fun e w' => e = .returned (.bool (letB c)) ∧ w = w' := by
  go_enter Try.func30, Try.ntmps30
  go_wp2_with fail
  all_goals (go_ret; exact ⟨ret_bool (by first | (rw [letB_no (by omega)]) | exact letB_mk (by omega)), rfl⟩)
theorem rname_any (s : ByteArray) (w : World) (hs : s.size ≤ maxLen) : Calls Try.prog 22 #[.string s] w fun e w' => e = .returned (.bool (nameB s.data.toList)) ∧ w = w' := by
  unfold maxLen at hs
  by_cases h0 : s.size < 1
  · go_enter Try.func22, Try.ntmps22
    go_wp2_with fail
    go_ret
    exact ⟨ret_bool (nameB_empty (by omega)).symm, rfl⟩
  · have h1 : 0 < s.size := by omega
    clear h0
    by_cases h12 : 12 < s.size
    · go_enter Try.func22, Try.ntmps22
      go_wp2_with fail
      go_ret
      exact ⟨ret_bool (nameB_long h12).symm, rfl⟩
    · go_enter Try.func22, Try.ntmps22
      go_wp2_with fail
      go_loop [3] (fun i => ∃ k : Nat, 0 ≤ k ∧ k ≤ s.size ∧ i = .int .i64 k ∧ InTo s k ∧ (0 < k → letB s[0] = true)) (fun i => s.size - (intOf i).toNat)
      case atStart => exact ⟨0, by omega, by omega, rfl, fun _ _ _ h => absurd h (by omega), fun h => absurd h (by omega)⟩
      case round =>
        obtain ⟨k, hk1, hk, rfl, hin, hl0⟩ := hrel
        have HIN := Lib.hid hin
        have HL := Lib.hid hl0
        clear hin hl0
        by_cases hlt : k < s.size
        · by_cases hk0 : k = 0
          · subst hk0
            go_wp2_with (go_at_call 30; refine (rletter_any _ _).mono ?_; rintro e w' ⟨rfl, rfl⟩)
            all_goals first | (go_ret; exact ⟨ret_bool (nameB_head h1 (Bool.eq_false_iff.mpr ‹_›)).symm, rfl⟩) | skip
            go_round
            case rel => exact ⟨1, by omega, by omega, rfl, InTo.one s, fun _ => ‹_›⟩
            case measure => simp [intOf]; omega
          · have hk1 : 1 ≤ k := by omega
            have hk2 : ((k : Int) == 0) = false := by simpa using hk0
            clear hk0
            by_cases hd1 : (s[k].toNat : Int) < 48
            · cases hd3 : ((s[k].toNat : Int) != 45)
              all_goals
                go_wp2_with (go_at_call 30; refine (rletter_any _ _).mono ?_; rintro e w' ⟨rfl, rfl⟩)
                all_goals first | (go_ret; exact ⟨ret_bool (nameB_bad hk1 hlt (inB_no' ‹_› (by omega) hd3)).symm, rfl⟩) | skip
                all_goals
                  go_round
                  case rel => exact ⟨k + 1, by omega, by omega, by go_num, HIN.out.next hlt (by first | exact inB_let ‹_› | exact inB_dash ‹_›), fun _ => HL.out hk1⟩
                  case measure => simp [intOf]; omega
            · have hd1' : 48 ≤ (s[k].toNat : Int) := by omega
              by_cases hd2 : 57 < (s[k].toNat : Int)
              · have hd3 : ((s[k].toNat : Int) != 45) = true := by simp; omega
                go_wp2_with (go_at_call 30; refine (rletter_any _ _).mono ?_; rintro e w' ⟨rfl, rfl⟩)
                all_goals first | (go_ret; exact ⟨ret_bool (nameB_bad hk1 hlt (inB_no' ‹_› (by omega) hd3)).symm, rfl⟩) | skip
                all_goals
                  go_round
                  case rel => exact ⟨k + 1, by omega, by omega, by go_num, HIN.out.next hlt (inB_let ‹_›), fun _ => HL.out hk1⟩
                  case measure => simp [intOf]; omega
              · go_wp2_with (go_at_call 30; refine (rletter_any _ _).mono ?_; rintro e w' ⟨rfl, rfl⟩)
                all_goals
                  go_round
                  case rel => exact ⟨k + 1, by omega, by omega, by go_num, HIN.out.next hlt (inB_dig' hd1' (by omega)), fun _ => HL.out hk1⟩
                  case measure => simp [intOf]; omega
        · obtain rfl : k = s.size := by omega
          go_wp2_with fail
          go_ret
          exact ⟨ret_bool (nameB_ok h1 (by omega) (HL.out h1) HIN.out).symm, rfl⟩

theorem rtext_any (s : ByteArray) (w : World) (hs : s.size ≤ maxLen) : Calls Try.prog 21 #[.string s] w fun e w' => e = .returned (.bool (textB s.data.toList)) ∧ w = w' := by
  unfold maxLen at hs
  go_enter Try.func21, Try.ntmps21
  go_wp2_with fail
  go_loop [3] (fun i => ∃ k : Nat, 0 ≤ k ∧ k ≤ s.size ∧ i = .int .i64 k ∧ OkTo s k) (fun i => s.size - (intOf i).toNat)
  case atStart => exact ⟨0, by omega, by omega, rfl, OkTo.zero s⟩
  case round =>
    obtain ⟨k, hk1, hk, rfl, hin⟩ := hrel
    have HIN := Lib.hid hin
    clear hin
    by_cases hlt : k < s.size
    · by_cases hb : (s[k].toNat : Int) < 32
      · go_wp2_with fail
        go_ret
        exact ⟨ret_bool (textB_bad hlt (.inl hb)).symm, rfl⟩
      · have hb1 : 32 ≤ (s[k].toNat : Int) := by omega
        by_cases hb2 : 126 < (s[k].toNat : Int)
        · go_wp2_with fail
          go_ret
          exact ⟨ret_bool (textB_bad hlt (.inr hb2)).symm, rfl⟩
        · go_wp2_with fail
          go_round
          case rel => exact ⟨k + 1, by omega, by omega, by go_num, HIN.out.next hlt hb1 (by omega)⟩
          case measure => simp [intOf]; omega
    · obtain rfl : k = s.size := by omega
      go_wp2_with fail
      go_ret
      exact ⟨ret_bool (by rw [textB_all HIN.out]; exact decide_eq_decide.mpr (by omega)), rfl⟩
end Go.Proofs.Ytemfflhgbgdmjaa.P1

/- Which tags name.Void and its reference call void. No condition. -/
namespace Go.Proofs.Ytemfflhgbgdmjaa.P1
open Go.RowKit

theorem void_any (s : ByteArray) (w : World) : Calls Try.prog 28 #[.string s] w fun e w' => e = .returned (.bool (voidB s.data.toList)) ∧ w = w' := by
  cases h1 : (s.toList == [98, 114])
  · cases h2 : (s.toList == [104, 114])
    · cases h3 : (s.toList == [105, 109, 103])
      · cases h4 : (s.toList == [105, 110, 112, 117, 116])
        all_goals
          go_enter Try.func28, Try.ntmps28
          go_wp2_with fail
          go_ret
          exact ⟨ret_bool (voidB_at (by simp [h1, h2, h3, h4])), rfl⟩
      · go_enter Try.func28, Try.ntmps28
        go_wp2_with fail
        all_goals (go_ret; exact ⟨ret_bool (voidB_at (by simp [h1, h2, h3])), rfl⟩)
    · go_enter Try.func28, Try.ntmps28
      go_wp2_with fail
      all_goals (go_ret; exact ⟨ret_bool (voidB_at (by simp [h1, h2])), rfl⟩)
  · go_enter Try.func28, Try.ntmps28
    go_wp2_with fail
    all_goals (go_ret; exact ⟨ret_bool (voidB_at (by simp [h1])), rfl⟩)
theorem rvoid_any (s : ByteArray) (w : World) : Calls Try.prog 19 #[.string s] w fun e w' => e = .returned (.bool (voidB s.data.toList)) ∧ w = w' := by
  cases h1 : (s.toList == [98, 114])
  · cases h2 : (s.toList == [104, 114])
    · cases h3 : (s.toList == [105, 109, 103])
      · cases h4 : (s.toList == [105, 110, 112, 117, 116])
        all_goals
          go_enter Try.func19, Try.ntmps19
          go_wp2_with fail
          go_ret
          exact ⟨ret_bool (voidB_at (by simp [h1, h2, h3, h4])), rfl⟩
      · go_enter Try.func19, Try.ntmps19
        go_wp2_with fail
        all_goals (go_ret; exact ⟨ret_bool (voidB_at (by simp [h1, h2, h3])), rfl⟩)
    · go_enter Try.func19, Try.ntmps19
      go_wp2_with fail
      all_goals (go_ret; exact ⟨ret_bool (voidB_at (by simp [h1, h2])), rfl⟩)
  · go_enter Try.func19, Try.ntmps19
    go_wp2_with fail
    all_goals (go_ret; exact ⟨ret_bool (voidB_at (by simp [h1])), rfl⟩)
end Go.Proofs.Ytemfflhgbgdmjaa.P1

/- What attr.Find and attr.has answer, for every list that isn't too long. -/
namespace Go.Proofs.Ytemfflhgbgdmjaa.P3
open Go.RowKit

theorem ret_find {o o' : Option At} (h : o = o') : Ending.returned (.tuple #[.agg #[.string (o.getD At.none).nm, .string (o.getD At.none).vl, .bool (o.getD At.none).st], .bool o.isSome]) = .returned (.tuple #[.agg #[.string (o'.getD At.none).nm, .string (o'.getD At.none).vl, .bool (o'.getD At.none).st], .bool o'.isSome]) := by rw [h]

end Go.Proofs.Ytemfflhgbgdmjaa.P3

/- What attr.May answers, for every list that isn't too long. -/
namespace Go.Proofs.Ytemfflhgbgdmjaa.P3
open Go.RowKit

theorem quiet_left {P : Program} {f : FuncId} {args : Array Value} {w : World} {n : Nat} {v : Value}
    (h : Calls P f args (w.drewN n) fun e w' => e = .returned v ∧ w.drewN n = w') : Calls P f args (w.drewN n) fun e w' => e = .returned v ∧ ∃ m, w' = w.drewN m :=
  h.mono fun _ _ ⟨he, hm⟩ => ⟨he, n, hm.symm⟩

theorem may_below {a w w' : World} {B : Nat} {o : Obj} (h : Below B a w) (hB : B ≤ w.heap.size) (n : Nat) (h2 : Below ((w.alloc o).drewN n).heap.size ((w.alloc o).drewN n) w') : Below B a w' :=
  (Below_drewN (h.alloc hB o) n).trans (h2.mono (by show B ≤ (w.alloc o).heap.size; simp; omega))
/-- each text is as long as a text may be -/
def Wf (l : List At) : Prop := ∀ a ∈ l, a.nm.size ≤ maxLen ∧ a.vl.size ≤ maxLen
theorem Wf.at_ {l : List At} (h : Wf l) {k : Nat} (hk : k < l.length) : l[k].nm.size ≤ maxLen ∧ l[k].vl.size ≤ maxLen := h _ (List.getElem_mem hk)

end Go.Proofs.Ytemfflhgbgdmjaa.P3

/- Trees, plain: how many nodes, whether one may be, whether two are the same; a tree with its slices. No condition. -/
namespace Go.Proofs.Ytemfflhgbgdmjaa.P8
open Go.RowKit Kd P4 P5

inductive PT where
  | mk (tag txt key : ByteArray) (attrs : List P3.At) (kids : List PT)
/-- a tree, with the slices of its attributes and of its children -/
inductive TV where
  | mk (tag txt key : ByteArray) (sa : Sv) (attrs : List P3.At) (sk : Sv) (kids : List TV)
theorem PT.ind {Q : PT → Prop} (h : ∀ tag txt key attrs kids, (∀ k ∈ kids, Q k) → Q (.mk tag txt key attrs kids)) (t : PT) : Q t :=
  PT.rec (motive_1 := Q) (motive_2 := fun l => ∀ k ∈ l, Q k) (fun a b c d e ih => h a b c d e ih) (fun _ hk => by cases hk) (fun a l ha hl k hk => by
    rcases List.mem_cons.1 hk with rfl | hk
    · exact ha
    · exact hl k hk) t
theorem TV.ind {Q : TV → Prop} (h : ∀ tag txt key sa attrs sk kids, (∀ k ∈ kids, Q k) → Q (.mk tag txt key sa attrs sk kids)) (t : TV) : Q t :=
  TV.rec (motive_1 := Q) (motive_2 := fun l => ∀ k ∈ l, Q k) (fun a b c d e f g ih => h a b c d e f g ih) (fun _ hk => by cases hk) (fun a l ha hl k hk => by
    rcases List.mem_cons.1 hk with rfl | hk
    · exact ha
    · exact hl k hk) t
namespace TV
def tag : TV → ByteArray | .mk a _ _ _ _ _ _ => a
def txt : TV → ByteArray | .mk _ a _ _ _ _ _ => a
def key : TV → ByteArray | .mk _ _ a _ _ _ _ => a
def sa : TV → Sv | .mk _ _ _ a _ _ _ => a
def attrs : TV → List P3.At | .mk _ _ _ _ a _ _ => a
def sk : TV → Sv | .mk _ _ _ _ _ a _ => a
def kids : TV → List TV | .mk _ _ _ _ _ _ a => a
end TV
namespace PT
def tag : PT → ByteArray | .mk a _ _ _ _ => a
def txt : PT → ByteArray | .mk _ a _ _ _ => a
def key : PT → ByteArray | .mk _ _ a _ _ => a
def attrs : PT → List P3.At | .mk _ _ _ a _ => a
def kids : PT → List PT | .mk _ _ _ _ a => a
end PT
mutual
def er : TV → PT
  | .mk tag txt key _ attrs _ kids => .mk tag txt key attrs (erL kids)
def erL : List TV → List PT
  | [] => []
  | a :: l => er a :: erL l
end
theorem erL_map : ∀ l : List TV, erL l = l.map er
  | [] => by simp [erL]
  | a :: l => by simp [erL, erL_map l]

/-! ### How many -/
mutual
def countP : PT → Nat
  | .mk _ _ _ _ kids => countL kids + 1
def countL : List PT → Nat
  | [] => 0
  | a :: l => countP a + countL l
end
theorem count_pos (t : PT) : 1 ≤ countP t := by cases t; simp [countP]
theorem countL_append : ∀ l m : List PT, countL (l ++ m) = countL l + countL m
  | [], m => by simp [countL]
  | a :: l, m => by simp [countL, countL_append l m]; omega
theorem countL_take {l : List PT} {k : Nat} (h : k < l.length) : countL (l.take (k + 1)) = countL (l.take k) + countP l[k] := by
  rw [List.take_add_one, List.getElem?_eq_getElem h, countL_append]
  simp [countL]
theorem countL_le (l : List PT) (k : Nat) : countL (l.take k) ≤ countL l := by
  have := countL_append (l.take k) (l.drop k)
  rw [List.take_append_drop] at this
  omega
theorem countL_at {l : List PT} {k : Nat} (h : k < l.length) : countP l[k] ≤ countL l := by
  have h1 := countL_take h
  have h2 := countL_le l (k + 1)
  omega
theorem len_le_count : ∀ l : List PT, l.length ≤ countL l
  | [] => by simp [countL]
  | a :: l => by have := len_le_count l; have := count_pos a; simp [countL]; omega

/-! ### Few, and short -/
mutual
def fewP : PT → Bool
  | .mk tag txt key attrs kids => decide (tag.size ≤ 100) && decide (txt.size ≤ 100) && decide (key.size ≤ 100) && P3.fewA attrs && fewL kids
def fewL : List PT → Bool
  | [] => true
  | a :: l => fewP a && fewL l
end
theorem fewL_all : ∀ l : List PT, fewL l = l.all fewP
  | [] => by simp [fewL]
  | a :: l => by simp [fewL, fewL_all l]
theorem fewL_take {l : List PT} {k : Nat} (h : k < l.length) (h1 : fewL (l.take k) = true) (h2 : fewP l[k] = true) : fewL (l.take (k + 1)) = true := by
  rw [fewL_all] at h1 ⊢
  rw [List.take_add_one, List.getElem?_eq_getElem h, List.all_append, h1]
  simp [h2]
theorem fewL_at {l : List PT} {k : Nat} (h : k < l.length) (h1 : fewL l = true) : fewP l[k] = true := by
  rw [fewL_all, List.all_eq_true] at h1
  exact h1 _ (List.getElem_mem h)
theorem few_wf {l : List P3.At} (h : P3.fewA l = true) : P3.Wf l ∧ l.length ≤ 20 := by
  unfold P3.fewA at h
  rw [Bool.and_eq_true, List.all_eq_true] at h
  refine ⟨fun a ha => ?_, by simpa using h.1⟩
  have := h.2 a ha
  unfold P3.shortA at this
  simp at this
  unfold maxLen
  omega

/-! ### Whether it may be -/
mutual
def mayP : PT → Bool
  | .mk tag txt key attrs kids =>
    if tag.toList.isEmpty then P1.textB txt.data.toList && key.toList.isEmpty && attrs.isEmpty && kids.isEmpty
    else P1.nameB tag.data.toList && P1.textB key.data.toList && P3.mayA attrs && txt.toList.isEmpty && !(P1.voidB tag.data.toList && !kids.isEmpty) && mayL kids
def mayL : List PT → Bool
  | [] => true
  | a :: l => mayP a && mayL l
end
theorem mayL_all : ∀ l : List PT, mayL l = l.all mayP
  | [] => by simp [mayL]
  | a :: l => by simp [mayL, mayL_all l]
theorem mayL_bad {l : List PT} {k : Nat} (h : k < l.length) (hb : mayP l[k] = false) : mayL l = false := by
  rw [mayL_all]
  exact Bool.eq_false_iff.2 fun e => by
    rw [List.all_eq_true] at e
    have := e _ (List.getElem_mem h)
    rw [hb] at this
    cases this
theorem mayL_take {l : List PT} {k : Nat} (h : k < l.length) (h1 : mayL (l.take k) = true) (h2 : mayP l[k] = true) : mayL (l.take (k + 1)) = true := by
  rw [mayL_all] at h1 ⊢
  rw [List.take_add_one, List.getElem?_eq_getElem h, List.all_append, h1]
  simp [h2]

/-! ### Whether two are the same -/
mutual
def sameP : PT → PT → Bool
  | .mk t x k a l, .mk t' x' k' a' l' => P3.sameA a a' && (t.toList == t'.toList) && (x.toList == x'.toList) && (k.toList == k'.toList) && sameL l l'
def sameL : List PT → List PT → Bool
  | [], [] => true
  | a :: l, b :: m => sameP a b && sameL l m
  | [], _ :: _ => false
  | _ :: _, [] => false
end
theorem sameL_len : ∀ {l m : List PT}, l.length ≠ m.length → sameL l m = false
  | [], [], h => absurd rfl h
  | [], _ :: _, _ => by simp [sameL]
  | _ :: _, [], _ => by simp [sameL]
  | a :: l, b :: m, h => by simp [sameL, sameL_len (l := l) (m := m) (by simpa using h)]
theorem sameL_bad : ∀ {l m : List PT} {k : Nat} (h : k < l.length) (h' : k < m.length), sameP l[k] m[k] = false → sameL l m = false
  | [], _, _, h, _, _ => by simp at h
  | _ :: _, [], _, _, h, _ => by simp at h
  | a :: l, b :: m, 0, _, _, e => by simp only [List.getElem_cons_zero] at e; simp [sameL, e]
  | a :: l, b :: m, k + 1, h, h', e => by simp only [List.getElem_cons_succ] at e; simp [sameL, sameL_bad (by simpa using h) (by simpa using h') e]
theorem sameL_all : ∀ {l m : List PT}, l.length = m.length → (∀ k (h : k < l.length) (h' : k < m.length), sameP l[k] m[k] = true) → sameL l m = true
  | [], [], _, _ => by simp [sameL]
  | [], _ :: _, h, _ => by simp at h
  | _ :: _, [], h, _ => by simp at h
  | a :: l, b :: m, h, e => by
    have h0 := e 0 (by simp) (by simp)
    simp only [List.getElem_cons_zero] at h0
    rw [sameL, h0, Bool.true_and]
    exact sameL_all (by simpa using h) fun k hk hk' => by
      have := e (k + 1) (by simpa using hk) (by simpa using hk')
      simpa using this
theorem sameP_refl (t : PT) : sameP t t = true := by
  induction t using PT.ind with
  | h tag txt key attrs kids ih =>
    rw [sameP, P3.sameA_refl, sameL_all rfl fun k h _ => ih _ (List.getElem_mem h)]
    simp
end Go.Proofs.Ytemfflhgbgdmjaa.P8
