/- What placketref11.Same and the law's Few answer. No condition but those stated. -/
import Derived.Test.YtddfkeilifcidaaRget12
import Derived.Test.YtddfkeilifcidaaAttrMem
set_option linter.unusedVariables false
set_option linter.unusedSimpArgs false
namespace Go.Proofs.Ytddfkeilifcidaa.P12
open Go.RowKit Kd P4 P11

theorem eqgX : Try.prog.eqGuardType Try.prog.depth 31 = false := by kernel_rfl
theorem heldX : Try.prog.stoodInHeld 31 = false := by kernel_rfl
def inB (a b : In) : Bool := a.op == b.op && a.a.toList == b.a.toList && a.b.toList == b.b.toList
def sameI : List In → List In → Bool
  | [], [] => true
  | a :: l, b :: m => inB a b && sameI l m
  | _, _ => false
theorem inB_refl (a : In) : inB a a = true := by simp [inB]
theorem sameI_refl : ∀ l : List In, sameI l l = true
  | [] => rfl
  | a :: l => by rw [sameI, inB_refl, sameI_refl l]; rfl
theorem sameI_len : ∀ {l m : List In}, l.length ≠ m.length → sameI l m = false
  | [], [], h => absurd rfl h
  | [], _ :: _, _ => rfl
  | _ :: _, [], _ => rfl
  | a :: l, b :: m, h => by rw [sameI, sameI_len (l := l) (m := m) (by simpa using h), Bool.and_false]
theorem sameI_bad : ∀ {l m : List In} {k : Nat} (h : k < l.length) (h' : k < m.length), inB l[k] m[k] = false → sameI l m = false
  | [], _, _, h, _, _ => by simp at h
  | _ :: _, [], _, _, h, _ => by simp at h
  | a :: l, b :: m, 0, _, _, e => by simp only [List.getElem_cons_zero] at e; rw [sameI, e, Bool.false_and]
  | a :: l, b :: m, k + 1, h, h', e => by simp only [List.getElem_cons_succ] at e; rw [sameI, sameI_bad (by simpa using h) (by simpa using h') e, Bool.and_false]
theorem sameI_all : ∀ {l m : List In}, l.length = m.length → (∀ k (h : k < l.length) (h' : k < m.length), inB l[k] m[k] = true) → sameI l m = true
  | [], [], _, _ => rfl
  | [], _ :: _, h, _ => by simp at h
  | _ :: _, [], h, _ => by simp at h
  | a :: l, b :: m, h, k => by
    have h0 := k 0 (by simp) (by simp)
    simp only [List.getElem_cons_zero] at h0
    rw [sameI, h0, sameI_all (by simpa using h) (fun j h1 h2 => by have := k (j + 1) (by simpa using h1) (by simpa using h2); simpa using this)]
    rfl
theorem eq_runX (a b : In) (d : Nat) (w : World) : (Op.equalIn (d + 2) 31 (.agg #[.int .i64 a.op, .string a.a, .string a.b]) (.agg #[.int .i64 b.op, .string b.a, .string b.b])).run Try.prog w = .ok (inB a b) w := by
  rw [run_equalIn_struct w (d + 1) 31 _ _ (by unfold Program.fieldsOf; rw [Try.underlying31]) heldX]
  simp [Program.fieldsOf, Try.underlying31, Op.eqFields, go_sem, Try.underlying9, Try.underlying3, part]
  unfold inB
  by_cases h1 : a.op = b.op <;> by_cases h2 : a.a.toList = b.a.toList <;> by_cases h3 : a.b.toList = b.b.toList <;> simp [h1, h2, h3]
theorem neq_atX {a b : In} {r : Bool} (h : inB a b = r) (w : World) : (binOp .neq 31 (.agg #[.int .i64 a.op, .string a.a, .string a.b]) (.agg #[.int .i64 b.op, .string b.a, .string b.b])).run Try.prog w = .ok (.bool (!r)) w := by
  rw [run_neq_struct, eq_runX a b 9998 w, h]; rfl
def SameTo (l m : List In) (k : Nat) : Prop := ∀ j (h : j < l.length) (h' : j < m.length), j < k → inB l[j] m[j] = true
/-! ### Few -/
def fewX (l : List In) : Bool := decide (l.length ≤ 150) && l.all (fun i => decide (i.a.size ≤ 300) && decide (i.b.size ≤ 300))
def shortX (i : In) : Bool := decide (i.a.size ≤ 300) && decide (i.b.size ≤ 300)
/-- what Few tells: 1 at most where there are few, and short -/
def FewV (w : World) (l : List In) (e : Ending) (w' : World) : Prop := (e = .returned (.int .i64 0) ∨ (e = .returned (.int .i64 1) ∧ l.length ≤ 150 ∧ ∀ i ∈ l, i.a.size ≤ 300 ∧ i.b.size ≤ 300)) ∧ w = w'
def ShortTo (l : List In) (k : Nat) : Prop := ∀ j (h : j < l.length), j < k → l[j].a.size ≤ 300 ∧ l[j].b.size ≤ 300
set_option maxRecDepth 100000 in
set_option maxHeartbeats 2000000 in
theorem fewX_any (l : List In) (A : Option Addr) (n c : Nat) (w : World) (hn : l.length = n) (hl : n ≤ maxLen) (H : kX.Holds w w.heap.size A l) : Calls Try.prog 5 #[.slice A n c] w (FewV w l) := by
  have HH := Lib.hid H
  have HN := Lib.hid hn
  unfold maxLen at hl
  clear H hn
  go_enter Try.func5, Try.ntmps5
  go_wp2_with fail
  go_loopw [3] (fun i wr => ∃ k : Nat, k ≤ n ∧ k ≤ 150 ∧ i = .int .i64 k ∧ Hid (wr = w) ∧ Hid (ShortTo l k)) (fun i _ => 150 - (intOf i).toNat)
  case atStart => exact ⟨0, by omega, by omega, rfl, Lib.hid rfl, Lib.hid (fun j _ h => by omega)⟩
  case round =>
    obtain ⟨k, hk, hk2, rfl, HW, HS⟩ := hrel
    obtain rfl := HW.out
    by_cases hlt : k < n
    · by_cases h150 : k < 150
      · have hlt1 : k < l.length := by have := HN.out; omega
        obtain ⟨b, o, rfl, hb, h0, h1, h2⟩ := cell_of_ins HH.out hlt1
        have NX : Hid (l[k].a.size ≤ 300 → l[k].b.size ≤ 300 → ShortTo l (k + 1)) := Lib.hid (fun ha hb j hj h => by
          rcases Nat.lt_or_ge j k with e | e
          · exact HS.out j hj e
          · obtain rfl : j = k := by omega
            exact ⟨ha, hb⟩)
        generalize l[k] = d at h0 h1 h2 NX
        by_cases ha : d.a.size ≤ 300
        · by_cases hbb : d.b.size ≤ 300
          · have q1 : decide ((300 : Int) < (d.a.size : Int)) = false := by simp; omega
            have q2 : decide ((300 : Int) < (d.b.size : Int)) = false := by simp; omega
            have NX2 := Lib.hid (NX.out ha hbb)
            clear NX
            go_wp2_with fail
            go_roundw
            case rel => exact ⟨k + 1, by omega, by omega, by go_num, Lib.hid (by first | trivial | rfl), NX2⟩
            case measure => simp [intOf]; omega
          · have q1 : decide ((300 : Int) < (d.a.size : Int)) = false := by simp; omega
            have q2 : decide ((300 : Int) < (d.b.size : Int)) = true := by simp; omega
            go_wp2_with fail
            go_ret
            exact ⟨.inl rfl, by first | trivial | rfl⟩
        · have q1 : decide ((300 : Int) < (d.a.size : Int)) = true := by simp; omega
          go_wp2_with fail
          go_ret
          exact ⟨.inl rfl, by first | trivial | rfl⟩
      · obtain rfl : k = 150 := by omega
        have q1 : decide ((150 : Int) < (n : Int)) = true := by simp; omega
        go_wp2_with fail
        go_ret
        exact ⟨.inl rfl, by first | trivial | rfl⟩
    · obtain rfl : k = n := by omega
      have q1 : decide ((150 : Int) < (k : Int)) = false := by simp; omega
      go_wp2_with fail
      go_ret
      refine ⟨.inr ⟨rfl, by have := HN.out; omega, fun i hi => ?_⟩, by first | trivial | rfl⟩
      obtain ⟨j, hj, rfl⟩ := List.mem_iff_getElem.1 hi
      exact HS.out j hj (by have := HN.out; omega)
end Go.Proofs.Ytddfkeilifcidaa.P12
