/- What placketref11.Same and the law's Few answer. No condition but those stated. -/
import Derived.Deep.RegionHeld3
import Derived.Test.YtfjnbjpenibpkaaM3
import Derived.Test.YtfjnbjpenibpkaaM10
import Derived.Test.YtfjnbjpenibpkaaM16
import Derived.Test.YtfjnbjpenibpkaaM18
import Derived.Test.YtfjnbjpenibpkaaM19
set_option linter.unusedVariables false
set_option linter.unusedSimpArgs false
set_option linter.unusedVariables false
set_option linter.unusedSimpArgs false
namespace Go.Proofs.Ytfjnbjpenibpkaa.P12
open Go.RowKit Kd P4 P11

theorem eqgX : Try.prog.eqGuardType Try.prog.depth 38 = false := by kernel_rfl
theorem heldX : Try.prog.stoodInHeld 38 = false := by kernel_rfl
def inB (a b : In) : Bool := a.op == b.op && a.a.toList == b.a.toList && a.b.toList == b.b.toList
def sameI : List In → List In → Bool
  | [], [] => true
  | a :: l, b :: m => inB a b && sameI l m
  | _, _ => false
theorem inB_refl (a : In) : inB a a = true := by simp [inB]
theorem sameI_refl : ∀ l : List In, sameI l l = true
  | [] => rfl
  | a :: l => by rw [sameI, inB_refl, sameI_refl l]; rfl
theorem sameI_len : ∀ {l m : List In}, l.length ≠ m.length → sameI l m = false
  | [], [], h => absurd rfl h
  | [], _ :: _, _ => rfl
  | _ :: _, [], _ => rfl
  | a :: l, b :: m, h => by rw [sameI, sameI_len (l := l) (m := m) (by simpa using h), Bool.and_false]
theorem sameI_bad : ∀ {l m : List In} {k : Nat} (h : k < l.length) (h' : k < m.length), inB l[k] m[k] = false → sameI l m = false
  | [], _, _, h, _, _ => by simp at h
  | _ :: _, [], _, _, h, _ => by simp at h
  | a :: l, b :: m, 0, _, _, e => by simp only [List.getElem_cons_zero] at e; rw [sameI, e, Bool.false_and]
  | a :: l, b :: m, k + 1, h, h', e => by simp only [List.getElem_cons_succ] at e; rw [sameI, sameI_bad (by simpa using h) (by simpa using h') e, Bool.and_false]
theorem sameI_all : ∀ {l m : List In}, l.length = m.length → (∀ k (h : k < l.length) (h' : k < m.length), inB l[k] m[k] = true) → sameI l m = true
  | [], [], _, _ => rfl
  | [], _ :: _, h, _ => by simp at h
  | _ :: _, [], h, _ => by simp at h
  | a :: l, b :: m, h, k => by
    have h0 := k 0 (by simp) (by simp)
    simp only [List.getElem_cons_zero] at h0
    rw [sameI, h0, sameI_all (by simpa using h) (fun j h1 h2 => by have := k (j + 1) (by simpa using h1) (by simpa using h2); simpa using this)]
    rfl
theorem eq_runX (a b : In) (d : Nat) (w : World) : (Op.equalIn (d + 2) 38 (.agg #[.int .i64 a.op, .string a.a, .string a.b]) (.agg #[.int .i64 b.op, .string b.a, .string b.b])).run Try.prog w = .ok (inB a b) w := by
  rw [run_equalIn_struct w (d + 1) 38 _ _ (by unfold Program.fieldsOf; rw [Try.underlying38]) heldX]
  simp [Program.fieldsOf, Try.underlying38, Op.eqFields, go_sem, Try.underlying9, Try.underlying3, part]
  unfold inB
  by_cases h1 : a.op = b.op <;> by_cases h2 : a.a.toList = b.a.toList <;> by_cases h3 : a.b.toList = b.b.toList <;> simp [h1, h2, h3]
theorem neq_atX {a b : In} {r : Bool} (h : inB a b = r) (w : World) : (binOp .neq 38 (.agg #[.int .i64 a.op, .string a.a, .string a.b]) (.agg #[.int .i64 b.op, .string b.a, .string b.b])).run Try.prog w = .ok (.bool (!r)) w := by
  rw [run_neq_struct, eq_runX a b 9998 w, h]; rfl
def SameTo (l m : List In) (k : Nat) : Prop := ∀ j (h : j < l.length) (h' : j < m.length), j < k → inB l[j] m[j] = true
/-! ### Few -/
def fewX (l : List In) : Bool := decide (l.length ≤ 150) && l.all (fun i => decide (i.a.size ≤ 300) && decide (i.b.size ≤ 300))
def shortX (i : In) : Bool := decide (i.a.size ≤ 300) && decide (i.b.size ≤ 300)
/-- what Few tells: 1 at most where there are few, and short -/
def FewV (w : World) (l : List In) (e : Ending) (w' : World) : Prop := (e = .returned (.int .i64 0) ∨ (e = .returned (.int .i64 1) ∧ l.length ≤ 150 ∧ ∀ i ∈ l, i.a.size ≤ 300 ∧ i.b.size ≤ 300)) ∧ w = w'
def ShortTo (l : List In) (k : Nat) : Prop := ∀ j (h : j < l.length), j < k → l[j].a.size ≤ 300 ∧ l[j].b.size ≤ 300
set_option maxRecDepth 100000 in
set_option maxHeartbeats 2000000 in
theorem fewX_any (l : List In) (A : Option Addr) (n c : Nat) (w : World) (hn : l.length = n) (hl : n ≤ maxLen) (H : kX.Holds w w.heap.size A l) : Calls Try.prog 6 #[.slice A n c] w (FewV w l) := by
  have HH := Lib.hid H
  have HN := Lib.hid hn
  unfold maxLen at hl
  clear H hn
  go_enter Try.func6, Try.ntmps6
  go_wp2_with fail
  go_loopw [3] (fun i wr => ∃ k : Nat, k ≤ n ∧ k ≤ 150 ∧ i = .int .i64 k ∧ Hid (wr = w) ∧ Hid (ShortTo l k)) (fun i _ => 150 - (intOf i).toNat)
  case atStart => exact ⟨0, by omega, by omega, rfl, Lib.hid rfl, Lib.hid (fun j _ h => by omega)⟩
  case round =>
    obtain ⟨k, hk, hk2, rfl, HW, HS⟩ := hrel
    obtain rfl := HW.out
    by_cases hlt : k < n
    · by_cases h150 : k < 150
      · have hlt1 : k < l.length := by have := HN.out; omega
        obtain ⟨b, o, rfl, hb, h0, h1, h2⟩ := cell_of_ins HH.out hlt1
        have NX : Hid (l[k].a.size ≤ 300 → l[k].b.size ≤ 300 → ShortTo l (k + 1)) := Lib.hid (fun ha hb j hj h => by
          rcases Nat.lt_or_ge j k with e | e
          · exact HS.out j hj e
          · obtain rfl : j = k := by omega
            exact ⟨ha, hb⟩)
        generalize l[k] = d at h0 h1 h2 NX
        by_cases ha : d.a.size ≤ 300
        · by_cases hbb : d.b.size ≤ 300
          · have q1 : decide ((300 : Int) < (d.a.size : Int)) = false := by simp; omega
            have q2 : decide ((300 : Int) < (d.b.size : Int)) = false := by simp; omega
            have NX2 := Lib.hid (NX.out ha hbb)
            clear NX
            go_wp2_with fail
            go_roundw
            case rel => exact ⟨k + 1, by omega, by omega, by go_num, Lib.hid (by first | trivial | rfl), NX2⟩
            case measure => simp [intOf]; omega
          · have q1 : decide ((300 : Int) < (d.a.size : Int)) = false := by simp; omega
            have q2 : decide ((300 : Int) < (d.b.size : Int)) = true := by simp; omega
            go_wp2_with fail
            go_ret
            exact ⟨.inl rfl, by first | trivial | rfl⟩
        · have q1 : decide ((300 : Int) < (d.a.size : Int)) = true := by simp; omega
          go_wp2_with fail
          go_ret
          exact ⟨.inl rfl, by first | trivial | rfl⟩
      · obtain rfl : k = 150 := by omega
        have q1 : decide ((150 : Int) < (n : Int)) = true := by simp; omega
        go_wp2_with fail
        go_ret
        exact ⟨.inl rfl, by first | trivial | rfl⟩
    · obtain rfl : k = n := by omega
      have q1 : decide ((150 : Int) < (k : Int)) = false := by simp; omega
      go_wp2_with fail
      go_ret
      refine ⟨.inr ⟨rfl, by have := HN.out; omega, fun i hi => ?_⟩, by first | trivial | rfl⟩
      obtain ⟨j, hj, rfl⟩ := List.mem_iff_getElem.1 hi
      exact HS.out j hj (by have := HN.out; omega)
end Go.Proofs.Ytfjnbjpenibpkaa.P12

/- slices.Index, slices.Delete of one integer, slices.Clone of integers and of attributes, dom.without. -/
set_option linter.unusedVariables false
set_option linter.unusedSimpArgs false
namespace Go.Proofs.Ytfjnbjpenibpkaa.P5
open Go.RowKit Kd P4

/-! ### Index -/
def idxA : List Int → Int → Nat
  | [], _ => 0
  | a :: r, t => if t = a then 0 else idxA r t + 1
theorem idxA_le (l : List Int) (t : Int) : idxA l t ≤ l.length := by
  induction l with
  | nil => simp [idxA]
  | cons a r ih => simp only [idxA, List.length_cons]; split <;> omega
theorem idxA_of : ∀ {l : List Int} {t : Int} {k : Nat} (hk : k < l.length), l[k] = t → (∀ j (h : j < l.length), j < k → l[j] ≠ t) → idxA l t = k
  | [], _, _, hk, _, _ => absurd hk (by simp)
  | a :: r, t, 0, _, h, _ => by simp only [List.getElem_cons_zero] at h; simp [idxA, h]
  | a :: r, t, k + 1, hk, h, hj => by
    have h0 := hj 0 (by simp) (by omega)
    simp only [List.getElem_cons_zero] at h0
    rw [idxA, if_neg (fun e => h0 e.symm), idxA_of (k := k) (by simpa using hk) (by simpa using h) (fun j h1 h2 => by have := hj (j + 1) (by simpa using h1) (by omega); rwa [List.getElem_cons_succ] at this)]
theorem idxA_lt {l : List Int} {t : Int} (h : t ∈ l) : idxA l t < l.length := by
  induction l with
  | nil => simp at h
  | cons a r ih =>
    simp only [idxA, List.length_cons]
    split
    · omega
    · rename_i e
      have := ih ((List.mem_cons.1 h).resolve_left e)
      omega
/-! ### Delete -/
theorem erase_less : ∀ {l : List Int} {t : Int}, l.Nodup → t ∈ l → l.eraseIdx (idxA l t) = less t l
  | [], _, _, h => absurd h (by simp)
  | a :: r, t, hn, h => by
    obtain ⟨h1, h2⟩ := List.nodup_cons.1 hn
    by_cases e : t = a
    · subst e
      simp only [idxA, if_true, List.eraseIdx_cons_zero, less]
      rw [List.filter_cons]
      simp only [ne_eq, not_true_eq_false, decide_false, Bool.false_eq_true, if_false]
      exact (List.filter_eq_self.2 (fun c hc => by simp; rintro rfl; exact h1 hc)).symm
    · have ih := erase_less h2 ((List.mem_cons.1 h).resolve_left e)
      rw [idxA, if_neg e, List.eraseIdx_cons_succ, ih]
      simp only [less]
      rw [List.filter_cons]
      simp [Ne.symm e]

/-! ### without -/
/-! ### Clone -/
def Cloned {α : Type} (K : Kind Try.prog α) (w : World) (l : List α) (e : Ending) (w' : World) : Prop := ∃ A n c, e = .returned (.slice A n c) ∧ K.Own w' w.heap.size (.slice A n c) l ∧ Below w.heap.size w w'
end Go.Proofs.Ytfjnbjpenibpkaa.P5

/- What placketref11.tells, begin, ahead, attr, wrong and Check answer. No condition but those stated. -/
set_option linter.unusedVariables false
set_option linter.unusedSimpArgs false
namespace Go.Proofs.Ytfjnbjpenibpkaa.P13
open Go.RowKit Kd P4 P5 P11 P12

theorem own_cut {P : Program} {α : Type} {K : Kind P α} {w : World} {B : Nat} {A : Option Addr} {n c k : Nat} {l : List α} (h : K.Own w B (.slice A n c) l) (hk : k ≤ l.length) : K.Own w B (.slice A k c) (l.take k) := by
  rcases h.form with ⟨hv, hl⟩ | ⟨g, c', cur, hv, _, hg, hlt, hh, hnc, hcm, hcs, ht⟩
  · injection hv with e1 e2 e3
    subst e1; subst e2; subst e3; subst hl
    obtain rfl : k = 0 := by simpa using hk
    rw [List.take_nil]
    exact h
  · injection hv with e1 e2 e3
    subst e1; subst e2; subst e3
    refine Kind.own_mk (by simp; omega) hg hh (by omega) hcm hcs ?_
    rw [Kind.cells_take, ← ht, List.take_take, Nat.min_eq_left (Nat.mul_le_mul_right _ hk)]
/-! ### begin -/
end Go.Proofs.Ytfjnbjpenibpkaa.P13

/- What placketref11.end answers, of what is wanted in a program. No condition but those stated. -/
set_option linter.unusedVariables false
set_option linter.unusedSimpArgs false
namespace Go.Proofs.Ytfjnbjpenibpkaa.P14
open Go.RowKit Kd P4 P5 P11 P12 P13

theorem at_pre {pre X l : List In} (he : l = pre ++ X) {i : Nat} (h : pre.length + i < l.length) (h' : i < X.length) : l[pre.length + i] = X[i] := by
  subst he
  rw [List.getElem_append_right (by omega)]
  congr 1
  omega
theorem ds_step {l : List In} {m : Nat} (h : m < l.length) : ds (l.take (m + 1)) = ds (l.take m) + deltaO l[m].op := by
  rw [List.take_add_one, List.getElem?_eq_getElem h, ds_append]
  simp [ds]
end Go.Proofs.Ytfjnbjpenibpkaa.P14
