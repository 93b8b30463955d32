/- slices.Index, slices.Delete of one integer, slices.Clone of integers and of attributes, dom.without. -/
import Derived.Test.YtddfkeilifcidaaMem5
set_option linter.unusedVariables false
set_option linter.unusedSimpArgs false
namespace Go.Proofs.Ytddfkeilifcidaa.P5
open Go.RowKit Kd P4

/-! ### Index -/
def idxA : List Int → Int → Nat
  | [], _ => 0
  | a :: r, t => if t = a then 0 else idxA r t + 1
theorem idxA_le (l : List Int) (t : Int) : idxA l t ≤ l.length := by
  induction l with
  | nil => simp [idxA]
  | cons a r ih => simp only [idxA, List.length_cons]; split <;> omega
theorem idxA_of : ∀ {l : List Int} {t : Int} {k : Nat} (hk : k < l.length), l[k] = t → (∀ j (h : j < l.length), j < k → l[j] ≠ t) → idxA l t = k
  | [], _, _, hk, _, _ => absurd hk (by simp)
  | a :: r, t, 0, _, h, _ => by simp only [List.getElem_cons_zero] at h; simp [idxA, h]
  | a :: r, t, k + 1, hk, h, hj => by
    have h0 := hj 0 (by simp) (by omega)
    simp only [List.getElem_cons_zero] at h0
    rw [idxA, if_neg (fun e => h0 e.symm), idxA_of (k := k) (by simpa using hk) (by simpa using h) (fun j h1 h2 => by have := hj (j + 1) (by simpa using h1) (by omega); rwa [List.getElem_cons_succ] at this)]
theorem idxA_lt {l : List Int} {t : Int} (h : t ∈ l) : idxA l t < l.length := by
  induction l with
  | nil => simp at h
  | cons a r ih =>
    simp only [idxA, List.length_cons]
    split
    · omega
    · rename_i e
      have := ih ((List.mem_cons.1 h).resolve_left e)
      omega
theorem cell_int {w : World} {B : Nat} {A : Option Addr} {l : List Int} (h : kI.Holds w B A l) {k : Nat} (hk : k < l.length) : ∃ b o, A = some ⟨b, o, none⟩ ∧ b < B ∧ w.cell? ⟨b, o + k, none⟩ = some (.int .i64 l[k]) := by
  obtain ⟨b, o, hA, hb, hc⟩ := h.at hk
  refine ⟨b, o, hA, hb, ?_⟩
  have := hc 0 _ rfl
  rw [show k * kI.size + 0 = k from Nat.mul_one k] at this
  exact this

/-! ### Delete -/
theorem clearInt (w : World) (ty : TypeId) (b o c : Nat) (hc : (w.cell? ⟨b, o, none⟩).isSome = true) (hf : w.frozen? ⟨b, o, none⟩ = false) :
    (Builtin.clear_ #[55] ty #[.slice (some ⟨b, o, none⟩) 1 c]).run Try.prog w = .ok (.tuple #[]) (w.setCells b o [.int .i64 0]) := by
  have hst := run_storeCells_cells (P := Try.prog) b o [.int .i64 0] 0 w (by intro j hj; simp at hj; subst hj; simpa using hc) (by intro j hj; simp at hj; subst hj; simpa using hf) (by simp [Value.oneCell'])
  simp only [Nat.add_zero] at hst
  have hz : (Builtin.zeroCells (Value.int .i64 0).cells 1).toList = [.int .i64 0] := by
    simp [Builtin.zeroCells, Value.cells, Array.range]
  simp [Builtin.clear_, run_underlying Try.underlying55, hz, hst]

theorem erase_less : ∀ {l : List Int} {t : Int}, l.Nodup → t ∈ l → l.eraseIdx (idxA l t) = less t l
  | [], _, _, h => absurd h (by simp)
  | a :: r, t, hn, h => by
    obtain ⟨h1, h2⟩ := List.nodup_cons.1 hn
    by_cases e : t = a
    · subst e
      simp only [idxA, if_true, List.eraseIdx_cons_zero, less]
      rw [List.filter_cons]
      simp only [ne_eq, not_true_eq_false, decide_false, Bool.false_eq_true, if_false]
      exact (List.filter_eq_self.2 (fun c hc => by simp; rintro rfl; exact h1 hc)).symm
    · have ih := erase_less h2 ((List.mem_cons.1 h).resolve_left e)
      rw [idxA, if_neg e, List.eraseIdx_cons_succ, ih]
      simp only [less]
      rw [List.filter_cons]
      simp [Ne.symm e]

/-! ### without -/
def Without (w : World) (B : Nat) (v : Value) (l : List Int) (t : Int) (e : Ending) (w' : World) : Prop :=
  ∃ A n c, e = .returned (.slice A n c) ∧ kI.Own w' B (.slice A n c) (less t l) ∧ But (fun k => v.ownBlock = some k) w w' ∧ (Value.slice A n c).ownBlock = v.ownBlock
/-! ### Clone -/
def Cloned {α : Type} (K : Kind Try.prog α) (w : World) (l : List α) (e : Ending) (w' : World) : Prop := ∃ A n c, e = .returned (.slice A n c) ∧ K.Own w' w.heap.size (.slice A n c) l ∧ Below w.heap.size w w'
end Go.Proofs.Ytddfkeilifcidaa.P5
