/- Attributes as they lie in memory: a slice's cells, three an attribute; a block that is known whole; a slice of the call's own. No condition. -/
import Derived.Test.YtddfkeilifcidaaChecked
import Derived.Test.YtddfkeilifcidaaPlain3
import Derived.WalkKit
import Derived.ProofKit
import Derived.Outline
import Derived.WalkLawsBesides
import Derived.WalkSpells
import Derived.OwnWalk
import Derived.Below
import Derived.Maps.AppendAt
import Derived.Laws.AppendOwnNone
import Derived.Deep.QuietTactic
import Derived.BigQuiet
import Derived.Laws.StructEq
import Derived.Lib.Hide
set_option linter.unusedVariables false
set_option linter.unusedSimpArgs false
namespace Go.Proofs.Ytddfkeilifcidaa.P3
open Go.RowKit

theorem Below_drewN {B : Nat} {a w : World} (h : Below B a w) (n : Nat) : Below B a (w.drewN n) := ⟨h.os, h.tape, h.output, h.size, h.block⟩
theorem ret_bool {a b : Bool} (h : a = b) : Ending.returned (.bool a) = .returned (.bool b) := by rw [h]

/-! ### A slice that is read -/
/-- the slice at A holds the attributes l, below block B -/
def Holds (w : World) (B : Nat) (A : Option Addr) (l : List At) : Prop :=
  ∀ k (h : k < l.length), ∃ b o, A = some ⟨b, o, none⟩ ∧ b < B ∧ w.cell? ⟨b, o + k * 3, none⟩ = some (.string l[k].nm) ∧ w.cell? ⟨b, o + k * 3 + 1, none⟩ = some (.string l[k].vl) ∧ w.cell? ⟨b, o + k * 3 + 2, none⟩ = some (.bool l[k].st)

theorem Holds.below {w w' : World} {B C : Nat} {A : Option Addr} {l : List At} (h : Holds w B A l) (hb : Below C w w') (hBC : B ≤ C) : Holds w' B A l := by
  intro k hk
  obtain ⟨b, o, hA, hlt, h0, h1, h2⟩ := h k hk
  refine ⟨b, o, hA, hlt, ?_, ?_, ?_⟩
  · rw [hb.cell (by show b < C; omega)]; exact h0
  · rw [hb.cell (by show b < C; omega)]; exact h1
  · rw [hb.cell (by show b < C; omega)]; exact h2
theorem Holds.more {w : World} {B B' : Nat} {A : Option Addr} {l : List At} (h : Holds w B A l) (hB : B ≤ B') : Holds w B' A l := by
  intro k hk
  obtain ⟨b, o, hA, hlt, h0⟩ := h k hk
  exact ⟨b, o, hA, by omega, h0⟩
theorem Holds.take {w : World} {B : Nat} {A : Option Addr} {l : List At} (h : Holds w B A l) (n : Nat) : Holds w B A (l.take n) := by
  intro k hk
  obtain ⟨b, o, hA, hlt, h0⟩ := h k (by rw [List.length_take] at hk; omega)
  exact ⟨b, o, hA, hlt, by simpa using h0⟩
theorem Holds.grown {w w' : World} {B : Nat} {A : Option Addr} {l : List At} {row : Option Nat} (h : Holds w B A l) (hg : w.grownBy w' row) (hB : B ≤ w.heap.size) (hr : ∀ b o, A = some ⟨b, o, none⟩ → some b ≠ row) : Holds w' B A l := by
  intro k hk
  obtain ⟨b, o, hA, hlt, h0, h1, h2⟩ := h k hk
  have key : ∀ i, w'.cell? ⟨b, i, none⟩ = w.cell? ⟨b, i, none⟩ := fun i => World.cell?_of_block (hg.block b (by omega) (hr b o hA))
  exact ⟨b, o, hA, hlt, by rw [key]; exact h0, by rw [key]; exact h1, by rw [key]; exact h2⟩
/-- into a later world of a call -/
theorem Holds.on {w w' : World} {A : Option Addr} {l : List At} (h : Holds w w.heap.size A l) (hb : Below w.heap.size w w') : Holds w' w'.heap.size A l := (h.below hb (Nat.le_refl _)).more hb.size

/-! ### A block that is known whole -/
section
variable {w w' : World} {g : Nat} {a : At}
end

/-! ### Two attributes compared -/
end Go.Proofs.Ytddfkeilifcidaa.P3
