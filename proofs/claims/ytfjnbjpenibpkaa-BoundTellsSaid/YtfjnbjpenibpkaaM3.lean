/- Attributes as they lie in memory: a slice's cells, three an attribute; a block that is known whole; a slice of the call's own. No condition. -/
import Derived.Test.YtfjnbjpenibpkaaChecked
import Derived.WalkKit
import Derived.ProofKit
import Derived.Outline
import Derived.WalkLawsBesides
import Derived.WalkSpells
import Derived.OwnWalk
import Derived.Below
import Derived.Maps.AppendAt
import Derived.Laws.AppendOwnNone
import Derived.Deep.QuietTactic
import Derived.BigQuiet
import Derived.Laws.StructEq
import Derived.Lib.Hide
import Derived.Test.YtfjnbjpenibpkaaM2
set_option linter.unusedVariables false
set_option linter.unusedSimpArgs false
set_option linter.unusedVariables false
set_option linter.unusedSimpArgs false
namespace Go.Proofs.Ytfjnbjpenibpkaa.P3
open Go.RowKit

theorem Below_drewN {B : Nat} {a w : World} (h : Below B a w) (n : Nat) : Below B a (w.drewN n) := ⟨h.os, h.tape, h.output, h.size, h.block⟩
theorem ret_bool {a b : Bool} (h : a = b) : Ending.returned (.bool a) = .returned (.bool b) := by rw [h]

/-! ### A slice that is read -/
/-- the slice at A holds the attributes l, below block B -/
def Holds (w : World) (B : Nat) (A : Option Addr) (l : List At) : Prop :=
  ∀ k (h : k < l.length), ∃ b o, A = some ⟨b, o, none⟩ ∧ b < B ∧ w.cell? ⟨b, o + k * 3, none⟩ = some (.string l[k].nm) ∧ w.cell? ⟨b, o + k * 3 + 1, none⟩ = some (.string l[k].vl) ∧ w.cell? ⟨b, o + k * 3 + 2, none⟩ = some (.bool l[k].st)

theorem Holds.below {w w' : World} {B C : Nat} {A : Option Addr} {l : List At} (h : Holds w B A l) (hb : Below C w w') (hBC : B ≤ C) : Holds w' B A l := by
  intro k hk
  obtain ⟨b, o, hA, hlt, h0, h1, h2⟩ := h k hk
  refine ⟨b, o, hA, hlt, ?_, ?_, ?_⟩
  · rw [hb.cell (by show b < C; omega)]; exact h0
  · rw [hb.cell (by show b < C; omega)]; exact h1
  · rw [hb.cell (by show b < C; omega)]; exact h2
theorem Holds.more {w : World} {B B' : Nat} {A : Option Addr} {l : List At} (h : Holds w B A l) (hB : B ≤ B') : Holds w B' A l := by
  intro k hk
  obtain ⟨b, o, hA, hlt, h0⟩ := h k hk
  exact ⟨b, o, hA, by omega, h0⟩
theorem Holds.take {w : World} {B : Nat} {A : Option Addr} {l : List At} (h : Holds w B A l) (n : Nat) : Holds w B A (l.take n) := by
  intro k hk
  obtain ⟨b, o, hA, hlt, h0⟩ := h k (by rw [List.length_take] at hk; omega)
  exact ⟨b, o, hA, hlt, by simpa using h0⟩
theorem Holds.grown {w w' : World} {B : Nat} {A : Option Addr} {l : List At} {row : Option Nat} (h : Holds w B A l) (hg : w.grownBy w' row) (hB : B ≤ w.heap.size) (hr : ∀ b o, A = some ⟨b, o, none⟩ → some b ≠ row) : Holds w' B A l := by
  intro k hk
  obtain ⟨b, o, hA, hlt, h0, h1, h2⟩ := h k hk
  have key : ∀ i, w'.cell? ⟨b, i, none⟩ = w.cell? ⟨b, i, none⟩ := fun i => World.cell?_of_block (hg.block b (by omega) (hr b o hA))
  exact ⟨b, o, hA, hlt, by rw [key]; exact h0, by rw [key]; exact h1, by rw [key]; exact h2⟩
theorem Holds.one {w : World} {g : Nat} {a : At} (h : w.heap[g]? = some (.cells #[.string a.nm, .string a.vl, .bool a.st] 75 (0, 0))) : Holds w (g + 1) (some ⟨g, 0, none⟩) [a] := by
  intro k hk
  have : k = 0 := by simpa using hk
  subst this
  exact ⟨g, 0, rfl, by omega, cell_of_row w g 0 _ _ (0, 0) h, cell_of_row w g 1 _ _ (0, 0) h, cell_of_row w g 2 _ _ (0, 0) h⟩
/-- into a later world of a call -/
theorem Holds.on {w w' : World} {A : Option Addr} {l : List At} (h : Holds w w.heap.size A l) (hb : Below w.heap.size w w') : Holds w' w'.heap.size A l := (h.below hb (Nat.le_refl _)).more hb.size

/-! ### A block that is known whole -/
def Blk (w : World) (g : Nat) (a : At) : Prop := w.heap[g]? = some (.cells #[.string a.nm, .string a.vl, .bool a.st] 75 (0, 0))
section
variable {w w' : World} {g : Nat} {a : At}
theorem Blk.lt (h : Blk w g a) : g < w.heap.size := by
  rcases Nat.lt_or_ge g w.heap.size with hlt | hge
  · exact hlt
  · unfold Blk at h; rw [Array.getElem?_eq_none hge] at h; cases h
theorem Blk.c0 (h : Blk w g a) : w.cell? ⟨g, 0, none⟩ = some (.string a.nm) := cell_of_row w g 0 _ _ (0, 0) h
theorem Blk.c1 (h : Blk w g a) : w.cell? ⟨g, 1, none⟩ = some (.string a.vl) := cell_of_row w g 1 _ _ (0, 0) h
theorem Blk.c2 (h : Blk w g a) : w.cell? ⟨g, 2, none⟩ = some (.bool a.st) := cell_of_row w g 2 _ _ (0, 0) h
theorem Blk.frozen (h : Blk w g a) (i : Nat) : w.frozen? ⟨g, i, none⟩ = false := by
  unfold Blk at h
  simp [World.frozen?, h]
theorem Blk.new (w : World) (a : At) : Blk (w.alloc (.cells #[.string a.nm, .string a.vl, .bool a.st] 75)) w.heap.size a := heap_alloc_new w _
theorem Blk.newS (w : World) {a : At} {s : Bool} (h : a.st = s) : Blk (w.alloc (.cells #[.string a.nm, .string a.vl, .bool s] 75)) w.heap.size a := by
  subst h; exact Blk.new w a
theorem Blk.new2 (w : World) (o : Obj) (a : At) : Blk ((w.alloc o).alloc (.cells #[.string a.nm, .string a.vl, .bool a.st] 75)) (w.heap.size + 1) a := by
  have := Blk.new (w.alloc o) a
  simpa using this
theorem Blk.alloc (h : Blk w g a) (o : Obj) : Blk (w.alloc o) g a := (Below.heap_alloc w o g h.lt).trans h
theorem Blk.far (h : Blk w g a) {p : Addr} (hp : g ≠ p.block) (u : Value) : Blk (w.setCell p u) g a := (Below.heap_setCell w p u g hp).trans h
theorem Blk.set3 {a' : At} (h : Blk w g a) : Blk (((w.setCell ⟨g, 0, none⟩ (.string a'.nm)).setCell ⟨g, 1, none⟩ (.string a'.vl)).setCell ⟨g, 2, none⟩ (.bool a'.st)) g a' := by
  unfold Blk at h ⊢
  simp [World.setCell, Array.getElem?_modify, h]
theorem Blk.below {B : Nat} (h : Blk w g a) (hb : Below B w w') (hg : g < B) : Blk w' g a := (hb.block g hg).trans h
theorem Blk.drewN (h : Blk w g a) (n : Nat) : Blk (w.drewN n) g a := h
end

/-! ### Two attributes compared -/
theorem eqg : Try.prog.eqGuardType Try.prog.depth 75 = false := by kernel_rfl
theorem heldA : Try.prog.stoodInHeld 75 = false := by kernel_rfl
theorem eq_run (a b : At) (d : Nat) (w : World) : (Op.equalIn (d + 2) 75 (.agg #[.string a.nm, .string a.vl, .bool a.st]) (.agg #[.string b.nm, .string b.vl, .bool b.st])).run Try.prog w = .ok (atB a b) w := by
  rw [run_equalIn_struct w (d + 1) 75 _ _ (by unfold Program.fieldsOf; rw [Try.underlying75]) heldA]
  simp [Program.fieldsOf, Try.underlying75, Op.eqFields, go_sem, Try.underlying9, Try.underlying4, part]
  unfold atB
  by_cases h1 : a.nm.toList = b.nm.toList <;> by_cases h2 : a.vl.toList = b.vl.toList <;> by_cases h3 : a.st = b.st <;> simp [h1, h2, h3]
theorem neq_at {a b : At} {r : Bool} (h : atB a b = r) (w : World) : (binOp .neq 75 (.agg #[.string a.nm, .string a.vl, .bool a.st]) (.agg #[.string b.nm, .string b.vl, .bool b.st])).run Try.prog w = .ok (.bool (!r)) w := by
  rw [run_neq_struct, eq_run a b 9998 w, h]; rfl
theorem eql_at {a b : At} {r : Bool} (h : atB a b = r) (w : World) : (binOp .eql 75 (.agg #[.string a.nm, .string a.vl, .bool a.st]) (.agg #[.string b.nm, .string b.vl, .bool b.st])).run Try.prog w = .ok (.bool r) w := by
  rw [run_eql_struct, eq_run a b 9998 w, h]; rfl
end Go.Proofs.Ytfjnbjpenibpkaa.P3
