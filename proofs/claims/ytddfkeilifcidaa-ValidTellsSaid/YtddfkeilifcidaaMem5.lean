/- A document as it lies in memory: its own block, its arena's, its list of identities, each node's block and lists; what a call may have turned. No condition. -/
import Derived.Test.YtddfkeilifcidaaCloneP
import Derived.Test.YtddfkeilifcidaaWf5
import Derived.Test.YtddfkeilifcidaaAttrMem
set_option linter.unusedVariables false
set_option linter.unusedSimpArgs false
namespace Go.Proofs.Ytddfkeilifcidaa.P5
open Go.RowKit Kd P4

/-! ### Attributes that are read -/
section
variable {w w' : World} {s : Sv} {l : List P3.At}
end

/-! ### A document -/
/-- a node: its block, its two lists -/
structure Rw where
  b : Nat
  va : Sv
  vk : Sv
  nd : Nd
def Nd.cells (nd : Nd) (va vk : Sv) : Array Value := #[.int .i64 nd.id, .int .i64 nd.par, .string nd.tag, .string nd.txt, .string nd.key, va.val, vk.val, .int .i64 nd.note]
def slotOf (r : Rw) : Sl Nat := ⟨r.nd.id, r.b⟩
/-- a document: its arena's block, the slots and the identities, room, the last identity, the focus, its nodes -/
structure Dx where
  a : Nat
  v : Value
  vi : Value
  R : Nat
  n : Int
  foc : Int
  rs : List Rw
def Dx.l (x : Dx) : List Nd := x.rs.map (·.nd)
def Dx.d (x : Dx) : D := ⟨x.l, x.n, x.R, x.foc⟩
def foot (p : Nat) (x : Dx) (k : Nat) : Prop := k = p ∨ k = x.a ∨ x.v.ownBlock = some k ∨ x.vi.ownBlock = some k ∨ ∃ r ∈ x.rs, k = r.b ∨ r.vk.val.ownBlock = some k
section
variable {w w' : World} {B p : Nat} {x : Dx}
theorem l_len (x : Dx) : x.l.length = x.rs.length := by simp [Dx.l]
theorem l_at (x : Dx) {k : Nat} (hk : k < x.rs.length) : x.l[k]'(by rw [l_len]; exact hk) = x.rs[k].nd := by simp [Dx.l]
/-! ### What a call has done to a document -/
theorem mem_set_ {α : Type} {l : List α} {k : Nat} {r s : α} (h : s ∈ l.set k r) : s = r ∨ ∃ j, ∃ hj : j < l.length, k ≠ j ∧ s = l[j] := by
  obtain ⟨j, hj, rfl⟩ := List.mem_iff_getElem.1 h
  rw [List.getElem_set]
  split
  · exact .inl rfl
  · rename_i e
    exact .inr ⟨j, by simpa using hj, e, rfl⟩
/-- one node is another, in the same block -/
def Dx.put (x : Dx) (k : Nat) (r : Rw) : Dx := { x with rs := x.rs.set k r }
end
end Go.Proofs.Ytddfkeilifcidaa.P5
