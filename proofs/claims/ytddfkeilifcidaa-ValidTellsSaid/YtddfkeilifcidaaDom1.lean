/- What the quick calls on a document answer: who is there, a node, the identities, room, the focus; and what a focus, a note, attributes, a text that are set leave. -/
import Derived.Test.YtddfkeilifcidaaIns5
import Derived.Test.YtddfkeilifcidaaAttr4
import Derived.Test.YtddfkeilifcidaaVoid
import Derived.Deep.RegionHeld3
set_option linter.unusedVariables false
set_option linter.unusedSimpArgs false
namespace Go.Proofs.Ytddfkeilifcidaa.P5
open Go.RowKit Kd P4
variable {B p : Nat} {x : Dx}

theorem own_nil_zero {v : Value} {w : World} {l : List Int} {A : Option Addr} {n c : Nat} (h : kI.Own w B v l) (hv : v = .slice A n c) : l.length = n ∧ n ≤ c ∧ c ≤ maxLen ∧ (A = none → c = 0 ∧ n = 0) ∧ kI.Holds w w.heap.size A l := by
  subst hv
  obtain ⟨A', n', c', hv, h1, h2, h3, h4, h5⟩ := h.slice
  injection hv with e1 e2 e3
  subst e1; subst e2; subst e3
  exact ⟨h1, h2, h3, fun e => by have := h4 e; omega, h5⟩
/-! ### A node that is told -/
theorem setOne {a w : World} {g i : Nat} {u : Value} (h : But (fun k => k = g) a w) : But (fun k => k = g) a (w.setCell ⟨g, i, none⟩ u) := But.setCell h (fun _ => rfl) u
theorem one_end {w w2 wf : World} (hB : Below w.heap.size w w2) (hb : But (fun k => k = w.heap.size) w2 wf) : Below w.heap.size w wf := hB.trans (hb.to_below (fun i _ hi => by omega) hB.size)
end Go.Proofs.Ytddfkeilifcidaa.P5
