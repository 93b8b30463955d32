/- What placketref11.Get answers. No condition but those stated. -/
import Derived.Test.YtddfkeilifcidaaOne12
set_option linter.unusedVariables false
set_option linter.unusedSimpArgs false
namespace Go.Proofs.Ytddfkeilifcidaa.P12
open Go.RowKit Kd P4 P11

/-- instructions of one's own, and a number -/
def Xv (w : World) (p : List In × Nat) (e : Ending) (w' : World) : Prop := ∃ (A : Option Addr) (n c : Nat) (l : List In), e = .returned (.tuple #[.slice A n c, .int .i64 (p.2 : Nat)]) ∧ l = p.1 ∧ kX.Own w' w.heap.size (.slice A n c) l ∧ Below w.heap.size w w'
theorem xv_none {w w' : World} {p : List In × Nat} {k : Nat} (h : p = ([], k)) (hb : Below w.heap.size w w') : Xv w p (.returned (.tuple #[.slice none 0 0, .int .i64 (k : Nat)])) w' := by
  subst h
  exact ⟨none, 0, 0, [], rfl, rfl, Kind.Own.nil kX w' _, hb⟩
theorem ownX_len {w : World} {B : Nat} {A : Option Addr} {n c : Nat} {l : List In} (h : kX.Own w B (.slice A n c) l) : l.length = n := by
  obtain ⟨A', n', c', hv, e1, e2, e3, e4, e5⟩ := h.slice
  injection hv with h1 h2 h3
  rw [e1, ← h2]
end Go.Proofs.Ytddfkeilifcidaa.P12
