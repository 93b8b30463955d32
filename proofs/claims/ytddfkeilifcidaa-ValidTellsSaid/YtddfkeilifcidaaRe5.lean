/- A document's own block, its slots, its identities turned: what it is then. No condition. -/
import Derived.Test.YtddfkeilifcidaaDom1
import Derived.Test.YtddfkeilifcidaaErrV
set_option linter.unusedVariables false
set_option linter.unusedSimpArgs false
namespace Go.Proofs.Ytddfkeilifcidaa.P5
open Go.RowKit Kd P4
variable {B p : Nat} {x : Dx}

theorem idsl (x : Dx) : idsOf (x.rs.map (·.nd)) = idsOf x.l := rfl
theorem own_not {w : World} {C g : Nat} {v : Value} {l : List Int} {cur : Array Value} {t : TypeId} {fr : Nat × Nat} (h : kI.Own w C v l) (hg : w.heap[g]? = some (.cells cur t fr)) (ht : t ≠ 3) : some g ≠ v.ownBlock := fun e => by
  obtain ⟨d, hd⟩ := h.ty e.symm
  exact heap_ne hg hd ht rfl
end Go.Proofs.Ytddfkeilifcidaa.P5
