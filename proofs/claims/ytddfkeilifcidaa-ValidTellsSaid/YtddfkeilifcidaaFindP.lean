/- What find tells of an arena's slots (of *placket/api.Node): the place of an identity, and whether it is there. -/
import Derived.Test.YtddfkeilifcidaaKinds5
set_option linter.unusedVariables false
set_option linter.unusedSimpArgs false
namespace Go.Proofs.Ytddfkeilifcidaa.P4
open Go.RowKit Kd

def SearchP (w : World) (l : List (Sl Nat)) (t : Int) (e : Ending) (w' : World) : Prop :=
  e = .returned (.tuple #[.int .i64 (posA l t), .bool (hasA l t)]) ∧ Below w.heap.size w w'

section
variable {w w' : World} {B p R : Nat} {n : Int} {v : Value} {l : List (Sl Nat)}
end

end Go.Proofs.Ytddfkeilifcidaa.P4
