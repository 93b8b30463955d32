/- What an arena's calls answer (of *placket/api.Node), and what they leave. -/
import Derived.Test.YtddfkeilifcidaaDelP
set_option linter.unusedVariables false
set_option linter.unusedSimpArgs false
namespace Go.Proofs.Ytddfkeilifcidaa.P4
open Go.RowKit Kd

/-! ### New -/
/-! ### Live, Next, Room -/
section
variable {B p R : Nat} {n : Int} {v : Value} {l : List (Sl Nat)}
/-! ### Put -/
end
end Go.Proofs.Ytddfkeilifcidaa.P4
