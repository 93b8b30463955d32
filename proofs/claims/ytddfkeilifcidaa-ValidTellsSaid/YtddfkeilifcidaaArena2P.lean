/- What an arena's Get, Set and Drop answer (of *placket/api.Node), and what they leave. -/
import Derived.Test.YtddfkeilifcidaaArenaP
set_option linter.unusedVariables false
set_option linter.unusedSimpArgs false
namespace Go.Proofs.Ytddfkeilifcidaa.P4
open Go.RowKit Kd
variable {B p R : Nat} {n : Int} {v : Value} {l : List (Sl Nat)}

/-! ### Get -/
/-! ### Set -/
/-! ### Drop -/
end Go.Proofs.Ytddfkeilifcidaa.P4
