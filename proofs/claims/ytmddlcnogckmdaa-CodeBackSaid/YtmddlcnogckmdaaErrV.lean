/- An error's number, as a value. No condition. -/
import Derived.Test.YtmddlcnogckmdaaKind
set_option linter.unusedVariables false
set_option linter.unusedSimpArgs false
namespace Go.Proofs.Ytmddlcnogckmdaa.P5
open Go.RowKit Kd

/-- an error's number, as a value -/
def errV (c : Int) : Value := if c = 0 then .nilIface else .iface 33 (.int .i64 c)
end Go.Proofs.Ytmddlcnogckmdaa.P5
