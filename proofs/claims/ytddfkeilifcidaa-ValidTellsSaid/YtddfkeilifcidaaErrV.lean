/- An error's number, as a value. No condition. -/
import Derived.Test.YtddfkeilifcidaaKind
set_option linter.unusedVariables false
set_option linter.unusedSimpArgs false
namespace Go.Proofs.Ytddfkeilifcidaa.P5
open Go.RowKit Kd

/-- an error's number, as a value -/
def errV (c : Int) : Value := if c = 0 then .nilIface else .iface 32 (.int .i64 c)
end Go.Proofs.Ytddfkeilifcidaa.P5
