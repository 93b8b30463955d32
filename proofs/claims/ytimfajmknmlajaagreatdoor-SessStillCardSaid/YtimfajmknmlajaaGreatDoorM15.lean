/- A part of the proof. No condition. -/
import Derived.Test.YtimfajmknmlajaaGreatDoorM9
import Derived.Test.YtimfajmknmlajaaGreatDoorM11
set_option linter.unusedVariables false
set_option linter.unusedSimpArgs false
set_option maxRecDepth 100000
set_option maxHeartbeats 40000000
namespace Go.Proofs.YtimfajmknmlajaaGreatDoor
open Go.Proofs.Tryz
namespace P19
open Go.RowKit Kd P4 P5 P7 P14 P16
end P19
end Go.Proofs.YtimfajmknmlajaaGreatDoor
