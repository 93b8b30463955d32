/- A part of the proof. No condition. -/
import Derived.Deep.RegionHeld3
import Derived.Deep.DeepCutAuto
import Derived.Deep.LoopGhost
import Derived.Test.YtimfajmknmlajaaGreatDoorM1
import Derived.Test.YtimfajmknmlajaaGreatDoorM4
import Derived.Test.YtimfajmknmlajaaGreatDoorM9
import Derived.Test.YtimfajmknmlajaaGreatDoorM10
import Derived.Test.YtimfajmknmlajaaGreatDoorM14
import Derived.Test.YtimfajmknmlajaaGreatDoorM15
import Derived.Test.YtimfajmknmlajaaGreatDoorM17
set_option linter.unusedVariables false
set_option linter.unusedSimpArgs false
set_option maxRecDepth 100000
set_option maxHeartbeats 40000000
namespace Go.Proofs.YtimfajmknmlajaaGreatDoor
open Go.Proofs.Tryz
namespace P20
open Go.RowKit Kd P4 P5 P7 P11 P12 P13 P14 P16 P19
end P20
end Go.Proofs.YtimfajmknmlajaaGreatDoor
