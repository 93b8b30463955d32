/- A part of the proof. No condition. -/
import Derived.WalkKit
import Derived.Deep.RegionHeld3
set_option linter.unusedVariables false
set_option linter.unusedSimpArgs false
set_option maxRecDepth 100000
set_option maxHeartbeats 40000000
namespace Go.Proofs.YtimfajmknmlajaaGreatDoor
namespace Tk
open Go.RowKit
end Tk
end Go.Proofs.YtimfajmknmlajaaGreatDoor
