/- An arena's Clone: another one, of the same slots, whose memory is all new. -/
import Derived.Test.YtddfkeilifcidaaArena2P
import Derived.Deep.RegionHeld3
set_option linter.unusedVariables false
set_option linter.unusedSimpArgs false
namespace Go.Proofs.Ytddfkeilifcidaa.P4
open Go.RowKit Kd
variable {B p R : Nat} {n : Int} {v : Value} {l : List (Sl Nat)}

end Go.Proofs.Ytddfkeilifcidaa.P4
