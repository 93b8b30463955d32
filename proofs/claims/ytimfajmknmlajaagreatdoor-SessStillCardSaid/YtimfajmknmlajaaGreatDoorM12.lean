/- A part of the proof. No condition. -/
import Derived.Deep.Cut
import Derived.Deep.RegionHeld3
import Derived.Deep.DeepCutAuto
import Derived.Deep.CutBlock
import Derived.Deep.DrawnRows
import Derived.Test.YtimfajmknmlajaaGreatDoorM1
import Derived.Test.YtimfajmknmlajaaGreatDoorM6
import Derived.Test.YtimfajmknmlajaaGreatDoorM9
import Derived.Test.YtimfajmknmlajaaGreatDoorM10
set_option linter.unusedVariables false
set_option linter.unusedSimpArgs false
set_option maxRecDepth 100000
set_option maxHeartbeats 40000000
namespace Go.Proofs.YtimfajmknmlajaaGreatDoor
open Go.Proofs.Tryz
namespace P9
open Go.RowKit Kd P4 P5 P8
theorem XO{w w':World}{s:Nat}{t:TV}(h:TB w s t)(hk:Bd.QD w w'):TB w' s t:=hk _ _ _ _ h pA pA
theorem nU{w w':World}{s:Nat}{a:P3.At}(h:P3.uD w s a)(hk:Bd.QD w w'):P3.uD w' s a:=hk _ _ _ _ h pA pA
theorem dJ{B b:Nat}{l m:uA}{w w':World}(h:Bd.RD B b l w w')(e:l=m):Bd.RD B b m w w':=e▸h
theorem dM(s:qA):s.data.toList.length=s.size:=by simp
def uM(t:PT):qA:=⟨(wC t).toArray⟩
end P9
namespace P10
open Go.RowKit Kd P4 P5 P8 P9
theorem QC{B:Nat}{a w:World}(h:Below B a w):Below B a w.drew:=⟨h.os,h.tape,h.output,h.size,h.block⟩
end P10
end Go.Proofs.YtimfajmknmlajaaGreatDoor
