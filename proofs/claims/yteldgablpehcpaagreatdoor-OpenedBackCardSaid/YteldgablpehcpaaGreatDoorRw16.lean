/- Rw16 -/
import Derived.Test.YteldgablpehcpaaGreatDoorSx16
import Derived.Test.YteldgablpehcpaaGreatDoorLw
set_option linter.unusedVariables false
set_option linter.unusedSimpArgs false
set_option maxRecDepth 100000
set_option maxHeartbeats 8000000
namespace Go.Proofs.YteldgablpehcpaaGreatDoor
open Go.RowKit
theorem sc(a b:BL):(a==b)=decide (a=b):=by
 by_cases h:a=b
 ·subst h;simp
 ·simp[h]
theorem Els.key16{K:BL}{N:Int}{xs:List Value}{w:World}(h:Els w (Da.dp K N) xs)(j:Nat)(hj:j<5):∃x,xs[j]? =some x/\RowV (Da.aQ K N j) x w:=h.get j hj
theorem Da.bP(K:BL)(N:Int)(j:Nat)(hj:j<5):(Da.aQ K N j).length=32:=by
 match j,hj with
 |0,_|1,_|2,_|3,_|4,_=>exact Da.dB _ _ _
 |n+5,h=>omega
theorem Da.pO{p:Pm15}(h:Da.Right15 p):(Da.ae p.sz:Int)+p.se=((Da.n16 p:Nat):Int):=by
 have:=h.e0;unfold Da.n16;omega
