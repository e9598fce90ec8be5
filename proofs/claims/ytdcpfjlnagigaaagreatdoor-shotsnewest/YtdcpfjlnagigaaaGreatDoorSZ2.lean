/- ShotsNewest, walked, with what parse tells. -/
import Derived.Test.YtdcpfjlnagigaaaGreatDoorSZ1
import Derived.Test.YtdcpfjlnagigaaaGreatDoorSR3
namespace Go.Proofs.YtdcpfjlnagigaaaGreatDoor
open Go Go.RowKit
theorem newestL_walk (v : Value) (x1 : Int) (zs : List Int) (w : World) (hT : HasTab w) (hv : SeesI w v zs) (b1 : -9223372036854775808 ≤ x1 ∧ x1 ≤ 9223372036854775807) :
    Calls Tryz.prog 5 #[v, .int .i64 x1] w fun e w' => e = .returned (.bool true) ∧ Below w.heap.size w w' := newest_walk parseYes v x1 zs w hT hv b1
end Go.Proofs.YtdcpfjlnagigaaaGreatDoor
