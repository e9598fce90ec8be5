/- CronDays, walked. -/
import Derived.Test.YtdojpnhjnhecmaaDoorW201
import Derived.Test.YtdojpnhjnhecmaaDoorW210
import Derived.Test.YtdojpnhjnhecmaaDoorW211
namespace Go.Proofs.YtdojpnhjnhecmaaDoor
open Go Go.RowKit
theorem days_walk (x0 x1 : Int) (x2 x3 : Bool) (x4 : Int) (w : World) (hT : HasT w) (_b0 : -9223372036854775808 ≤ x0 ∧ x0 ≤ 9223372036854775807) (_b1 : -9223372036854775808 ≤ x1 ∧ x1 ≤ 9223372036854775807) (_b4 : -9223372036854775808 ≤ x4 ∧ x4 ≤ 9223372036854775807) :
    Calls Tryd.prog 7 #[.int .i64 x0, .int .i64 x1, .bool x2, .bool x3, .int .i64 x4] w fun e w' => e = .returned (.bool true) ∧ Below w.heap.size w w' := by
  cases x2 <;> cases x3
  · exact days_walkfalsefalse x0 x1 x4 w hT
  · exact days_walkfalsetrue x0 x1 x4 w hT
  · exact days_walktruefalse x0 x1 x4 w hT
  · exact days_walktruetrue x0 x1 x4 w hT
end Go.Proofs.YtdojpnhjnhecmaaDoor
