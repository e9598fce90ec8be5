/- What a statement's frame needs: weights of what came in. -/
import Derived.Test.YteeflkkoifgcbabGreatEZ
import Derived.Test.YteeflkkoifgcbabGreatRows
import Derived.ProofKit
import Derived.OpenShut
import Derived.SizedLaws
import Derived.Stop.Joined
namespace Go.Proofs.YteeflkkoifgcbabGreat
open Go.ChangeShapes Go.WideShapes Go.ChangeAt Go.RowKit
theorem own : ownKnob Tryz.prog.godebug = none := by kernel_rfl
theorem laidOut : laidOutB Tryz.prog = true := by kernel_rfl
end Go.Proofs.YteeflkkoifgcbabGreat
