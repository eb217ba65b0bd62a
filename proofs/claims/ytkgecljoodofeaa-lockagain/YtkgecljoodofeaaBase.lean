/- What the walks are told of arguments that came in: slices of integers. Own lemmas, no statement. -/
import Derived.Test.YtkgecljoodofeaaRows
import Derived.WalkKit
import Derived.WalkLawsBesides
import Derived.ProofKit
import Derived.OpenShut
import Derived.Lib.SmallJoins
namespace Go.Proofs.Ytkgecljoodofeaa
open Go.ChangeShapes Go.WideShapes Go.ChangeAt Go.RowKit

end Go.Proofs.Ytkgecljoodofeaa
