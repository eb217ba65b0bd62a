/- What the walks are told of arguments that came in: slices of integers. Own lemmas, no statement. -/
import Derived.Test.YtefmeeffkjendaaRows
import Derived.WalkKit
import Derived.WalkLawsBesides
import Derived.ProofKit
import Derived.OpenShut
import Derived.Lib.SmallJoins
namespace Go.Proofs.Ytefmeeffkjendaa
open Go.ChangeShapes Go.WideShapes Go.ChangeAt Go.RowKit

end Go.Proofs.Ytefmeeffkjendaa
