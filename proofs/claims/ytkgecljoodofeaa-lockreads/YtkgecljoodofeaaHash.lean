/- A key's number: what the Go text of key.Hash comes to, for every text. Conditions: none but the form's own. -/
import Derived.Test.YtkgecljoodofeaaRows
import Derived.WalkKit
import Derived.WalkLawsBesides
import Derived.ProofKit
import Derived.OpenShut
namespace Go.Proofs.Ytkgecljoodofeaa
open Go.ChangeShapes Go.WideShapes Go.ChangeAt Go.RowKit

end Go.Proofs.Ytkgecljoodofeaa
