/- lock: Keys of a table that a law holds. Own lemmas, no statement. -/
import Derived.Test.YtkgecljoodofeaaLkHd
set_option linter.unusedSimpArgs false
set_option linter.unusedVariables false
namespace Go.Proofs.Ytkgecljoodofeaa
open Go.ChangeShapes Go.WideShapes Go.ChangeAt Go.RowKit

end Go.Proofs.Ytkgecljoodofeaa
