/- lock: Keys, walked. Own lemmas, no statement. -/
import Derived.Test.YtkgecljoodofeaaLkK2
set_option linter.unusedSimpArgs false
set_option linter.unusedVariables false
namespace Go.Proofs.Ytkgecljoodofeaa
open Go.ChangeShapes Go.WideShapes Go.ChangeAt Go.RowKit

end Go.Proofs.Ytkgecljoodofeaa
