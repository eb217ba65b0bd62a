/- net: Twice, Spoil, walked; those of a nil net. Own lemmas, no statement. -/
import Derived.Test.YtcemecclpofhbaaNet5
set_option linter.unusedSimpArgs false
set_option linter.unusedVariables false
namespace Go.Proofs.Ytcemecclpofhbaa
open Go.ChangeShapes Go.WideShapes Go.ChangeAt Go.RowKit

end Go.Proofs.Ytcemecclpofhbaa
