/- Rows of cells, stored one by one. Own lemmas, no statement. -/
import Derived.Test.YtefmeeffkjendaaBlk
namespace Go.Proofs.Ytefmeeffkjendaa
open Go.ChangeShapes Go.WideShapes Go.ChangeAt Go.RowKit

end Go.Proofs.Ytefmeeffkjendaa
