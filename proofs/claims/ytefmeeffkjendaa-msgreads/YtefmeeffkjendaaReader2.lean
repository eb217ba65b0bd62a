/- What the Go texts of a Reader's Tid and End come to, and those of a nil Reader. Own lemmas, no statement. -/
import Derived.Test.YtefmeeffkjendaaReader
namespace Go.Proofs.Ytefmeeffkjendaa
open Go.ChangeShapes Go.WideShapes Go.ChangeAt Go.RowKit

end Go.Proofs.Ytefmeeffkjendaa
