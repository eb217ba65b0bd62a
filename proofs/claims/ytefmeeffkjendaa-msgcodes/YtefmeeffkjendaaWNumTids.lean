/- NumTids: the walk of the law's Go text. -/
import Derived.Test.YtefmeeffkjendaaReader2
import Derived.Laws.StructEq
import Derived.Test.YtefmeeffkjendaaSrcSeg
namespace Go.Proofs.Ytefmeeffkjendaa
open Go.ChangeShapes Go.WideShapes Go.ChangeAt Go.RowKit

end Go.Proofs.Ytefmeeffkjendaa
