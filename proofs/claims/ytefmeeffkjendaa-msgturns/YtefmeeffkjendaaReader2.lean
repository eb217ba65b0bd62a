/- What the Go texts of a Reader's Tid and End come to, and those of a nil Reader. Own lemmas, no statement. -/
import Derived.Test.YtefmeeffkjendaaReader
namespace Go.Proofs.Ytefmeeffkjendaa
open Go.ChangeShapes Go.WideShapes Go.ChangeAt Go.RowKit

/-- The next transaction of a Reader: its number, its node, what is left, the error. -/
def rtid (l : List UInt8) (err : Nat) : (Nat × Nat) × List UInt8 × Nat :=
  if (rnum (rnum l err 1099511627776).2.1 (rnum l err 1099511627776).2.2 63).2.2 ≠ 0 then ((0, 0), (rnum (rnum l err 1099511627776).2.1 (rnum l err 1099511627776).2.2 63).2.1, (rnum (rnum l err 1099511627776).2.1 (rnum l err 1099511627776).2.2 63).2.2)
  else (((rnum l err 1099511627776).1, (rnum (rnum l err 1099511627776).2.1 (rnum l err 1099511627776).2.2 63).1), (rnum (rnum l err 1099511627776).2.1 (rnum l err 1099511627776).2.2 63).2.1, 0)

end Go.Proofs.Ytefmeeffkjendaa
