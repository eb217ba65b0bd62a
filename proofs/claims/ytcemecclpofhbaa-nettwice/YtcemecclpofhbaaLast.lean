/- A region that draws its order, whose last operation waits for all others: what comes ahead of it may be walked by itself. Own lemmas, no statement. -/
import Derived.Test.YtcemecclpofhbaaSeg
namespace Go.Proofs.Ytcemecclpofhbaa
open Go.RowKit

section
variable {P : Program} {ops : Array Oper} {Q : Exit → Act → World → Prop} {md : Region.Mode} {L : Nat}
end
end Go.Proofs.Ytcemecclpofhbaa
