/- A region that draws its order, whose operations read and whose calls make new memory alone: one walk, in the order of the text, in a class of worlds. Own lemmas, no statement. -/
import Derived.Test.YtkgecljoodofeaaRows
import Derived.WalkKit
import Derived.BigQuiet
namespace Go.Proofs.Ytkgecljoodofeaa
open Go.RowKit

/-- A world in which 'inv' holds. -/
structure Cls (inv : World → Prop) where
  wd : World
  ok : inv wd

end Go.Proofs.Ytkgecljoodofeaa
