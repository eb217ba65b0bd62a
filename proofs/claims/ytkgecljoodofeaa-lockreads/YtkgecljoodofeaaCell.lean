/- A cell that can be read lies in memory that is there. Own lemma, no statement. -/
import Derived.Test.YtkgecljoodofeaaBase
import Derived.OwnWalk
namespace Go.Proofs.Ytkgecljoodofeaa
theorem cell_lt {w : World} {a : Addr} {v : Value} (h : w.cell? a = some v) : a.block < w.heap.size := World.block_lt_of_cell? w a h

end Go.Proofs.Ytkgecljoodofeaa
