/- 'append(b, make([]byte, n)...)', b the call's own. Own lemmas, no statement. -/
import Derived.Test.YtbgofajldkblmaaGreatSrc
import Derived.Lib.AppendZerosOnto
import Derived.Below
namespace Go.Proofs.YtbgofajldkblmaaGreat
open Go.ChangeShapes Go.WideShapes Go.ChangeAt Go.RowKit

theorem zeroCells_bv (n : Nat) : Builtin.zeroCells (Value.int .u8 0).cells n = (bv (List.replicate n 0)).toArray := by
  apply Array.ext'
  rw [show (Value.int IntKind.u8 0).cells = #[.int .u8 0] from rfl]
  simp only [Builtin.zeroCells, Array.toList_map, Array.toList_range, bv, List.map_replicate]
  apply List.ext_getElem
  · simp
  · intro i h1 h2
    simp [Nat.mod_one]

end Go.Proofs.YtbgofajldkblmaaGreat
