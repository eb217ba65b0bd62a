/- KeyRights: the walk of the law's Go text. -/
import Derived.Test.YtopnblhedankcaaHash
import Derived.Test.YtopnblhedankcaaBase
namespace Go.Proofs.Ytopnblhedankcaa
open Go.ChangeShapes Go.WideShapes Go.ChangeAt Go.RowKit

set_option maxHeartbeats 1000000 in
theorem walk_KeyRights (k v : ByteArray) (w : World) (hk : k.size ≤ maxLen) (hv : v.size ≤ maxLen) :
    Calls Try.prog 11 #[.string k, .string v] w fun e w' => e = .returned (.bool true) ∧ Below w.heap.size w w' := by
  unfold maxLen at hk hv
  rcases (show k.size = 0 ∨ (0 < k.size ∧ k.size ≤ 24) ∨ 24 < k.size by omega) with h | h | h <;>
  rcases (show v.size ≤ 48 ∨ 48 < v.size by omega) with h' | h'
  all_goals
    go_enter Try.func11, Try.ntmps11
    go_wp2_with (first | (go_at_call 29; refine (head2_any _).mono ?_; rintro e w' ⟨rfl, rfl⟩) | go_in)
    go_ret
    refine ⟨?_, Below.refl _ _⟩
    first | rfl | (refine ret_bool ?_; simp; omega)
end Go.Proofs.Ytopnblhedankcaa
