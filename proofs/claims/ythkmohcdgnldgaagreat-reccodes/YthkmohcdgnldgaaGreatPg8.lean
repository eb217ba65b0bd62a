/- Pages: the document's example, and the law's own small. Own lemmas, no statement. -/
import Derived.Test.YthkmohcdgnldgaaGreatPg7
namespace Go.Proofs.YthkmohcdgnldgaaGreat
open Go.ChangeShapes Go.WideShapes Go.ChangeAt Go.RowKit

theorem rd_madeS (w : World) (cs : List ByteArray) (hn : cs.length ≤ maxLen) : Rd (w.alloc (.cells (sv cs).toArray 9)) (.slice (some ⟨w.heap.size, 0, none⟩) cs.length cs.length) (sv cs) := by
  refine ⟨_, cs.length, by rw [sv_length], by rw [sv_length]; exact Nat.le_refl _, hn, fun e => (by cases e), fun ad e j u hu => ?_⟩
  cases e
  rw [Addr.add_mid, Nat.zero_add, Blk.cell (Blk.new _ _ _), List.getElem?_toArray]
  exact hu

def pgAX : Pg := ⟨1, [⟨#[97]⟩], [⟨#[120]⟩], [], 0, 0, 0, 0⟩
theorem pgAX_right : rightPg pgAX = true := by decide +kernel
theorem pgAX_enc : encP pgAX 5 = [1, 5, 1, 1, 97, 1, 120] := by decide +kernel
theorem pgAX_ok : pgAX.Ok := ⟨by simp [pgAX, maxLen]; decide, by simp [pgAX, maxLen]; decide, by simp [pgAX], by simp [pgAX], by simp [pgAX], by simp [pgAX], by simp [pgAX], by simp [pgAX]⟩

def smallPg (p : Pg) : Bool := decide (p.keys.length ≤ 20) && decide (p.vals.length ≤ 20) && decide (p.kids.length ≤ 20)

end Go.Proofs.YthkmohcdgnldgaaGreat
