/- Texts in the order of their bytes; lists of pairs in rising order: plain lemmas. -/
import Derived.Test.YtbgofajldkblmaaGreatCell
namespace Go.Proofs.YtbgofajldkblmaaGreat

def ltK (a b : ByteArray) : Bool := Op.bytesLess a.toList b.toList
theorem toList_inj {a b : ByteArray} (h : a.toList = b.toList) : a = b := by
  rw [ByteArray.toList_eq, ByteArray.toList_eq] at h
  cases a; cases b
  simp at h
  rw [h]
end Go.Proofs.YtbgofajldkblmaaGreat
