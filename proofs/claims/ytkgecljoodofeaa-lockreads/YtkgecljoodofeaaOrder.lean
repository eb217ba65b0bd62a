/- Texts in the order of their bytes; lists of pairs in rising order: plain lemmas. -/
import Derived.Test.YtkgecljoodofeaaCell
namespace Go.Proofs.Ytkgecljoodofeaa

theorem less_irrefl : ∀ a : List UInt8, Op.bytesLess a a = false
  | [] => rfl
  | a :: x => by simp [Op.bytesLess, less_irrefl x]

abbrev KV := ByteArray × ByteArray
def ltK (a b : ByteArray) : Bool := Op.bytesLess a.toList b.toList
theorem toList_inj {a b : ByteArray} (h : a.toList = b.toList) : a = b := by
  rw [ByteArray.toList_eq, ByteArray.toList_eq] at h
  cases a; cases b
  simp at h
  rw [h]
theorem ltK_irrefl (a : ByteArray) : ltK a a = false := less_irrefl _
def del (k : ByteArray) : List KV → List KV
  | [] => []
  | p :: t => if ltK p.1 k then p :: del k t else if ltK k p.1 then p :: t else t
end Go.Proofs.Ytkgecljoodofeaa
