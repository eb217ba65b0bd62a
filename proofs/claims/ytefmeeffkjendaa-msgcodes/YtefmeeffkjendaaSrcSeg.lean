/- Bytes that came in; as texts, in a class of worlds; pieces of a row of bytes. Own lemmas, no statement. -/
import Derived.Test.YtefmeeffkjendaaSrc
import Derived.Test.YtefmeeffkjendaaSeg
import Derived.Test.YtefmeeffkjendaaBlk
namespace Go.Proofs.Ytefmeeffkjendaa
open Go.ChangeShapes Go.WideShapes Go.ChangeAt Go.RowKit

theorem Src.strE {W0 : World} {v : Value} {l : List UInt8} (h : Src W0 v l) : ∀ s : Cls (Ext W0), (convert 29 9 v).run Try.prog s.wd = .ok (.string ⟨l.toArray⟩) s.wd := fun s => (h.below s.ok).str


/-- The first bytes of a row that is known whole. -/
theorem Blk.src {w : World} {b k c : Nat} {l : List UInt8} (h : Blk w b (bv l).toArray 5) (hk : k ≤ l.length) (hc : k ≤ c) (hm : c ≤ maxLen) : Src w (.slice (some ⟨b, 0, none⟩) k c) (l.take k) := by
  have hl : (l.take k).length = k := by simp; omega
  refine ⟨some ⟨b, 0, none⟩, c, by rw [hl], by omega, hm, fun e => (by cases e), fun ad e j u hu => ?_⟩
  cases e
  rw [Addr.add_mid, Nat.zero_add, h.cell, List.getElem?_toArray]
  unfold bv at hu ⊢
  rw [List.map_take, List.getElem?_take] at hu
  split at hu
  · exact hu
  · cases hu
end Go.Proofs.Ytefmeeffkjendaa
