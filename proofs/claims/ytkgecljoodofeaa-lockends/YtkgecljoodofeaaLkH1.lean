/- lock: what the laws want of a table that they hold; the law's elder. Own lemmas, no statement. -/
import Derived.Test.YtkgecljoodofeaaLkT
import Derived.Test.YtkgecljoodofeaaLkG1
set_option linter.unusedSimpArgs false
set_option linter.unusedVariables false
namespace Go.Proofs.Ytkgecljoodofeaa
open Go.ChangeShapes Go.WideShapes Go.ChangeAt Go.RowKit

section
variable {B g n : Nat} {w0 w w' : World} {S : Say} {T T' : Tab}
theorem StepT.ext (hs : StepT w T w' T') (h : Ext w0 w) (hB : w0.heap.size ≤ B) (ht : TT B w g n S T) : Ext w0 w' := by
  have h1 := ht.ge (.inl rfl)
  exact Below.trans h (Below.mono (Chg.below hs.chg (by omega) (fun i hi => (ht.ge hi).1)) hB)
/-- Blocks of other types stay. -/
theorem StepT.box (hs : StepT w T w' T') (ht : TT B w g n S T) {b : Nat} {c : Array Value} {Y : TypeId} (hb : Blk w b c Y) (h1 : Y ≠ 65) (h2 : Y ≠ 55) : Blk w' b c Y := hb.chg hs.chg (ht.tab.notFT hb h1 h2)
/-- Blocks ahead of the table stay. -/
theorem StepT.low (hs : StepT w T w' T') (ht : TT B w g n S T) {b : Nat} (hb : b < B) : w'.heap[b]? = w.heap[b]? := by
  have h1 := ht.ge (.inl rfl)
  exact hs.chg.block b (by omega) fun e => by have := (ht.ge e).1; omega
theorem TT.base (ht : TT B w g n S T) : B ≤ w.heap.size := by have h1 := ht.ge (.inl rfl); omega
end
theorem eldT_ne {a b : Td} (h : eldT a b = true) : a ≠ b := fun e => by subst e; rw [eldT_irr] at h; cases h
end Go.Proofs.Ytkgecljoodofeaa
