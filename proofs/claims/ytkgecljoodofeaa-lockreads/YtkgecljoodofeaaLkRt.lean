/- lock: the law's right, of lists that are so. Own lemmas, no statement. -/
import Derived.Test.YtkgecljoodofeaaLkH1
set_option linter.unusedSimpArgs false
set_option linter.unusedVariables false
namespace Go.Proofs.Ytkgecljoodofeaa
open Go.ChangeShapes Go.WideShapes Go.ChangeAt Go.RowKit

/-- No two that have a key are against each other; who waits is elder than those for whom it waits. -/
structure RightL (has waits : List Wn) : Prop where
  hh : ∀ i j (hi : i < has.length) (hj : j < has.length), i ≠ j → has[i].mode ≠ 2 ∧ has[j].mode ≠ 2
  wh : ∀ w ∈ waits, ∀ h ∈ has, h.t ≠ w.t → (h.mode = 2 ∨ w.mode = 2) → eldT w.t h.t = true
  ww : ∀ i j (hi : i < waits.length) (hj : j < i), (waits[j].mode = 2 ∨ waits[i].mode = 2) → eldT waits[i].t waits[j].t = true
end Go.Proofs.Ytkgecljoodofeaa
