/- msg: Decode, walked. Own lemmas, no statement. -/
import Derived.Test.YtefmeeffkjendaaMsg3
set_option linter.unusedSimpArgs false
set_option linter.unusedVariables false
namespace Go.Proofs.Ytefmeeffkjendaa
open Go.ChangeShapes Go.WideShapes Go.ChangeAt Go.RowKit

theorem ext_trans {w a b : World} (h : Below w.heap.size w a) (k : Below a.heap.size a b) : Below w.heap.size w b := h.trans (k.mono h.size)
theorem RightM.wf {m : MsgQ} (h : RightM m) (h0 : 0 ≤ m.num) (h1 : 0 ≤ m.life) : m.Wf := by
  have a1 := h.kind
  have a2 := h.frm
  have a3 := h.dst
  have a4 := h.node
  have a5 := h.num
  have a6 := h.life
  have a7 := h.n
  have a8 := h.deed3
  have a9 := h.deed
  have a10 := h.val
  have a11 := h.code
  have hv : m.val.size ≤ 48 := by rcases a10 with e | e <;> omega
  have ho : (0 ≤ m.op ∧ m.op ≤ 3) ∧ m.key.size ≤ 24 := by
    by_cases k : m.kind = 3
    · have := a8 k; omega
    · have := a9 k; omega
  exact ⟨by omega, by omega, by omega, by omega, by omega, by omega, by omega, by omega, by omega, by omega, by omega⟩
end Go.Proofs.Ytefmeeffkjendaa
