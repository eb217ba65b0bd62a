/- msg: whether two messages are one. Own lemmas, no statement. -/
import Derived.Test.YtefmeeffkjendaaMsgQ
import Derived.WalkKit
import Derived.BigQuiet
import Derived.Laws.StructEq
set_option linter.unusedSimpArgs false
set_option linter.unusedVariables false
namespace Go.Proofs.Ytefmeeffkjendaa
open Go.ChangeShapes Go.WideShapes Go.ChangeAt Go.RowKit

theorem toList_inj {a b : ByteArray} (h : (a.toList == b.toList) = true) : a = b := by
  rw [beq_str] at h
  exact of_decide_eq_true h
end Go.Proofs.Ytefmeeffkjendaa
