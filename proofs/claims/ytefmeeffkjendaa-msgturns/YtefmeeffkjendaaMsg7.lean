/- msg: whether two messages are one. Own lemmas, no statement. -/
import Derived.Test.YtefmeeffkjendaaMsgQ
import Derived.WalkKit
import Derived.BigQuiet
import Derived.Laws.StructEq
set_option linter.unusedSimpArgs false
set_option linter.unusedVariables false
namespace Go.Proofs.Ytefmeeffkjendaa
open Go.ChangeShapes Go.WideShapes Go.ChangeAt Go.RowKit

/-- Whether two messages are one. -/
def msgEq (x y : MsgQ) : Bool := (x.kind == y.kind) && (x.frm == y.frm) && (x.dst == y.dst) && (x.num == y.num) && (x.node == y.node) && (x.life == y.life) && (x.n == y.n) && (x.op == y.op) && (x.key.toList == y.key.toList) && (x.val.toList == y.val.toList) && (x.has == y.has) && (x.code == y.code)
theorem toList_inj {a b : ByteArray} (h : (a.toList == b.toList) = true) : a = b := by
  rw [beq_str] at h
  exact of_decide_eq_true h
theorem msgEq_iff (x y : MsgQ) : msgEq x y = true ↔ x = y := by
  constructor
  · intro h
    unfold msgEq at h
    obtain ⟨h, h11⟩ := Bool.and_eq_true_iff.1 h
    obtain ⟨h, h10⟩ := Bool.and_eq_true_iff.1 h
    obtain ⟨h, h9⟩ := Bool.and_eq_true_iff.1 h
    obtain ⟨h, h8⟩ := Bool.and_eq_true_iff.1 h
    obtain ⟨h, h7⟩ := Bool.and_eq_true_iff.1 h
    obtain ⟨h, h6⟩ := Bool.and_eq_true_iff.1 h
    obtain ⟨h, h5⟩ := Bool.and_eq_true_iff.1 h
    obtain ⟨h, h4⟩ := Bool.and_eq_true_iff.1 h
    obtain ⟨h, h3⟩ := Bool.and_eq_true_iff.1 h
    obtain ⟨h, h2⟩ := Bool.and_eq_true_iff.1 h
    obtain ⟨h, h1⟩ := Bool.and_eq_true_iff.1 h
    obtain ⟨x0, x1, x2, x3, x4, x5, x6, x7, x8, x9, x10, x11⟩ := x
    obtain ⟨y0, y1, y2, y3, y4, y5, y6, y7, y8, y9, y10, y11⟩ := y
    simp only at h h1 h2 h3 h4 h5 h6 h7 h8 h9 h10 h11
    rw [eq_of_beq h, eq_of_beq h1, eq_of_beq h2, eq_of_beq h3, eq_of_beq h4, eq_of_beq h5, eq_of_beq h6, eq_of_beq h7, toList_inj h8, toList_inj h9, eq_of_beq h10, eq_of_beq h11]
  · intro h
    subst h
    unfold msgEq
    simp only [beq_self_eq_true, Bool.and_self]
end Go.Proofs.Ytefmeeffkjendaa
