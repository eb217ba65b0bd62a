/- msg: what a Reader hands to a message, walked. Own lemmas, no statement. -/
import Derived.Test.YtefmeeffkjendaaMsg2
import Derived.Test.YtefmeeffkjendaaPutL
import Derived.Test.YtefmeeffkjendaaWNumTids
set_option linter.unusedSimpArgs false
set_option linter.unusedVariables false
namespace Go.Proofs.Ytefmeeffkjendaa
open Go.ChangeShapes Go.WideShapes Go.ChangeAt Go.RowKit

/-- Only the Reader's block and one more have turned. -/
def Two (g p : Nat) (w w' : World) : Prop := Chg (fun i => i = g ∨ i = p) w w'
theorem Two.grown {g p : Nat} {a w w' : World} (h : Two g p a w) (hg : w.grownBy w' (some g)) : Two g p a w' := Chg.grown h hg (fun k e _ => by cases e; exact .inl rfl)
theorem Two.refl (g p : Nat) (w : World) : Two g p w w := Chg.refl _ _
theorem Two.below {g p : Nat} {a w w' : World} (h : Two g p a w) (hb : Below w.heap.size w w') : Two g p a w' := Chg.trans h (Chg.of_below (S := fun _ => False) hb (fun i hi h => by omega)) (fun _ _ e => e.elim)
end Go.Proofs.Ytefmeeffkjendaa
