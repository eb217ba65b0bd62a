/- What the Go text of num.first comes to: the number with which bytes begin. Own lemmas, no statement. -/
import Derived.Test.YtefmeeffkjendaaPut
import Derived.Laws.ShiftsVar
namespace Go.Proofs.Ytefmeeffkjendaa
open Go.ChangeShapes Go.WideShapes Go.ChangeAt Go.RowKit

/-- The number with which bytes begin: from the i-th byte on, n so far: the number, how many bytes, the error. -/
def fstF : Nat → Nat → List UInt8 → Nat × Nat × Nat
  | _, _, [] => (0, 0, 6)
  | n, i, c :: t =>
    if i = 9 ∧ 1 < c.toNat then (0, 0, 2)
    else if 128 ≤ c.toNat then fstF (n + (c.toNat - 128) * 2 ^ (7 * i)) (i + 1) t
    else if c.toNat = 0 ∧ 0 < i then (0, 0, 2)
    else (n + c.toNat * 2 ^ (7 * i), i + 1, 0)
def firstL (l : List UInt8) : Nat × Nat × Nat := fstF 0 0 l

end Go.Proofs.Ytefmeeffkjendaa
