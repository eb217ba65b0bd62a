/- NetOrder: the walk of the law's Go text. Own lemmas, no statement. -/
import Derived.Test.YtcemecclpofhbaaNet7
import Derived.Test.YtcemecclpofhbaaOpenBs
set_option linter.unusedSimpArgs false
set_option linter.unusedVariables false
namespace Go.Proofs.Ytcemecclpofhbaa
open Go.ChangeShapes Go.WideShapes Go.ChangeAt Go.RowKit

/-- The letters from the i-th one on: what they are. -/
def Are (f : Nat → Int) (l : List BsV) (s : Nat) (ls : List LetV) : Prop := s + ls.length ≤ l.length ∧ ∀ j x, ls[j]? = some x → x.dst = f (s + j) ∧ ∃ b, l[s + j]? = some b ∧ x.bs = b.bs
theorem Are.push {f : Nat → Int} {l : List BsV} {ls : List LetV} (h : Are f l 0 ls) {x : LetV} {b : BsV} (hb : l[ls.length]? = some b) (hd : x.dst = f ls.length) (hx : x.bs = b.bs) : Are f l 0 (ls ++ [x]) := by
  have hlt := (List.getElem?_eq_some_iff.1 hb).1
  refine ⟨by rw [List.length_append]; simp; omega, fun j y hy => ?_⟩
  by_cases hj : j < ls.length
  · rw [List.getElem?_append_left hj] at hy
    exact h.2 j y hy
  · have hj2 := (List.getElem?_eq_some_iff.1 hy).1
    rw [List.length_append] at hj2
    simp at hj2
    have e : j = ls.length := by omega
    subst e
    rw [List.getElem?_append_right (Nat.le_refl _)] at hy
    simp at hy
    subst hy
    rw [Nat.zero_add]
    exact ⟨hd, b, hb, hx⟩
end Go.Proofs.Ytcemecclpofhbaa
