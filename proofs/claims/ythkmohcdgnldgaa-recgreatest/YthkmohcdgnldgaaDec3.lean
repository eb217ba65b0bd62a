/- Reading pages: readInner. Own lemmas, no statement. -/
import Derived.Test.YthkmohcdgnldgaaDec2
namespace Go.Proofs.Ythkmohcdgnldgaa
open Go.ChangeShapes Go.WideShapes Go.ChangeAt Go.RowKit

/-- What readInner has read behind so many pages. -/
structure IS where
  ks : List ByteArray
  ds : List Int
  l : List UInt8
  e : Nat
def isT (s : IS) : List UInt8 × List UInt8 × Nat := rtext s.l s.e 24
def isK (n : Nat) (s : IS) : IS := if n = 0 then s else ⟨s.ks ++ [⟨(isT s).1.toArray⟩], s.ds, (isT s).2.1, (isT s).2.2⟩
def isD (s : IS) : Nat × List UInt8 × Nat := rnum s.l s.e 65535
def isS (s : IS) : IS := ⟨s.ks, s.ds ++ [((isD s).1 : Int)], (isD s).2.1, (isD s).2.2⟩
def innR (l : List UInt8) (e : Nat) : Nat → IS
  | 0 => ⟨[], [], l, e⟩
  | n + 1 => isS (isK n (innR l e n))
theorem innR_len (l : List UInt8) (e n : Nat) : (innR l e n).ks.length = n - 1 ∧ (innR l e n).ds.length = n := by
  induction n with
  | zero => exact ⟨rfl, rfl⟩
  | succ n ih =>
    unfold innR isS isK
    by_cases h : n = 0
    · subst h
      simp [innR]
    · simp [h, ih.1, ih.2]
      omega
def withI (p : Pg) (s : IS) : Pg := { p with keys := s.ks, kids := s.ds }

end Go.Proofs.Ythkmohcdgnldgaa
