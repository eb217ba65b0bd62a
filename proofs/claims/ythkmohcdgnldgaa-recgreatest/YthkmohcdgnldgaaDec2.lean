/- Reading pages: readLeaf. Own lemmas, no statement. -/
import Derived.Test.YthkmohcdgnldgaaDec1
import Derived.Deep.Cut
import Derived.Deep.CutRange
namespace Go.Proofs.Ythkmohcdgnldgaa
open Go.ChangeShapes Go.WideShapes Go.ChangeAt Go.RowKit

theorem Box.sizeB {W : World} {B b : Nat} {p : Pg} {kv vv dv : Value} (h : Box W B b p kv vv dv) : B ≤ W.heap.size := Nat.le_trans h.hb (Nat.le_of_lt (Blk.lt h.box))

/-- What readLeaf has read behind so many entries. -/
structure LS where
  ks : List ByteArray
  vs : List ByteArray
  l : List UInt8
  e : Nat
def lsK (s : LS) : List UInt8 × List UInt8 × Nat := rtext s.l s.e 24
def lsV (s : LS) : List UInt8 × List UInt8 × Nat := rtext (lsK s).2.1 (lsK s).2.2 48
def leafR (l : List UInt8) (e : Nat) : Nat → LS
  | 0 => ⟨[], [], l, e⟩
  | n + 1 => ⟨(leafR l e n).ks ++ [⟨(lsK (leafR l e n)).1.toArray⟩], (leafR l e n).vs ++ [⟨(lsV (leafR l e n)).1.toArray⟩], (lsV (leafR l e n)).2.1, (lsV (leafR l e n)).2.2⟩
theorem leafR_len (l : List UInt8) (e n : Nat) : (leafR l e n).ks.length = n ∧ (leafR l e n).vs.length = n := by
  induction n with
  | zero => exact ⟨rfl, rfl⟩
  | succ n ih => simp [leafR, ih.1, ih.2]
def withL (p : Pg) (s : LS) : Pg := { p with keys := s.ks, vals := s.vs }

theorem rnum_le (l : List UInt8) (err m : Nat) : (rnum l err m).1 ≤ m := by
  have hf := rnum_facts l err m
  by_cases h0 : (rnum l err m).2.2 = 0
  · exact hf.2.1 h0
  · unfold rnum at h0 ⊢
    split
    · simp
    · split
      · simp
      · split
        · simp
        · rename_i a b c; simp [a, b, c] at h0

end Go.Proofs.Ythkmohcdgnldgaa
