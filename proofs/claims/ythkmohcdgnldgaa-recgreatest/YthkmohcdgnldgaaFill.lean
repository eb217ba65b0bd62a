/- Rows of bytes that a call makes and fills. Own lemmas, no statement. -/
import Derived.Test.YthkmohcdgnldgaaPg8
import Derived.Test.YthkmohcdgnldgaaBox
import Derived.Test.YthkmohcdgnldgaaGr
import Derived.Test.YthkmohcdgnldgaaSrcSeg
import Derived.Deep.Cut
namespace Go.Proofs.Ythkmohcdgnldgaa
open Go.ChangeShapes Go.WideShapes Go.ChangeAt Go.RowKit

/-- A row of bytes of which the first ones are laid. -/
def fillL (n j C : Nat) : List UInt8 := rep C j ++ List.replicate (n - j) 0
def fillA (n j C : Nat) : Array Value := (bv (fillL n j C)).toArray
theorem fillL_length {n j C : Nat} (h : j ≤ n) : (fillL n j C).length = n := by simp [fillL, rep]; omega
theorem bv_set (l : List UInt8) (i : Nat) (x : UInt8) : (bv l).toArray.setIfInBounds i (.int .u8 (x.toNat : Int)) = (bv (l.set i x)).toArray := by
  unfold bv
  simp [List.map_set]
theorem fillA_set {n j C : Nat} (h : j < n) (hC : C < 256) : (fillA n j C).setIfInBounds j (.int .u8 (C : Int)) = fillA n (j + 1) C := by
  have e : (((UInt8.ofNat C).toNat : Nat) : Int) = (C : Int) := by rw [UInt8.toNat_ofNat']; omega
  rw [← e, fillA, bv_set, fillA]
  congr 2
  unfold fillL rep
  apply List.ext_getElem
  · simp; omega
  · intro i h1 h2
    simp only [List.getElem_set, List.getElem_append, List.length_replicate, List.getElem_replicate]
    by_cases e1 : j = i
    · subst e1; simp
    · rw [if_neg e1]
      by_cases e2 : i < j
      · rw [dif_pos e2, dif_pos (by omega)]
      · rw [dif_neg e2, dif_neg (by omega)]
theorem fillA_last (C k : Nat) (hk : k < 200) : (fillA 24 24 C).setIfInBounds 0 (.int .u8 ((k : Int) + 1)) = (bv (UInt8.ofNat (k + 1) :: rep C 23)).toArray := by
  have e : (((UInt8.ofNat (k + 1)).toNat : Nat) : Int) = (k : Int) + 1 := by rw [UInt8.toNat_ofNat']; omega
  rw [← e, fillA, bv_set]
  rfl
theorem fillA_all (n C : Nat) : fillA n n C = (bv (rep C n)).toArray := by
  unfold fillA fillL
  simp
theorem run_make8 (n C : Nat) (hn : n ≤ 512) (w : World) : (Instr.makeSlice 27 (.int .i64 (n : Int)) (.int .i64 (n : Int))).run Try.prog w = .ok (.slice (some ⟨w.heap.size, 0, none⟩) n n) (w.alloc (.cells (fillA n 0 C) 5)) := by
  obtain ⟨i0, hi, hz0, hz1, hz2⟩ := info_parts info8
  have := run_make (P := Try.prog) w 27 5 i0 (.int .u8 0) Try.underlying27 hi hz0 .i64 .i64 n n (by omega) (by omega) (by rw [hz2]; omega) (by omega)
  rw [this, hz1]
  simp only [Int.toNat_natCast, Nat.mul_one]
  have e : madeCells #[.int .u8 0] n = fillA n 0 C := by
    apply Array.toList_inj.1
    rw [toList_madeCells_one]
    unfold fillA fillL rep bv
    simp
  exact congrArg (fun a => Result.ok _ (w.alloc (.cells a 5))) e
theorem fill_cell {W : World} {g n j C : Nat} (h : Blk W g (fillA n j C) 5) (hj : j ≤ n) {i : Nat} (hi : i < n) : ∃ v, W.cell? ⟨g, i, none⟩ = some v := by
  have : i < (fillA n j C).size := by
    unfold fillA
    simp [bv_length, fillL_length hj]; exact hi
  exact ⟨_, by rw [h.cell]; exact Array.getElem?_eq_getElem this⟩
theorem row_str {W : World} {g n : Nat} {l : List UInt8} (h : Blk W g (bv l).toArray 5) (hl : l.length = n) (hn : n ≤ 512) : (convert 27 9 (.slice (some ⟨g, 0, none⟩) n n)).run Try.prog W = .ok (.string ⟨l.toArray⟩) W := by
  subst hl
  have := (Blk.src (k := l.length) (c := l.length) h (Nat.le_refl _) (Nat.le_refl _) (by unfold maxLen; omega)).str
  rw [List.take_length] at this
  exact this

end Go.Proofs.Ythkmohcdgnldgaa
