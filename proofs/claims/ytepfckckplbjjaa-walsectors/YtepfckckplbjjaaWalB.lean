/- The law's bytes: n bytes, unlike for each k. Own lemmas, no statement. -/
import Derived.Test.YtepfckckplbjjaaWalS
namespace Go.Proofs.Ytepfckckplbjjaa
open Go.ChangeShapes Go.WideShapes Go.ChangeAt Go.RowKit

def byteAt (k i : Nat) : UInt8 := UInt8.ofNat (i * 7 + k)
def bytesL (n k : Nat) : List UInt8 := (List.range n).map (byteAt k)
def bytesF (n k j : Nat) : List UInt8 := (List.range j).map (byteAt k) ++ List.replicate (n - j) 0
theorem bytesL_length (n k : Nat) : (bytesL n k).length = n := by simp [bytesL]
theorem bytesF_length {n k j : Nat} (h : j ≤ n) : (bytesF n k j).length = n := by simp [bytesF]; omega
theorem bytesF_all (n k : Nat) : bytesF n k n = bytesL n k := by simp [bytesF, bytesL]
theorem bv_setB (l : List UInt8) (i : Nat) (x : UInt8) : (bv l).toArray.setIfInBounds i (.int .u8 (x.toNat : Int)) = (bv (l.set i x)).toArray := by
  unfold bv
  simp [List.map_set]
theorem bytesF_set {n k j : Nat} (h : j < n) : (bytesF n k j).set j (byteAt k j) = bytesF n k (j + 1) := by
  unfold bytesF
  apply List.ext_getElem
  · simp; omega
  · intro i h1 h2
    simp only [List.getElem_set, List.getElem_append, List.length_map, List.length_range, List.getElem_replicate, List.getElem_map, List.getElem_range]
    by_cases e1 : j = i
    · subst e1; simp
    · rw [if_neg e1]
      by_cases e2 : i < j
      · rw [dif_pos e2, dif_pos (by omega)]
      · rw [dif_neg e2, dif_neg (by omega)]
theorem run_makeB (n : Nat) (hn : n ≤ 1000000) (w : World) : (Instr.makeSlice 41 (.int .i64 (n : Int)) (.int .i64 (n : Int))).run Try.prog w = .ok (.slice (some ⟨w.heap.size, 0, none⟩) n n) (w.alloc (.cells (bv (List.replicate n 0)).toArray 5)) := by
  obtain ⟨i0, hi, hz0, hz1, hz2⟩ := info_parts info8
  have := run_make (P := Try.prog) w 41 5 i0 (.int .u8 0) Try.underlying41 hi hz0 .i64 .i64 n n (by omega) (by omega) (by rw [hz2]; omega) (by omega)
  rw [this, hz1]
  simp only [Int.toNat_natCast, Nat.mul_one]
  have e : madeCells #[.int .u8 0] n = (bv (List.replicate n 0)).toArray := by
    apply Array.toList_inj.1
    rw [toList_madeCells_one]
    unfold bv
    simp
  exact congrArg (fun a => Result.ok _ (w.alloc (.cells a 5))) e
set_option maxRecDepth 100000 in
set_option maxHeartbeats 1000000 in
theorem bytes5_any (n k : Nat) (hn : n ≤ 100000) (hk : k ≤ 100000) (w : World) : Calls Try.prog 17 #[.int .i64 (n : Int), .int .i64 (k : Int)] w fun e w' => e = .returned (.string ⟨(bytesL n k).toArray⟩) ∧ Below w.heap.size w w' := by
  have hmk := run_makeB n (by omega) w
  have h0 : bytesF n k 0 = List.replicate n 0 := by simp [bytesF]
  have HB0 : Hid (Blk (w.alloc (.cells (bv (List.replicate n 0)).toArray 5)) w.heap.size (bv (bytesF n k 0)).toArray 5) := by rw [h0]; exact (Blk.new _ _ _ : Blk _ _ _ _)
  have HE0 : Hid (Below w.heap.size w (w.alloc (.cells (bv (List.replicate n 0)).toArray 5))) := (Below.refl _ _).alloc (Nat.le_refl _) _
  clear h0
  go_enter Try.func17, Try.ntmps17
  go_wp2_with fail
  go_loopw [11] (fun v wr => ∃ j : Nat, v = .int .i64 (j : Int) ∧ j ≤ n ∧ Blk wr w.heap.size (bv (bytesF n k j)).toArray 5 ∧ Below w.heap.size w wr) (fun v _ => n - (intOf v).toNat)
  case atStart => exact ⟨0, rfl, Nat.zero_le _, HB0.out, HE0.out⟩
  case round =>
    clear HB0 HE0 hmk
    obtain ⟨j, rfl, hj, hB, hE⟩ := hrel
    by_cases hlt : j < n
    · have hsz : j < (bv (bytesF n k j)).toArray.size := by rw [List.size_toArray, bv_length, bytesF_length hj]; exact hlt
      have c1 : wr.cell? ⟨w.heap.size, j, none⟩ = some ((bv (bytesF n k j)).toArray[j]) := (hB.cell j).trans (Array.getElem?_eq_getElem hsz)
      have f1 := hB.frozen j
      generalize (bv (bytesF n k j)).toArray[j] = old at c1
      have hB2 := hB.set j (.int .u8 ((byteAt k j).toNat : Int))
      rw [bv_setB, bytesF_set hlt] at hB2
      have HB2 : Hid (Blk (wr.setCell ⟨w.heap.size, j, none⟩ (.int .u8 ((byteAt k j).toNat : Int))) w.heap.size (bv (bytesF n k (j + 1))).toArray 5) := hB2
      have HE2 : Hid (Below w.heap.size w (wr.setCell ⟨w.heap.size, j, none⟩ (.int .u8 ((byteAt k j).toNat : Int)))) := hE.setCell (Nat.le_refl _) _
      have hval : ((j : Int) * 7 + (k : Int)) % 256 = ((byteAt k j).toNat : Int) := by
        unfold byteAt
        rw [UInt8.toNat_ofNat']
        omega
      clear hB hE hB2 hsz
      go_wp2_with fail
      go_roundw
      case rel => exact ⟨j + 1, by go_num, by omega, HB2.out, HE2.out⟩
      case measure => simp [intOf]; omega
    · obtain rfl : j = n := by omega
      rw [bytesF_all] at hB
      have hcv := (Blk.src (k := j) (c := j) hB (by rw [bytesL_length]; exact Nat.le_refl _) (Nat.le_refl _) (by unfold maxLen; omega)).str
      rw [List.take_of_length_le (by rw [bytesL_length]; exact Nat.le_refl _)] at hcv
      have HE2 : Hid (Below w.heap.size w wr) := hE
      clear hB hE
      go_wp2_with fail
      go_ret
      exact ⟨rfl, HE2.out⟩
end Go.Proofs.Ytepfckckplbjjaa
