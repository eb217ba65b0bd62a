/- The pages that PageLimits makes: plain facts. Own lemmas, no statement. -/
import Derived.Test.YthkmohcdgnldgaaPg7
namespace Go.Proofs.Ythkmohcdgnldgaa

def kb (c i : Nat) : ByteArray := ⟨#[UInt8.ofNat (i + 1), UInt8.ofNat c]⟩
def limK (c k : Nat) : List ByteArray := (List.range k).map (kb c)
def limD (c k : Nat) : List Int := (c : Int) :: (List.range k).map fun i : Nat => (i : Int)
def lfP (c k : Nat) : Pg := ⟨1, limK c k, List.replicate k ⟨#[]⟩, [], 0, 0, 0, 0⟩
def inP (c k : Nat) : Pg := ⟨2, limK c k, [], limD c k, 0, 0, 0, 0⟩

theorem limK_length (c k : Nat) : (limK c k).length = k := by simp [limK]
theorem limD_length (c k : Nat) : (limD c k).length = k + 1 := by simp [limD]
theorem limK_succ (c k : Nat) : limK c (k + 1) = limK c k ++ [kb c k] := by simp [limK, List.range_succ]
theorem limD_succ (c k : Nat) : limD c (k + 1) = limD c k ++ [(k : Int)] := by simp [limD, List.range_succ]
theorem limK_get (c k j : Nat) (h : j < k) : (limK c k).getD j .empty = kb c j := by simp [limK, List.getD, h]
theorem limV_succ (k : Nat) : List.replicate (k + 1) (⟨#[]⟩ : ByteArray) = List.replicate k ⟨#[]⟩ ++ [⟨#[]⟩] := List.replicate_succ'
theorem kb_lt (c i : Nat) (hi : i ≤ 100) : ltK (kb c i) (kb c (i + 1)) = true := by
  unfold ltK kb
  rw [ByteArray.toList_eq, ByteArray.toList_eq]
  simp only [Op.bytesLess, Bool.or_eq_true, decide_eq_true_eq]
  left
  rw [UInt8.lt_iff_toNat_lt, UInt8.toNat_ofNat', UInt8.toNat_ofNat']
  omega
theorem limK_ok (c k : Nat) (hk : k ≤ 16) : keysOk (limK c k) = true := by
  unfold keysOk
  rw [limK_length, allB_iff]
  intro j hj
  unfold okAt
  rw [limK_get c k j hj]
  have h1 : keyOk (kb c j) = true := rfl
  rw [h1, Bool.true_and]
  cases j with
  | zero => rfl
  | succ j =>
    rw [show j + 1 - 1 = j from rfl, limK_get c k j (by omega), kb_lt c j (by omega)]
    simp
theorem limV_ok (k : Nat) : valsOk (List.replicate k (⟨#[]⟩ : ByteArray)) = true := by
  unfold valsOk
  rw [allB_iff]
  intro j hj
  simp at hj
  simp [valAt, List.getD, hj]
  decide
theorem limD_ok (c k : Nat) (hc : c < 256) (hk : k ≤ 16) : kidsOk (limD c k) = true := by
  unfold kidsOk
  rw [allB_iff]
  intro j hj
  rw [limD_length] at hj
  unfold kidAt
  rw [pageOk_iff]
  cases j with
  | zero => simp [limD]; omega
  | succ j => simp [limD, List.getD, show j < k by omega]; omega
theorem lf_right (c k : Nat) (hk : k ≤ 16) : rightPg (lfP c k) = decide (k ≤ 6) := by
  have h : leafOk (lfP c k) = decide (k ≤ 6) := by
    unfold leafOk
    simp only [lfP, limK_ok c k hk, limV_ok, limK_length]
    simp [sameNum, Pg.zero]
  rw [rightPg, if_pos (show (lfP c k).kind = 1 from rfl), h]
theorem in_right (c k : Nat) (hc : c < 256) (hk : k ≤ 16) : rightPg (inP c k) = (decide (1 ≤ k) && decide (k ≤ 7)) := by
  have h : innerOk (inP c k) = (decide (1 ≤ k) && decide (k ≤ 7)) := by
    unfold innerOk
    simp only [inP, limK_ok c k hk, limD_ok c k hc hk, limK_length, limD_length]
    simp [sameNum, Pg.zero]
  rw [rightPg, if_neg (show ¬ (inP c k).kind = 1 from by show ¬ (2 : Int) = 1; decide), if_pos (show (inP c k).kind = 2 from rfl), h]
theorem lf_ok (c k : Nat) : (lfP c k).Ok := by
  refine ⟨fun s hs => ?_, fun s hs => ?_, fun n hn => ?_, by simp [lfP], by simp [lfP], by simp [lfP], by simp [lfP], by simp [lfP]⟩
  · simp only [lfP, limK, List.mem_map] at hs
    obtain ⟨i, _, rfl⟩ := hs
    show 2 ≤ maxLen
    unfold maxLen; omega
  · simp only [lfP, List.mem_replicate] at hs
    rw [hs.2]
    exact Nat.zero_le _
  · simp [lfP] at hn
theorem in_ok (c k : Nat) (hc : c < 256) (hk : k ≤ 16) : (inP c k).Ok := by
  refine ⟨fun s hs => ?_, fun s hs => ?_, fun n hn => ?_, by simp [inP], by simp [inP], by simp [inP], by simp [inP], by simp [inP]⟩
  · simp only [inP, limK, List.mem_map] at hs
    obtain ⟨i, _, rfl⟩ := hs
    show 2 ≤ maxLen
    unfold maxLen; omega
  · simp [inP] at hs
  · simp only [inP, limD, List.mem_cons, List.mem_map, List.mem_range] at hn
    rcases hn with rfl | ⟨i, hi, rfl⟩ <;> omega
end Go.Proofs.Ythkmohcdgnldgaa
