/- The pages that PageGreatest makes: plain facts. Own lemmas, no statement. -/
import Derived.Test.YthkmohcdgnldgaaRd3
import Derived.Test.YthkmohcdgnldgaaLim
namespace Go.Proofs.Ythkmohcdgnldgaa

def rep (c n : Nat) : List UInt8 := List.replicate n (UInt8.ofNat c)
def gk (c i : Nat) : ByteArray := ⟨(UInt8.ofNat (i + 1) :: rep c 23).toArray⟩
def gv (c : Nat) : ByteArray := ⟨(rep c 48).toArray⟩
def grK (c k : Nat) : List ByteArray := (List.range k).map (gk c)
def grV (c k : Nat) : List ByteArray := List.replicate k (gv c)
def grD (k : Nat) : List Int := 65535 :: (List.range k).map fun i : Nat => 65535 - (i : Int)
def glP (c k : Nat) : Pg := ⟨1, grK c (min k 6), grV c (min k 6), [], 0, 0, 0, 0⟩
def giP (c k : Nat) : Pg := ⟨2, grK c k, [], grD k, 0, 0, 0, 0⟩
def bigP (c : Nat) : Pg := ⟨1, grK c 6 ++ [⟨#[8]⟩], grV c 6 ++ [⟨#[]⟩], [], 0, 0, 0, 0⟩

theorem gk_size (c i : Nat) : (gk c i).size = 24 := by simp [gk, rep, ByteArray.size]
theorem gv_size (c : Nat) : (gv c).size = 48 := by simp [gv, rep, ByteArray.size]
theorem grK_length (c k : Nat) : (grK c k).length = k := by simp [grK]
theorem grV_length (c k : Nat) : (grV c k).length = k := by simp [grV]
theorem grD_length (k : Nat) : (grD k).length = k + 1 := by simp [grD]
theorem grK_succ (c k : Nat) : grK c (k + 1) = grK c k ++ [gk c k] := by simp [grK, List.range_succ]
theorem grD_succ (k : Nat) : grD (k + 1) = grD k ++ [65535 - (k : Int)] := by simp [grD, List.range_succ]
theorem grV_succ (c k : Nat) : grV c (k + 1) = grV c k ++ [gv c] := List.replicate_succ'
theorem grK_get (c k j : Nat) (h : j < k) : (grK c k).getD j .empty = gk c j := by simp [grK, List.getD, h]
theorem gk_lt (c i : Nat) (hi : i ≤ 100) : ltK (gk c i) (gk c (i + 1)) = true := by
  unfold ltK gk
  rw [ByteArray.toList_eq, ByteArray.toList_eq]
  simp only [Op.bytesLess, Bool.or_eq_true, decide_eq_true_eq]
  left
  rw [UInt8.lt_iff_toNat_lt, UInt8.toNat_ofNat', UInt8.toNat_ofNat']
  omega
theorem grK_ok (c k : Nat) (hk : k ≤ 16) : keysOk (grK c k) = true := by
  unfold keysOk
  rw [grK_length, allB_iff]
  intro j hj
  unfold okAt
  rw [grK_get c k j hj]
  have h1 : keyOk (gk c j) = true := by unfold keyOk; rw [gk_size]; rfl
  rw [h1, Bool.true_and]
  cases j with
  | zero => rfl
  | succ j =>
    rw [show j + 1 - 1 = j from rfl, grK_get c k j (by omega), gk_lt c j (by omega)]
    simp
theorem grV_ok (c k : Nat) : valsOk (grV c k) = true := by
  unfold valsOk
  rw [allB_iff]
  intro j hj
  rw [grV_length] at hj
  unfold valAt grV
  simp only [List.getD, List.getElem?_replicate, hj, if_true, Option.getD_some, gv_size]
  decide
theorem grD_ok (k : Nat) (hk : k ≤ 16) : kidsOk (grD k) = true := by
  unfold kidsOk
  rw [allB_iff]
  intro j hj
  rw [grD_length] at hj
  unfold kidAt
  rw [pageOk_iff]
  cases j with
  | zero => simp [grD]
  | succ j => simp [grD, List.getD, show j < k by omega]; omega
theorem gl_right (c k : Nat) : rightPg (glP c k) = true := by
  rw [rightPg, if_pos (show (glP c k).kind = 1 from rfl), leafOk_iff]
  refine ⟨?_, ?_, rfl, rfl, grK_ok _ _ (by omega), grV_ok _ _⟩
  · show (grK c (min k 6)).length ≤ 6
    rw [grK_length]; omega
  · show (grV c (min k 6)).length = (grK c (min k 6)).length
    rw [grK_length, grV_length]
theorem gi_right (c k : Nat) (h1 : 1 ≤ k) (h7 : k ≤ 7) : rightPg (giP c k) = true := by
  rw [rightPg, if_neg (show ¬ (giP c k).kind = 1 from by show ¬ (2 : Int) = 1; decide), if_pos (show (giP c k).kind = 2 from rfl), innerOk_iff]
  refine ⟨?_, ?_, ?_, rfl, rfl, grK_ok _ _ (by omega), grD_ok _ (by omega)⟩
  · show 2 ≤ (grD k).length
    rw [grD_length]; omega
  · show (grD k).length ≤ 8
    rw [grD_length]; omega
  · show (grK c k).length + 1 = (grD k).length
    rw [grK_length, grD_length]
theorem big_wrong (c : Nat) : rightPg (bigP c) = false := by
  cases h : rightPg (bigP c) with
  | false => rfl
  | true =>
    rw [rightPg, if_pos (show (bigP c).kind = 1 from rfl), leafOk_iff] at h
    have := h.1
    simp [bigP, grK_length] at this
theorem grK_size (c k : Nat) : ∀ s ∈ grK c k, s.size = 24 := by
  intro s hs
  simp only [grK, List.mem_map] at hs
  obtain ⟨i, _, rfl⟩ := hs
  exact gk_size c i
theorem grV_size (c k : Nat) : ∀ s ∈ grV c k, s.size = 48 := by
  intro s hs
  simp only [grV, List.mem_replicate] at hs
  rw [hs.2]
  exact gv_size c
theorem gl_ok (c k : Nat) : (glP c k).Ok := by
  refine ⟨fun s hs => ?_, fun s hs => ?_, fun n hn => ?_, by simp [glP], by simp [glP], by simp [glP], by simp [glP], by simp [glP]⟩
  · rw [grK_size _ _ s hs]; unfold maxLen; omega
  · rw [grV_size _ _ s hs]; unfold maxLen; omega
  · simp [glP] at hn
theorem gi_ok (c k : Nat) (hk : k ≤ 16) : (giP c k).Ok := by
  refine ⟨fun s hs => ?_, fun s hs => ?_, fun n hn => ?_, by simp [giP], by simp [giP], by simp [giP], by simp [giP], by simp [giP]⟩
  · rw [grK_size _ _ s hs]; unfold maxLen; omega
  · simp [giP] at hs
  · simp only [giP, grD, List.mem_cons, List.mem_map, List.mem_range] at hn
    rcases hn with rfl | ⟨i, hi, rfl⟩ <;> omega
theorem big_ok (c : Nat) : (bigP c).Ok := by
  refine ⟨fun s hs => ?_, fun s hs => ?_, fun n hn => ?_, by simp [bigP], by simp [bigP], by simp [bigP], by simp [bigP], by simp [bigP]⟩
  · rcases List.mem_append.1 hs with h | h
    · rw [grK_size _ _ s h]; unfold maxLen; omega
    · simp at h; subst h; show 1 ≤ maxLen; unfold maxLen; omega
  · rcases List.mem_append.1 hs with h | h
    · rw [grV_size _ _ s h]; unfold maxLen; omega
    · simp at h; subst h; exact Nat.zero_le _
  · simp [bigP] at hn
theorem gl_least (c lsn k : Nat) (hk : 6 ≤ k) : 444 ≤ (encP (glP c k) lsn).length := by
  have h6 : min k 6 = 6 := by omega
  have h : ∀ i, i ≤ 6 → (leafTo (grK c 6) (grV c 6) i).length = 74 * i := by
    intro i
    induction i with
    | zero => intro _; rfl
    | succ i ih =>
      intro hi
      unfold leafTo
      have e1 : ((grK c 6).getD i .empty).size = 24 := by rw [grK_get c 6 i (by omega), gk_size]
      have e2 : ((grV c 6).getD i .empty).size = 48 := by
        unfold grV
        simp only [List.getD, List.getElem?_replicate, show i < 6 by omega, if_true, Option.getD_some, gv_size]
      simp only [List.length_append, ih (by omega), txt_len1 (show ((grK c 6).getD i .empty).size < 128 by omega), txt_len1 (show ((grV c 6).getD i .empty).size < 128 by omega), e1, e2]
      omega
  unfold encP bodyB
  rw [if_pos (show (glP c k).kind = 1 from rfl)]
  simp only [glP, h6, List.length_append, grK_length, h 6 (Nat.le_refl _)]
  omega
end Go.Proofs.Ythkmohcdgnldgaa
