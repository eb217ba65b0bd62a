/- A key's node: what the Go text of key.Home comes to, for every text and number of nodes. -/
import Derived.Test.YtopnblhedankcaaHash
namespace Go.Proofs.Ytopnblhedankcaa
open Go.ChangeShapes Go.WideShapes Go.ChangeAt Go.RowKit

def clampN (n : Int) : Int := if n < 1 then 1 else if 64 < n then 64 else n
theorem clampN_range (n : Int) : 1 ≤ clampN n ∧ clampN n ≤ 64 := by unfold clampN; split <;> (try split) <;> omega

theorem clampN_low (n : Int) (h : n < 1) : clampN n = 1 := by unfold clampN; rw [if_pos h]
theorem clampN_high (n : Int) (h : 64 < n) : clampN n = 64 := by unfold clampN; rw [if_neg (by omega), if_pos h]
theorem clampN_mid (n : Int) (h : 1 ≤ n ∧ n ≤ 64) : clampN n = n := by unfold clampN; rw [if_neg (by omega), if_neg (by omega)]

set_option maxHeartbeats 400000 in
theorem home_any (s : ByteArray) (n : Int) (w : World) (hs : s.size ≤ maxLen) (hn : (Lit.int .i64 n).wf = true) :
    Calls Try.prog 32 #[.string s, .int .i64 n] w fun e w' => e = .returned (.int .i64 ((hashL s.data.toList : Nat) / 1048576 % clampN n)) ∧ w' = w := by
  have hr := hashL_lt s.data.toList
  have hb := bounds_i64 hn
  clear hn
  rcases (show n < 1 ∨ (1 ≤ n ∧ n ≤ 64) ∨ 64 < n by omega) with h | h | h
  · go_enter Try.func32, Try.ntmps32
    go_wp2_with fail
    refine (hash_any _ _ (by simpa using hs)).mono ?_
    rintro e w1 ⟨rfl, rfl⟩
    go_wp2
    go_ret
    exact ⟨ret_int (by rw [clampN_low n h]; omega), rfl⟩
  · have hm0 : 0 ≤ ((hashL s.data.toList : Nat) : Int) / 1048576 % n := Int.emod_nonneg _ (by omega)
    have hm1 : ((hashL s.data.toList : Nat) : Int) / 1048576 % n < n := Int.emod_lt_of_pos _ (by omega)
    go_enter Try.func32, Try.ntmps32
    go_wp2_with fail
    refine (hash_any _ _ (by simpa using hs)).mono ?_
    rintro e w1 ⟨rfl, rfl⟩
    go_wp2
    go_ret
    exact ⟨ret_int (by rw [clampN_mid n h]), rfl⟩
  · go_enter Try.func32, Try.ntmps32
    go_wp2_with fail
    refine (hash_any _ _ (by simpa using hs)).mono ?_
    rintro e w1 ⟨rfl, rfl⟩
    go_wp2
    go_ret
    exact ⟨ret_int (by rw [clampN_high n h]), rfl⟩
end Go.Proofs.Ytopnblhedankcaa
