/- KeyOnes: the walk of the law's Go text. -/
import Derived.Test.YtopnblhedankcabHome
import Derived.Test.YtopnblhedankcabBase
namespace Go.Proofs.Ytopnblhedankcab
open Go.ChangeShapes Go.WideShapes Go.ChangeAt Go.RowKit

/-- A key's node, as a number of its own. -/
def homeI (H : Nat) (n : Int) : Int := (H : Int) / 1048576 % clampN n
theorem homeI_range (H : Nat) (n : Int) : 0 ≤ homeI H n ∧ homeI H n < 64 := by
  have := clampN_range n
  unfold homeI
  exact ⟨Int.emod_nonneg _ (by omega), Int.lt_of_lt_of_le (Int.emod_lt_of_pos _ (by omega)) (by omega)⟩

theorem and1 (H : Nat) (hr : H < 18446744073709551616) : wrap64 (bits BinOp.and IntKind.u64 ((H : Int) / 1048576) 1) = (H : Int) / 1048576 % 2 := by
  have hd : (H : Int) / 1048576 = ((H / 1048576 : Nat) : Int) := by omega
  have h := bits_and_u64_nat (H / 1048576) 1 (by omega) (by omega)
  rw [Nat.and_one_is_mod] at h
  rw [hd, show (1 : Int) = ((1 : Nat) : Int) from rfl, h, wrap64]
  omega
theorem and63 (H : Nat) (hr : H < 18446744073709551616) : wrap64 (bits BinOp.and IntKind.u64 ((H : Int) / 1048576) 63) = (H : Int) / 1048576 % 64 := by
  have hd : (H : Int) / 1048576 = ((H / 1048576 : Nat) : Int) := by omega
  have h := bits_and_u64_nat (H / 1048576) 63 (by omega) (by omega)
  have h2 : H / 1048576 &&& 63 = H / 1048576 % 64 := Nat.and_two_pow_sub_one_eq_mod (H / 1048576) 6
  rw [h2] at h
  rw [hd, show (63 : Int) = ((63 : Nat) : Int) from rfl, h, wrap64]
  omega

set_option maxHeartbeats 1000000 in
theorem walk_KeyOnes (k : ByteArray) (n : Int) (w : World) (hk : k.size ≤ maxLen) (hn : (Lit.int .i64 n).wf = true) :
    Calls Try.prog 4 #[.string k, .int .i64 n] w fun e w' => e = .returned (.bool true) ∧ Below w.heap.size w w' := by
  have hr := hashL_lt k.data.toList
  have hm : ∀ (m : Int) (W : World), (Lit.int .i64 m).wf = true → Calls Try.prog 9 #[.string k, .int .i64 m] W fun e w' => e = .returned (.int .i64 (homeI (hashL k.data.toList) m)) ∧ w' = W := fun m W h => home_any k m W hk h
  have HM : Hid (∀ (m : Int) (W : World), (Lit.int .i64 m).wf = true → Calls Try.prog 9 #[.string k, .int .i64 m] W fun e w' => e = .returned (.int .i64 (homeI (hashL k.data.toList) m)) ∧ w' = W) := hm
  have HH : Hid (∀ (W : World), Calls Try.prog 10 #[.string k] W fun e w' => e = .returned (.int .u64 (hashL k.data.toList : Nat)) ∧ w' = W) := fun W => hash_any k W hk
  clear hm
  generalize hashL k.data.toList = H at *
  have r := homeI_range H n
  have e1 : (homeI H 1 == 0) = true := by unfold homeI; simp [clampN]
  have e0 : (homeI H 0 == 0) = true := by unfold homeI; simp [clampN]
  have e5 : (homeI H (-5) == 0) = true := by unfold homeI; simp [clampN]
  have e2 : homeI H 2 = (H : Int) / 1048576 % 2 := rfl
  have e64 : homeI H 64 = (H : Int) / 1048576 % 64 := rfl
  have e1000 : homeI H 1000 = homeI H 64 := rfl
  have b1 := and1 H hr
  have b63 := and63 H hr
  by_cases h : k.size ≤ 100
  · go_enter Try.func4, Try.ntmps4
    go_wp2_with (first | (go_at_call 5; refine (head2_any _).mono ?_; rintro e w' ⟨rfl, rfl⟩) | (go_at_call 9; refine (HM.out _ _ (by decide)).mono ?_; rintro e w' ⟨rfl, rfl⟩) | (go_at_call 9; refine (HM.out _ _ hn).mono ?_; rintro e w' ⟨rfl, rfl⟩) | (go_at_call 10; refine (HH.out _).mono ?_; rintro e w' ⟨rfl, rfl⟩))
    go_ret
    exact ⟨rfl, Below.refl _ _⟩
  · go_enter Try.func4, Try.ntmps4
    go_wp2_with (go_at_call 5; refine (head2_any _).mono ?_; rintro e w' ⟨rfl, rfl⟩)
    go_ret
    exact ⟨rfl, Below.refl _ _⟩
end Go.Proofs.Ytopnblhedankcab
