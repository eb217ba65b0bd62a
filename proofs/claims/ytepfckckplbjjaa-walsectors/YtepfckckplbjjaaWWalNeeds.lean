/- WalNeeds: how many sectors entries take. Own walk, no statement. -/
import Derived.Test.YtepfckckplbjjaaWHead05
namespace Go.Proofs.Ytepfckckplbjjaa
open Go.ChangeShapes Go.WideShapes Go.ChangeAt Go.RowKit

theorem needN_less {n : Nat} (h : 480 < n) : needN n = needN (n - 480) + 1 := by
  unfold needN
  rw [if_neg (by omega), if_neg (by omega)]
  omega
theorem needN_one {n : Nat} (h : n ≤ 480) : needN n = 1 := by
  unfold needN
  split <;> omega
theorem needI (n : Int) (h : n ≤ 480) (w : World) : Calls Try.prog 14 #[.int .i64 n] w fun e w' => e = .returned (.int .i64 1) ∧ w' = w := by
  go_enter Try.func14, Try.ntmps14
  go_wp2_with fail
  go_loop [0, 3] (fun vn vk => vn = .int .i64 n ∧ vk = .int .i64 1) (fun _ _ => 0)
  case atStart => exact ⟨rfl, rfl⟩
  case round =>
    obtain ⟨rfl, rfl⟩ := hrel
    go_wp2_with fail
    go_ret
    exact ⟨rfl, rfl⟩
/-- The law's need. -/
theorem lawNeed_any (n : Nat) (hn : n < 9223372036854775807) (w : World) : Calls Try.prog 14 #[.int .i64 (n : Int)] w fun e w' => e = .returned (.int .i64 (needN n : Int)) ∧ w' = w := by
  go_enter Try.func14, Try.ntmps14
  go_wp2_with fail
  go_loop [0, 3] (fun vn vk => ∃ m k : Nat, vn = .int .i64 (m : Int) ∧ vk = .int .i64 (k : Int) ∧ needN m + k = needN n + 1 ∧ m + k ≤ n + 1) (fun vn _ => (intOf vn).toNat)
  case atStart => exact ⟨n, 1, rfl, rfl, rfl, Nat.le_refl _⟩
  case round =>
    obtain ⟨m, k, rfl, rfl, h1, h2⟩ := hrel
    by_cases h : 480 < m
    · have h3 := needN_less h
      go_wp2_with fail
      go_round
      case rel => exact ⟨m - 480, k + 1, by go_num, by go_num, by omega, by omega⟩
      case measure => simp [intOf]; omega
    · have h3 := needN_one (n := m) (by omega)
      obtain rfl : k = needN n := by omega
      go_wp2_with fail
      go_ret
      exact ⟨rfl, rfl⟩
theorem Need_neg (n : Int) (hn : n < 0) (hm : -9223372036854775808 ≤ n) (w : World) : Calls Try.prog 13 #[.int .i64 n] w fun e w' => e = .returned (.int .i64 1) ∧ w' = w := by
  obtain ⟨m, rfl⟩ : ∃ m : Nat, n = -(m : Int) := ⟨(-n).toNat, by omega⟩
  have e1 : Int.tdiv (-(m : Int)) 480 = -((m / 480 : Nat) : Int) := by rw [Int.neg_tdiv]; rfl
  have e2 : Int.tmod (-(m : Int)) 480 = -((m % 480 : Nat) : Int) := by rw [Int.neg_tmod]; rfl
  have q1 : Int.tdiv (-(m : Int)) 480 ≤ 0 := by rw [e1]; omega
  have q2 : -9223372036854775808 ≤ Int.tdiv (-(m : Int)) 480 := by rw [e1]; omega
  have hd : decide (0 < Int.tmod (-(m : Int)) 480) = false := decide_eq_false (by rw [e2]; omega)
  clear e1 e2
  go_enter Try.func13, Try.ntmps13
  go_wp2_with fail
  go_ret
  exact ⟨rfl, rfl⟩
set_option maxHeartbeats 1000000 in
theorem walk_WalNeeds (n : Int) (w : World) (hn : (Lit.int .i64 n).wf = true) : Calls Try.prog 3 #[.int .i64 n] w fun e w' => e = .returned (.bool true) ∧ Below w.heap.size w w' := by
  have hb : -9223372036854775808 ≤ n ∧ n < 9223372036854775808 := by
    have h1 : IntKind.i64.min ≤ n ∧ n ≤ 9223372036854775807 := by simpa [Lit.wf] using hn
    have h2 : IntKind.i64.min = -9223372036854775808 := rfl
    omega
  by_cases h0 : n < 0
  · go_enter Try.func3, Try.ntmps3
    go_wp2_with fail
    refine (head5_any w).mono ?_
    rintro e w1 ⟨rfl, hb1⟩
    have HB : Hid (Below w.heap.size w w1) := hb1
    clear hb1
    go_wp2_with fail
    refine (Need_neg n h0 hb.1 w1).mono ?_
    rintro e w' ⟨rfl, hw⟩; rw [hw]; clear hw w'
    go_wp2_with fail
    refine (needI n (by omega) w1).mono ?_
    rintro e w' ⟨rfl, hw⟩; rw [hw]; clear hw w'
    go_wp2_with fail
    go_ret
    exact ⟨rfl, HB.out⟩
  · obtain ⟨m, rfl⟩ : ∃ m : Nat, n = (m : Int) := ⟨n.toNat, by omega⟩
    by_cases hg : m ≤ 100000
    · go_enter Try.func3, Try.ntmps3
      go_wp2_with fail
      refine (head5_any w).mono ?_
      rintro e w1 ⟨rfl, hb1⟩
      have HB : Hid (Below w.heap.size w w1) := hb1
      clear hb1
      go_wp2_with fail
      refine (Need_any m (by omega) w1).mono ?_
      rintro e w' ⟨rfl, hw⟩; rw [hw]; clear hw w'
      go_wp2_with fail
      refine (lawNeed_any m (by omega) w1).mono ?_
      rintro e w' ⟨rfl, hw⟩; rw [hw]; clear hw w'
      go_wp2_with fail
      go_ret
      exact ⟨rfl, HB.out⟩
    · have hbig : 200 < needN m := by
        unfold needN
        rw [if_neg (by omega)]
        omega
      go_enter Try.func3, Try.ntmps3
      go_wp2_with fail
      refine (head5_any w).mono ?_
      rintro e w1 ⟨rfl, hb1⟩
      have HB : Hid (Below w.heap.size w w1) := hb1
      clear hb1
      go_wp2_with fail
      refine (Need_any m (by omega) w1).mono ?_
      rintro e w' ⟨rfl, hw⟩; rw [hw]; clear hw w'
      go_wp2_with fail
      go_ret
      exact ⟨by simp; omega, HB.out⟩
end Go.Proofs.Ytepfckckplbjjaa
