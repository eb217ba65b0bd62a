/- KeyHomes: the walk of the law's Go text. -/
import Derived.Test.YtopnblhedankcaaHome
import Derived.Test.YtopnblhedankcaaBase
namespace Go.Proofs.Ytopnblhedankcaa
open Go.ChangeShapes Go.WideShapes Go.ChangeAt Go.RowKit

theorem lay_over (h c : Nat) (hc : c < 256) : h - h % 256 + (h % 256 ^^^ c) = h ^^^ c := by
  have h1 : (h ^^^ c) % 2 ^ 8 = h % 2 ^ 8 ^^^ c % 2 ^ 8 := Nat.xor_mod_two_pow
  have h2 : (h ^^^ c) / 2 ^ 8 = h / 2 ^ 8 ^^^ c / 2 ^ 8 := Nat.xor_div_two_pow
  have h3 : c / 2 ^ 8 = 0 := Nat.div_eq_of_lt hc
  have h4 : c % 2 ^ 8 = c := Nat.mod_eq_of_lt hc
  rw [h3, Nat.xor_zero] at h2
  rw [h4] at h1
  have h5 := Nat.div_add_mod (h ^^^ c) (2 ^ 8)
  rw [h1, h2] at h5
  rw [← h5, show (2 : Nat) ^ 8 = 256 from rfl]
  have := Nat.div_add_mod h 256
  omega

theorem lay_walk (h : Nat) (c : UInt8) (hh : h < 18446744073709551616) :
    IntKind.u64.wrap ((h : Int) - (h : Int) % 256 + bits BinOp.xor IntKind.u64 ((h : Int) % 256) (IntKind.u64.wrap ↑c.toNat)) = ((h ^^^ c.toNat : Nat) : Int) := by
  have hc : c.toNat < 256 := c.toNat_lt
  have hx : h ^^^ c.toNat < 2 ^ 64 := Nat.xor_lt_two_pow (by omega) (by omega)
  rw [show IntKind.u64.wrap (c.toNat : Int) = ((c.toNat : Nat) : Int) from by rw [IntKind.wrap_u64]; omega, show (h : Int) % 256 = ((h % 256 : Nat) : Int) from by omega, bits_xor_u64_nat _ _ (by omega) (by omega), IntKind.wrap_u64]
  have := lay_over h c.toNat hc
  omega

theorem bit_walk (b : Nat) : bits BinOp.and IntKind.u64 (1099511628211 / 2 ^ b) 1 = ((1099511628211 / 2 ^ b % 2 : Nat) : Int) := by
  have hd : (1099511628211 : Int) / 2 ^ b = ((1099511628211 / 2 ^ b : Nat) : Int) := by rw [Int.natCast_ediv]; rw [Int.natCast_pow]; rfl
  have hl : 1099511628211 / 2 ^ b ≤ 1099511628211 := Nat.div_le_self _ _
  have h := bits_and_u64_nat (1099511628211 / 2 ^ b) 1 (by omega) (by omega)
  rw [Nat.and_one_is_mod] at h
  rw [hd]
  exact h

theorem pow_step (b : Nat) : 1099511628211 % 2 ^ (b + 1) = 1099511628211 % 2 ^ b + 2 ^ b * (1099511628211 / 2 ^ b % 2) := Nat.mod_pow_succ

theorem bit_yes (Y b : Nat) (h : (bits BinOp.and IntKind.u64 (1099511628211 / 2 ^ b) 1 == 1) = true) :
    IntKind.u64.wrap ((Y : Int) * (1099511628211 % 2 ^ b) % 18446744073709551616 + IntKind.u64.wrap ((Y : Int) * 2 ^ b)) = ((Y * (1099511628211 % 2 ^ (b + 1)) % 18446744073709551616 : Nat) : Int) := by
  rw [bit_walk] at h
  have h1 : 1099511628211 / 2 ^ b % 2 = 1 := by
    have h' := eq_of_beq h
    generalize 1099511628211 / 2 ^ b = q at *
    omega
  rw [pow_step, h1, Nat.mul_one, IntKind.wrap_u64, IntKind.wrap_u64, ← Int.add_emod, ← Int.mul_add, Int.natCast_emod, Int.natCast_mul, Int.natCast_add, Int.natCast_emod, Int.natCast_pow]
  rfl

theorem bit_no (Y b : Nat) (h : (bits BinOp.and IntKind.u64 (1099511628211 / 2 ^ b) 1 == 1) = false) :
    Y * (1099511628211 % 2 ^ b) % 18446744073709551616 = Y * (1099511628211 % 2 ^ (b + 1)) % 18446744073709551616 := by
  rw [bit_walk] at h
  have h1 : 1099511628211 / 2 ^ b % 2 = 0 := by
    have h' := ne_of_beq_false h
    generalize 1099511628211 / 2 ^ b = q at *
    omega
  rw [pow_step, h1, Nat.mul_zero, Nat.add_zero]

theorem p41 : 1099511628211 % 2 ^ 41 = 1099511628211 := by decide

theorem same_home (H : Nat) (n m : Int) (hm : clampN n = m) (h1 : 1 ≤ m) (h2 : m ≤ 64) :
    0 ≤ (H : Int) / 1048576 % clampN n ∧ (H : Int) / 1048576 % clampN n < m := by
  rw [hm]; exact ⟨Int.emod_nonneg _ (by omega), Int.emod_lt_of_pos _ (by omega)⟩

set_option maxHeartbeats 1000000 in
theorem walk_KeyHomes (k : ByteArray) (n : Int) (w : World) (hk : k.size ≤ maxLen) (hn : (Lit.int .i64 n).wf = true) :
    Calls Try.prog 12 #[.string k, .int .i64 n] w fun e w' => e = .returned (.bool true) ∧ Below w.heap.size w w' := by
  by_cases h : k.size ≤ 100
  · go_enter Try.func12, Try.ntmps12
    go_wp2_with (go_at_call 29; refine (head2_any _).mono ?_; rintro e w' ⟨rfl, rfl⟩)
    go_loop [5, 6] (fun x i => ∃ j : Nat, j ≤ k.size ∧ i = .int .i64 j ∧ x = .int .u64 (hashL (k.data.toList.take j) : Nat)) (fun _ i => k.size - (intOf i).toNat)
    case atStart => exact ⟨0, Nat.zero_le _, rfl, rfl⟩
    case round =>
      obtain ⟨j, hj, rfl, rfl⟩ := hrel
      by_cases hlt : j < k.size
      · have hl := hashL_lt (k.data.toList.take j)
        have hy : hashL (k.data.toList.take j) ^^^ k[j].toNat < 18446744073709551616 := Nat.xor_lt_two_pow (n := 64) (by omega) (by have := k[j].toNat_lt; omega)
        have e1 := lay_walk _ k[j] hl
        have HS : Hid (hashL (k.data.toList.take (j + 1)) = ((hashL (k.data.toList.take j) ^^^ k[j].toNat) * 1099511628211) % 18446744073709551616) := by rw [take_snoc k j hlt]; exact hashL_snoc _ _
        generalize hashL (k.data.toList.take j) = H at *
        go_wp2
        generalize H ^^^ k[j].toNat = Y at *
        go_loop [8, 9] (fun x i => ∃ b : Nat, b ≤ 41 ∧ i = .int .i64 b ∧ x = .int .u64 (Y * (1099511628211 % 2 ^ b) % 18446744073709551616 : Nat)) (fun _ i => 41 - (intOf i).toNat)
        case atStart => exact ⟨0, by omega, rfl, by simp [Nat.mod_one]⟩
        case round =>
          obtain ⟨b, hb, rfl, rfl⟩ := hrel
          by_cases hlb : b < 41
          · go_wp2
            · have hbit : (bits BinOp.and IntKind.u64 (1099511628211 / 2 ^ b) 1 == 1) = true := by assumption
              go_round
              case rel => exact ⟨b + 1, by omega, by go_num, by rw [← bit_yes Y b hbit]⟩
              case measure => simp [intOf]; omega
            · have hbit : (bits BinOp.and IntKind.u64 (1099511628211 / 2 ^ b) 1 == 1) = false := by assumption
              go_round
              case rel => exact ⟨b + 1, by omega, by go_num, by rw [bit_no Y b hbit]⟩
              case measure => simp [intOf]; omega
          · obtain rfl : b = 41 := by omega
            go_wp2
            go_round
            case rel => exact ⟨j + 1, by omega, by go_num, by rw [HS.out, p41]⟩
            case measure => simp [intOf]; omega
      · have hjk : j = k.size := by omega
        have hd : k.data.toList.take j = k.data.toList := List.take_of_length_le (by simp; omega)
        rw [hd]
        have hr := hashL_lt k.data.toList
        have HM : Hid (∀ (m : Int) (W : World), (Lit.int .i64 m).wf = true → Calls Try.prog 32 #[.string k, .int .i64 m] W fun e w' => e = .returned (.int .i64 ((hashL k.data.toList : Nat) / 1048576 % clampN m)) ∧ w' = W) := fun m W h => home_any k m W hk h
        have HH : Hid (∀ (W : World), Calls Try.prog 33 #[.string k] W fun e w' => e = .returned (.int .u64 (hashL k.data.toList : Nat)) ∧ w' = W) := fun W => hash_any k W hk
        clear hd hjk
        generalize hashL k.data.toList = H at *
        rcases (show n < 1 ∨ (1 ≤ n ∧ n ≤ 64) ∨ 64 < n by omega) with hc | hc | hc
        · have hs := same_home H n 1 (clampN_low n hc) (by omega) (by omega)
          have he : (H : Int) / 1048576 % clampN n = 0 := by omega
          go_wp2_with (first | (go_at_call 32; refine (HM.out _ _ hn).mono ?_; rintro e w' ⟨rfl, rfl⟩) | (go_at_call 33; refine (HH.out _).mono ?_; rintro e w' ⟨rfl, rfl⟩))
          go_ret
          exact ⟨rfl, Below.refl _ _⟩
        · have hs := same_home H n n (clampN_mid n hc) (by omega) (by omega)
          have he : clampN n = n := clampN_mid n hc
          rw [he] at hs
          go_wp2_with (first | (go_at_call 32; refine (HM.out _ _ hn).mono ?_; rintro e w' ⟨rfl, rfl⟩) | (go_at_call 33; refine (HH.out _).mono ?_; rintro e w' ⟨rfl, rfl⟩))
          go_ret
          exact ⟨rfl, Below.refl _ _⟩
        · have hs := same_home H n 64 (clampN_high n hc) (by omega) (by omega)
          have he : clampN n = 64 := clampN_high n hc
          rw [he] at hs
          go_wp2_with (first | (go_at_call 32; refine (HM.out _ _ hn).mono ?_; rintro e w' ⟨rfl, rfl⟩) | (go_at_call 33; refine (HH.out _).mono ?_; rintro e w' ⟨rfl, rfl⟩))
          go_ret
          exact ⟨rfl, Below.refl _ _⟩
  · go_enter Try.func12, Try.ntmps12
    go_wp2_with (go_at_call 29; refine (head2_any _).mono ?_; rintro e w' ⟨rfl, rfl⟩)
    go_ret
    exact ⟨rfl, Below.refl _ _⟩
end Go.Proofs.Ytopnblhedankcaa
