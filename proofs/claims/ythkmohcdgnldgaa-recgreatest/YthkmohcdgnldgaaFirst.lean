/- What the Go text of num.first comes to: the number with which bytes begin. Own lemmas, no statement. -/
import Derived.Test.YthkmohcdgnldgaaPut
import Derived.Laws.ShiftsVar
namespace Go.Proofs.Ythkmohcdgnldgaa
open Go.ChangeShapes Go.WideShapes Go.ChangeAt Go.RowKit

/-- The number with which bytes begin: from the i-th byte on, n so far: the number, how many bytes, the error. -/
def fstF : Nat → Nat → List UInt8 → Nat × Nat × Nat
  | _, _, [] => (0, 0, 6)
  | n, i, c :: t =>
    if i = 9 ∧ 1 < c.toNat then (0, 0, 2)
    else if 128 ≤ c.toNat then fstF (n + (c.toNat - 128) * 2 ^ (7 * i)) (i + 1) t
    else if c.toNat = 0 ∧ 0 < i then (0, 0, 2)
    else (n + c.toNat * 2 ^ (7 * i), i + 1, 0)
def firstL (l : List UInt8) : Nat × Nat × Nat := fstF 0 0 l

theorem andNot128 (B : Nat) (h : B < 256) : bits BinOp.andNot IntKind.u8 (B : Int) 128 = ((B % 128 : Nat) : Int) := by
  have h1 := u8_andNot_nat B 128 h (by omega)
  have h2 : B &&& 127 = B % 128 := Nat.and_two_pow_sub_one_eq_mod B 7
  rw [show 255 - 128 = 127 from rfl, h2] at h1
  exact h1

theorem and128 (B : Nat) (h : B < 256) : bits BinOp.and IntKind.u8 (B : Int) 128 = ((B / 128 * 128 : Nat) : Int) := by
  have h1 := u8_and_nat B 128 h (by omega)
  have h2 : B &&& 128 = B / 128 * 128 := by
    have e1 : (B &&& 128) % 2 ^ 7 = B % 2 ^ 7 &&& 128 % 2 ^ 7 := Nat.and_mod_two_pow
    have e2 : (B &&& 128) / 2 ^ 7 = B / 2 ^ 7 &&& 128 / 2 ^ 7 := Nat.and_div_two_pow
    have e3 := Nat.div_add_mod (B &&& 128) (2 ^ 7)
    rw [e1, e2, show 128 % 2 ^ 7 = 0 from rfl, Nat.and_zero, show 128 / 2 ^ 7 = 1 from rfl, Nat.and_one_is_mod] at e3
    omega
  rw [h2] at h1
  exact h1

theorem or_lay (n B k : Nat) (hn : n < 2 ^ (7 * k)) (hk : 7 * k ≤ 63) (hB : B * 2 ^ (7 * k) < 18446744073709551616) :
    bits BinOp.or IntKind.u64 (n : Int) (IntKind.u64.wrap ((B : Int) * 2 ^ (7 * k))) = ((n + B * 2 ^ (7 * k) : Nat) : Int) := by
  have hp : 2 ^ (7 * k) ≤ 2 ^ 63 := Nat.pow_le_pow_right (by omega) hk
  have e1 : IntKind.u64.wrap ((B : Int) * 2 ^ (7 * k)) = ((B * 2 ^ (7 * k) : Nat) : Int) := by
    rw [IntKind.wrap_u64, Int.natCast_mul, Int.natCast_pow]
    have e : ((B : Int) * (2 : Int) ^ (7 * k)) = ((B * 2 ^ (7 * k) : Nat) : Int) := by rw [Int.natCast_mul, Int.natCast_pow]; rfl
    show (B : Int) * (2 : Int) ^ (7 * k) % 18446744073709551616 = (B : Int) * (2 : Int) ^ (7 * k)
    rw [e]
    omega
  have h := bits_or_u64_nat n (B * 2 ^ (7 * k)) (by omega) hB
  have h2 := Nat.two_pow_add_eq_or_of_lt hn B
  rw [Nat.or_comm, Nat.mul_comm B, ← h2, Nat.mul_comm, Nat.add_comm] at h
  rw [e1]
  exact h

theorem or_zero (n : Nat) (hn : n < 18446744073709551616) : bits BinOp.or IntKind.u64 (n : Int) (IntKind.u64.wrap 0) = (n : Int) := by
  have h := bits_or_u64_nat n 0 hn (by omega)
  rw [Nat.or_zero] at h
  rw [IntKind.wrap_u64]
  exact h

theorem ret3 {k1 k2 k3 : IntKind} {a b c a' b' c' : Int} (h1 : a = a') (h2 : b = b') (h3 : c = c') : Ending.returned (.tuple #[.int k1 a, .int k2 b, .int k3 c]) = .returned (.tuple #[.int k1 a', .int k2 b', .int k3 c']) := by rw [h1, h2, h3]

theorem or_top (n : Nat) (hn : n < 9223372036854775808) : bits BinOp.or IntKind.u64 (n : Int) 9223372036854775808 = ((n + 9223372036854775808 : Nat) : Int) := by
  have h := bits_or_u64_nat n 9223372036854775808 (by omega) (by omega)
  have h2 := Nat.two_pow_add_eq_or_of_lt (i := 63) hn 1
  rw [Nat.or_comm, show (9223372036854775808 : Nat) = 2 ^ 63 * 1 from rfl, ← h2, Nat.add_comm] at h
  exact h

theorem fst_none (n k : Nat) : fstF n k [] = (0, 0, 6) := rfl

end Go.Proofs.Ythkmohcdgnldgaa
