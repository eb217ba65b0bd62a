/- What is laid is read again: plain lemmas on lists of bytes. -/
import Derived.Test.YtefmeeffkjendaaFirst
namespace Go.Proofs.Ytefmeeffkjendaa

theorem fst_encF : ∀ (f m n i : Nat) (r : List UInt8), m < 128 ^ (f + 1) → m * 2 ^ (7 * i) < 18446744073709551616 → (0 < i → 0 < m) → i ≤ 9 →
    fstF n i (encF (f + 1) m ++ r) = (n + m * 2 ^ (7 * i), i + (encF (f + 1) m).length, 0)
  | f, m, n, i, r, hm, hb, hz, hi => by
    have h9 : i = 9 → m ≤ 1 := by
      intro h
      subst h
      omega
    by_cases h : m < 128
    · rw [encF_small h]
      show fstF n i (UInt8.ofNat m :: r) = _
      unfold fstF
      have hc : (UInt8.ofNat m).toNat = m := by rw [UInt8.toNat_ofNat']; omega
      rw [hc, if_neg (by omega), if_neg (by omega), if_neg (by omega)]
      rfl
    · rw [encF_great (by omega)]
      have hi8 : i ≤ 8 := by omega
      show fstF n i (UInt8.ofNat (m % 128 + 128) :: (encF f (m / 128) ++ r)) = _
      unfold fstF
      have hc : (UInt8.ofNat (m % 128 + 128)).toNat = m % 128 + 128 := by rw [UInt8.toNat_ofNat']; omega
      rw [hc, if_neg (by omega), if_pos (by omega)]
      cases f with
      | zero => simp at hm; omega
      | succ f =>
        have hp : 2 ^ (7 * (i + 1)) = 2 ^ (7 * i) * 128 := by rw [show 7 * (i + 1) = 7 * i + 7 by omega, Nat.pow_add]
        have hle : m / 128 * 2 ^ (7 * (i + 1)) ≤ m * 2 ^ (7 * i) := by
          rw [hp, Nat.mul_comm (2 ^ (7 * i)) 128, ← Nat.mul_assoc]
          exact Nat.mul_le_mul (Nat.div_mul_le_self m 128) (Nat.le_refl _)
        have ih := fst_encF f (m / 128) (n + (m % 128 + 128 - 128) * 2 ^ (7 * i)) (i + 1) r (by rw [Nat.pow_succ] at hm; omega) (by omega) (by omega) (by omega)
        rw [ih]
        have e1 : n + (m % 128 + 128 - 128) * 2 ^ (7 * i) + m / 128 * 2 ^ (7 * (i + 1)) = n + m * 2 ^ (7 * i) := by
          rw [hp, show m % 128 + 128 - 128 = m % 128 by omega]
          generalize 2 ^ (7 * i) = p
          have : m = 128 * (m / 128) + m % 128 := (Nat.div_add_mod m 128).symm
          have e : m * p = (128 * (m / 128) + m % 128) * p := by rw [← this]
          rw [e, Nat.add_mul, Nat.mul_comm p 128, ← Nat.mul_assoc, Nat.mul_comm (m / 128) 128]
          omega
        have e2 : i + 1 + (encF (f + 1) (m / 128)).length = i + (UInt8.ofNat (m % 128 + 128) :: encF (f + 1) (m / 128)).length := by simp; omega
        rw [e1, e2]

theorem first_enc (A : Nat) (hA : A < 18446744073709551616) (r : List UInt8) : firstL (enc A ++ r) = (A, (enc A).length, 0) := by
  have h := fst_encF 9 A 0 0 r (by omega) (by omega) (by omega) (by omega)
  simp only [Nat.mul_zero, Nat.pow_zero, Nat.mul_one, Nat.zero_add] at h
  exact h

end Go.Proofs.Ytefmeeffkjendaa
