/- What the Go text of num.first comes to: the number with which bytes begin. Own lemmas, no statement. -/
import Derived.Test.YtefmeeffkjendaaPut
import Derived.Laws.ShiftsVar
namespace Go.Proofs.Ytefmeeffkjendaa
open Go.ChangeShapes Go.WideShapes Go.ChangeAt Go.RowKit

/-- The number with which bytes begin: from the i-th byte on, n so far: the number, how many bytes, the error. -/
def fstF : Nat → Nat → List UInt8 → Nat × Nat × Nat
  | _, _, [] => (0, 0, 6)
  | n, i, c :: t =>
    if i = 9 ∧ 1 < c.toNat then (0, 0, 2)
    else if 128 ≤ c.toNat then fstF (n + (c.toNat - 128) * 2 ^ (7 * i)) (i + 1) t
    else if c.toNat = 0 ∧ 0 < i then (0, 0, 2)
    else (n + c.toNat * 2 ^ (7 * i), i + 1, 0)
def firstL (l : List UInt8) : Nat × Nat × Nat := fstF 0 0 l

theorem andNot128 (B : Nat) (h : B < 256) : bits BinOp.andNot IntKind.u8 (B : Int) 128 = ((B % 128 : Nat) : Int) := by
  have h1 := u8_andNot_nat B 128 h (by omega)
  have h2 : B &&& 127 = B % 128 := Nat.and_two_pow_sub_one_eq_mod B 7
  rw [show 255 - 128 = 127 from rfl, h2] at h1
  exact h1

theorem and128 (B : Nat) (h : B < 256) : bits BinOp.and IntKind.u8 (B : Int) 128 = ((B / 128 * 128 : Nat) : Int) := by
  have h1 := u8_and_nat B 128 h (by omega)
  have h2 : B &&& 128 = B / 128 * 128 := by
    have e1 : (B &&& 128) % 2 ^ 7 = B % 2 ^ 7 &&& 128 % 2 ^ 7 := Nat.and_mod_two_pow
    have e2 : (B &&& 128) / 2 ^ 7 = B / 2 ^ 7 &&& 128 / 2 ^ 7 := Nat.and_div_two_pow
    have e3 := Nat.div_add_mod (B &&& 128) (2 ^ 7)
    rw [e1, e2, show 128 % 2 ^ 7 = 0 from rfl, Nat.and_zero, show 128 / 2 ^ 7 = 1 from rfl, Nat.and_one_is_mod] at e3
    omega
  rw [h2] at h1
  exact h1

theorem or_lay (n B k : Nat) (hn : n < 2 ^ (7 * k)) (hk : 7 * k ≤ 63) (hB : B * 2 ^ (7 * k) < 18446744073709551616) :
    bits BinOp.or IntKind.u64 (n : Int) (IntKind.u64.wrap ((B : Int) * 2 ^ (7 * k))) = ((n + B * 2 ^ (7 * k) : Nat) : Int) := by
  have hp : 2 ^ (7 * k) ≤ 2 ^ 63 := Nat.pow_le_pow_right (by omega) hk
  have e1 : IntKind.u64.wrap ((B : Int) * 2 ^ (7 * k)) = ((B * 2 ^ (7 * k) : Nat) : Int) := by
    rw [IntKind.wrap_u64, Int.natCast_mul, Int.natCast_pow]
    have e : ((B : Int) * (2 : Int) ^ (7 * k)) = ((B * 2 ^ (7 * k) : Nat) : Int) := by rw [Int.natCast_mul, Int.natCast_pow]; rfl
    show (B : Int) * (2 : Int) ^ (7 * k) % 18446744073709551616 = (B : Int) * (2 : Int) ^ (7 * k)
    rw [e]
    omega
  have h := bits_or_u64_nat n (B * 2 ^ (7 * k)) (by omega) hB
  have h2 := Nat.two_pow_add_eq_or_of_lt hn B
  rw [Nat.or_comm, Nat.mul_comm B, ← h2, Nat.mul_comm, Nat.add_comm] at h
  rw [e1]
  exact h

theorem or_zero (n : Nat) (hn : n < 18446744073709551616) : bits BinOp.or IntKind.u64 (n : Int) (IntKind.u64.wrap 0) = (n : Int) := by
  have h := bits_or_u64_nat n 0 hn (by omega)
  rw [Nat.or_zero] at h
  rw [IntKind.wrap_u64]
  exact h

theorem ret3 {k1 k2 k3 : IntKind} {a b c a' b' c' : Int} (h1 : a = a') (h2 : b = b') (h3 : c = c') : Ending.returned (.tuple #[.int k1 a, .int k2 b, .int k3 c]) = .returned (.tuple #[.int k1 a', .int k2 b', .int k3 c']) := by rw [h1, h2, h3]

theorem or_top (n : Nat) (hn : n < 9223372036854775808) : bits BinOp.or IntKind.u64 (n : Int) 9223372036854775808 = ((n + 9223372036854775808 : Nat) : Int) := by
  have h := bits_or_u64_nat n 9223372036854775808 (by omega) (by omega)
  have h2 := Nat.two_pow_add_eq_or_of_lt (i := 63) hn 1
  rw [Nat.or_comm, show (9223372036854775808 : Nat) = 2 ^ 63 * 1 from rfl, ← h2, Nat.add_comm] at h
  exact h

set_option maxHeartbeats 1000000 in
theorem first_any (ao : Option Addr) (n c : Nat) (l : List UInt8) (w : World) (hs : Src w (.slice ao n c) l) :
    Calls Try.prog 39 #[.slice ao n c] w fun e w' => e = .returned (.tuple #[.int .u64 (firstL l).1, .int .i64 (firstL l).2.1, .int .i64 (firstL l).2.2]) ∧ w' = w := by
  obtain ⟨rfl, h1, h2, h3⟩ := hs.at
  clear hs
  unfold maxLen at h2
  go_enter Try.func39, Try.ntmps39
  go_wp2
  go_loop [5, 10] (fun x i => ∃ n k : Nat, k ≤ 9 ∧ k ≤ l.length ∧ i = .int .i64 k ∧ x = .int .u64 n ∧ n < 2 ^ (7 * k) ∧ fstF n k (l.drop k) = firstL l) (fun _ i => l.length - (intOf i).toNat)
  case atStart => exact ⟨0, 0, by omega, by omega, rfl, rfl, by decide, rfl⟩
  case round =>
    obtain ⟨n, k, hk9, hk, rfl, rfl, hn, hf⟩ := hrel
    by_cases hlt : k < l.length
    · obtain ⟨b, hb⟩ : ∃ b, l[k] = b := ⟨_, rfl⟩
      have hd : l.drop k = b :: l.drop (k + 1) := by rw [List.drop_eq_getElem_cons hlt, hb]
      rw [hd] at hf
      unfold fstF at hf
      obtain ⟨ad, had⟩ : ∃ ad, ao = some ad := by
        cases ao with
        | none => have := (h3.1 rfl).1; subst this; simp at hlt
        | some ad => exact ⟨ad, rfl⟩
      subst had
      have hcell : w.cell? (ad.add k) = some (.int .u8 (b.toNat : Int)) := h3.2 ad rfl k _ (by simp [bv, hlt, hb])
      have hB : b.toNat < 256 := b.toNat_lt
      generalize b.toNat = B at *
      clear hd hb b
      have f1 := andNot128 B hB
      rcases (show k = 9 ∨ k < 9 by omega) with h9 | h9
      · have h9' : 9 ≤ k := by omega
        have hp : 2 ^ (7 * k) ≤ 2 ^ 63 := Nat.pow_le_pow_right (by omega) (by omega)
        rcases (show 1 < B ∨ B = 0 ∨ B = 1 by omega) with hb | hb | hb
        · have HF : Hid (firstL l = (0, 0, 2)) := by rw [if_pos ⟨h9, hb⟩] at hf; exact hf.symm
          clear hf h9 hp hn
          go_wp2
          go_ret3
          exact ⟨by rw [HF.out]; rfl, rfl⟩
        · subst hb
          have HF : Hid (firstL l = (0, 0, 2)) := by rw [if_neg (by omega), if_neg (by omega), if_pos (by omega)] at hf; exact hf.symm
          have g1 : (bits BinOp.and IntKind.u8 0 128 != 0) = false := by rfl
          clear hf f1 h9 hp hn
          go_wp2
          go_ret3
          exact ⟨by rw [HF.out]; rfl, rfl⟩
        · subst hb
          have HF : Hid (firstL l = (n + 9223372036854775808, 10, 0)) := by rw [if_neg (by omega), if_neg (by omega), if_neg (by omega), h9] at hf; exact hf.symm
          have g1 : (bits BinOp.and IntKind.u8 1 128 != 0) = false := by rfl
          have g2 : bits BinOp.andNot IntKind.u8 1 128 = 1 := by rfl
          have HO : Hid _ := or_top n (by rw [h9] at hn; exact hn)
          clear hf f1 h9 hp hn
          go_wp2
          go_ret3
          exact ⟨by rw [HF.out]; exact ret3 HO.out rfl rfl, rfl⟩
      · have hf2 : Hid ((if 128 ≤ B then fstF (n + (B - 128) * 2 ^ (7 * k)) (k + 1) (List.drop (k + 1) l) else if B = 0 ∧ 0 < k then (0, 0, 2) else (n + B * 2 ^ (7 * k), k + 1, 0)) = firstL l) := by
          rw [if_neg (by omega)] at hf; exact hf
        clear hf
        have hp : 2 ^ (7 * k) ≤ 2 ^ 56 := Nat.pow_le_pow_right (by omega) (by omega)
        have hm : B % 128 * 2 ^ (7 * k) ≤ 127 * 2 ^ 56 := Nat.mul_le_mul (by omega) hp
        have HO : Hid (bits BinOp.or IntKind.u64 (n : Int) (IntKind.u64.wrap (((B % 128 : Nat) : Int) * 2 ^ (7 * k))) = ((n + B % 128 * 2 ^ (7 * k) : Nat) : Int)) := or_lay n (B % 128) k hn (by omega) (by omega)
        have hs : n + B % 128 * 2 ^ (7 * k) < 2 ^ (7 * (k + 1)) := by
          have : B % 128 * 2 ^ (7 * k) ≤ 127 * 2 ^ (7 * k) := Nat.mul_le_mul (by omega) (Nat.le_refl _)
          rw [show 7 * (k + 1) = 7 * k + 7 by omega, Nat.pow_add]
          omega
        have HS : Hid (n + B % 128 * 2 ^ (7 * k) < 2 ^ (7 * (k + 1))) := hs
        clear hp hm hs hn
        by_cases h128 : 128 ≤ B
        · have g1 : (bits BinOp.and IntKind.u8 (B : Int) 128 != 0) = true := by rw [and128 B hB, bne_iff_ne]; omega
          have HF : Hid (fstF (n + B % 128 * 2 ^ (7 * k)) (k + 1) (List.drop (k + 1) l) = firstL l) := by
            have := hf2.out
            rw [if_pos h128] at this
            rw [show B % 128 = B - 128 by omega]; exact this
          clear hf2
          go_wp2
          go_round
          case rel => exact ⟨n + B % 128 * 2 ^ (7 * k), k + 1, by omega, by omega, by go_num, by rw [← HO.out]; rfl, HS.out, HF.out⟩
          case measure => simp [intOf]; omega
        · have g1 : (bits BinOp.and IntKind.u8 (B : Int) 128 != 0) = false := by rw [and128 B hB, bne_eq_false_iff_eq]; omega
          by_cases hz : B = 0 ∧ 0 < k
          · have HF : Hid (firstL l = (0, 0, 2)) := by
              have := hf2.out
              rw [if_neg h128, if_pos hz] at this; exact this.symm
            clear hf2
            obtain ⟨hz0, hz1⟩ := hz
            go_wp2
            go_ret3
            exact ⟨by rw [HF.out]; rfl, rfl⟩
          · have HF : Hid (firstL l = (n + B % 128 * 2 ^ (7 * k), k + 1, 0)) := by
              have := hf2.out
              rw [if_neg h128, if_neg hz] at this
              rw [show B % 128 = B by omega]; exact this.symm
            clear hf2
            rcases (show B = 0 ∨ 0 < B by omega) with hb | hb
            · subst hb
              have hk0 : k = 0 := by omega
              have e0 := or_zero n (by have := HS.out; rw [hk0] at this; omega)
              have HF0 : Hid (firstL l = (n, k + 1, 0)) := by show firstL l = _; have := HF.out; simpa using this
              have g0 : (bits BinOp.and IntKind.u8 0 128 != 0) = false := by rfl
              have g2 : bits BinOp.andNot IntKind.u8 0 128 = 0 := by rfl
              have hk0' : k ≤ 0 := by omega
              clear HF HO HS g1 f1 hz h128 hk0
              go_wp2
              go_ret3
              exact ⟨by rw [HF0.out]; exact ret3 e0 rfl rfl, rfl⟩
            · clear hz
              go_wp2
              go_ret3
              exact ⟨by rw [HF.out]; exact ret3 HO.out rfl rfl, rfl⟩
    · have HF : Hid (firstL l = (0, 0, 6)) := by rw [List.drop_of_length_le (by omega)] at hf; exact hf.symm
      clear hf
      go_wp2
      go_ret3
      exact ⟨by rw [HF.out]; rfl, rfl⟩
end Go.Proofs.Ytefmeeffkjendaa
