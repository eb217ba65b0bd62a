/- What is laid is read again: plain lemmas on lists of bytes. -/
import Derived.Test.YtepfckckplbjjaaFirst
namespace Go.Proofs.Ytepfckckplbjjaa

theorem fst_encF : ∀ (f m n i : Nat) (r : List UInt8), m < 128 ^ (f + 1) → m * 2 ^ (7 * i) < 18446744073709551616 → (0 < i → 0 < m) → i ≤ 9 →
    fstF n i (encF (f + 1) m ++ r) = (n + m * 2 ^ (7 * i), i + (encF (f + 1) m).length, 0)
  | f, m, n, i, r, hm, hb, hz, hi => by
    have h9 : i = 9 → m ≤ 1 := by
      intro h
      subst h
      omega
    by_cases h : m < 128
    · rw [encF_small h]
      show fstF n i (UInt8.ofNat m :: r) = _
      unfold fstF
      have hc : (UInt8.ofNat m).toNat = m := by rw [UInt8.toNat_ofNat']; omega
      rw [hc, if_neg (by omega), if_neg (by omega), if_neg (by omega)]
      rfl
    · rw [encF_great (by omega)]
      have hi8 : i ≤ 8 := by omega
      show fstF n i (UInt8.ofNat (m % 128 + 128) :: (encF f (m / 128) ++ r)) = _
      unfold fstF
      have hc : (UInt8.ofNat (m % 128 + 128)).toNat = m % 128 + 128 := by rw [UInt8.toNat_ofNat']; omega
      rw [hc, if_neg (by omega), if_pos (by omega)]
      cases f with
      | zero => simp at hm; omega
      | succ f =>
        have hp : 2 ^ (7 * (i + 1)) = 2 ^ (7 * i) * 128 := by rw [show 7 * (i + 1) = 7 * i + 7 by omega, Nat.pow_add]
        have hle : m / 128 * 2 ^ (7 * (i + 1)) ≤ m * 2 ^ (7 * i) := by
          rw [hp, Nat.mul_comm (2 ^ (7 * i)) 128, ← Nat.mul_assoc]
          exact Nat.mul_le_mul (Nat.div_mul_le_self m 128) (Nat.le_refl _)
        have ih := fst_encF f (m / 128) (n + (m % 128 + 128 - 128) * 2 ^ (7 * i)) (i + 1) r (by rw [Nat.pow_succ] at hm; omega) (by omega) (by omega) (by omega)
        rw [ih]
        have e1 : n + (m % 128 + 128 - 128) * 2 ^ (7 * i) + m / 128 * 2 ^ (7 * (i + 1)) = n + m * 2 ^ (7 * i) := by
          rw [hp, show m % 128 + 128 - 128 = m % 128 by omega]
          generalize 2 ^ (7 * i) = p
          have : m = 128 * (m / 128) + m % 128 := (Nat.div_add_mod m 128).symm
          have e : m * p = (128 * (m / 128) + m % 128) * p := by rw [← this]
          rw [e, Nat.add_mul, Nat.mul_comm p 128, ← Nat.mul_assoc, Nat.mul_comm (m / 128) 128]
          omega
        have e2 : i + 1 + (encF (f + 1) (m / 128)).length = i + (UInt8.ofNat (m % 128 + 128) :: encF (f + 1) (m / 128)).length := by simp; omega
        rw [e1, e2]

theorem first_enc (A : Nat) (hA : A < 18446744073709551616) (r : List UInt8) : firstL (enc A ++ r) = (A, (enc A).length, 0) := by
  have h := fst_encF 9 A 0 0 r (by omega) (by omega) (by omega) (by omega)
  simp only [Nat.mul_zero, Nat.pow_zero, Nat.mul_one, Nat.zero_add] at h
  exact h

theorem enc_inj {A C : Nat} (hA : A < 18446744073709551616) (hC : C < 18446744073709551616) {r r' : List UInt8} (h : enc A ++ r = enc C ++ r') : A = C ∧ r = r' := by
  have h1 := first_enc A hA r
  have h2 := first_enc C hC r'
  rw [h, h2] at h1
  simp only [Prod.mk.injEq] at h1
  have hAC : C = A := h1.1
  subst hAC
  exact ⟨rfl, List.append_cancel_left h⟩

/-- Whether bytes begin others. -/
def begB (x y : List UInt8) : Bool := decide (x.length ≤ y.length) && (y.take x.length == x)
theorem begB_iff (x y : List UInt8) : begB x y = true ↔ ∃ r, y = x ++ r := by
  unfold begB
  constructor
  · intro h
    simp at h
    exact ⟨y.drop x.length, by have := (List.take_append_drop x.length y).symm; rw [h.2] at this; exact this⟩
  · rintro ⟨r, rfl⟩
    simp

theorem beg_put (A C : Nat) (hA : A < 18446744073709551616) (hC : C < 18446744073709551616) : begB (join [] (enc A)) (join [] (enc C)) = decide (A = C) := by
  rw [Bool.eq_iff_iff, begB_iff, decide_eq_true_iff]
  constructor
  · rintro ⟨r, h⟩
    have h' : enc C ++ [] = enc A ++ r := by simpa [join] using h
    exact (enc_inj hC hA h').1.symm
  · rintro rfl
    exact ⟨[], by simp⟩

theorem beg_text (s t : ByteArray) (hs : s.size < 18446744073709551616) (ht : t.size < 18446744073709551616) :
    begB (join (join [] (enc s.size)) s.data.toList) (join (join [] (enc t.size)) t.data.toList) = (s.toList == t.toList) := by
  rw [ByteArray.toList_eq, ByteArray.toList_eq, Bool.eq_iff_iff, begB_iff, beq_iff_eq]
  constructor
  · rintro ⟨r, h⟩
    have h' : enc t.size ++ t.data.toList = enc s.size ++ (s.data.toList ++ r) := by simpa [join] using h
    obtain ⟨h1, h2⟩ := enc_inj ht hs h'
    have hl : t.data.toList.length = s.data.toList.length := h1
    have hr : r = [] := by
      have := congrArg List.length h2
      simp at this hl
      exact List.eq_nil_of_length_eq_zero (by omega)
    rw [h2, hr, List.append_nil]
  · intro h
    refine ⟨[], ?_⟩
    have hsz : s.size = t.size := congrArg List.length h
    rw [h, hsz, List.append_nil]

theorem beg_tid (x y x' y' : Nat) (h1 : x < 18446744073709551616) (h2 : y < 18446744073709551616) (h3 : x' < 18446744073709551616) (h4 : y' < 18446744073709551616) :
    begB (join (join [] (enc x)) (enc y)) (join (join [] (enc x')) (enc y')) = decide (x = x' ∧ y = y') := by
  rw [Bool.eq_iff_iff, begB_iff, decide_eq_true_iff]
  constructor
  · rintro ⟨r, h⟩
    have h' : enc x' ++ enc y' = enc x ++ (enc y ++ r) := by simpa [join] using h
    obtain ⟨e1, e2⟩ := enc_inj h3 h1 h'
    have e3 := enc_inj (r := []) h4 h2 (by simpa using e2)
    exact ⟨e1.symm, e3.1.symm⟩
  · rintro ⟨rfl, rfl⟩
    exact ⟨[], by simp⟩
end Go.Proofs.Ytepfckckplbjjaa
