/- What the Go texts that lay numbers as bytes come to (num.apart, num.lay, num.Put, and the law's own put). Own lemmas, no statement. -/
import Derived.Test.YtefmeeffkjendaaBytes
import Derived.Test.YtefmeeffkjendaaHash
import Derived.Outline
namespace Go.Proofs.Ytefmeeffkjendaa
open Go.ChangeShapes Go.WideShapes Go.ChangeAt Go.RowKit

/-- A number as bytes, seven bits a byte, within so many bytes. -/
def encF : Nat → Nat → List UInt8
  | 0, _ => []
  | f + 1, n => if n < 128 then [UInt8.ofNat n] else UInt8.ofNat (n % 128 + 128) :: encF f (n / 128)
def moreB (n : Nat) : UInt8 := UInt8.ofNat (n % 128 + 128)
def lastB (n : Nat) : UInt8 := UInt8.ofNat n
def enc (n : Nat) : List UInt8 := encF 10 n

theorem encF_small {f n : Nat} (h : n < 128) : encF (f + 1) n = [UInt8.ofNat n] := by simp [encF, h]
theorem encF_great {f n : Nat} (h : 128 ≤ n) : encF (f + 1) n = UInt8.ofNat (n % 128 + 128) :: encF f (n / 128) := by simp [encF, Nat.not_lt.2 h]
theorem encF_length (f n : Nat) : (encF f n).length ≤ f := by
  induction f generalizing n with
  | zero => simp [encF]
  | succ f ih => unfold encF; split <;> simp [ih]
theorem enc_length (n : Nat) : (enc n).length ≤ 10 := encF_length 10 n

theorem u8_any (n : Nat) : IntKind.u8.wrap (n : Int) = ((UInt8.ofNat n).toNat : Int) := by
  rw [IntKind.wrap_u8, UInt8.toNat_ofNat']; omega

theorem or128 (x : Nat) (h : x < 256) : x ||| 128 = x % 128 + 128 := by
  have h1 : (x ||| 128) % 2 ^ 7 = x % 2 ^ 7 ||| 128 % 2 ^ 7 := Nat.or_mod_two_pow
  have h2 : (x ||| 128) / 2 ^ 7 = x / 2 ^ 7 ||| 128 / 2 ^ 7 := Nat.or_div_two_pow
  have h5 := Nat.div_add_mod (x ||| 128) (2 ^ 7)
  rw [h1, h2] at h5
  have h6 : x / 2 ^ 7 = 0 ∨ x / 2 ^ 7 = 1 := by omega
  have h7 : x / 2 ^ 7 ||| 128 / 2 ^ 7 = 1 := by rcases h6 with h | h <;> rw [h] <;> rfl
  rw [h7] at h5
  simp at h5
  omega

theorem bits_or_u8_nat (a b : Nat) (ha : a < 256) (hb : b < 256) : bits .or .u8 (a : Int) (b : Int) = ((a ||| b : Nat) : Int) := by
  have hx : a ||| b < 2 ^ 8 := Nat.or_lt_two_pow (by omega) (by omega)
  have h1 : (BitVec.ofInt 8 (a : Int)).toNat = a := by
    rw [BitVec.ofInt_natCast, BitVec.toNat_ofNat]; exact Nat.mod_eq_of_lt (by omega)
  have h2 : (BitVec.ofInt 8 (b : Int)).toNat = b := by
    rw [BitVec.ofInt_natCast, BitVec.toNat_ofNat]; exact Nat.mod_eq_of_lt (by omega)
  show IntKind.u8.wrap ((BitVec.ofInt 8 (a : Int) ||| BitVec.ofInt 8 (b : Int)).toNat : Int) = _
  rw [BitVec.toNat_or, h1, h2, IntKind.wrap_u8]
  omega

theorem u8_more (n : Nat) : bits BinOp.or IntKind.u8 ((n : Int) % 256) 128 = ((UInt8.ofNat (n % 128 + 128)).toNat : Int) := by
  rw [show (n : Int) % 256 = ((n % 256 : Nat) : Int) from by omega]
  have h := bits_or_u8_nat (n % 256) 128 (by omega) (by omega)
  rw [or128 _ (by omega)] at h
  rw [show (128 : Int) = ((128 : Nat) : Int) from rfl, h, UInt8.toNat_ofNat']
  omega

set_option maxHeartbeats 400000 in
theorem apart_any (ao : Option Addr) (c : Nat) (l : List UInt8) (R : Int) (room : Nat) (w : World) (hR : R = (room : Int)) (hs : SrcAt w ao c l) (hc : l.length ≤ c) (hm : c ≤ maxLen) (hl : l.length + room < 1099511627776) :
    Calls Try.prog 35 #[.slice ao l.length c, .int .i64 R] w fun e w' =>
      ∃ v, e = .returned v ∧ Own w' w.heap.size v l ∧ Below w.heap.size w w' ∧ (v = .slice none 0 0 → False) := by
  obtain ⟨i0, hi, hz0, hz1, hz2⟩ := info_parts info8
  subst hR
  go_enter Try.func35, Try.ntmps35
  go_wp2_with (first | (at_make; refine wpList_make_own _ rfl _ _ 29 rfl w.heap.size 5 i0 (.int .u8 0) 1 Try.underlying29 hi hz0 hz1 .i64 .i64 _ (l.length + room) rfl rfl (by omega) ?_ ?_ (Nat.le_refl _) ?_))
  · rw [hz2]; omega
  · unfold maxLen; omega
  intro w1 hown hg
  have hb1 : Below w.heap.size w w1 := (Below.refl _ _).grown hg (Nat.le_refl _) (by intro k hk; cases hk)
  have hsrc : Src w1 (.slice ao l.length c) l := Src.below ⟨ao, c, rfl, hc, hm, hs⟩ hb1
  go_wp2_with (first | (at_builtin; refine wpList_join _ rfl _ _ rfl w.heap.size _ [] l hown rfl _ hsrc rfl ?_ ?_ ?_))
  · simp; omega
  · exact hb1.size
  intro v w2 hown2 hg2 hnn
  have hb2 : Below w.heap.size w w2 := hb1.grown hg2 hb1.size (fun k hk => (hown.lt k hk).1)
  clear hown hg hg2 hsrc hb1
  go_wp2
  go_ret
  exact ⟨_, rfl, by simpa [join] using hown2, hb2, fun h => by have := hnn h; simp at this⟩

set_option maxRecDepth 100000 in
set_option maxHeartbeats 1000000 in
theorem lay_any (B : Nat) (v : Value) (l : List UInt8) (N : Nat) (w : World) (hown : Own w B v l) (hB : B ≤ w.heap.size) (hN : N < 18446744073709551616) (hl : l.length < 1000000000000) :
    Calls Try.prog 34 #[v, .int .u64 N] w fun e w' => ∃ v', e = .returned v' ∧ Own w' B v' (join l (enc N)) ∧ Below B w w' := by
  go_enter Try.func34, Try.ntmps34
  go_wp2
  go_loopw [0, 1] (fun b n wr => ∃ (m f : Nat) (pre : List UInt8), n = .int .u64 m ∧ Own wr B b (l ++ pre) ∧ pre ++ encF (f + 1) m = enc N ∧ m < 128 ^ (f + 1) ∧ m < 18446744073709551616 ∧ pre.length + f ≤ 9 ∧ Below B w wr)
    (fun _ n _ => (intOf n).toNat)
  case atStart => exact ⟨N, 9, [], rfl, by simpa using hown, rfl, by omega, hN, by simp, Below.refl _ _⟩
  case round =>
    obtain ⟨m, f, pre, rfl, hown1, hpre, hlt, hm, hf, hb⟩ := hrel
    have hsz := hb.size
    by_cases h : 128 ≤ m
    · have HP : Hid (pre ++ encF (f + 1) m = enc N) := hpre
      have hlp : (l ++ pre).length < 1099511627776 := by simp; omega
      have HL : Hid (m < 128 ^ (f + 1)) := hlt
      clear hpre hlt
      go_wp2_with (first | (at_builtin; refine wpList_push _ rfl _ _ rfl B _ (l ++ pre) (moreB m) _ ?_ hown1 rfl rfl hlp ?_ ?_))
      · exact u8_more m
      · omega
      intro v1 w1 hown2 hb2 _
      have hb3 := hb.trans hb2
      clear hown1 hb2 hb hlp
      go_wp2
      go_roundw
      case rel =>
        obtain ⟨f, rfl⟩ : ∃ g, f = g + 1 := by
          cases f with
          | zero => have := HL.out; simp at this; omega
          | succ g => exact ⟨g, rfl⟩
        refine ⟨m / 128, f, pre ++ [UInt8.ofNat (m % 128 + 128)], by go_num, by rw [← List.append_assoc]; exact hown2, ?_, ?_, by omega, by simp; omega, hb3⟩
        · have := HP.out
          rw [encF_great h] at this
          rw [List.append_assoc]; exact this
        · have := HL.out
          rw [Nat.pow_succ] at this
          omega
      case measure => simp [intOf]; omega
    · have hlp : (l ++ pre).length < 1099511627776 := by simp; omega
      have HP : Hid (pre ++ encF (f + 1) m = enc N) := hpre
      clear hpre hlt
      go_wp2_with (first | (at_builtin; refine wpList_push _ rfl _ _ rfl B _ (l ++ pre) (lastB m) _ ?_ hown1 rfl rfl hlp ?_ ?_))
      · rw [lastB, UInt8.toNat_ofNat']; omega
      · omega
      intro v1 w1 hown2 hb2 _
      have hb3 := hb.trans hb2
      clear hown1 hb2 hb hlp
      go_wp2
      go_ret
      refine ⟨_, rfl, ?_, hb3⟩
      rw [join, ← HP.out, encF_small (by omega), ← List.append_assoc]
      exact hown2
end Go.Proofs.Ytefmeeffkjendaa
