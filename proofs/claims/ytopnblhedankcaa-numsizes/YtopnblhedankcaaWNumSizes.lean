/- NumSizes: the walk of the law's Go text. -/
import Derived.Test.YtopnblhedankcaaPut
namespace Go.Proofs.Ytopnblhedankcaa
open Go.ChangeShapes Go.WideShapes Go.ChangeAt Go.RowKit

theorem encF_mono (f : Nat) : ∀ m n : Nat, m ≤ n → (encF f m).length ≤ (encF f n).length := by
  induction f with
  | zero => intro m n _; simp [encF]
  | succ f ih =>
    intro m n h
    by_cases hm : m < 128
    · rw [encF_small hm]
      by_cases hn : n < 128
      · rw [encF_small hn]; simp
      · rw [encF_great (by omega)]; simp
    · rw [encF_great (by omega), encF_great (show 128 ≤ n by omega)]
      have := ih (m / 128) (n / 128) (Nat.div_le_div_right h)
      simpa using this

set_option maxHeartbeats 1000000 in
theorem walk_NumSizes (a b : Int) (w : World) (wa : (Lit.int .u64 a).wf = true) (wb : (Lit.int .u64 b).wf = true) :
    Calls Try.prog 9 #[.int .u64 a, .int .u64 b] w fun e w' => e = .returned (.bool true) ∧ Below w.heap.size w w' := by
  have ba := bounds_u64 wa
  have bb := bounds_u64 wb
  clear wa wb
  obtain ⟨A, rfl⟩ := Int.eq_ofNat_of_zero_le ba.1
  obtain ⟨C, rfl⟩ := Int.eq_ofNat_of_zero_le bb.1
  go_enter Try.func9, Try.ntmps9
  go_wp2_with (go_at_call 15; refine (head_any _).mono ?_; rintro e w1 ⟨rfl, hb1⟩)
  go_loop [5, 6] (fun s x => ∃ m f k : Nat, x = .int .u64 m ∧ s = .int .i64 k ∧ k + (encF (f + 1) m).length = (enc A).length + 1 ∧ m < 128 ^ (f + 1) ∧ m < 18446744073709551616 ∧ k ≤ 10) (fun _ x => (intOf x).toNat)
  case atStart => exact ⟨A, 9, 1, rfl, rfl, Nat.add_comm 1 _, by omega, by omega, by omega⟩
  case round =>
    obtain ⟨m, f, k, rfl, rfl, hlen, hlt, hm, hk⟩ := hrel
    have hl := enc_length A
    by_cases h : 128 ≤ m
    · obtain ⟨f, rfl⟩ : ∃ g, f = g + 1 := by
        cases f with
        | zero => simp at hlt; omega
        | succ g => exact ⟨g, rfl⟩
      rw [encF_great h] at hlen
      rw [Nat.pow_succ] at hlt
      have hp : 1 ≤ (encF (f + 1) (m / 128)).length := by unfold encF; split <;> simp
      have HL : Hid (m < 128 ^ (f + 1) * 128) := hlt
      have HN : Hid (k + 1 + (encF (f + 1) (m / 128)).length = (enc A).length + 1) := by show _ = _; simp at hlen; omega
      have hk9 : k ≤ 9 := by simp at hlen; omega
      clear hlt hlen
      go_wp2
      go_round
      case rel => exact ⟨m / 128, f, k + 1, by go_num, by go_num, HN.out, by have := HL.out; omega, by omega, by omega⟩
      case measure => simp [intOf]; omega
    · rw [encF_small (by omega)] at hlen
      have hkA : (enc A).length = k := by simp at hlen; omega
      clear hlt hlen
      have HKA : Hid ((enc A).length = k) := hkA
      clear hkA
      go_wp2_with fail
      refine (put_any none 0 0 [] A w1 (Src.nil w1) (by omega) (by simp)).mono ?_
      rintro e w2 ⟨g, cap, rfl, hown, hb2⟩
      clear hown
      go_wp2_with fail
      refine (put_any none 0 0 [] C w2 (Src.nil w2) (by omega) (by simp)).mono ?_
      rintro e w3 ⟨g3, cap3, rfl, hown, hb3⟩
      clear hown
      have hb4 : Below w.heap.size w w3 := hb1.trans ((hb2.mono hb1.size).trans (hb3.mono (Nat.le_trans hb1.size hb2.size)))
      clear hb1 hb2 hb3
      have hj : (join [] (enc A)).length = k := by rw [join_length, HKA.out]; simp
      have hjC : (join [] (enc C)).length = (enc C).length := by rw [join_length]; simp
      rw [hj, hjC]
      have HM : A ≤ C → k ≤ (enc C).length := fun h => by have := encF_mono 10 A C h; rw [← HKA.out]; exact this
      have hCl := enc_length C
      generalize (enc C).length = K at *
      clear hj hjC
      by_cases hAC : A ≤ C
      · have hKK := HM hAC
        clear HM
        go_wp2
        go_ret
        exact ⟨rfl, hb4⟩
      · clear HM
        go_wp2
        go_ret
        exact ⟨rfl, hb4⟩
end Go.Proofs.Ytopnblhedankcaa
