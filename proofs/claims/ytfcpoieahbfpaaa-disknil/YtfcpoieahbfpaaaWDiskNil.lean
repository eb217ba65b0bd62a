/- DiskNil: the walk of the law's Go text. -/
import Derived.Test.YtfcpoieahbfpaaaDisk8
namespace Go.Proofs.Ytfcpoieahbfpaaa
open Go.ChangeShapes Go.WideShapes Go.ChangeAt Go.RowKit

theorem len_new {w0 w : World} {B g : Nat} {f : Foot} {st : DSt} (h : NewAt w0 B w g f st) (n : Nat) (hn : st.now.length = n) : Calls Try.prog 21 #[dptr g] w fun e w' => e = .returned (.int .i64 (n : Int)) ∧ w' = w := by
  have hp := h.ptr
  subst hp
  rw [← hn]
  exact len_any f st w h.at_

theorem nSecBig : nSec 131072 = 65536 := by decide
theorem nSec00 : nSec 0 = 0 := by decide
theorem nSec100 : nSec 100 = 100 := by decide

set_option maxHeartbeats 4000000 in
theorem walk_DiskNil (i : Int) (ao : Option Addr) (n c : Nat) (zs : List Int) (w : World) (_hw : (Lit.int .i64 i).wf = true) (hr : IsRow .u8 w ao n c zs) :
    Calls Try.prog 6 #[.int .i64 i, .slice ao n c] w fun e w' => e = .returned (.bool true) ∧ Below w.heap.size w w' := by
  have hn : n ≤ maxLen := by
    rcases hr with ⟨_, rfl, _⟩ | ⟨x, _, h1, h2, _⟩
    · exact Nat.zero_le _
    · omega
  clear hr
  unfold maxLen at hn
  by_cases h6 : n ≤ 600
  · have hd : decide (600 < (n : Int)) = false := decide_eq_false (by omega)
    go_enter Try.func6, Try.ntmps6
    go_wp2_with fail
    refine (head4_any _).mono ?_
    rintro e w1 ⟨rfl, hb1⟩
    have HB1 : Hid (Below w.heap.size w w1) := hb1
    clear hb1
    go_wp2_with fail
    refine (fuse_nil _ _).mono ?_
    rintro e w' ⟨rfl, hw⟩; rw [hw]; clear hw w'
    go_wp2_with fail
    refine (off_nil _).mono ?_
    rintro e w' ⟨rfl, hw⟩; rw [hw]; clear hw w'
    go_wp2_with fail
    refine (on_nil _ _ _ _ _).mono ?_
    rintro e w' ⟨rfl, hw⟩; rw [hw]; clear hw w'
    go_wp2_with fail
    refine (read_nil _ _).mono ?_
    rintro e w' ⟨rfl, hw⟩; rw [hw]; clear hw w'
    go_wp2_with fail
    refine (write_nil _ _ _ _ _).mono ?_
    rintro e w' ⟨rfl, hw⟩; rw [hw]; clear hw w'
    go_wp2_with fail
    refine (sync_nil _).mono ?_
    rintro e w' ⟨rfl, hw⟩; rw [hw]; clear hw w'
    go_wp2_with fail
    refine (len_nil _).mono ?_
    rintro e w' ⟨rfl, hw⟩; rw [hw]; clear hw w'
    go_wp2_with fail
    refine (down_nil _).mono ?_
    rintro e w' ⟨rfl, hw⟩; rw [hw]; clear hw w'
    go_wp2_with fail
    refine (steps_nil _).mono ?_
    rintro e w' ⟨rfl, hw⟩; rw [hw]; clear hw w'
    go_wp2_with fail
    refine (waits_nil _).mono ?_
    rintro e w' ⟨rfl, hw⟩; rw [hw]; clear hw w'
    rcases (show i < 0 ∨ i = 0 ∨ (0 < i ∧ i ≤ 100) ∨ 100 < i by omega) with hi | hi | ⟨hi, hi'⟩ | hi
    · have q1 : i ≤ 100 := by omega
      have q2 : ¬ 0 ≤ i := by omega
      have HQ : Hid (nSec i = 0) := by show nSec i = 0; unfold nSec; rw [if_pos hi]
      go_wp2_with fail
      refine (new_new i 0 HQ.out w w.heap.size w1 HB1.out (Nat.le_refl _)).mono ?_
      rintro e w2 ⟨g, f, rfl, hN2, -, -⟩
      have HN2 : Hid (NewAt w w.heap.size w2 g f _) := hN2
      clear hN2
      go_wp2_with fail
      refine (len_new HN2.out 0 (by simp)).mono ?_
      rintro e w' ⟨rfl, hw⟩; rw [hw]; clear hw w'
      go_wp2_with fail
      refine (new_new 131072 65536 nSecBig w w.heap.size w2 HN2.out.bel (Nat.le_refl _)).mono ?_
      rintro e w3 ⟨g3, f3, rfl, hN3, -, -⟩
      have HN3 : Hid (NewAt w w.heap.size w3 g3 f3 _) := hN3
      clear hN3
      go_wp2_with fail
      refine (len_new HN3.out 65536 List.length_replicate).mono ?_
      rintro e w' ⟨rfl, hw⟩; rw [hw]; clear hw w'
      go_wp2
      go_ret
      exact ⟨rfl, HN3.out.bel⟩
    · subst hi
      go_wp2_with fail
      refine (new_new 0 0 nSec00 w w.heap.size w1 HB1.out (Nat.le_refl _)).mono ?_
      rintro e w2 ⟨g, f, rfl, hN2, -, -⟩
      have HN2 : Hid (NewAt w w.heap.size w2 g f _) := hN2
      clear hN2
      go_wp2_with fail
      refine (len_new HN2.out 0 (by simp)).mono ?_
      rintro e w' ⟨rfl, hw⟩; rw [hw]; clear hw w'
      go_wp2_with fail
      refine (new_new 131072 65536 nSecBig w w.heap.size w2 HN2.out.bel (Nat.le_refl _)).mono ?_
      rintro e w3 ⟨g3, f3, rfl, hN3, -, -⟩
      have HN3 : Hid (NewAt w w.heap.size w3 g3 f3 _) := hN3
      clear hN3
      go_wp2_with fail
      refine (len_new HN3.out 65536 List.length_replicate).mono ?_
      rintro e w' ⟨rfl, hw⟩; rw [hw]; clear hw w'
      go_wp2
      go_ret
      exact ⟨rfl, HN3.out.bel⟩
    · obtain ⟨q, rfl⟩ := Int.eq_ofNat_of_zero_le (Int.le_of_lt hi)
      have q3 : 0 < q := by omega
      have q2 : ¬ (q : Int) < 0 := by omega
      have HQ : Hid (nSec (q : Int) = q) := by show nSec (q : Int) = q; unfold nSec; rw [if_neg (by omega), if_neg (by omega)]; omega
      go_wp2_with fail
      refine (new_new (q : Int) q HQ.out w w.heap.size w1 HB1.out (Nat.le_refl _)).mono ?_
      rintro e w2 ⟨g, f, rfl, hN2, -, -⟩
      have HN2 : Hid (NewAt w w.heap.size w2 g f _) := hN2
      clear hN2
      go_wp2_with fail
      refine (len_new HN2.out q (by simp)).mono ?_
      rintro e w' ⟨rfl, hw⟩; rw [hw]; clear hw w'
      go_wp2_with fail
      refine (new_new 131072 65536 nSecBig w w.heap.size w2 HN2.out.bel (Nat.le_refl _)).mono ?_
      rintro e w3 ⟨g3, f3, rfl, hN3, -, -⟩
      have HN3 : Hid (NewAt w w.heap.size w3 g3 f3 _) := hN3
      clear hN3
      go_wp2_with fail
      refine (len_new HN3.out 65536 List.length_replicate).mono ?_
      rintro e w' ⟨rfl, hw⟩; rw [hw]; clear hw w'
      go_wp2
      go_ret
      exact ⟨rfl, HN3.out.bel⟩
    · have q1 : ¬ i ≤ 100 := by omega
      go_wp2_with fail
      refine (new_new 100 100 nSec100 w w.heap.size w1 HB1.out (Nat.le_refl _)).mono ?_
      rintro e w2 ⟨g, f, rfl, hN2, -, -⟩
      have HN2 : Hid (NewAt w w.heap.size w2 g f _) := hN2
      clear hN2
      go_wp2_with fail
      refine (len_new HN2.out 100 (by simp)).mono ?_
      rintro e w' ⟨rfl, hw⟩; rw [hw]; clear hw w'
      go_wp2_with fail
      refine (new_new 131072 65536 nSecBig w w.heap.size w2 HN2.out.bel (Nat.le_refl _)).mono ?_
      rintro e w3 ⟨g3, f3, rfl, hN3, -, -⟩
      have HN3 : Hid (NewAt w w.heap.size w3 g3 f3 _) := hN3
      clear hN3
      go_wp2_with fail
      refine (len_new HN3.out 65536 List.length_replicate).mono ?_
      rintro e w' ⟨rfl, hw⟩; rw [hw]; clear hw w'
      go_wp2
      go_ret
      exact ⟨rfl, HN3.out.bel⟩
  · have hd : decide (600 < (n : Int)) = true := decide_eq_true (by omega)
    go_enter Try.func6, Try.ntmps6
    go_wp2_with fail
    refine (head4_any _).mono ?_
    rintro e w1 ⟨rfl, hb1⟩
    go_wp2_with fail
    go_ret
    exact ⟨rfl, hb1⟩
end Go.Proofs.Ytfcpoieahbfpaaa
