/- What the Go texts of a Reader's Tid and End come to, and those of a nil Reader. Own lemmas, no statement. -/
import Derived.Test.YtefmeeffkjendaaReader
namespace Go.Proofs.Ytefmeeffkjendaa
open Go.ChangeShapes Go.WideShapes Go.ChangeAt Go.RowKit

set_option maxHeartbeats 400000 in
theorem end_any (g b : Nat) (l : List UInt8) (err : Nat) (w : World) (h : Rdr w g b l err) :
    Calls Try.prog 33 #[.pointer (some ⟨g, 0, none⟩)] w fun e w' => e = .returned (.int .i64 ((if err ≠ 0 then err else if l = [] then 0 else 2 : Nat) : Int)) ∧ w' = w := by
  have hR := h
  obtain ⟨h1, h2, ao, c, h3, h4, h5, h6, h7⟩ := h
  have c0 : w.cell? ⟨g, 0, none⟩ = some (.slice ao l.length c) := by rw [cell_of_row w g 0 _ _ _ h3]; rfl
  clear h3 h6 h7
  by_cases he : err = 0
  · subst he
    rw [if_neg (by omega)]
    by_cases hl : l = []
    · subst hl
      rw [if_pos rfl]
      go_enter Try.func33, Try.ntmps33
      go_wp2_with fail
      refine (err_any g b _ 0 w hR).mono ?_
      rintro e w1 ⟨rfl, hw1⟩
      subst hw1
      clear hR
      go_wp2
      go_ret
      exact ⟨rfl, rfl⟩
    · rw [if_neg hl]
      have hp : 0 < l.length := List.length_pos_iff.2 hl
      go_enter Try.func33, Try.ntmps33
      go_wp2_with fail
      refine (err_any g b _ 0 w hR).mono ?_
      rintro e w1 ⟨rfl, hw1⟩
      subst hw1
      clear hR hl
      go_wp2
      go_ret
      exact ⟨rfl, rfl⟩
  · rw [if_pos he]
    have hn : ((err : Int) != 0) = true := by rw [bne_iff_ne]; omega
    go_enter Try.func33, Try.ntmps33
    go_wp2_with fail
    refine (err_any g b _ err w hR).mono ?_
    rintro e w1 ⟨rfl, hw1⟩
    subst hw1
    clear hR
    go_wp2
    go_ret
    exact ⟨rfl, rfl⟩

/-- The next transaction of a Reader: its number, its node, what is left, the error. -/
def rtid (l : List UInt8) (err : Nat) : (Nat × Nat) × List UInt8 × Nat :=
  if (rnum (rnum l err 1099511627776).2.1 (rnum l err 1099511627776).2.2 63).2.2 ≠ 0 then ((0, 0), (rnum (rnum l err 1099511627776).2.1 (rnum l err 1099511627776).2.2 63).2.1, (rnum (rnum l err 1099511627776).2.1 (rnum l err 1099511627776).2.2 63).2.2)
  else (((rnum l err 1099511627776).1, (rnum (rnum l err 1099511627776).2.1 (rnum l err 1099511627776).2.2 63).1), (rnum (rnum l err 1099511627776).2.1 (rnum l err 1099511627776).2.2 63).2.1, 0)

set_option maxHeartbeats 1000000 in
theorem tid_read (g b : Nat) (l : List UInt8) (err : Nat) (w : World) (h : Rdr w g b l err) :
    Calls Try.prog 31 #[.pointer (some ⟨g, 0, none⟩)] w fun e w' => e = .returned (.agg #[.int .u64 ((rtid l err).1.1 : Int), .int .i64 ((rtid l err).1.2 : Int)]) ∧ Rdr w' g b (rtid l err).2.1 (rtid l err).2.2 ∧ w.grownBy w' (some g) := by
  obtain ⟨T, HT0⟩ : ∃ T, T = rtid l err := ⟨_, rfl⟩
  rw [← HT0]
  unfold rtid at HT0
  have hf := rnum_facts (rnum l err 1099511627776).2.1 (rnum l err 1099511627776).2.2 63
  have HC : Hid (∀ W, Rdr W g b l err → Calls Try.prog 29 #[.pointer (some ⟨g, 0, none⟩), .int .u64 1099511627776] W fun e w' => e = .returned (.int .u64 ((rnum l err 1099511627776).1 : Int)) ∧ Rdr w' g b (rnum l err 1099511627776).2.1 (rnum l err 1099511627776).2.2 ∧ W.grownBy w' (some g)) := fun W hW => num_any g b l err 1099511627776 W hW
  generalize (rnum l err 1099511627776).1 = N at *
  generalize (rnum l err 1099511627776).2.1 = L at *
  generalize (rnum l err 1099511627776).2.2 = E at *
  have HC2 : Hid (∀ W, Rdr W g b L E → Calls Try.prog 29 #[.pointer (some ⟨g, 0, none⟩), .int .u64 63] W fun e w' => e = .returned (.int .u64 ((rnum L E 63).1 : Int)) ∧ Rdr w' g b (rnum L E 63).2.1 (rnum L E 63).2.2 ∧ W.grownBy w' (some g)) := fun W hW => num_any g b L E 63 W hW
  generalize (rnum L E 63).1 = N2 at *
  generalize (rnum L E 63).2.1 = L2 at *
  generalize (rnum L E 63).2.2 = E2 at *
  have HT : Hid (T = if E2 ≠ 0 then ((0, 0), L2, E2) else ((N, N2), L2, 0)) := HT0
  clear HT0
  have hgl := h.lt
  have hbw : b < w.heap.size := h.2.1
  have h0 : Rdr (w.alloc (.cells #[.int .u64 0, .int .i64 0] 24)) g b l err := h.below ((Below.refl _ _).alloc (Nat.le_refl _) _)
  have hb0 : w.grownBy (w.alloc (.cells #[.int .u64 0, .int .i64 0] 24)) (some g) := World.grownBy_alloc _ _ _
  have hblk0 : (w.alloc (.cells #[.int .u64 0, .int .i64 0] 24)).heap[w.heap.size]? = some (.cells #[.int .u64 0, .int .i64 0] 24 (0, 0)) := heap_alloc_new w _
  go_enter Try.func31, Try.ntmps31
  go_wp2_with fail
  refine (HC.out _ h0).mono ?_
  rintro e w1 ⟨rfl, hR1, hg1⟩
  have hblk1 : w1.heap[w.heap.size]? = some (.cells #[.int .u64 0, .int .i64 0] 24 (0, 0)) := by rw [hg1.block _ (by simp) (by simp; omega)]; exact hblk0
  have hsz1 := hg1.size
  clear h h0 hblk0
  go_wp2_with fail
  refine (HC2.out _ hR1).mono ?_
  rintro e w2 ⟨rfl, hR2, hg2⟩
  have hblk2 : w2.heap[w.heap.size]? = some (.cells #[.int .u64 0, .int .i64 0] 24 (0, 0)) := by rw [hg2.block _ (by simp at hsz1; omega) (by simp; omega)]; exact hblk1
  have hgA := grownBy_trans hb0 (grownBy_trans hg1 hg2)
  clear hR1 hblk1 hg1 hg2 hb0
  go_wp2_with fail
  refine (err_any g b L2 E2 _ hR2).mono ?_
  rintro e w3 ⟨rfl, hw3⟩
  subst hw3
  have c0 : w3.cell? ⟨w.heap.size, 0, none⟩ = some (.int .u64 0) := by rw [cell_of_row w3 _ 0 _ _ _ hblk2]; rfl
  have c1 : w3.cell? ⟨w.heap.size, 1, none⟩ = some (.int .i64 0) := by rw [cell_of_row w3 _ 1 _ _ _ hblk2]; rfl
  have f0 : w3.frozen? ⟨w.heap.size, 0, none⟩ = false := frozen_of_row w3 _ 0 _ _ hblk2
  have f1 : w3.frozen? ⟨w.heap.size, 1, none⟩ = false := frozen_of_row w3 _ 1 _ _ hblk2
  rcases (show E2 ≠ 0 ∨ E2 = 0 by omega) with hE | hE
  · have hEb : ((E2 : Int) != 0) = true := by rw [bne_iff_ne]; omega
    go_wp2
    obtain ⟨k1, k2⟩ := row_set2 (u0 := .int .u64 0) (u1 := .int .i64 0) hblk2
    have q0 : ((w3.setCell ⟨w.heap.size, 0, none⟩ (.int .u64 0)).setCell ⟨w.heap.size, 1, none⟩ (.int .i64 0)).cell? ⟨w.heap.size, 0, none⟩ = some (.int .u64 0) := by rw [cell_of_row _ _ 0 _ _ _ k1]; rfl
    have q1 : ((w3.setCell ⟨w.heap.size, 0, none⟩ (.int .u64 0)).setCell ⟨w.heap.size, 1, none⟩ (.int .i64 0)).cell? ⟨w.heap.size, 1, none⟩ = some (.int .i64 0) := by rw [cell_of_row _ _ 1 _ _ _ k1]; rfl
    have hT := HT.out
    rw [if_pos hE] at hT
    have hR3 := hR2.grown k2 (by omega) (by have := hR2.2.1; have := hbw; omega)
    have hgB : w.grownBy ((w3.setCell ⟨w.heap.size, 0, none⟩ (.int .u64 0)).setCell ⟨w.heap.size, 1, none⟩ (.int .i64 0)) (some g) :=
      ⟨k2.os.trans hgA.os, k2.tape.trans hgA.tape, k2.output.trans hgA.output, Nat.le_trans hgA.size k2.size, fun i hi hr => (k2.block i (Nat.lt_of_lt_of_le hi hgA.size) (by simp; omega)).trans (hgA.block i hi hr)⟩
    clear c0 c1 f0 f1 hblk2 k1 k2
    exact bodyPost_ret (v := .agg #[.int .u64 0, .int .i64 0]) (by simp [results, Try.results31, go_sem, q0, q1]) rfl ⟨(by rw [hT]; try rfl), by rw [hT]; exact hR3, hgB⟩
  · subst hE
    have hN2 := hf.2.1 rfl
    clear hf
    go_wp2
    obtain ⟨k1, k2⟩ := row_set2 (u0 := .int .u64 (N : Int)) (u1 := .int .i64 (N2 : Int)) hblk2
    have q0 : ((w3.setCell ⟨w.heap.size, 0, none⟩ (.int .u64 (N : Int))).setCell ⟨w.heap.size, 1, none⟩ (.int .i64 (N2 : Int))).cell? ⟨w.heap.size, 0, none⟩ = some (.int .u64 (N : Int)) := by rw [cell_of_row _ _ 0 _ _ _ k1]; rfl
    have q1 : ((w3.setCell ⟨w.heap.size, 0, none⟩ (.int .u64 (N : Int))).setCell ⟨w.heap.size, 1, none⟩ (.int .i64 (N2 : Int))).cell? ⟨w.heap.size, 1, none⟩ = some (.int .i64 (N2 : Int)) := by rw [cell_of_row _ _ 1 _ _ _ k1]; rfl
    have hT := HT.out
    rw [if_neg (by omega)] at hT
    have hR3 := hR2.grown k2 (by omega) (by have := hR2.2.1; have := hbw; omega)
    have hgB : w.grownBy ((w3.setCell ⟨w.heap.size, 0, none⟩ (.int .u64 (N : Int))).setCell ⟨w.heap.size, 1, none⟩ (.int .i64 (N2 : Int))) (some g) :=
      ⟨k2.os.trans hgA.os, k2.tape.trans hgA.tape, k2.output.trans hgA.output, Nat.le_trans hgA.size k2.size, fun i hi hr => (k2.block i (Nat.lt_of_lt_of_le hi hgA.size) (by simp; omega)).trans (hgA.block i hi hr)⟩
    clear c0 c1 f0 f1 hblk2 k1 k2
    exact bodyPost_ret (v := .agg #[.int .u64 (N : Int), .int .i64 (N2 : Int)]) (by simp [results, Try.results31, go_sem, q0, q1]) rfl ⟨(by rw [hT]; try rfl), by rw [hT]; exact hR3, hgB⟩
end Go.Proofs.Ytefmeeffkjendaa
