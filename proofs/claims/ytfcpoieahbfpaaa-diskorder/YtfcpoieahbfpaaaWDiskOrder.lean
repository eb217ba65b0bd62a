/- DiskOrder: the walk of the law's Go text. -/
import Derived.Test.YtfcpoieahbfpaaaDisk8
import Derived.Test.YtfcpoieahbfpaaaSrcSeg
namespace Go.Proofs.Ytfcpoieahbfpaaa
open Go.ChangeShapes Go.WideShapes Go.ChangeAt Go.RowKit

theorem nSec2 : nSec 2 = 2 := by decide
theorem pad_take {l : List UInt8} {n : Nat} (h : n = l.length) : (pad l).take n = l := by subst h; unfold pad; exact List.take_left

set_option maxHeartbeats 4000000 in
theorem order_main (aa ab ac : Option Addr) (na ca nb cb nc cc : Nat) (la lb lc : List UInt8) (x y : Bool) (w : World) (ha : Src w (.slice aa na ca) la) (hb : Src w (.slice ab nb cb) lb) (hc : Src w (.slice ac nc cc) lc) (h1 : na ≤ 512) (h2 : nb ≤ 512) (h3 : nc ≤ 512) (l1 : na = la.length) (l2 : nb = lb.length) (l3 : nc = lc.length) :
    Calls Try.prog 8 #[.slice aa na ca, .slice ab nb cb, .slice ac nc cc, .bool x, .bool y] w fun e w' => e = .returned (.bool true) ∧ Below w.heap.size w w' := by
  have HA : Hid (Src w (.slice aa na ca) la) := ha
  have HB : Hid (Src w (.slice ab nb cb) lb) := hb
  have HC : Hid (Src w (.slice ac nc cc) lc) := hc
  have q1 : decide (512 < (na : Int)) = false := decide_eq_false (by omega)
  have q2 : decide (512 < (nb : Int)) = false := decide_eq_false (by omega)
  have q3 : decide (512 < (nc : Int)) = false := decide_eq_false (by omega)
  have m1 : la.length ≤ na := by omega
  have m2 : lb.length ≤ nb := by omega
  have m3 : lc.length ≤ nc := by omega
  have L1 : Hid (na = la.length) := l1
  have L2 : Hid (nb = lb.length) := l2
  have L3 : Hid (nc = lc.length) := l3
  have k1 : na ≤ la.length := by omega
  have k2 : nb ≤ lb.length := by omega
  have k3 : nc ≤ lc.length := by omega
  clear ha hb hc l1 l2 l3
  cases x <;> cases y
  · go_enter Try.func8, Try.ntmps8
    go_wp2_with fail
    refine (head4_any _).mono ?_
    rintro e w1 ⟨rfl, hb1⟩
    have HB1 : Hid (Below w.heap.size w w1) := hb1
    clear hb1
    go_wp2_with fail
    refine (new_new 2 2 nSec2 w w.heap.size w1 HB1.out (Nat.le_refl _)).mono ?_
    rintro e w2 ⟨g, f, rfl, hN2, -, -⟩
    have HN2 : Hid (NewAt w w.heap.size w2 g f _) := hN2
    clear hN2
    go_wp2_with fail
    refine (write_new 1 aa na ca la HN2.out (by simp) (HA.out.below HN2.out.bel) (by omega) (by omega) (by simp)).mono ?_
    rintro e w3 ⟨rfl, f3, hN3, -⟩
    have HN3 : Hid (NewAt w w.heap.size w3 g f3 _) := hN3
    clear hN3 HN2
    go_wp2_with fail
    refine (sync_new HN3.out (by omega)).mono ?_
    rintro e w4 ⟨rfl, hN4, -⟩
    have HN4 : Hid (NewAt w w.heap.size w4 g f3 _) := hN4
    clear hN4 HN3
    go_wp2_with fail
    refine (write_new 1 ab nb cb lb HN4.out (by simp) (HB.out.below HN4.out.bel) (by omega) (by omega) (by simp)).mono ?_
    rintro e w5 ⟨rfl, f5, hN5, -⟩
    have HN5 : Hid (NewAt w w.heap.size w5 g f5 _) := hN5
    clear hN5 HN4
    go_wp2_with fail
    refine (write_new 1 ac nc cc lc HN5.out (by simp) (HC.out.below HN5.out.bel) (by omega) (by omega) (by simp)).mono ?_
    rintro e w6 ⟨rfl, f6, hN6, -⟩
    have HN6 : Hid (NewAt w w.heap.size w6 g f6 _) := hN6
    clear hN6 HN5
    go_wp2_with fail
    refine (waits_new HN6.out 2 (by simp)).mono ?_
    rintro e w' ⟨rfl, hw⟩; rw [hw]; clear hw w'
    go_wp2_with fail
    have hbe : Below w6.heap.size w6 (w6.alloc (.cells ([false, false].map Value.bool).toArray 4)) := (Below.refl _ _).alloc (Nat.le_refl _) _
    refine (on_new (some ⟨w6.heap.size, 0, none⟩) 2 2 [false, false] (-1) (HN6.out.below hbe) (Bools.new w6 [false, false]) (fun ad e => by cases e; intro e; have := HN6.out.at_.hasLt _ e; simp at this) (by unfold maxLen; omega) [(zeros, false), (pad la, false)] (by simp [staysTo])).mono ?_
    rintro e w7 ⟨rfl, hN7, -⟩
    have HN7 : Hid (NewAt w w.heap.size w7 g f6 _) := hN7
    clear hN7 HN6 hbe
    go_wp2_with fail
    refine (read_new 1 HN7.out (pad la) rfl).mono ?_
    rintro e w8 ⟨rfl, hN8, hB8, -, -, -⟩
    have HN8 : Hid (NewAt w w.heap.size w8 g f6 _) := hN8
    have HB8 : Hid (Blk w8 w7.heap.size (bv (pad la)).toArray 5) := hB8
    clear hN8 hB8 HN7
    have hpl : (pad la).length = 512 := pad_length (by omega)
    have i1 := (Blk.src (w := w8.drew) (k := na) (c := 512) HB8.out.drew (by omega) (by omega) (by unfold maxLen; omega)).strE
    have i2 := (HA.out.below HN8.out.bel.drew).strE
    have htk : (pad la).take na = la := pad_take (by omega)
    rw [htk] at i1
    clear htk hpl
    go_wp2_with fail
    refine wp_region_ext (by kernel_rfl) ?_
    haveI n1 := cls_ext w8.drew
    refine wpAnyH_seg (by kernel_rfl) (fun _ _ _ h => h) [0, 1, 2, 3, 4, 5, 6, 7, 8, 9, 10, 11, 12, 13, 14, 15, 16] 0 _ _ _ (Ext.refl _) (by kernel_rfl) ?_
    simp only [opsAt, List.getElem?_toArray, List.getElem?_cons_zero, List.getElem?_cons_succ, List.cons_append, List.nil_append]
    repeat (go_big_quiet_step (fail))
    refine wpQuiet_nil ?_
    refine wpAnyH_done (by kernel_rfl) (NoPanic.normal ?_) 0
    clear n1 i1 i2
    have HNd : Hid (NewAt w w.heap.size w8.drew g f6 _) := HN8.out.below (Below.refl _ _).drew
    by_cases hz : 512 = na
    · have hz2 : decide ((0 : Int) < 0) = false := by decide
      go_wp2_with fail
      go_loop [96] (fun vi => vi = .int .i64 0) (fun _ => 0)
      case atStart => rfl
      case round =>
        subst hrel
        go_wp2_with fail
        refine (waits_new HNd.out 0 (by simp)).mono ?_
        rintro e w' ⟨rfl, hw⟩; rw [hw]; clear hw w'
        go_wp2
        go_ret
        exact ⟨rfl, HNd.out.bel⟩
    · go_wp2_with fail
      go_loop [96] (fun vi => ∃ k : Nat, vi = .int .i64 (k : Int) ∧ k ≤ 512 - na) (fun vi => 512 - na - (intOf vi).toNat)
      case atStart => exact ⟨0, rfl, Nat.zero_le _⟩
      case round =>
        obtain ⟨k, rfl, hk⟩ := hrel
        by_cases hlt : k < 512 - na
        · have hc1 : w8.drew.cell? ⟨w7.heap.size, na + k, none⟩ = some (.int .u8 0) := (HB8.out.cell _).trans (bv_at (pad_out (by omega) (by omega)))
          go_wp2_with fail
          go_round
          case rel => exact ⟨k + 1, by go_num, by omega⟩
          case measure => simp [intOf]; omega
        · go_wp2_with fail
          refine (waits_new HNd.out 0 (by simp)).mono ?_
          rintro e w' ⟨rfl, hw⟩; rw [hw]; clear hw w'
          go_wp2
          go_ret
          exact ⟨rfl, HNd.out.bel⟩
  · go_enter Try.func8, Try.ntmps8
    go_wp2_with fail
    refine (head4_any _).mono ?_
    rintro e w1 ⟨rfl, hb1⟩
    have HB1 : Hid (Below w.heap.size w w1) := hb1
    clear hb1
    go_wp2_with fail
    refine (new_new 2 2 nSec2 w w.heap.size w1 HB1.out (Nat.le_refl _)).mono ?_
    rintro e w2 ⟨g, f, rfl, hN2, -, -⟩
    have HN2 : Hid (NewAt w w.heap.size w2 g f _) := hN2
    clear hN2
    go_wp2_with fail
    refine (write_new 1 aa na ca la HN2.out (by simp) (HA.out.below HN2.out.bel) (by omega) (by omega) (by simp)).mono ?_
    rintro e w3 ⟨rfl, f3, hN3, -⟩
    have HN3 : Hid (NewAt w w.heap.size w3 g f3 _) := hN3
    clear hN3 HN2
    go_wp2_with fail
    refine (sync_new HN3.out (by omega)).mono ?_
    rintro e w4 ⟨rfl, hN4, -⟩
    have HN4 : Hid (NewAt w w.heap.size w4 g f3 _) := hN4
    clear hN4 HN3
    go_wp2_with fail
    refine (write_new 1 ab nb cb lb HN4.out (by simp) (HB.out.below HN4.out.bel) (by omega) (by omega) (by simp)).mono ?_
    rintro e w5 ⟨rfl, f5, hN5, -⟩
    have HN5 : Hid (NewAt w w.heap.size w5 g f5 _) := hN5
    clear hN5 HN4
    go_wp2_with fail
    refine (write_new 1 ac nc cc lc HN5.out (by simp) (HC.out.below HN5.out.bel) (by omega) (by omega) (by simp)).mono ?_
    rintro e w6 ⟨rfl, f6, hN6, -⟩
    have HN6 : Hid (NewAt w w.heap.size w6 g f6 _) := hN6
    clear hN6 HN5
    go_wp2_with fail
    refine (waits_new HN6.out 2 (by simp)).mono ?_
    rintro e w' ⟨rfl, hw⟩; rw [hw]; clear hw w'
    go_wp2_with fail
    have hbe : Below w6.heap.size w6 (w6.alloc (.cells ([false, true].map Value.bool).toArray 4)) := (Below.refl _ _).alloc (Nat.le_refl _) _
    refine (on_new (some ⟨w6.heap.size, 0, none⟩) 2 2 [false, true] (-1) (HN6.out.below hbe) (Bools.new w6 [false, true]) (fun ad e => by cases e; intro e; have := HN6.out.at_.hasLt _ e; simp at this) (by unfold maxLen; omega) [(zeros, false), (pad lc, false)] (by simp [staysTo])).mono ?_
    rintro e w7 ⟨rfl, hN7, -⟩
    have HN7 : Hid (NewAt w w.heap.size w7 g f6 _) := hN7
    clear hN7 HN6 hbe
    go_wp2_with fail
    refine (read_new 1 HN7.out (pad lc) rfl).mono ?_
    rintro e w8 ⟨rfl, hN8, hB8, -, -, -⟩
    have HN8 : Hid (NewAt w w.heap.size w8 g f6 _) := hN8
    have HB8 : Hid (Blk w8 w7.heap.size (bv (pad lc)).toArray 5) := hB8
    clear hN8 hB8 HN7
    have hpl : (pad lc).length = 512 := pad_length (by omega)
    have i1 := (Blk.src (w := w8.drew) (k := nc) (c := 512) HB8.out.drew (by omega) (by omega) (by unfold maxLen; omega)).strE
    have i2 := (HC.out.below HN8.out.bel.drew).strE
    have htk : (pad lc).take nc = lc := pad_take (by omega)
    rw [htk] at i1
    clear htk hpl
    go_wp2_with fail
    refine wp_region_ext (by kernel_rfl) ?_
    haveI n1 := cls_ext w8.drew
    refine wpAnyH_seg (by kernel_rfl) (fun _ _ _ h => h) [0, 1, 2, 3, 4, 5, 6, 7, 8, 9, 10, 11, 12, 13, 14, 15, 16] 0 _ _ _ (Ext.refl _) (by kernel_rfl) ?_
    simp only [opsAt, List.getElem?_toArray, List.getElem?_cons_zero, List.getElem?_cons_succ, List.cons_append, List.nil_append]
    repeat (go_big_quiet_step (fail))
    refine wpQuiet_nil ?_
    refine wpAnyH_done (by kernel_rfl) (NoPanic.normal ?_) 0
    clear n1 i1 i2
    have HNd : Hid (NewAt w w.heap.size w8.drew g f6 _) := HN8.out.below (Below.refl _ _).drew
    by_cases hz : 512 = nc
    · have hz2 : decide ((0 : Int) < 0) = false := by decide
      go_wp2_with fail
      go_loop [96] (fun vi => vi = .int .i64 0) (fun _ => 0)
      case atStart => rfl
      case round =>
        subst hrel
        go_wp2_with fail
        refine (waits_new HNd.out 0 (by simp)).mono ?_
        rintro e w' ⟨rfl, hw⟩; rw [hw]; clear hw w'
        go_wp2
        go_ret
        exact ⟨rfl, HNd.out.bel⟩
    · go_wp2_with fail
      go_loop [96] (fun vi => ∃ k : Nat, vi = .int .i64 (k : Int) ∧ k ≤ 512 - nc) (fun vi => 512 - nc - (intOf vi).toNat)
      case atStart => exact ⟨0, rfl, Nat.zero_le _⟩
      case round =>
        obtain ⟨k, rfl, hk⟩ := hrel
        by_cases hlt : k < 512 - nc
        · have hc1 : w8.drew.cell? ⟨w7.heap.size, nc + k, none⟩ = some (.int .u8 0) := (HB8.out.cell _).trans (bv_at (pad_out (by omega) (by omega)))
          go_wp2_with fail
          go_round
          case rel => exact ⟨k + 1, by go_num, by omega⟩
          case measure => simp [intOf]; omega
        · go_wp2_with fail
          refine (waits_new HNd.out 0 (by simp)).mono ?_
          rintro e w' ⟨rfl, hw⟩; rw [hw]; clear hw w'
          go_wp2
          go_ret
          exact ⟨rfl, HNd.out.bel⟩
  · go_enter Try.func8, Try.ntmps8
    go_wp2_with fail
    refine (head4_any _).mono ?_
    rintro e w1 ⟨rfl, hb1⟩
    have HB1 : Hid (Below w.heap.size w w1) := hb1
    clear hb1
    go_wp2_with fail
    refine (new_new 2 2 nSec2 w w.heap.size w1 HB1.out (Nat.le_refl _)).mono ?_
    rintro e w2 ⟨g, f, rfl, hN2, -, -⟩
    have HN2 : Hid (NewAt w w.heap.size w2 g f _) := hN2
    clear hN2
    go_wp2_with fail
    refine (write_new 1 aa na ca la HN2.out (by simp) (HA.out.below HN2.out.bel) (by omega) (by omega) (by simp)).mono ?_
    rintro e w3 ⟨rfl, f3, hN3, -⟩
    have HN3 : Hid (NewAt w w.heap.size w3 g f3 _) := hN3
    clear hN3 HN2
    go_wp2_with fail
    refine (sync_new HN3.out (by omega)).mono ?_
    rintro e w4 ⟨rfl, hN4, -⟩
    have HN4 : Hid (NewAt w w.heap.size w4 g f3 _) := hN4
    clear hN4 HN3
    go_wp2_with fail
    refine (write_new 1 ab nb cb lb HN4.out (by simp) (HB.out.below HN4.out.bel) (by omega) (by omega) (by simp)).mono ?_
    rintro e w5 ⟨rfl, f5, hN5, -⟩
    have HN5 : Hid (NewAt w w.heap.size w5 g f5 _) := hN5
    clear hN5 HN4
    go_wp2_with fail
    refine (write_new 1 ac nc cc lc HN5.out (by simp) (HC.out.below HN5.out.bel) (by omega) (by omega) (by simp)).mono ?_
    rintro e w6 ⟨rfl, f6, hN6, -⟩
    have HN6 : Hid (NewAt w w.heap.size w6 g f6 _) := hN6
    clear hN6 HN5
    go_wp2_with fail
    refine (waits_new HN6.out 2 (by simp)).mono ?_
    rintro e w' ⟨rfl, hw⟩; rw [hw]; clear hw w'
    go_wp2_with fail
    have hbe : Below w6.heap.size w6 (w6.alloc (.cells ([true, false].map Value.bool).toArray 4)) := (Below.refl _ _).alloc (Nat.le_refl _) _
    refine (on_new (some ⟨w6.heap.size, 0, none⟩) 2 2 [true, false] (-1) (HN6.out.below hbe) (Bools.new w6 [true, false]) (fun ad e => by cases e; intro e; have := HN6.out.at_.hasLt _ e; simp at this) (by unfold maxLen; omega) [(zeros, false), (pad lb, false)] (by simp [staysTo])).mono ?_
    rintro e w7 ⟨rfl, hN7, -⟩
    have HN7 : Hid (NewAt w w.heap.size w7 g f6 _) := hN7
    clear hN7 HN6 hbe
    go_wp2_with fail
    refine (read_new 1 HN7.out (pad lb) rfl).mono ?_
    rintro e w8 ⟨rfl, hN8, hB8, -, -, -⟩
    have HN8 : Hid (NewAt w w.heap.size w8 g f6 _) := hN8
    have HB8 : Hid (Blk w8 w7.heap.size (bv (pad lb)).toArray 5) := hB8
    clear hN8 hB8 HN7
    have hpl : (pad lb).length = 512 := pad_length (by omega)
    have i1 := (Blk.src (w := w8.drew) (k := nb) (c := 512) HB8.out.drew (by omega) (by omega) (by unfold maxLen; omega)).strE
    have i2 := (HB.out.below HN8.out.bel.drew).strE
    have htk : (pad lb).take nb = lb := pad_take (by omega)
    rw [htk] at i1
    clear htk hpl
    go_wp2_with fail
    refine wp_region_ext (by kernel_rfl) ?_
    haveI n1 := cls_ext w8.drew
    refine wpAnyH_seg (by kernel_rfl) (fun _ _ _ h => h) [0, 1, 2, 3, 4, 5, 6, 7, 8, 9, 10, 11, 12, 13, 14, 15, 16] 0 _ _ _ (Ext.refl _) (by kernel_rfl) ?_
    simp only [opsAt, List.getElem?_toArray, List.getElem?_cons_zero, List.getElem?_cons_succ, List.cons_append, List.nil_append]
    repeat (go_big_quiet_step (fail))
    refine wpQuiet_nil ?_
    refine wpAnyH_done (by kernel_rfl) (NoPanic.normal ?_) 0
    clear n1 i1 i2
    have HNd : Hid (NewAt w w.heap.size w8.drew g f6 _) := HN8.out.below (Below.refl _ _).drew
    by_cases hz : 512 = nb
    · have hz2 : decide ((0 : Int) < 0) = false := by decide
      go_wp2_with fail
      go_loop [96] (fun vi => vi = .int .i64 0) (fun _ => 0)
      case atStart => rfl
      case round =>
        subst hrel
        go_wp2_with fail
        refine (waits_new HNd.out 0 (by simp)).mono ?_
        rintro e w' ⟨rfl, hw⟩; rw [hw]; clear hw w'
        go_wp2
        go_ret
        exact ⟨rfl, HNd.out.bel⟩
    · go_wp2_with fail
      go_loop [96] (fun vi => ∃ k : Nat, vi = .int .i64 (k : Int) ∧ k ≤ 512 - nb) (fun vi => 512 - nb - (intOf vi).toNat)
      case atStart => exact ⟨0, rfl, Nat.zero_le _⟩
      case round =>
        obtain ⟨k, rfl, hk⟩ := hrel
        by_cases hlt : k < 512 - nb
        · have hc1 : w8.drew.cell? ⟨w7.heap.size, nb + k, none⟩ = some (.int .u8 0) := (HB8.out.cell _).trans (bv_at (pad_out (by omega) (by omega)))
          go_wp2_with fail
          go_round
          case rel => exact ⟨k + 1, by go_num, by omega⟩
          case measure => simp [intOf]; omega
        · go_wp2_with fail
          refine (waits_new HNd.out 0 (by simp)).mono ?_
          rintro e w' ⟨rfl, hw⟩; rw [hw]; clear hw w'
          go_wp2
          go_ret
          exact ⟨rfl, HNd.out.bel⟩
  · go_enter Try.func8, Try.ntmps8
    go_wp2_with fail
    refine (head4_any _).mono ?_
    rintro e w1 ⟨rfl, hb1⟩
    have HB1 : Hid (Below w.heap.size w w1) := hb1
    clear hb1
    go_wp2_with fail
    refine (new_new 2 2 nSec2 w w.heap.size w1 HB1.out (Nat.le_refl _)).mono ?_
    rintro e w2 ⟨g, f, rfl, hN2, -, -⟩
    have HN2 : Hid (NewAt w w.heap.size w2 g f _) := hN2
    clear hN2
    go_wp2_with fail
    refine (write_new 1 aa na ca la HN2.out (by simp) (HA.out.below HN2.out.bel) (by omega) (by omega) (by simp)).mono ?_
    rintro e w3 ⟨rfl, f3, hN3, -⟩
    have HN3 : Hid (NewAt w w.heap.size w3 g f3 _) := hN3
    clear hN3 HN2
    go_wp2_with fail
    refine (sync_new HN3.out (by omega)).mono ?_
    rintro e w4 ⟨rfl, hN4, -⟩
    have HN4 : Hid (NewAt w w.heap.size w4 g f3 _) := hN4
    clear hN4 HN3
    go_wp2_with fail
    refine (write_new 1 ab nb cb lb HN4.out (by simp) (HB.out.below HN4.out.bel) (by omega) (by omega) (by simp)).mono ?_
    rintro e w5 ⟨rfl, f5, hN5, -⟩
    have HN5 : Hid (NewAt w w.heap.size w5 g f5 _) := hN5
    clear hN5 HN4
    go_wp2_with fail
    refine (write_new 1 ac nc cc lc HN5.out (by simp) (HC.out.below HN5.out.bel) (by omega) (by omega) (by simp)).mono ?_
    rintro e w6 ⟨rfl, f6, hN6, -⟩
    have HN6 : Hid (NewAt w w.heap.size w6 g f6 _) := hN6
    clear hN6 HN5
    go_wp2_with fail
    refine (waits_new HN6.out 2 (by simp)).mono ?_
    rintro e w' ⟨rfl, hw⟩; rw [hw]; clear hw w'
    go_wp2_with fail
    have hbe : Below w6.heap.size w6 (w6.alloc (.cells ([true, true].map Value.bool).toArray 4)) := (Below.refl _ _).alloc (Nat.le_refl _) _
    refine (on_new (some ⟨w6.heap.size, 0, none⟩) 2 2 [true, true] (-1) (HN6.out.below hbe) (Bools.new w6 [true, true]) (fun ad e => by cases e; intro e; have := HN6.out.at_.hasLt _ e; simp at this) (by unfold maxLen; omega) [(zeros, false), (pad lc, false)] (by simp [staysTo])).mono ?_
    rintro e w7 ⟨rfl, hN7, -⟩
    have HN7 : Hid (NewAt w w.heap.size w7 g f6 _) := hN7
    clear hN7 HN6 hbe
    go_wp2_with fail
    refine (read_new 1 HN7.out (pad lc) rfl).mono ?_
    rintro e w8 ⟨rfl, hN8, hB8, -, -, -⟩
    have HN8 : Hid (NewAt w w.heap.size w8 g f6 _) := hN8
    have HB8 : Hid (Blk w8 w7.heap.size (bv (pad lc)).toArray 5) := hB8
    clear hN8 hB8 HN7
    have hpl : (pad lc).length = 512 := pad_length (by omega)
    have i1 := (Blk.src (w := w8.drew) (k := nc) (c := 512) HB8.out.drew (by omega) (by omega) (by unfold maxLen; omega)).strE
    have i2 := (HC.out.below HN8.out.bel.drew).strE
    have htk : (pad lc).take nc = lc := pad_take (by omega)
    rw [htk] at i1
    clear htk hpl
    go_wp2_with fail
    refine wp_region_ext (by kernel_rfl) ?_
    haveI n1 := cls_ext w8.drew
    refine wpAnyH_seg (by kernel_rfl) (fun _ _ _ h => h) [0, 1, 2, 3, 4, 5, 6, 7, 8, 9, 10, 11, 12, 13, 14, 15, 16] 0 _ _ _ (Ext.refl _) (by kernel_rfl) ?_
    simp only [opsAt, List.getElem?_toArray, List.getElem?_cons_zero, List.getElem?_cons_succ, List.cons_append, List.nil_append]
    repeat (go_big_quiet_step (fail))
    refine wpQuiet_nil ?_
    refine wpAnyH_done (by kernel_rfl) (NoPanic.normal ?_) 0
    clear n1 i1 i2
    have HNd : Hid (NewAt w w.heap.size w8.drew g f6 _) := HN8.out.below (Below.refl _ _).drew
    by_cases hz : 512 = nc
    · have hz2 : decide ((0 : Int) < 0) = false := by decide
      go_wp2_with fail
      go_loop [96] (fun vi => vi = .int .i64 0) (fun _ => 0)
      case atStart => rfl
      case round =>
        subst hrel
        go_wp2_with fail
        refine (waits_new HNd.out 0 (by simp)).mono ?_
        rintro e w' ⟨rfl, hw⟩; rw [hw]; clear hw w'
        go_wp2
        go_ret
        exact ⟨rfl, HNd.out.bel⟩
    · go_wp2_with fail
      go_loop [96] (fun vi => ∃ k : Nat, vi = .int .i64 (k : Int) ∧ k ≤ 512 - nc) (fun vi => 512 - nc - (intOf vi).toNat)
      case atStart => exact ⟨0, rfl, Nat.zero_le _⟩
      case round =>
        obtain ⟨k, rfl, hk⟩ := hrel
        by_cases hlt : k < 512 - nc
        · have hc1 : w8.drew.cell? ⟨w7.heap.size, nc + k, none⟩ = some (.int .u8 0) := (HB8.out.cell _).trans (bv_at (pad_out (by omega) (by omega)))
          go_wp2_with fail
          go_round
          case rel => exact ⟨k + 1, by go_num, by omega⟩
          case measure => simp [intOf]; omega
        · go_wp2_with fail
          refine (waits_new HNd.out 0 (by simp)).mono ?_
          rintro e w' ⟨rfl, hw⟩; rw [hw]; clear hw w'
          go_wp2
          go_ret
          exact ⟨rfl, HNd.out.bel⟩

set_option maxHeartbeats 4000000 in
theorem walk_DiskOrder (aa : Option Addr) (na ca : Nat) (za : List Int) (ab : Option Addr) (nb cb : Nat) (zb : List Int) (ac : Option Addr) (nc cc : Nat) (zc : List Int) (x y : Bool) (w : World) (ha : IsRow .u8 w aa na ca za) (hb : IsRow .u8 w ab nb cb zb) (hc : IsRow .u8 w ac nc cc zc) :
    Calls Try.prog 8 #[.slice aa na ca, .slice ab nb cb, .slice ac nc cc, .bool x, .bool y] w fun e w' => e = .returned (.bool true) ∧ Below w.heap.size w w' := by
  obtain ⟨la, sa, la'⟩ := isRow_src ha
  obtain ⟨lb, sb, lb'⟩ := isRow_src hb
  obtain ⟨lc, sc, lc'⟩ := isRow_src hc
  by_cases h : na ≤ 512 ∧ nb ≤ 512 ∧ nc ≤ 512
  · exact order_main aa ab ac na ca nb cb nc cc la lb lc x y w sa sb sc h.1 h.2.1 h.2.2 la'.symm lb'.symm lc'.symm
  · clear sa sb sc la' lb' lc' ha hb hc
    rcases (show 512 < na ∨ (na ≤ 512 ∧ 512 < nb) ∨ (na ≤ 512 ∧ nb ≤ 512 ∧ 512 < nc) by omega) with h1 | ⟨h1, h2⟩ | ⟨h1, h2, h3⟩
    · have q1 : decide (512 < (na : Int)) = true := decide_eq_true (by omega)
      go_enter Try.func8, Try.ntmps8
      go_wp2_with fail
      refine (head4_any _).mono ?_
      rintro e w1 ⟨rfl, hb1⟩
      go_wp2_with fail
      go_ret
      exact ⟨rfl, hb1⟩
    · have q1 : decide (512 < (na : Int)) = false := decide_eq_false (by omega)
      have q2 : decide (512 < (nb : Int)) = true := decide_eq_true (by omega)
      go_enter Try.func8, Try.ntmps8
      go_wp2_with fail
      refine (head4_any _).mono ?_
      rintro e w1 ⟨rfl, hb1⟩
      go_wp2_with fail
      go_ret
      exact ⟨rfl, hb1⟩
    · have q1 : decide (512 < (na : Int)) = false := decide_eq_false (by omega)
      have q2 : decide (512 < (nb : Int)) = false := decide_eq_false (by omega)
      have q3 : decide (512 < (nc : Int)) = true := decide_eq_true (by omega)
      go_enter Try.func8, Try.ntmps8
      go_wp2_with fail
      refine (head4_any _).mono ?_
      rintro e w1 ⟨rfl, hb1⟩
      go_wp2_with fail
      go_ret
      exact ⟨rfl, hb1⟩
end Go.Proofs.Ytfcpoieahbfpaaa
