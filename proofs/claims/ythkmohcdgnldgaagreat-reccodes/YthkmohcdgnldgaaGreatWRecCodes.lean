/- RecCodes: the walk of the law's Go text. -/
import Derived.Test.YthkmohcdgnldgaaGreatRecL8
import Derived.Test.YthkmohcdgnldgaaGreatRecL5
import Derived.Test.YthkmohcdgnldgaaGreatRec14
import Derived.Test.YthkmohcdgnldgaaGreatRec15
set_option linter.unusedSimpArgs false
set_option linter.unusedVariables false
namespace Go.Proofs.YthkmohcdgnldgaaGreat
open Go.ChangeShapes Go.WideShapes Go.ChangeAt Go.RowKit

set_option maxRecDepth 100000 in
set_option maxHeartbeats 8000000 in
theorem walk_RecCodes (x : RecV) (w : World) (hx : x.At w) (wx : x.Wf) : Calls Tryz.prog 3 #[.agg #[.int .i64 x.kind, .int .u64 x.num, .int .i64 x.node, .string x.key, .bool x.was, .string x.old, .int .u64 x.prev, .slice x.na x.nn x.nc, .slice x.ra x.rn x.rc, .slice x.ga x.gn x.gc, .slice x.oa x.om x.oc, .slice x.da x.dn x.dc]] w fun e w' => e = .returned (.bool true) ∧ Below w.heap.size w w' := by
  have HX : Hid (x.At w ∧ x.Wf) := ⟨hx, wx⟩
  clear hx wx
  have HB : Hid (Blk (w.alloc (.cells #[.int .i64 x.kind, .int .u64 x.num, .int .i64 x.node, .string x.key, .bool x.was, .string x.old, .int .u64 x.prev, .slice x.na x.nn x.nc, .slice x.ra x.rn x.rc, .slice x.ga x.gn x.gc, .slice x.oa x.om x.oc, .slice x.da x.dn x.dc] 31)) w.heap.size #[.int .i64 x.kind, .int .u64 x.num, .int .i64 x.node, .string x.key, .bool x.was, .string x.old, .int .u64 x.prev, .slice x.na x.nn x.nc, .slice x.ra x.rn x.rc, .slice x.ga x.gn x.gc, .slice x.oa x.om x.oc, .slice x.da x.dn x.dc] 31) := Blk.new _ _ _
  have HY : Hid (Below w.heap.size w (w.alloc (.cells #[.int .i64 x.kind, .int .u64 x.num, .int .i64 x.node, .string x.key, .bool x.was, .string x.old, .int .u64 x.prev, .slice x.na x.nn x.nc, .slice x.ra x.rn x.rc, .slice x.ga x.gn x.gc, .slice x.oa x.om x.oc, .slice x.da x.dn x.dc] 31))) := (Below.refl _ _).alloc (Nat.le_refl _) _
  go_enter Tryz.func3, Tryz.ntmps3
  go_upto_region 1 with fail
  generalize w.alloc (.cells #[.int .i64 x.kind, .int .u64 x.num, .int .i64 x.node, .string x.key, .bool x.was, .string x.old, .int .u64 x.prev, .slice x.na x.nn x.nc, .slice x.ra x.rn x.rc, .slice x.ga x.gn x.gc, .slice x.oa x.om x.oc, .slice x.da x.dn x.dc] 31) = w0 at *
  go_wp2_with fail
  refine (head11_any _).mono ?_
  rintro e w1 ⟨rfl, y⟩
  have HB' : Hid (Blk w1 w.heap.size #[.int .i64 x.kind, .int .u64 x.num, .int .i64 x.node, .string x.key, .bool x.was, .string x.old, .int .u64 x.prev, .slice x.na x.nn x.nc, .slice x.ra x.rn x.rc, .slice x.ga x.gn x.gc, .slice x.oa x.om x.oc, .slice x.da x.dn x.dc] 31) := Blk.of HB.out (y.block _ HB.out.lt)
  have HY' : Hid (Below w.heap.size w w1) := ext_trans HY.out y
  clear HB HY y
  have HB := HB'
  have HY := HY'
  clear HB' HY'
  have z0 : w1.cell? ⟨w.heap.size, 0, none⟩ = some (.int .i64 x.kind) := HB.out.cell 0
  have z1 : w1.cell? ⟨w.heap.size, 1, none⟩ = some (.int .u64 x.num) := HB.out.cell 1
  have z2 : w1.cell? ⟨w.heap.size, 2, none⟩ = some (.int .i64 x.node) := HB.out.cell 2
  have z3 : w1.cell? ⟨w.heap.size, 3, none⟩ = some (.string x.key) := HB.out.cell 3
  have z4 : w1.cell? ⟨w.heap.size, 4, none⟩ = some (.bool x.was) := HB.out.cell 4
  have z5 : w1.cell? ⟨w.heap.size, 5, none⟩ = some (.string x.old) := HB.out.cell 5
  have z6 : w1.cell? ⟨w.heap.size, 6, none⟩ = some (.int .u64 x.prev) := HB.out.cell 6
  have z7 : w1.cell? ⟨w.heap.size, 7, none⟩ = some (.slice x.na x.nn x.nc) := HB.out.cell 7
  have z8 : w1.cell? ⟨w.heap.size, 8, none⟩ = some (.slice x.ra x.rn x.rc) := HB.out.cell 8
  have z9 : w1.cell? ⟨w.heap.size, 9, none⟩ = some (.slice x.ga x.gn x.gc) := HB.out.cell 9
  have z10 : w1.cell? ⟨w.heap.size, 10, none⟩ = some (.slice x.oa x.om x.oc) := HB.out.cell 10
  have z11 : w1.cell? ⟨w.heap.size, 11, none⟩ = some (.slice x.da x.dn x.dc) := HB.out.cell 11
  go_wp2_with fail
  refine (small12_any x w1 (HX.out.1.below HY.out)).mono ?_
  rintro e w2 ⟨⟨b, rfl, hb⟩, y⟩
  have HB' : Hid (Blk w2 w.heap.size #[.int .i64 x.kind, .int .u64 x.num, .int .i64 x.node, .string x.key, .bool x.was, .string x.old, .int .u64 x.prev, .slice x.na x.nn x.nc, .slice x.ra x.rn x.rc, .slice x.ga x.gn x.gc, .slice x.oa x.om x.oc, .slice x.da x.dn x.dc] 31) := Blk.of HB.out (y.block _ HB.out.lt)
  have HY' : Hid (Below w.heap.size w w2) := ext_trans HY.out y
  clear HB HY y z0 z1 z2 z3 z4 z5 z6 z7 z8 z9 z10 z11
  have HB := HB'
  have HY := HY'
  clear HB' HY'
  have z0 : w2.cell? ⟨w.heap.size, 0, none⟩ = some (.int .i64 x.kind) := HB.out.cell 0
  have z1 : w2.cell? ⟨w.heap.size, 1, none⟩ = some (.int .u64 x.num) := HB.out.cell 1
  have z2 : w2.cell? ⟨w.heap.size, 2, none⟩ = some (.int .i64 x.node) := HB.out.cell 2
  have z3 : w2.cell? ⟨w.heap.size, 3, none⟩ = some (.string x.key) := HB.out.cell 3
  have z4 : w2.cell? ⟨w.heap.size, 4, none⟩ = some (.bool x.was) := HB.out.cell 4
  have z5 : w2.cell? ⟨w.heap.size, 5, none⟩ = some (.string x.old) := HB.out.cell 5
  have z6 : w2.cell? ⟨w.heap.size, 6, none⟩ = some (.int .u64 x.prev) := HB.out.cell 6
  have z7 : w2.cell? ⟨w.heap.size, 7, none⟩ = some (.slice x.na x.nn x.nc) := HB.out.cell 7
  have z8 : w2.cell? ⟨w.heap.size, 8, none⟩ = some (.slice x.ra x.rn x.rc) := HB.out.cell 8
  have z9 : w2.cell? ⟨w.heap.size, 9, none⟩ = some (.slice x.ga x.gn x.gc) := HB.out.cell 9
  have z10 : w2.cell? ⟨w.heap.size, 10, none⟩ = some (.slice x.oa x.om x.oc) := HB.out.cell 10
  have z11 : w2.cell? ⟨w.heap.size, 11, none⟩ = some (.slice x.da x.dn x.dc) := HB.out.cell 11
  cases b with
  | false =>
    go_wp2
    go_ret
    exact ⟨rfl, HY.out⟩
  | true =>
    have HS : Hid (x.om ≤ 20 ∧ x.dn ≤ 20) := hb rfl
    clear hb
    go_wp2_with fail
    refine (encQ_any x w2 (HX.out.1.below HY.out) HX.out.2).mono ?_
    rintro e w3 ⟨he, y⟩
    have HB' : Hid (Blk w3 w.heap.size #[.int .i64 x.kind, .int .u64 x.num, .int .i64 x.node, .string x.key, .bool x.was, .string x.old, .int .u64 x.prev, .slice x.na x.nn x.nc, .slice x.ra x.rn x.rc, .slice x.ga x.gn x.gc, .slice x.oa x.om x.oc, .slice x.da x.dn x.dc] 31) := Blk.of HB.out (y.block _ HB.out.lt)
    have HY' : Hid (Below w.heap.size w w3) := ext_trans HY.out y
    clear HB HY y z0 z1 z2 z3 z4 z5 z6 z7 z8 z9 z10 z11
    have HB := HB'
    have HY := HY'
    clear HB' HY'
    have z0 : w3.cell? ⟨w.heap.size, 0, none⟩ = some (.int .i64 x.kind) := HB.out.cell 0
    have z1 : w3.cell? ⟨w.heap.size, 1, none⟩ = some (.int .u64 x.num) := HB.out.cell 1
    have z2 : w3.cell? ⟨w.heap.size, 2, none⟩ = some (.int .i64 x.node) := HB.out.cell 2
    have z3 : w3.cell? ⟨w.heap.size, 3, none⟩ = some (.string x.key) := HB.out.cell 3
    have z4 : w3.cell? ⟨w.heap.size, 4, none⟩ = some (.bool x.was) := HB.out.cell 4
    have z5 : w3.cell? ⟨w.heap.size, 5, none⟩ = some (.string x.old) := HB.out.cell 5
    have z6 : w3.cell? ⟨w.heap.size, 6, none⟩ = some (.int .u64 x.prev) := HB.out.cell 6
    have z7 : w3.cell? ⟨w.heap.size, 7, none⟩ = some (.slice x.na x.nn x.nc) := HB.out.cell 7
    have z8 : w3.cell? ⟨w.heap.size, 8, none⟩ = some (.slice x.ra x.rn x.rc) := HB.out.cell 8
    have z9 : w3.cell? ⟨w.heap.size, 9, none⟩ = some (.slice x.ga x.gn x.gc) := HB.out.cell 9
    have z10 : w3.cell? ⟨w.heap.size, 10, none⟩ = some (.slice x.oa x.om x.oc) := HB.out.cell 10
    have z11 : w3.cell? ⟨w.heap.size, 11, none⟩ = some (.slice x.da x.dn x.dc) := HB.out.cell 11
    rcases he with ⟨hr, hlen, a1, c1, rfl, hs⟩ | ⟨er, rfl, ⟨hr, hlen, her⟩ | ⟨hr, her⟩⟩
    · have HR : Hid (rightRec x = true) := hr
      have HE : Hid (Src w3 (.slice a1 (recBytes x).length c1) (recBytes x)) := hs
      have HL : Hid ((recBytes x).length ≤ 16384) := hlen
      clear hr hs
      clear hlen
      obtain ⟨n, hn⟩ : ∃ y, y = (recBytes x).length := ⟨_, rfl⟩
      have HN : Hid (n = (recBytes x).length) := hn
      rw [← hn] at HE ⊢
      have hl2 : n ≤ 16384 := by have := HL.out; omega
      clear hn
      go_upto_region 6 with fail
      clear z0 z1 z2 z3 z4 z5 z6 z7 z8 z9 z10 z11
      refine wp_region_ext (by kernel_rfl) ?_
      haveI nA := cls_ext w3.drew
      have HB' : Hid (Blk w3.drew w.heap.size #[.int .i64 x.kind, .int .u64 x.num, .int .i64 x.node, .string x.key, .bool x.was, .string x.old, .int .u64 x.prev, .slice x.na x.nn x.nc, .slice x.ra x.rn x.rc, .slice x.ga x.gn x.gc, .slice x.oa x.om x.oc, .slice x.da x.dn x.dc] 31) := Blk.of HB.out ((Below.drew (Below.refl _ w3)).block _ HB.out.lt)
      have HY' : Hid (Below w.heap.size w w3.drew) := Below.drew HY.out
      have HB := HB'
      have HY := HY'
      clear HB' HY'
      have HW : Hid (Below w3.heap.size w3 w3.drew) := Below.drew (Below.refl _ w3)
      have z0 := cellX (W0 := w3.drew) (show w3.drew.cell? ⟨w.heap.size, 0, none⟩ = some (.int .i64 x.kind) from HB.out.cell 0)
      have z1 := cellX (W0 := w3.drew) (show w3.drew.cell? ⟨w.heap.size, 1, none⟩ = some (.int .u64 x.num) from HB.out.cell 1)
      have z2 := cellX (W0 := w3.drew) (show w3.drew.cell? ⟨w.heap.size, 2, none⟩ = some (.int .i64 x.node) from HB.out.cell 2)
      have z3 := cellX (W0 := w3.drew) (show w3.drew.cell? ⟨w.heap.size, 3, none⟩ = some (.string x.key) from HB.out.cell 3)
      have z4 := cellX (W0 := w3.drew) (show w3.drew.cell? ⟨w.heap.size, 4, none⟩ = some (.bool x.was) from HB.out.cell 4)
      have z5 := cellX (W0 := w3.drew) (show w3.drew.cell? ⟨w.heap.size, 5, none⟩ = some (.string x.old) from HB.out.cell 5)
      have z6 := cellX (W0 := w3.drew) (show w3.drew.cell? ⟨w.heap.size, 6, none⟩ = some (.int .u64 x.prev) from HB.out.cell 6)
      have z7 := cellX (W0 := w3.drew) (show w3.drew.cell? ⟨w.heap.size, 7, none⟩ = some (.slice x.na x.nn x.nc) from HB.out.cell 7)
      have z8 := cellX (W0 := w3.drew) (show w3.drew.cell? ⟨w.heap.size, 8, none⟩ = some (.slice x.ra x.rn x.rc) from HB.out.cell 8)
      have z9 := cellX (W0 := w3.drew) (show w3.drew.cell? ⟨w.heap.size, 9, none⟩ = some (.slice x.ga x.gn x.gc) from HB.out.cell 9)
      have z10 := cellX (W0 := w3.drew) (show w3.drew.cell? ⟨w.heap.size, 10, none⟩ = some (.slice x.oa x.om x.oc) from HB.out.cell 10)
      have z11 := cellX (W0 := w3.drew) (show w3.drew.cell? ⟨w.heap.size, 11, none⟩ = some (.slice x.da x.dn x.dc) from HB.out.cell 11)
      refine wpAnyH_seg (by kernel_rfl) (fun _ _ _ h => h) [0, 2] 3 _ _ _ (Ext.refl _) (by kernel_rfl) ?_
      simp only [opsAt, List.getElem?_toArray, List.getElem?_cons_zero, List.getElem?_cons_succ, List.cons_append, List.nil_append]
      repeat (go_big_quiet_step (fail))
      refine wpQuiet_nil ?_
      clear nA z0 z1 z2 z3 z4 z5 z6 z7 z8 z9 z10 z11
      refine wpAnyH_callE (i := 1) (fuel := 2) 19 rfl (by kernel_rfl) rfl (Ext.refl _) (by kernel_rfl) (f := 9) (args := #[.agg #[.int .i64 x.kind, .int .u64 x.num, .int .i64 x.node, .string x.key, .bool x.was, .string x.old, .int .u64 x.prev, .slice x.na x.nn x.nc, .slice x.ra x.rn x.rc, .slice x.ga x.gn x.gc, .slice x.oa x.om x.oc, .slice x.da x.dn x.dc]]) (by kernel_rfl) (recRight_any x w3.drew (HX.out.1.below HY.out)) ?_
      rintro e w4 ⟨rfl, y⟩
      refine ⟨_, rfl, y, ?_⟩
      have HW' : Hid (Below w3.heap.size w3 w4) := ext_trans HW.out y
      clear HW
      have HW := HW'
      clear HW'
      have HB' : Hid (Blk w4 w.heap.size #[.int .i64 x.kind, .int .u64 x.num, .int .i64 x.node, .string x.key, .bool x.was, .string x.old, .int .u64 x.prev, .slice x.na x.nn x.nc, .slice x.ra x.rn x.rc, .slice x.ga x.gn x.gc, .slice x.oa x.om x.oc, .slice x.da x.dn x.dc] 31) := Blk.of HB.out (y.block _ HB.out.lt)
      have HY' : Hid (Below w.heap.size w w4) := ext_trans HY.out y
      clear HB HY y
      have HB := HB'
      have HY := HY'
      clear HB' HY'
      simp only [Act.put, List.setIfInBounds_toArray, List.set_cons_succ, List.set_cons_zero]
      refine wpAnyH_callE (i := 3) (fuel := 1) 21 rfl (by kernel_rfl) rfl (Ext.refl _) (by kernel_rfl) (f := 10) (args := #[.agg #[.int .i64 x.kind, .int .u64 x.num, .int .i64 x.node, .string x.key, .bool x.was, .string x.old, .int .u64 x.prev, .slice x.na x.nn x.nc, .slice x.ra x.rn x.rc, .slice x.ga x.gn x.gc, .slice x.oa x.om x.oc, .slice x.da x.dn x.dc]]) (by kernel_rfl) (lawRight12_any x w4 (HX.out.1.below HY.out) HS.out.1 HS.out.2) ?_
      rintro e w5 ⟨rfl, y⟩
      refine ⟨_, rfl, y, ?_⟩
      have HW' : Hid (Below w3.heap.size w3 w5) := ext_trans HW.out y
      clear HW
      have HW := HW'
      clear HW'
      have HB' : Hid (Blk w5 w.heap.size #[.int .i64 x.kind, .int .u64 x.num, .int .i64 x.node, .string x.key, .bool x.was, .string x.old, .int .u64 x.prev, .slice x.na x.nn x.nc, .slice x.ra x.rn x.rc, .slice x.ga x.gn x.gc, .slice x.oa x.om x.oc, .slice x.da x.dn x.dc] 31) := Blk.of HB.out (y.block _ HB.out.lt)
      have HY' : Hid (Below w.heap.size w w5) := ext_trans HY.out y
      clear HB HY y
      have HB := HB'
      have HY := HY'
      clear HB' HY'
      simp only [Act.put, List.setIfInBounds_toArray, List.set_cons_succ, List.set_cons_zero]
      rw [HR.out]
      haveI nB := cls_ext w5
      refine wpAnyH_seg (by kernel_rfl) (fun _ _ _ h => h) [4] 0 _ _ _ (Ext.refl _) (by kernel_rfl) ?_
      simp only [opsAt, List.getElem?_toArray, List.getElem?_cons_zero, List.getElem?_cons_succ, List.cons_append, List.nil_append]
      repeat (go_big_quiet_step (fail))
      refine wpQuiet_nil ?_
      clear nB
      refine wpAnyH_done (by kernel_rfl) (NoPanic.normal ?_) 0
      have z0 : w5.cell? ⟨w.heap.size, 0, none⟩ = some (.int .i64 x.kind) := HB.out.cell 0
      have z1 : w5.cell? ⟨w.heap.size, 1, none⟩ = some (.int .u64 x.num) := HB.out.cell 1
      have z2 : w5.cell? ⟨w.heap.size, 2, none⟩ = some (.int .i64 x.node) := HB.out.cell 2
      have z3 : w5.cell? ⟨w.heap.size, 3, none⟩ = some (.string x.key) := HB.out.cell 3
      have z4 : w5.cell? ⟨w.heap.size, 4, none⟩ = some (.bool x.was) := HB.out.cell 4
      have z5 : w5.cell? ⟨w.heap.size, 5, none⟩ = some (.string x.old) := HB.out.cell 5
      have z6 : w5.cell? ⟨w.heap.size, 6, none⟩ = some (.int .u64 x.prev) := HB.out.cell 6
      have z7 : w5.cell? ⟨w.heap.size, 7, none⟩ = some (.slice x.na x.nn x.nc) := HB.out.cell 7
      have z8 : w5.cell? ⟨w.heap.size, 8, none⟩ = some (.slice x.ra x.rn x.rc) := HB.out.cell 8
      have z9 : w5.cell? ⟨w.heap.size, 9, none⟩ = some (.slice x.ga x.gn x.gc) := HB.out.cell 9
      have z10 : w5.cell? ⟨w.heap.size, 10, none⟩ = some (.slice x.oa x.om x.oc) := HB.out.cell 10
      have z11 : w5.cell? ⟨w.heap.size, 11, none⟩ = some (.slice x.da x.dn x.dc) := HB.out.cell 11
      go_wp2_with fail
      refine (lawRight12_any x w5 (HX.out.1.below HY.out) HS.out.1 HS.out.2).mono ?_
      rintro e w6 ⟨rfl, y⟩
      rw [HR.out]
      have HW' : Hid (Below w3.heap.size w3 w6) := ext_trans HW.out y
      clear HW
      have HW := HW'
      clear HW'
      have HB' : Hid (Blk w6 w.heap.size #[.int .i64 x.kind, .int .u64 x.num, .int .i64 x.node, .string x.key, .bool x.was, .string x.old, .int .u64 x.prev, .slice x.na x.nn x.nc, .slice x.ra x.rn x.rc, .slice x.ga x.gn x.gc, .slice x.oa x.om x.oc, .slice x.da x.dn x.dc] 31) := Blk.of HB.out (y.block _ HB.out.lt)
      have HY' : Hid (Below w.heap.size w w6) := ext_trans HY.out y
      clear HB HY y z0 z1 z2 z3 z4 z5 z6 z7 z8 z9 z10 z11
      have HB := HB'
      have HY := HY'
      clear HB' HY'
      have z0 : w6.cell? ⟨w.heap.size, 0, none⟩ = some (.int .i64 x.kind) := HB.out.cell 0
      have z1 : w6.cell? ⟨w.heap.size, 1, none⟩ = some (.int .u64 x.num) := HB.out.cell 1
      have z2 : w6.cell? ⟨w.heap.size, 2, none⟩ = some (.int .i64 x.node) := HB.out.cell 2
      have z3 : w6.cell? ⟨w.heap.size, 3, none⟩ = some (.string x.key) := HB.out.cell 3
      have z4 : w6.cell? ⟨w.heap.size, 4, none⟩ = some (.bool x.was) := HB.out.cell 4
      have z5 : w6.cell? ⟨w.heap.size, 5, none⟩ = some (.string x.old) := HB.out.cell 5
      have z6 : w6.cell? ⟨w.heap.size, 6, none⟩ = some (.int .u64 x.prev) := HB.out.cell 6
      have z7 : w6.cell? ⟨w.heap.size, 7, none⟩ = some (.slice x.na x.nn x.nc) := HB.out.cell 7
      have z8 : w6.cell? ⟨w.heap.size, 8, none⟩ = some (.slice x.ra x.rn x.rc) := HB.out.cell 8
      have z9 : w6.cell? ⟨w.heap.size, 9, none⟩ = some (.slice x.ga x.gn x.gc) := HB.out.cell 9
      have z10 : w6.cell? ⟨w.heap.size, 10, none⟩ = some (.slice x.oa x.om x.oc) := HB.out.cell 10
      have z11 : w6.cell? ⟨w.heap.size, 11, none⟩ = some (.slice x.da x.dn x.dc) := HB.out.cell 11
      go_wp2_with fail
      refine (lawBytes11_any x w6 (HX.out.1.below HY.out) HX.out.2 HR.out).mono ?_
      rintro e w7 ⟨v7, rfl, hs7, y⟩
      obtain ⟨a7, c7, hv7⟩ := hs7.form
      subst hv7
      have HW' : Hid (Below w3.heap.size w3 w7) := ext_trans HW.out y
      clear HW
      have HW := HW'
      clear HW'
      have HB' : Hid (Blk w7 w.heap.size #[.int .i64 x.kind, .int .u64 x.num, .int .i64 x.node, .string x.key, .bool x.was, .string x.old, .int .u64 x.prev, .slice x.na x.nn x.nc, .slice x.ra x.rn x.rc, .slice x.ga x.gn x.gc, .slice x.oa x.om x.oc, .slice x.da x.dn x.dc] 31) := Blk.of HB.out (y.block _ HB.out.lt)
      have HY' : Hid (Below w.heap.size w w7) := ext_trans HY.out y
      clear HB HY y z0 z1 z2 z3 z4 z5 z6 z7 z8 z9 z10 z11
      have HB := HB'
      have HY := HY'
      clear HB' HY'
      have z0 : w7.cell? ⟨w.heap.size, 0, none⟩ = some (.int .i64 x.kind) := HB.out.cell 0
      have z1 : w7.cell? ⟨w.heap.size, 1, none⟩ = some (.int .u64 x.num) := HB.out.cell 1
      have z2 : w7.cell? ⟨w.heap.size, 2, none⟩ = some (.int .i64 x.node) := HB.out.cell 2
      have z3 : w7.cell? ⟨w.heap.size, 3, none⟩ = some (.string x.key) := HB.out.cell 3
      have z4 : w7.cell? ⟨w.heap.size, 4, none⟩ = some (.bool x.was) := HB.out.cell 4
      have z5 : w7.cell? ⟨w.heap.size, 5, none⟩ = some (.string x.old) := HB.out.cell 5
      have z6 : w7.cell? ⟨w.heap.size, 6, none⟩ = some (.int .u64 x.prev) := HB.out.cell 6
      have z7 : w7.cell? ⟨w.heap.size, 7, none⟩ = some (.slice x.na x.nn x.nc) := HB.out.cell 7
      have z8 : w7.cell? ⟨w.heap.size, 8, none⟩ = some (.slice x.ra x.rn x.rc) := HB.out.cell 8
      have z9 : w7.cell? ⟨w.heap.size, 9, none⟩ = some (.slice x.ga x.gn x.gc) := HB.out.cell 9
      have z10 : w7.cell? ⟨w.heap.size, 10, none⟩ = some (.slice x.oa x.om x.oc) := HB.out.cell 10
      have z11 : w7.cell? ⟨w.heap.size, 11, none⟩ = some (.slice x.da x.dn x.dc) := HB.out.cell 11
      have HS7 : Hid (Src w7 (.slice a7 n c7) (recBytes x)) := by have h := hs7; rw [← HN.out] at h; exact h
      clear hs7
      rw [← HN.out]
      go_wp2_with fail
      refine (recDecode_any _ (recBytes x) w7 (HE.out.below HW.out) (by have := HL.out; omega)).mono ?_
      rintro e w8 hd
      obtain ⟨z, rfl, hz, hq, y⟩ := decoded hd HR.out HX.out.2 HL.out
      clear hd
      have HZ : Hid (z.At w8) := hz
      have HQ : Hid (x.q = z.q) := hq
      have HS8 : Hid (Src w8 (.slice a7 n c7) (recBytes x)) := HS7.out.below y
      clear hz hq HS7
      have HW' : Hid (Below w3.heap.size w3 w8) := ext_trans HW.out y
      clear HW
      have HW := HW'
      clear HW'
      have HB' : Hid (Blk w8 w.heap.size #[.int .i64 x.kind, .int .u64 x.num, .int .i64 x.node, .string x.key, .bool x.was, .string x.old, .int .u64 x.prev, .slice x.na x.nn x.nc, .slice x.ra x.rn x.rc, .slice x.ga x.gn x.gc, .slice x.oa x.om x.oc, .slice x.da x.dn x.dc] 31) := Blk.of HB.out (y.block _ HB.out.lt)
      have HY' : Hid (Below w.heap.size w w8) := ext_trans HY.out y
      clear HB HY y z0 z1 z2 z3 z4 z5 z6 z7 z8 z9 z10 z11
      have HB := HB'
      have HY := HY'
      clear HB' HY'
      have HE8 : Hid (Src w8 (.slice a1 n c1) (recBytes x)) := HE.out.below HW.out
      clear HE
      unfold recVal
      have HB3 : Hid (Blk (w8.alloc (.cells #[.int .i64 z.kind, .int .u64 z.num, .int .i64 z.node, .string z.key, .bool z.was, .string z.old, .int .u64 z.prev, .slice z.na z.nn z.nc, .slice z.ra z.rn z.rc, .slice z.ga z.gn z.gc, .slice z.oa z.om z.oc, .slice z.da z.dn z.dc] 31)) w8.heap.size #[.int .i64 z.kind, .int .u64 z.num, .int .i64 z.node, .string z.key, .bool z.was, .string z.old, .int .u64 z.prev, .slice z.na z.nn z.nc, .slice z.ra z.rn z.rc, .slice z.ga z.gn z.gc, .slice z.oa z.om z.oc, .slice z.da z.dn z.dc] 31) := Blk.new _ _ _
      have HY3 : Hid (Below w.heap.size w (w8.alloc (.cells #[.int .i64 z.kind, .int .u64 z.num, .int .i64 z.node, .string z.key, .bool z.was, .string z.old, .int .u64 z.prev, .slice z.na z.nn z.nc, .slice z.ra z.rn z.rc, .slice z.ga z.gn z.gc, .slice z.oa z.om z.oc, .slice z.da z.dn z.dc] 31))) := HY.out.alloc HY.out.size _
      have HZ3 : Hid (z.At (w8.alloc (.cells #[.int .i64 z.kind, .int .u64 z.num, .int .i64 z.node, .string z.key, .bool z.was, .string z.old, .int .u64 z.prev, .slice z.na z.nn z.nc, .slice z.ra z.rn z.rc, .slice z.ga z.gn z.gc, .slice z.oa z.om z.oc, .slice z.da z.dn z.dc] 31))) := HZ.out.below (below_allocR _)
      have HX3 : Hid (x.At (w8.alloc (.cells #[.int .i64 z.kind, .int .u64 z.num, .int .i64 z.node, .string z.key, .bool z.was, .string z.old, .int .u64 z.prev, .slice z.na z.nn z.nc, .slice z.ra z.rn z.rc, .slice z.ga z.gn z.gc, .slice z.oa z.om z.oc, .slice z.da z.dn z.dc] 31))) := HX.out.1.below HY3.out
      have HB9 : Hid (Blk (w8.alloc (.cells #[.int .i64 z.kind, .int .u64 z.num, .int .i64 z.node, .string z.key, .bool z.was, .string z.old, .int .u64 z.prev, .slice z.na z.nn z.nc, .slice z.ra z.rn z.rc, .slice z.ga z.gn z.gc, .slice z.oa z.om z.oc, .slice z.da z.dn z.dc] 31)) w.heap.size #[.int .i64 x.kind, .int .u64 x.num, .int .i64 x.node, .string x.key, .bool x.was, .string x.old, .int .u64 x.prev, .slice x.na x.nn x.nc, .slice x.ra x.rn x.rc, .slice x.ga x.gn x.gc, .slice x.oa x.om x.oc, .slice x.da x.dn x.dc] 31) := HB.out.alloc _
      have HS9 : Hid (Src (w8.alloc (.cells #[.int .i64 z.kind, .int .u64 z.num, .int .i64 z.node, .string z.key, .bool z.was, .string z.old, .int .u64 z.prev, .slice z.na z.nn z.nc, .slice z.ra z.rn z.rc, .slice z.ga z.gn z.gc, .slice z.oa z.om z.oc, .slice z.da z.dn z.dc] 31)) (.slice a7 n c7) (recBytes x)) := HS8.out.below (below_allocR _)
      have HE9 : Hid (Src (w8.alloc (.cells #[.int .i64 z.kind, .int .u64 z.num, .int .i64 z.node, .string z.key, .bool z.was, .string z.old, .int .u64 z.prev, .slice z.na z.nn z.nc, .slice z.ra z.rn z.rc, .slice z.ga z.gn z.gc, .slice z.oa z.om z.oc, .slice z.da z.dn z.dc] 31)) (.slice a1 n c1) (recBytes x)) := HE8.out.below (below_allocR _)
      have u1 := HE9.out.str
      have u2 := HS9.out.str
      have z0 : (w8.alloc (.cells #[.int .i64 z.kind, .int .u64 z.num, .int .i64 z.node, .string z.key, .bool z.was, .string z.old, .int .u64 z.prev, .slice z.na z.nn z.nc, .slice z.ra z.rn z.rc, .slice z.ga z.gn z.gc, .slice z.oa z.om z.oc, .slice z.da z.dn z.dc] 31)).cell? ⟨w.heap.size, 0, none⟩ = some (.int .i64 x.kind) := HB9.out.cell 0
      have z1 : (w8.alloc (.cells #[.int .i64 z.kind, .int .u64 z.num, .int .i64 z.node, .string z.key, .bool z.was, .string z.old, .int .u64 z.prev, .slice z.na z.nn z.nc, .slice z.ra z.rn z.rc, .slice z.ga z.gn z.gc, .slice z.oa z.om z.oc, .slice z.da z.dn z.dc] 31)).cell? ⟨w.heap.size, 1, none⟩ = some (.int .u64 x.num) := HB9.out.cell 1
      have z2 : (w8.alloc (.cells #[.int .i64 z.kind, .int .u64 z.num, .int .i64 z.node, .string z.key, .bool z.was, .string z.old, .int .u64 z.prev, .slice z.na z.nn z.nc, .slice z.ra z.rn z.rc, .slice z.ga z.gn z.gc, .slice z.oa z.om z.oc, .slice z.da z.dn z.dc] 31)).cell? ⟨w.heap.size, 2, none⟩ = some (.int .i64 x.node) := HB9.out.cell 2
      have z3 : (w8.alloc (.cells #[.int .i64 z.kind, .int .u64 z.num, .int .i64 z.node, .string z.key, .bool z.was, .string z.old, .int .u64 z.prev, .slice z.na z.nn z.nc, .slice z.ra z.rn z.rc, .slice z.ga z.gn z.gc, .slice z.oa z.om z.oc, .slice z.da z.dn z.dc] 31)).cell? ⟨w.heap.size, 3, none⟩ = some (.string x.key) := HB9.out.cell 3
      have z4 : (w8.alloc (.cells #[.int .i64 z.kind, .int .u64 z.num, .int .i64 z.node, .string z.key, .bool z.was, .string z.old, .int .u64 z.prev, .slice z.na z.nn z.nc, .slice z.ra z.rn z.rc, .slice z.ga z.gn z.gc, .slice z.oa z.om z.oc, .slice z.da z.dn z.dc] 31)).cell? ⟨w.heap.size, 4, none⟩ = some (.bool x.was) := HB9.out.cell 4
      have z5 : (w8.alloc (.cells #[.int .i64 z.kind, .int .u64 z.num, .int .i64 z.node, .string z.key, .bool z.was, .string z.old, .int .u64 z.prev, .slice z.na z.nn z.nc, .slice z.ra z.rn z.rc, .slice z.ga z.gn z.gc, .slice z.oa z.om z.oc, .slice z.da z.dn z.dc] 31)).cell? ⟨w.heap.size, 5, none⟩ = some (.string x.old) := HB9.out.cell 5
      have z6 : (w8.alloc (.cells #[.int .i64 z.kind, .int .u64 z.num, .int .i64 z.node, .string z.key, .bool z.was, .string z.old, .int .u64 z.prev, .slice z.na z.nn z.nc, .slice z.ra z.rn z.rc, .slice z.ga z.gn z.gc, .slice z.oa z.om z.oc, .slice z.da z.dn z.dc] 31)).cell? ⟨w.heap.size, 6, none⟩ = some (.int .u64 x.prev) := HB9.out.cell 6
      have z7 : (w8.alloc (.cells #[.int .i64 z.kind, .int .u64 z.num, .int .i64 z.node, .string z.key, .bool z.was, .string z.old, .int .u64 z.prev, .slice z.na z.nn z.nc, .slice z.ra z.rn z.rc, .slice z.ga z.gn z.gc, .slice z.oa z.om z.oc, .slice z.da z.dn z.dc] 31)).cell? ⟨w.heap.size, 7, none⟩ = some (.slice x.na x.nn x.nc) := HB9.out.cell 7
      have z8 : (w8.alloc (.cells #[.int .i64 z.kind, .int .u64 z.num, .int .i64 z.node, .string z.key, .bool z.was, .string z.old, .int .u64 z.prev, .slice z.na z.nn z.nc, .slice z.ra z.rn z.rc, .slice z.ga z.gn z.gc, .slice z.oa z.om z.oc, .slice z.da z.dn z.dc] 31)).cell? ⟨w.heap.size, 8, none⟩ = some (.slice x.ra x.rn x.rc) := HB9.out.cell 8
      have z9 : (w8.alloc (.cells #[.int .i64 z.kind, .int .u64 z.num, .int .i64 z.node, .string z.key, .bool z.was, .string z.old, .int .u64 z.prev, .slice z.na z.nn z.nc, .slice z.ra z.rn z.rc, .slice z.ga z.gn z.gc, .slice z.oa z.om z.oc, .slice z.da z.dn z.dc] 31)).cell? ⟨w.heap.size, 9, none⟩ = some (.slice x.ga x.gn x.gc) := HB9.out.cell 9
      have z10 : (w8.alloc (.cells #[.int .i64 z.kind, .int .u64 z.num, .int .i64 z.node, .string z.key, .bool z.was, .string z.old, .int .u64 z.prev, .slice z.na z.nn z.nc, .slice z.ra z.rn z.rc, .slice z.ga z.gn z.gc, .slice z.oa z.om z.oc, .slice z.da z.dn z.dc] 31)).cell? ⟨w.heap.size, 10, none⟩ = some (.slice x.oa x.om x.oc) := HB9.out.cell 10
      have z11 : (w8.alloc (.cells #[.int .i64 z.kind, .int .u64 z.num, .int .i64 z.node, .string z.key, .bool z.was, .string z.old, .int .u64 z.prev, .slice z.na z.nn z.nc, .slice z.ra z.rn z.rc, .slice z.ga z.gn z.gc, .slice z.oa z.om z.oc, .slice z.da z.dn z.dc] 31)).cell? ⟨w.heap.size, 11, none⟩ = some (.slice x.da x.dn x.dc) := HB9.out.cell 11
      have s0 : (w8.alloc (.cells #[.int .i64 z.kind, .int .u64 z.num, .int .i64 z.node, .string z.key, .bool z.was, .string z.old, .int .u64 z.prev, .slice z.na z.nn z.nc, .slice z.ra z.rn z.rc, .slice z.ga z.gn z.gc, .slice z.oa z.om z.oc, .slice z.da z.dn z.dc] 31)).cell? ⟨w8.heap.size, 0, none⟩ = some (.int .i64 z.kind) := HB3.out.cell 0
      have s1 : (w8.alloc (.cells #[.int .i64 z.kind, .int .u64 z.num, .int .i64 z.node, .string z.key, .bool z.was, .string z.old, .int .u64 z.prev, .slice z.na z.nn z.nc, .slice z.ra z.rn z.rc, .slice z.ga z.gn z.gc, .slice z.oa z.om z.oc, .slice z.da z.dn z.dc] 31)).cell? ⟨w8.heap.size, 1, none⟩ = some (.int .u64 z.num) := HB3.out.cell 1
      have s2 : (w8.alloc (.cells #[.int .i64 z.kind, .int .u64 z.num, .int .i64 z.node, .string z.key, .bool z.was, .string z.old, .int .u64 z.prev, .slice z.na z.nn z.nc, .slice z.ra z.rn z.rc, .slice z.ga z.gn z.gc, .slice z.oa z.om z.oc, .slice z.da z.dn z.dc] 31)).cell? ⟨w8.heap.size, 2, none⟩ = some (.int .i64 z.node) := HB3.out.cell 2
      have s3 : (w8.alloc (.cells #[.int .i64 z.kind, .int .u64 z.num, .int .i64 z.node, .string z.key, .bool z.was, .string z.old, .int .u64 z.prev, .slice z.na z.nn z.nc, .slice z.ra z.rn z.rc, .slice z.ga z.gn z.gc, .slice z.oa z.om z.oc, .slice z.da z.dn z.dc] 31)).cell? ⟨w8.heap.size, 3, none⟩ = some (.string z.key) := HB3.out.cell 3
      have s4 : (w8.alloc (.cells #[.int .i64 z.kind, .int .u64 z.num, .int .i64 z.node, .string z.key, .bool z.was, .string z.old, .int .u64 z.prev, .slice z.na z.nn z.nc, .slice z.ra z.rn z.rc, .slice z.ga z.gn z.gc, .slice z.oa z.om z.oc, .slice z.da z.dn z.dc] 31)).cell? ⟨w8.heap.size, 4, none⟩ = some (.bool z.was) := HB3.out.cell 4
      have s5 : (w8.alloc (.cells #[.int .i64 z.kind, .int .u64 z.num, .int .i64 z.node, .string z.key, .bool z.was, .string z.old, .int .u64 z.prev, .slice z.na z.nn z.nc, .slice z.ra z.rn z.rc, .slice z.ga z.gn z.gc, .slice z.oa z.om z.oc, .slice z.da z.dn z.dc] 31)).cell? ⟨w8.heap.size, 5, none⟩ = some (.string z.old) := HB3.out.cell 5
      have s6 : (w8.alloc (.cells #[.int .i64 z.kind, .int .u64 z.num, .int .i64 z.node, .string z.key, .bool z.was, .string z.old, .int .u64 z.prev, .slice z.na z.nn z.nc, .slice z.ra z.rn z.rc, .slice z.ga z.gn z.gc, .slice z.oa z.om z.oc, .slice z.da z.dn z.dc] 31)).cell? ⟨w8.heap.size, 6, none⟩ = some (.int .u64 z.prev) := HB3.out.cell 6
      have s7 : (w8.alloc (.cells #[.int .i64 z.kind, .int .u64 z.num, .int .i64 z.node, .string z.key, .bool z.was, .string z.old, .int .u64 z.prev, .slice z.na z.nn z.nc, .slice z.ra z.rn z.rc, .slice z.ga z.gn z.gc, .slice z.oa z.om z.oc, .slice z.da z.dn z.dc] 31)).cell? ⟨w8.heap.size, 7, none⟩ = some (.slice z.na z.nn z.nc) := HB3.out.cell 7
      have s8 : (w8.alloc (.cells #[.int .i64 z.kind, .int .u64 z.num, .int .i64 z.node, .string z.key, .bool z.was, .string z.old, .int .u64 z.prev, .slice z.na z.nn z.nc, .slice z.ra z.rn z.rc, .slice z.ga z.gn z.gc, .slice z.oa z.om z.oc, .slice z.da z.dn z.dc] 31)).cell? ⟨w8.heap.size, 8, none⟩ = some (.slice z.ra z.rn z.rc) := HB3.out.cell 8
      have s9 : (w8.alloc (.cells #[.int .i64 z.kind, .int .u64 z.num, .int .i64 z.node, .string z.key, .bool z.was, .string z.old, .int .u64 z.prev, .slice z.na z.nn z.nc, .slice z.ra z.rn z.rc, .slice z.ga z.gn z.gc, .slice z.oa z.om z.oc, .slice z.da z.dn z.dc] 31)).cell? ⟨w8.heap.size, 9, none⟩ = some (.slice z.ga z.gn z.gc) := HB3.out.cell 9
      have s10 : (w8.alloc (.cells #[.int .i64 z.kind, .int .u64 z.num, .int .i64 z.node, .string z.key, .bool z.was, .string z.old, .int .u64 z.prev, .slice z.na z.nn z.nc, .slice z.ra z.rn z.rc, .slice z.ga z.gn z.gc, .slice z.oa z.om z.oc, .slice z.da z.dn z.dc] 31)).cell? ⟨w8.heap.size, 10, none⟩ = some (.slice z.oa z.om z.oc) := HB3.out.cell 10
      have s11 : (w8.alloc (.cells #[.int .i64 z.kind, .int .u64 z.num, .int .i64 z.node, .string z.key, .bool z.was, .string z.old, .int .u64 z.prev, .slice z.na z.nn z.nc, .slice z.ra z.rn z.rc, .slice z.ga z.gn z.gc, .slice z.oa z.om z.oc, .slice z.da z.dn z.dc] 31)).cell? ⟨w8.heap.size, 11, none⟩ = some (.slice z.da z.dn z.dc) := HB3.out.cell 11
      go_wp2_with fail
      refine (same11_any x z _ HX3.out HZ3.out).mono ?_
      rintro e w9 ⟨b, rfl, hb, y⟩
      have hbt : b = true := hb.2 HQ.out
      subst hbt
      have HY9 : Hid (Below w.heap.size w w9) := ext_trans HY3.out y
      clear hb y
      go_wp2
      go_ret
      exact ⟨rfl, HY9.out⟩
    · have HR : Hid (rightRec x = true) := hr
      have HL : Hid (16384 < (recBytes x).length) := hlen
      clear hr
      subst her
      have hl2 : ¬ (recBytes x).length ≤ 16384 := by omega
      generalize hn : (recBytes x).length = n at *

      go_upto_region 6 with fail
      clear z0 z1 z2 z3 z4 z5 z6 z7 z8 z9 z10 z11
      refine wp_region_ext (by kernel_rfl) ?_
      haveI nA := cls_ext w3.drew
      have HB' : Hid (Blk w3.drew w.heap.size #[.int .i64 x.kind, .int .u64 x.num, .int .i64 x.node, .string x.key, .bool x.was, .string x.old, .int .u64 x.prev, .slice x.na x.nn x.nc, .slice x.ra x.rn x.rc, .slice x.ga x.gn x.gc, .slice x.oa x.om x.oc, .slice x.da x.dn x.dc] 31) := Blk.of HB.out ((Below.drew (Below.refl _ w3)).block _ HB.out.lt)
      have HY' : Hid (Below w.heap.size w w3.drew) := Below.drew HY.out
      have HB := HB'
      have HY := HY'
      clear HB' HY'
      have z0 := cellX (W0 := w3.drew) (show w3.drew.cell? ⟨w.heap.size, 0, none⟩ = some (.int .i64 x.kind) from HB.out.cell 0)
      have z1 := cellX (W0 := w3.drew) (show w3.drew.cell? ⟨w.heap.size, 1, none⟩ = some (.int .u64 x.num) from HB.out.cell 1)
      have z2 := cellX (W0 := w3.drew) (show w3.drew.cell? ⟨w.heap.size, 2, none⟩ = some (.int .i64 x.node) from HB.out.cell 2)
      have z3 := cellX (W0 := w3.drew) (show w3.drew.cell? ⟨w.heap.size, 3, none⟩ = some (.string x.key) from HB.out.cell 3)
      have z4 := cellX (W0 := w3.drew) (show w3.drew.cell? ⟨w.heap.size, 4, none⟩ = some (.bool x.was) from HB.out.cell 4)
      have z5 := cellX (W0 := w3.drew) (show w3.drew.cell? ⟨w.heap.size, 5, none⟩ = some (.string x.old) from HB.out.cell 5)
      have z6 := cellX (W0 := w3.drew) (show w3.drew.cell? ⟨w.heap.size, 6, none⟩ = some (.int .u64 x.prev) from HB.out.cell 6)
      have z7 := cellX (W0 := w3.drew) (show w3.drew.cell? ⟨w.heap.size, 7, none⟩ = some (.slice x.na x.nn x.nc) from HB.out.cell 7)
      have z8 := cellX (W0 := w3.drew) (show w3.drew.cell? ⟨w.heap.size, 8, none⟩ = some (.slice x.ra x.rn x.rc) from HB.out.cell 8)
      have z9 := cellX (W0 := w3.drew) (show w3.drew.cell? ⟨w.heap.size, 9, none⟩ = some (.slice x.ga x.gn x.gc) from HB.out.cell 9)
      have z10 := cellX (W0 := w3.drew) (show w3.drew.cell? ⟨w.heap.size, 10, none⟩ = some (.slice x.oa x.om x.oc) from HB.out.cell 10)
      have z11 := cellX (W0 := w3.drew) (show w3.drew.cell? ⟨w.heap.size, 11, none⟩ = some (.slice x.da x.dn x.dc) from HB.out.cell 11)
      refine wpAnyH_seg (by kernel_rfl) (fun _ _ _ h => h) [0, 2] 3 _ _ _ (Ext.refl _) (by kernel_rfl) ?_
      simp only [opsAt, List.getElem?_toArray, List.getElem?_cons_zero, List.getElem?_cons_succ, List.cons_append, List.nil_append]
      repeat (go_big_quiet_step (fail))
      refine wpQuiet_nil ?_
      clear nA z0 z1 z2 z3 z4 z5 z6 z7 z8 z9 z10 z11
      refine wpAnyH_callE (i := 1) (fuel := 2) 19 rfl (by kernel_rfl) rfl (Ext.refl _) (by kernel_rfl) (f := 9) (args := #[.agg #[.int .i64 x.kind, .int .u64 x.num, .int .i64 x.node, .string x.key, .bool x.was, .string x.old, .int .u64 x.prev, .slice x.na x.nn x.nc, .slice x.ra x.rn x.rc, .slice x.ga x.gn x.gc, .slice x.oa x.om x.oc, .slice x.da x.dn x.dc]]) (by kernel_rfl) (recRight_any x w3.drew (HX.out.1.below HY.out)) ?_
      rintro e w4 ⟨rfl, y⟩
      refine ⟨_, rfl, y, ?_⟩
      have HB' : Hid (Blk w4 w.heap.size #[.int .i64 x.kind, .int .u64 x.num, .int .i64 x.node, .string x.key, .bool x.was, .string x.old, .int .u64 x.prev, .slice x.na x.nn x.nc, .slice x.ra x.rn x.rc, .slice x.ga x.gn x.gc, .slice x.oa x.om x.oc, .slice x.da x.dn x.dc] 31) := Blk.of HB.out (y.block _ HB.out.lt)
      have HY' : Hid (Below w.heap.size w w4) := ext_trans HY.out y
      clear HB HY y
      have HB := HB'
      have HY := HY'
      clear HB' HY'
      simp only [Act.put, List.setIfInBounds_toArray, List.set_cons_succ, List.set_cons_zero]
      refine wpAnyH_callE (i := 3) (fuel := 1) 21 rfl (by kernel_rfl) rfl (Ext.refl _) (by kernel_rfl) (f := 10) (args := #[.agg #[.int .i64 x.kind, .int .u64 x.num, .int .i64 x.node, .string x.key, .bool x.was, .string x.old, .int .u64 x.prev, .slice x.na x.nn x.nc, .slice x.ra x.rn x.rc, .slice x.ga x.gn x.gc, .slice x.oa x.om x.oc, .slice x.da x.dn x.dc]]) (by kernel_rfl) (lawRight12_any x w4 (HX.out.1.below HY.out) HS.out.1 HS.out.2) ?_
      rintro e w5 ⟨rfl, y⟩
      refine ⟨_, rfl, y, ?_⟩
      have HB' : Hid (Blk w5 w.heap.size #[.int .i64 x.kind, .int .u64 x.num, .int .i64 x.node, .string x.key, .bool x.was, .string x.old, .int .u64 x.prev, .slice x.na x.nn x.nc, .slice x.ra x.rn x.rc, .slice x.ga x.gn x.gc, .slice x.oa x.om x.oc, .slice x.da x.dn x.dc] 31) := Blk.of HB.out (y.block _ HB.out.lt)
      have HY' : Hid (Below w.heap.size w w5) := ext_trans HY.out y
      clear HB HY y
      have HB := HB'
      have HY := HY'
      clear HB' HY'
      simp only [Act.put, List.setIfInBounds_toArray, List.set_cons_succ, List.set_cons_zero]
      rw [HR.out]
      haveI nB := cls_ext w5
      refine wpAnyH_seg (by kernel_rfl) (fun _ _ _ h => h) [4] 0 _ _ _ (Ext.refl _) (by kernel_rfl) ?_
      simp only [opsAt, List.getElem?_toArray, List.getElem?_cons_zero, List.getElem?_cons_succ, List.cons_append, List.nil_append]
      repeat (go_big_quiet_step (fail))
      refine wpQuiet_nil ?_
      clear nB
      refine wpAnyH_done (by kernel_rfl) (NoPanic.normal ?_) 0
      have z0 : w5.cell? ⟨w.heap.size, 0, none⟩ = some (.int .i64 x.kind) := HB.out.cell 0
      have z1 : w5.cell? ⟨w.heap.size, 1, none⟩ = some (.int .u64 x.num) := HB.out.cell 1
      have z2 : w5.cell? ⟨w.heap.size, 2, none⟩ = some (.int .i64 x.node) := HB.out.cell 2
      have z3 : w5.cell? ⟨w.heap.size, 3, none⟩ = some (.string x.key) := HB.out.cell 3
      have z4 : w5.cell? ⟨w.heap.size, 4, none⟩ = some (.bool x.was) := HB.out.cell 4
      have z5 : w5.cell? ⟨w.heap.size, 5, none⟩ = some (.string x.old) := HB.out.cell 5
      have z6 : w5.cell? ⟨w.heap.size, 6, none⟩ = some (.int .u64 x.prev) := HB.out.cell 6
      have z7 : w5.cell? ⟨w.heap.size, 7, none⟩ = some (.slice x.na x.nn x.nc) := HB.out.cell 7
      have z8 : w5.cell? ⟨w.heap.size, 8, none⟩ = some (.slice x.ra x.rn x.rc) := HB.out.cell 8
      have z9 : w5.cell? ⟨w.heap.size, 9, none⟩ = some (.slice x.ga x.gn x.gc) := HB.out.cell 9
      have z10 : w5.cell? ⟨w.heap.size, 10, none⟩ = some (.slice x.oa x.om x.oc) := HB.out.cell 10
      have z11 : w5.cell? ⟨w.heap.size, 11, none⟩ = some (.slice x.da x.dn x.dc) := HB.out.cell 11
      go_wp2_with fail
      refine (lawRight12_any x w5 (HX.out.1.below HY.out) HS.out.1 HS.out.2).mono ?_
      rintro e w6 ⟨rfl, y⟩
      rw [HR.out]
      have HB' : Hid (Blk w6 w.heap.size #[.int .i64 x.kind, .int .u64 x.num, .int .i64 x.node, .string x.key, .bool x.was, .string x.old, .int .u64 x.prev, .slice x.na x.nn x.nc, .slice x.ra x.rn x.rc, .slice x.ga x.gn x.gc, .slice x.oa x.om x.oc, .slice x.da x.dn x.dc] 31) := Blk.of HB.out (y.block _ HB.out.lt)
      have HY' : Hid (Below w.heap.size w w6) := ext_trans HY.out y
      clear HB HY y z0 z1 z2 z3 z4 z5 z6 z7 z8 z9 z10 z11
      have HB := HB'
      have HY := HY'
      clear HB' HY'
      have z0 : w6.cell? ⟨w.heap.size, 0, none⟩ = some (.int .i64 x.kind) := HB.out.cell 0
      have z1 : w6.cell? ⟨w.heap.size, 1, none⟩ = some (.int .u64 x.num) := HB.out.cell 1
      have z2 : w6.cell? ⟨w.heap.size, 2, none⟩ = some (.int .i64 x.node) := HB.out.cell 2
      have z3 : w6.cell? ⟨w.heap.size, 3, none⟩ = some (.string x.key) := HB.out.cell 3
      have z4 : w6.cell? ⟨w.heap.size, 4, none⟩ = some (.bool x.was) := HB.out.cell 4
      have z5 : w6.cell? ⟨w.heap.size, 5, none⟩ = some (.string x.old) := HB.out.cell 5
      have z6 : w6.cell? ⟨w.heap.size, 6, none⟩ = some (.int .u64 x.prev) := HB.out.cell 6
      have z7 : w6.cell? ⟨w.heap.size, 7, none⟩ = some (.slice x.na x.nn x.nc) := HB.out.cell 7
      have z8 : w6.cell? ⟨w.heap.size, 8, none⟩ = some (.slice x.ra x.rn x.rc) := HB.out.cell 8
      have z9 : w6.cell? ⟨w.heap.size, 9, none⟩ = some (.slice x.ga x.gn x.gc) := HB.out.cell 9
      have z10 : w6.cell? ⟨w.heap.size, 10, none⟩ = some (.slice x.oa x.om x.oc) := HB.out.cell 10
      have z11 : w6.cell? ⟨w.heap.size, 11, none⟩ = some (.slice x.da x.dn x.dc) := HB.out.cell 11
      go_wp2_with fail
      refine (lawBytes11_any x w6 (HX.out.1.below HY.out) HX.out.2 HR.out).mono ?_
      rintro e w7 ⟨v7, rfl, hs7, y⟩
      obtain ⟨a7, c7, hv7⟩ := hs7.form
      subst hv7
      have HB' : Hid (Blk w7 w.heap.size #[.int .i64 x.kind, .int .u64 x.num, .int .i64 x.node, .string x.key, .bool x.was, .string x.old, .int .u64 x.prev, .slice x.na x.nn x.nc, .slice x.ra x.rn x.rc, .slice x.ga x.gn x.gc, .slice x.oa x.om x.oc, .slice x.da x.dn x.dc] 31) := Blk.of HB.out (y.block _ HB.out.lt)
      have HY' : Hid (Below w.heap.size w w7) := ext_trans HY.out y
      clear HB HY y z0 z1 z2 z3 z4 z5 z6 z7 z8 z9 z10 z11
      have HB := HB'
      have HY := HY'
      clear HB' HY'
      have z0 : w7.cell? ⟨w.heap.size, 0, none⟩ = some (.int .i64 x.kind) := HB.out.cell 0
      have z1 : w7.cell? ⟨w.heap.size, 1, none⟩ = some (.int .u64 x.num) := HB.out.cell 1
      have z2 : w7.cell? ⟨w.heap.size, 2, none⟩ = some (.int .i64 x.node) := HB.out.cell 2
      have z3 : w7.cell? ⟨w.heap.size, 3, none⟩ = some (.string x.key) := HB.out.cell 3
      have z4 : w7.cell? ⟨w.heap.size, 4, none⟩ = some (.bool x.was) := HB.out.cell 4
      have z5 : w7.cell? ⟨w.heap.size, 5, none⟩ = some (.string x.old) := HB.out.cell 5
      have z6 : w7.cell? ⟨w.heap.size, 6, none⟩ = some (.int .u64 x.prev) := HB.out.cell 6
      have z7 : w7.cell? ⟨w.heap.size, 7, none⟩ = some (.slice x.na x.nn x.nc) := HB.out.cell 7
      have z8 : w7.cell? ⟨w.heap.size, 8, none⟩ = some (.slice x.ra x.rn x.rc) := HB.out.cell 8
      have z9 : w7.cell? ⟨w.heap.size, 9, none⟩ = some (.slice x.ga x.gn x.gc) := HB.out.cell 9
      have z10 : w7.cell? ⟨w.heap.size, 10, none⟩ = some (.slice x.oa x.om x.oc) := HB.out.cell 10
      have z11 : w7.cell? ⟨w.heap.size, 11, none⟩ = some (.slice x.da x.dn x.dc) := HB.out.cell 11
      rw [hn]
      go_wp2
      go_ret
      exact ⟨rfl, HY.out⟩
    · have HR : Hid (rightRec x = false) := hr
      clear hr
      subst her
      go_upto_region 6 with fail
      clear z0 z1 z2 z3 z4 z5 z6 z7 z8 z9 z10 z11
      refine wp_region_ext (by kernel_rfl) ?_
      haveI nA := cls_ext w3.drew
      have HB' : Hid (Blk w3.drew w.heap.size #[.int .i64 x.kind, .int .u64 x.num, .int .i64 x.node, .string x.key, .bool x.was, .string x.old, .int .u64 x.prev, .slice x.na x.nn x.nc, .slice x.ra x.rn x.rc, .slice x.ga x.gn x.gc, .slice x.oa x.om x.oc, .slice x.da x.dn x.dc] 31) := Blk.of HB.out ((Below.drew (Below.refl _ w3)).block _ HB.out.lt)
      have HY' : Hid (Below w.heap.size w w3.drew) := Below.drew HY.out
      have HB := HB'
      have HY := HY'
      clear HB' HY'
      have z0 := cellX (W0 := w3.drew) (show w3.drew.cell? ⟨w.heap.size, 0, none⟩ = some (.int .i64 x.kind) from HB.out.cell 0)
      have z1 := cellX (W0 := w3.drew) (show w3.drew.cell? ⟨w.heap.size, 1, none⟩ = some (.int .u64 x.num) from HB.out.cell 1)
      have z2 := cellX (W0 := w3.drew) (show w3.drew.cell? ⟨w.heap.size, 2, none⟩ = some (.int .i64 x.node) from HB.out.cell 2)
      have z3 := cellX (W0 := w3.drew) (show w3.drew.cell? ⟨w.heap.size, 3, none⟩ = some (.string x.key) from HB.out.cell 3)
      have z4 := cellX (W0 := w3.drew) (show w3.drew.cell? ⟨w.heap.size, 4, none⟩ = some (.bool x.was) from HB.out.cell 4)
      have z5 := cellX (W0 := w3.drew) (show w3.drew.cell? ⟨w.heap.size, 5, none⟩ = some (.string x.old) from HB.out.cell 5)
      have z6 := cellX (W0 := w3.drew) (show w3.drew.cell? ⟨w.heap.size, 6, none⟩ = some (.int .u64 x.prev) from HB.out.cell 6)
      have z7 := cellX (W0 := w3.drew) (show w3.drew.cell? ⟨w.heap.size, 7, none⟩ = some (.slice x.na x.nn x.nc) from HB.out.cell 7)
      have z8 := cellX (W0 := w3.drew) (show w3.drew.cell? ⟨w.heap.size, 8, none⟩ = some (.slice x.ra x.rn x.rc) from HB.out.cell 8)
      have z9 := cellX (W0 := w3.drew) (show w3.drew.cell? ⟨w.heap.size, 9, none⟩ = some (.slice x.ga x.gn x.gc) from HB.out.cell 9)
      have z10 := cellX (W0 := w3.drew) (show w3.drew.cell? ⟨w.heap.size, 10, none⟩ = some (.slice x.oa x.om x.oc) from HB.out.cell 10)
      have z11 := cellX (W0 := w3.drew) (show w3.drew.cell? ⟨w.heap.size, 11, none⟩ = some (.slice x.da x.dn x.dc) from HB.out.cell 11)
      refine wpAnyH_seg (by kernel_rfl) (fun _ _ _ h => h) [0, 2] 3 _ _ _ (Ext.refl _) (by kernel_rfl) ?_
      simp only [opsAt, List.getElem?_toArray, List.getElem?_cons_zero, List.getElem?_cons_succ, List.cons_append, List.nil_append]
      repeat (go_big_quiet_step (fail))
      refine wpQuiet_nil ?_
      clear nA z0 z1 z2 z3 z4 z5 z6 z7 z8 z9 z10 z11
      refine wpAnyH_callE (i := 1) (fuel := 2) 19 rfl (by kernel_rfl) rfl (Ext.refl _) (by kernel_rfl) (f := 9) (args := #[.agg #[.int .i64 x.kind, .int .u64 x.num, .int .i64 x.node, .string x.key, .bool x.was, .string x.old, .int .u64 x.prev, .slice x.na x.nn x.nc, .slice x.ra x.rn x.rc, .slice x.ga x.gn x.gc, .slice x.oa x.om x.oc, .slice x.da x.dn x.dc]]) (by kernel_rfl) (recRight_any x w3.drew (HX.out.1.below HY.out)) ?_
      rintro e w4 ⟨rfl, y⟩
      refine ⟨_, rfl, y, ?_⟩
      have HB' : Hid (Blk w4 w.heap.size #[.int .i64 x.kind, .int .u64 x.num, .int .i64 x.node, .string x.key, .bool x.was, .string x.old, .int .u64 x.prev, .slice x.na x.nn x.nc, .slice x.ra x.rn x.rc, .slice x.ga x.gn x.gc, .slice x.oa x.om x.oc, .slice x.da x.dn x.dc] 31) := Blk.of HB.out (y.block _ HB.out.lt)
      have HY' : Hid (Below w.heap.size w w4) := ext_trans HY.out y
      clear HB HY y
      have HB := HB'
      have HY := HY'
      clear HB' HY'
      simp only [Act.put, List.setIfInBounds_toArray, List.set_cons_succ, List.set_cons_zero]
      refine wpAnyH_callE (i := 3) (fuel := 1) 21 rfl (by kernel_rfl) rfl (Ext.refl _) (by kernel_rfl) (f := 10) (args := #[.agg #[.int .i64 x.kind, .int .u64 x.num, .int .i64 x.node, .string x.key, .bool x.was, .string x.old, .int .u64 x.prev, .slice x.na x.nn x.nc, .slice x.ra x.rn x.rc, .slice x.ga x.gn x.gc, .slice x.oa x.om x.oc, .slice x.da x.dn x.dc]]) (by kernel_rfl) (lawRight12_any x w4 (HX.out.1.below HY.out) HS.out.1 HS.out.2) ?_
      rintro e w5 ⟨rfl, y⟩
      refine ⟨_, rfl, y, ?_⟩
      have HB' : Hid (Blk w5 w.heap.size #[.int .i64 x.kind, .int .u64 x.num, .int .i64 x.node, .string x.key, .bool x.was, .string x.old, .int .u64 x.prev, .slice x.na x.nn x.nc, .slice x.ra x.rn x.rc, .slice x.ga x.gn x.gc, .slice x.oa x.om x.oc, .slice x.da x.dn x.dc] 31) := Blk.of HB.out (y.block _ HB.out.lt)
      have HY' : Hid (Below w.heap.size w w5) := ext_trans HY.out y
      clear HB HY y
      have HB := HB'
      have HY := HY'
      clear HB' HY'
      simp only [Act.put, List.setIfInBounds_toArray, List.set_cons_succ, List.set_cons_zero]
      rw [HR.out]
      haveI nB := cls_ext w5
      refine wpAnyH_seg (by kernel_rfl) (fun _ _ _ h => h) [4] 0 _ _ _ (Ext.refl _) (by kernel_rfl) ?_
      simp only [opsAt, List.getElem?_toArray, List.getElem?_cons_zero, List.getElem?_cons_succ, List.cons_append, List.nil_append]
      repeat (go_big_quiet_step (fail))
      refine wpQuiet_nil ?_
      clear nB
      refine wpAnyH_done (by kernel_rfl) (NoPanic.normal ?_) 0
      have z0 : w5.cell? ⟨w.heap.size, 0, none⟩ = some (.int .i64 x.kind) := HB.out.cell 0
      have z1 : w5.cell? ⟨w.heap.size, 1, none⟩ = some (.int .u64 x.num) := HB.out.cell 1
      have z2 : w5.cell? ⟨w.heap.size, 2, none⟩ = some (.int .i64 x.node) := HB.out.cell 2
      have z3 : w5.cell? ⟨w.heap.size, 3, none⟩ = some (.string x.key) := HB.out.cell 3
      have z4 : w5.cell? ⟨w.heap.size, 4, none⟩ = some (.bool x.was) := HB.out.cell 4
      have z5 : w5.cell? ⟨w.heap.size, 5, none⟩ = some (.string x.old) := HB.out.cell 5
      have z6 : w5.cell? ⟨w.heap.size, 6, none⟩ = some (.int .u64 x.prev) := HB.out.cell 6
      have z7 : w5.cell? ⟨w.heap.size, 7, none⟩ = some (.slice x.na x.nn x.nc) := HB.out.cell 7
      have z8 : w5.cell? ⟨w.heap.size, 8, none⟩ = some (.slice x.ra x.rn x.rc) := HB.out.cell 8
      have z9 : w5.cell? ⟨w.heap.size, 9, none⟩ = some (.slice x.ga x.gn x.gc) := HB.out.cell 9
      have z10 : w5.cell? ⟨w.heap.size, 10, none⟩ = some (.slice x.oa x.om x.oc) := HB.out.cell 10
      have z11 : w5.cell? ⟨w.heap.size, 11, none⟩ = some (.slice x.da x.dn x.dc) := HB.out.cell 11
      go_wp2_with fail
      refine (lawRight12_any x w5 (HX.out.1.below HY.out) HS.out.1 HS.out.2).mono ?_
      rintro e w6 ⟨rfl, y⟩
      rw [HR.out]
      have HB' : Hid (Blk w6 w.heap.size #[.int .i64 x.kind, .int .u64 x.num, .int .i64 x.node, .string x.key, .bool x.was, .string x.old, .int .u64 x.prev, .slice x.na x.nn x.nc, .slice x.ra x.rn x.rc, .slice x.ga x.gn x.gc, .slice x.oa x.om x.oc, .slice x.da x.dn x.dc] 31) := Blk.of HB.out (y.block _ HB.out.lt)
      have HY' : Hid (Below w.heap.size w w6) := ext_trans HY.out y
      clear HB HY y z0 z1 z2 z3 z4 z5 z6 z7 z8 z9 z10 z11
      have HB := HB'
      have HY := HY'
      clear HB' HY'
      have z0 : w6.cell? ⟨w.heap.size, 0, none⟩ = some (.int .i64 x.kind) := HB.out.cell 0
      have z1 : w6.cell? ⟨w.heap.size, 1, none⟩ = some (.int .u64 x.num) := HB.out.cell 1
      have z2 : w6.cell? ⟨w.heap.size, 2, none⟩ = some (.int .i64 x.node) := HB.out.cell 2
      have z3 : w6.cell? ⟨w.heap.size, 3, none⟩ = some (.string x.key) := HB.out.cell 3
      have z4 : w6.cell? ⟨w.heap.size, 4, none⟩ = some (.bool x.was) := HB.out.cell 4
      have z5 : w6.cell? ⟨w.heap.size, 5, none⟩ = some (.string x.old) := HB.out.cell 5
      have z6 : w6.cell? ⟨w.heap.size, 6, none⟩ = some (.int .u64 x.prev) := HB.out.cell 6
      have z7 : w6.cell? ⟨w.heap.size, 7, none⟩ = some (.slice x.na x.nn x.nc) := HB.out.cell 7
      have z8 : w6.cell? ⟨w.heap.size, 8, none⟩ = some (.slice x.ra x.rn x.rc) := HB.out.cell 8
      have z9 : w6.cell? ⟨w.heap.size, 9, none⟩ = some (.slice x.ga x.gn x.gc) := HB.out.cell 9
      have z10 : w6.cell? ⟨w.heap.size, 10, none⟩ = some (.slice x.oa x.om x.oc) := HB.out.cell 10
      have z11 : w6.cell? ⟨w.heap.size, 11, none⟩ = some (.slice x.da x.dn x.dc) := HB.out.cell 11
      go_wp2
      go_ret
      exact ⟨rfl, HY.out⟩
end Go.Proofs.YthkmohcdgnldgaaGreat
