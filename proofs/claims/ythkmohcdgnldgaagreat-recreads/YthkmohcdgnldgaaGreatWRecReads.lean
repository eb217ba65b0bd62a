/- RecReads: the walk of the law's Go text. -/
import Derived.Test.YthkmohcdgnldgaaGreatRecL3
import Derived.Test.YthkmohcdgnldgaaGreatRecR6
import Derived.Test.YthkmohcdgnldgaaGreatRec14
set_option linter.unusedSimpArgs false
set_option linter.unusedVariables false
namespace Go.Proofs.YthkmohcdgnldgaaGreat
open Go.ChangeShapes Go.WideShapes Go.ChangeAt Go.RowKit

def zeroW : RecV := ⟨0, 0, 0, ⟨#[]⟩, false, ⟨#[]⟩, 0, none, 0, 0, [], none, 0, 0, [], none, 0, 0, [], none, 0, 0, [], none, 0, 0, []⟩
theorem zeroW_at (W : World) : zeroW.At W := ⟨Nat.zero_le _, Nat.zero_le _, Rd.nil _, Rd.nil _, fun _ h => (by cases h), RowsN.nil _ _ _, fun _ h => (by cases h), RowsN.nil _ _ _, fun _ h => (by cases h), RowsN.nil _ _ _, fun _ h => (by cases h)⟩
set_option maxRecDepth 100000 in
set_option maxHeartbeats 8000000 in
theorem walk_RecReads (ao : Option Addr) (len cap : Nat) (zs : List Int) (w : World) (hrow : IsRow .u8 w ao len cap zs) :
    Calls Tryz.prog 4 #[.slice ao len cap] w fun e w' => e = .returned (.bool true) ∧ Below w.heap.size w w' := by
  obtain ⟨l, hs, hlen⟩ := isRow_src hrow
  have HS : Hid (Src w (.slice ao len cap) l) := hs
  have HLN : Hid (l.length = len) := hlen
  clear hrow hs hlen
  go_enter Tryz.func4, Tryz.ntmps4
  go_wp2_with fail
  refine (head11_any _).mono ?_
  rintro e w1 ⟨rfl, y⟩
  have HY1 : Hid (Below w.heap.size w w1) := y
  clear y
  by_cases hn : 3000 < len
  · go_wp2
    go_ret
    exact ⟨rfl, HY1.out⟩
  go_wp2_with fail
  refine (recDecode_any _ l w1 (HS.out.below HY1.out) (by have := HLN.out; omega)).mono ?_
  rintro e w2 ⟨hd, y⟩
  have HY2 : Hid (Below w.heap.size w w2) := ext_trans HY1.out y
  clear y HY1 hn
  rcases hd with ⟨z, rfl, hz, wz, rz, bz, _, _⟩ | ⟨rfl, _⟩
  · have HZ : Hid (z.At w2) := hz
    have HRZ : Hid (rightRec z = true) := rz
    have HWZ : Hid z.Wf := wz
    have HBZ : Hid (recBytes z = l) := bz
    clear hz wz rz bz
    unfold recVal
    have HB3 : Hid (Blk (w2.alloc (.cells #[.int .i64 z.kind, .int .u64 z.num, .int .i64 z.node, .string z.key, .bool z.was, .string z.old, .int .u64 z.prev, .slice z.na z.nn z.nc, .slice z.ra z.rn z.rc, .slice z.ga z.gn z.gc, .slice z.oa z.om z.oc, .slice z.da z.dn z.dc] 31)) w2.heap.size #[.int .i64 z.kind, .int .u64 z.num, .int .i64 z.node, .string z.key, .bool z.was, .string z.old, .int .u64 z.prev, .slice z.na z.nn z.nc, .slice z.ra z.rn z.rc, .slice z.ga z.gn z.gc, .slice z.oa z.om z.oc, .slice z.da z.dn z.dc] 31) := Blk.new _ _ _
    have HY3 : Hid (Below w.heap.size w (w2.alloc (.cells #[.int .i64 z.kind, .int .u64 z.num, .int .i64 z.node, .string z.key, .bool z.was, .string z.old, .int .u64 z.prev, .slice z.na z.nn z.nc, .slice z.ra z.rn z.rc, .slice z.ga z.gn z.gc, .slice z.oa z.om z.oc, .slice z.da z.dn z.dc] 31))) := HY2.out.alloc HY2.out.size _
    have HZ3 : Hid (z.At (w2.alloc (.cells #[.int .i64 z.kind, .int .u64 z.num, .int .i64 z.node, .string z.key, .bool z.was, .string z.old, .int .u64 z.prev, .slice z.na z.nn z.nc, .slice z.ra z.rn z.rc, .slice z.ga z.gn z.gc, .slice z.oa z.om z.oc, .slice z.da z.dn z.dc] 31))) := HZ.out.below (below_allocR _)
    go_upto_region 8 with fail
    clear HZ HY2
    generalize w2.alloc (.cells #[.int .i64 z.kind, .int .u64 z.num, .int .i64 z.node, .string z.key, .bool z.was, .string z.old, .int .u64 z.prev, .slice z.na z.nn z.nc, .slice z.ra z.rn z.rc, .slice z.ga z.gn z.gc, .slice z.oa z.om z.oc, .slice z.da z.dn z.dc] 31) = w3 at *
    generalize w2.heap.size = zb at *
    refine wp_region_ext (by kernel_rfl) ?_
    haveI nA := cls_ext w3.drew
    have z0 := cellX (W0 := w3.drew) (show w3.drew.cell? ⟨zb, 0, none⟩ = some (.int .i64 z.kind) from HB3.out.cell 0)
    have z1 := cellX (W0 := w3.drew) (show w3.drew.cell? ⟨zb, 1, none⟩ = some (.int .u64 z.num) from HB3.out.cell 1)
    have z2 := cellX (W0 := w3.drew) (show w3.drew.cell? ⟨zb, 2, none⟩ = some (.int .i64 z.node) from HB3.out.cell 2)
    have z3 := cellX (W0 := w3.drew) (show w3.drew.cell? ⟨zb, 3, none⟩ = some (.string z.key) from HB3.out.cell 3)
    have z4 := cellX (W0 := w3.drew) (show w3.drew.cell? ⟨zb, 4, none⟩ = some (.bool z.was) from HB3.out.cell 4)
    have z5 := cellX (W0 := w3.drew) (show w3.drew.cell? ⟨zb, 5, none⟩ = some (.string z.old) from HB3.out.cell 5)
    have z6 := cellX (W0 := w3.drew) (show w3.drew.cell? ⟨zb, 6, none⟩ = some (.int .u64 z.prev) from HB3.out.cell 6)
    have z7 := cellX (W0 := w3.drew) (show w3.drew.cell? ⟨zb, 7, none⟩ = some (.slice z.na z.nn z.nc) from HB3.out.cell 7)
    have z8 := cellX (W0 := w3.drew) (show w3.drew.cell? ⟨zb, 8, none⟩ = some (.slice z.ra z.rn z.rc) from HB3.out.cell 8)
    have z9 := cellX (W0 := w3.drew) (show w3.drew.cell? ⟨zb, 9, none⟩ = some (.slice z.ga z.gn z.gc) from HB3.out.cell 9)
    have z10 := cellX (W0 := w3.drew) (show w3.drew.cell? ⟨zb, 10, none⟩ = some (.slice z.oa z.om z.oc) from HB3.out.cell 10)
    have z11 := cellX (W0 := w3.drew) (show w3.drew.cell? ⟨zb, 11, none⟩ = some (.slice z.da z.dn z.dc) from HB3.out.cell 11)
    refine wpAnyH_seg (by kernel_rfl) (fun _ _ _ h => h) [0] 10 _ _ _ (Ext.refl _) (by kernel_rfl) ?_
    simp only [opsAt, List.getElem?_toArray, List.getElem?_cons_zero, List.getElem?_cons_succ, List.cons_append, List.nil_append]
    repeat (go_big_quiet_step (fail))
    refine wpQuiet_nil ?_
    clear nA z0 z1 z2 z3 z4 z5 z6 z7 z8 z9 z10 z11
    refine wpAnyH_callE (i := 1) (fuel := 9) 25 rfl (by kernel_rfl) rfl (Ext.refl _) (by kernel_rfl) (f := 10) (args := #[.agg #[.int .i64 z.kind, .int .u64 z.num, .int .i64 z.node, .string z.key, .bool z.was, .string z.old, .int .u64 z.prev, .slice z.na z.nn z.nc, .slice z.ra z.rn z.rc, .slice z.ga z.gn z.gc, .slice z.oa z.om z.oc, .slice z.da z.dn z.dc]]) (by kernel_rfl) (lawRight11_ok z w3.drew (HZ3.out.below (Below.drew (Below.refl _ w3))) HRZ.out) ?_
    rintro e w4 ⟨rfl, y⟩
    refine ⟨_, rfl, y, ?_⟩
    have HB4 : Hid (Blk w4 zb #[.int .i64 z.kind, .int .u64 z.num, .int .i64 z.node, .string z.key, .bool z.was, .string z.old, .int .u64 z.prev, .slice z.na z.nn z.nc, .slice z.ra z.rn z.rc, .slice z.ga z.gn z.gc, .slice z.oa z.om z.oc, .slice z.da z.dn z.dc] 31) := Blk.of HB3.out (y.block _ HB3.out.lt)
    have HY4 : Hid (Below w.heap.size w w4) := ext_trans (Below.drew HY3.out) y
    have HZ4 : Hid (z.At w4) := (HZ3.out.below (Below.drew (Below.refl _ w3))).below y
    clear y HB3 HY3 HZ3
    simp only [Act.put, List.setIfInBounds_toArray, List.set_cons_succ, List.set_cons_zero]
    haveI nB := cls_ext w4
    have z0 := cellX (W0 := w4) (show w4.cell? ⟨zb, 0, none⟩ = some (.int .i64 z.kind) from HB4.out.cell 0)
    have z1 := cellX (W0 := w4) (show w4.cell? ⟨zb, 1, none⟩ = some (.int .u64 z.num) from HB4.out.cell 1)
    have z2 := cellX (W0 := w4) (show w4.cell? ⟨zb, 2, none⟩ = some (.int .i64 z.node) from HB4.out.cell 2)
    have z3 := cellX (W0 := w4) (show w4.cell? ⟨zb, 3, none⟩ = some (.string z.key) from HB4.out.cell 3)
    have z4 := cellX (W0 := w4) (show w4.cell? ⟨zb, 4, none⟩ = some (.bool z.was) from HB4.out.cell 4)
    have z5 := cellX (W0 := w4) (show w4.cell? ⟨zb, 5, none⟩ = some (.string z.old) from HB4.out.cell 5)
    have z6 := cellX (W0 := w4) (show w4.cell? ⟨zb, 6, none⟩ = some (.int .u64 z.prev) from HB4.out.cell 6)
    have z7 := cellX (W0 := w4) (show w4.cell? ⟨zb, 7, none⟩ = some (.slice z.na z.nn z.nc) from HB4.out.cell 7)
    have z8 := cellX (W0 := w4) (show w4.cell? ⟨zb, 8, none⟩ = some (.slice z.ra z.rn z.rc) from HB4.out.cell 8)
    have z9 := cellX (W0 := w4) (show w4.cell? ⟨zb, 9, none⟩ = some (.slice z.ga z.gn z.gc) from HB4.out.cell 9)
    have z10 := cellX (W0 := w4) (show w4.cell? ⟨zb, 10, none⟩ = some (.slice z.oa z.om z.oc) from HB4.out.cell 10)
    have z11 := cellX (W0 := w4) (show w4.cell? ⟨zb, 11, none⟩ = some (.slice z.da z.dn z.dc) from HB4.out.cell 11)
    have u2 := Src.strE (W0 := w4) (HS.out.below HY4.out)
    refine wpAnyH_seg (by kernel_rfl) (fun _ _ _ h => h) [2, 3, 6, 7] 5 _ _ _ (Ext.refl _) (by kernel_rfl) ?_
    simp only [opsAt, List.getElem?_toArray, List.getElem?_cons_zero, List.getElem?_cons_succ, List.cons_append, List.nil_append]
    repeat (go_big_quiet_step (fail))
    refine wpQuiet_nil ?_
    clear nB u2 z0 z1 z2 z3 z4 z5 z6 z7 z8 z9 z10 z11
    refine wpAnyH_callE (i := 4) (fuel := 4) 28 rfl (by kernel_rfl) rfl (Ext.refl _) (by kernel_rfl) (f := 11) (args := #[.agg #[.int .i64 z.kind, .int .u64 z.num, .int .i64 z.node, .string z.key, .bool z.was, .string z.old, .int .u64 z.prev, .slice z.na z.nn z.nc, .slice z.ra z.rn z.rc, .slice z.ga z.gn z.gc, .slice z.oa z.om z.oc, .slice z.da z.dn z.dc]]) (by kernel_rfl) (lawBytes11_any z w4 HZ4.out HWZ.out HRZ.out) ?_
    rintro e w5 ⟨v5, rfl, hs5, y⟩
    refine ⟨_, rfl, y, ?_⟩
    rw [HBZ.out] at hs5
    have HY5 : Hid (Below w.heap.size w w5) := ext_trans HY4.out y
    clear y HB4 HY4 HZ4
    simp only [Act.put, List.setIfInBounds_toArray, List.set_cons_succ, List.set_cons_zero]
    haveI nC := cls_ext w5
    have u1 := Src.strE (W0 := w5) hs5
    refine wpAnyH_seg (by kernel_rfl) (fun _ _ _ h => h) [5, 8, 9, 10] 0 _ _ _ (Ext.refl _) (by kernel_rfl) ?_
    simp only [opsAt, List.getElem?_toArray, List.getElem?_cons_zero, List.getElem?_cons_succ, List.cons_append, List.nil_append]
    repeat (go_big_quiet_step (fail))
    refine wpQuiet_nil ?_
    clear nC u1 hs5
    refine wpAnyH_done (by kernel_rfl) (NoPanic.normal ?_) 0
    go_wp2
    go_ret
    exact ⟨ret_bool (by simp), HY5.out⟩
  · have HB3 : Hid (Blk (w2.alloc (.cells #[.int .i64 0, .int .u64 0, .int .i64 0, .string ⟨#[]⟩, .bool false, .string ⟨#[]⟩, .int .u64 0, .slice none 0 0, .slice none 0 0, .slice none 0 0, .slice none 0 0, .slice none 0 0] 31)) w2.heap.size #[.int .i64 0, .int .u64 0, .int .i64 0, .string ⟨#[]⟩, .bool false, .string ⟨#[]⟩, .int .u64 0, .slice none 0 0, .slice none 0 0, .slice none 0 0, .slice none 0 0, .slice none 0 0] 31) := Blk.new _ _ _
    have HY3 : Hid (Below w.heap.size w (w2.alloc (.cells #[.int .i64 0, .int .u64 0, .int .i64 0, .string ⟨#[]⟩, .bool false, .string ⟨#[]⟩, .int .u64 0, .slice none 0 0, .slice none 0 0, .slice none 0 0, .slice none 0 0, .slice none 0 0] 31))) := HY2.out.alloc HY2.out.size _
    go_upto_region 7 with fail
    clear HY2
    generalize w2.alloc (.cells #[.int .i64 0, .int .u64 0, .int .i64 0, .string ⟨#[]⟩, .bool false, .string ⟨#[]⟩, .int .u64 0, .slice none 0 0, .slice none 0 0, .slice none 0 0, .slice none 0 0, .slice none 0 0] 31) = w3 at *
    generalize w2.heap.size = zb at *
    have z0 : w3.cell? ⟨zb, 0, none⟩ = some (.int .i64 0) := HB3.out.cell 0
    have z1 : w3.cell? ⟨zb, 1, none⟩ = some (.int .u64 0) := HB3.out.cell 1
    have z2 : w3.cell? ⟨zb, 2, none⟩ = some (.int .i64 0) := HB3.out.cell 2
    have z3 : w3.cell? ⟨zb, 3, none⟩ = some (.string ⟨#[]⟩) := HB3.out.cell 3
    have z4 : w3.cell? ⟨zb, 4, none⟩ = some (.bool false) := HB3.out.cell 4
    have z5 : w3.cell? ⟨zb, 5, none⟩ = some (.string ⟨#[]⟩) := HB3.out.cell 5
    have z6 : w3.cell? ⟨zb, 6, none⟩ = some (.int .u64 0) := HB3.out.cell 6
    have z7 : w3.cell? ⟨zb, 7, none⟩ = some (.slice none 0 0) := HB3.out.cell 7
    have z8 : w3.cell? ⟨zb, 8, none⟩ = some (.slice none 0 0) := HB3.out.cell 8
    have z9 : w3.cell? ⟨zb, 9, none⟩ = some (.slice none 0 0) := HB3.out.cell 9
    have z10 : w3.cell? ⟨zb, 10, none⟩ = some (.slice none 0 0) := HB3.out.cell 10
    have z11 : w3.cell? ⟨zb, 11, none⟩ = some (.slice none 0 0) := HB3.out.cell 11
    go_wp2_with fail
    refine (same11_any zeroW zeroW w3 (zeroW_at _) (zeroW_at _)).mono ?_
    rintro e w4 ⟨b, rfl, hb, y⟩
    have hbt : b = true := hb.2 rfl
    subst hbt
    have HY4 : Hid (Below w.heap.size w w4) := ext_trans HY3.out y
    clear hb y
    go_wp2
    go_ret
    exact ⟨rfl, HY4.out⟩
end Go.Proofs.YthkmohcdgnldgaaGreat
