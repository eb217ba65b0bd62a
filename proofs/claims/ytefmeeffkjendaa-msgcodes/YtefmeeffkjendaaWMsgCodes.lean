/- MsgCodes: the walk of the law's Go text. Own lemmas, no statement. -/
import Derived.Test.YtefmeeffkjendaaMsg5
import Derived.Test.YtefmeeffkjendaaMsg6
import Derived.Test.YtefmeeffkjendaaMsg7
import Derived.Test.YtefmeeffkjendaaMsgOpen
import Derived.Test.YtefmeeffkjendaaSrcSeg
set_option linter.unusedSimpArgs false
set_option linter.unusedVariables false
namespace Go.Proofs.Ytefmeeffkjendaa
open Go.ChangeShapes Go.WideShapes Go.ChangeAt Go.RowKit

set_option maxRecDepth 100000 in
set_option maxHeartbeats 8000000 in
theorem walk_MsgCodes (x : MsgQ) (w : World) (wx : x.Wf) : Calls Try.prog 3 #[.agg #[.int .i64 x.kind, .int .i64 x.frm, .int .i64 x.dst, .int .u64 x.num, .int .i64 x.node, .int .u64 x.life, .int .i64 x.n, .int .i64 x.op, .string x.key, .string x.val, .bool x.has, .int .i64 x.code]] w fun e w' => e = .returned (.bool true) ∧ Below w.heap.size w w' := by
  have HW : Hid x.Wf := wx
  have s1 : x.key.size ≤ 9223372036854775807 := wx.2.2.2.2.2.2.2.2.1
  have s2 : x.val.size ≤ 9223372036854775807 := wx.2.2.2.2.2.2.2.2.2.1
  clear wx
  have HA : Hid (Blk (w.alloc (.cells #[.int .i64 x.kind, .int .i64 x.frm, .int .i64 x.dst, .int .u64 x.num, .int .i64 x.node, .int .u64 x.life, .int .i64 x.n, .int .i64 x.op, .string x.key, .string x.val, .bool x.has, .int .i64 x.code] 27)) w.heap.size #[.int .i64 x.kind, .int .i64 x.frm, .int .i64 x.dst, .int .u64 x.num, .int .i64 x.node, .int .u64 x.life, .int .i64 x.n, .int .i64 x.op, .string x.key, .string x.val, .bool x.has, .int .i64 x.code] 27) := Blk.new _ _ _
  have HY : Hid (Below w.heap.size w (w.alloc (.cells #[.int .i64 x.kind, .int .i64 x.frm, .int .i64 x.dst, .int .u64 x.num, .int .i64 x.node, .int .u64 x.life, .int .i64 x.n, .int .i64 x.op, .string x.key, .string x.val, .bool x.has, .int .i64 x.code] 27))) := (Below.refl _ _).alloc (Nat.le_refl _) _
  go_enter Try.func3, Try.ntmps3
  go_upto_region 1 with fail
  generalize (w.alloc (.cells #[.int .i64 x.kind, .int .i64 x.frm, .int .i64 x.dst, .int .u64 x.num, .int .i64 x.node, .int .u64 x.life, .int .i64 x.n, .int .i64 x.op, .string x.key, .string x.val, .bool x.has, .int .i64 x.code] 27)) = w0 at *
  go_wp2_with fail
  refine (head15_any _).mono ?_
  rintro e w1 ⟨rfl, y⟩
  have HA1 : Hid (Blk w1 w.heap.size #[.int .i64 x.kind, .int .i64 x.frm, .int .i64 x.dst, .int .u64 x.num, .int .i64 x.node, .int .u64 x.life, .int .i64 x.n, .int .i64 x.op, .string x.key, .string x.val, .bool x.has, .int .i64 x.code] 27) := HA.out.of (y.block _ HA.out.lt)
  have HY1 : Hid (Below w.heap.size w w1) := ext_trans HY.out y
  clear y HA HY
  have z0 : w1.cell? ⟨w.heap.size, 0, none⟩ = some (.int .i64 x.kind) := HA1.out.cell 0
  have z1 : w1.cell? ⟨w.heap.size, 1, none⟩ = some (.int .i64 x.frm) := HA1.out.cell 1
  have z2 : w1.cell? ⟨w.heap.size, 2, none⟩ = some (.int .i64 x.dst) := HA1.out.cell 2
  have z3 : w1.cell? ⟨w.heap.size, 3, none⟩ = some (.int .u64 x.num) := HA1.out.cell 3
  have z4 : w1.cell? ⟨w.heap.size, 4, none⟩ = some (.int .i64 x.node) := HA1.out.cell 4
  have z5 : w1.cell? ⟨w.heap.size, 5, none⟩ = some (.int .u64 x.life) := HA1.out.cell 5
  have z6 : w1.cell? ⟨w.heap.size, 6, none⟩ = some (.int .i64 x.n) := HA1.out.cell 6
  have z7 : w1.cell? ⟨w.heap.size, 7, none⟩ = some (.int .i64 x.op) := HA1.out.cell 7
  have z8 : w1.cell? ⟨w.heap.size, 8, none⟩ = some (.string x.key) := HA1.out.cell 8
  have z9 : w1.cell? ⟨w.heap.size, 9, none⟩ = some (.string x.val) := HA1.out.cell 9
  have z10 : w1.cell? ⟨w.heap.size, 10, none⟩ = some (.bool x.has) := HA1.out.cell 10
  have z11 : w1.cell? ⟨w.heap.size, 11, none⟩ = some (.int .i64 x.code) := HA1.out.cell 11
  by_cases hk : 100 < x.key.size
  · go_wp2
    go_ret
    exact ⟨rfl, HY1.out⟩
  by_cases hv : 100 < x.val.size
  · go_wp2
    go_ret
    exact ⟨rfl, HY1.out⟩
  go_upto_region 5 with fail
  clear hk hv s1 s2
  go_wp2_with fail
  refine (encode_any x w1 HW.out).mono ?_
  rintro e w2 ⟨he, y⟩
  have HA2 : Hid (Blk w2 w.heap.size #[.int .i64 x.kind, .int .i64 x.frm, .int .i64 x.dst, .int .u64 x.num, .int .i64 x.node, .int .u64 x.life, .int .i64 x.n, .int .i64 x.op, .string x.key, .string x.val, .bool x.has, .int .i64 x.code] 27) := HA1.out.of (y.block _ HA1.out.lt)
  have HY2 : Hid (Below w.heap.size w w2) := ext_trans HY1.out y
  clear y HA1 HY1 z0 z1 z2 z3 z4 z5 z6 z7 z8 z9 z10 z11
  rcases he with ⟨hr, g, c, rfl, ho⟩ | ⟨hr, rfl⟩
  · have HR : Hid (RightM x) := hr
    have HRM : Hid (rightM x = true) := (right_iff x).2 hr
    have hlen := msg_len hr HW.out.2.2.2.2.2.1.1
    clear hr
    obtain ⟨B, hB⟩ : ∃ l, l = msgB x := ⟨_, rfl⟩
    have HB : Hid (B = msgB x) := hB
    rw [← hB] at ho hlen ⊢
    clear hB
    have HS2 : Hid (Src w2 (.slice (some ⟨g, 0, none⟩) B.length c) B) := ho.src
    obtain ⟨n, hn⟩ : ∃ n, n = B.length := ⟨_, rfl⟩
    rw [← hn] at HS2 hlen ⊢
    have HN : Hid (n = B.length) := hn
    clear hn ho
    go_upto_region 6 with fail
    refine wp_region_ext (by kernel_rfl) ?_
    haveI nA := cls_ext w2.drew
    have z0 := cellX (W0 := w2.drew) (show w2.drew.cell? ⟨w.heap.size, 0, none⟩ = some (.int .i64 x.kind) from HA2.out.cell 0)
    have z1 := cellX (W0 := w2.drew) (show w2.drew.cell? ⟨w.heap.size, 1, none⟩ = some (.int .i64 x.frm) from HA2.out.cell 1)
    have z2 := cellX (W0 := w2.drew) (show w2.drew.cell? ⟨w.heap.size, 2, none⟩ = some (.int .i64 x.dst) from HA2.out.cell 2)
    have z3 := cellX (W0 := w2.drew) (show w2.drew.cell? ⟨w.heap.size, 3, none⟩ = some (.int .u64 x.num) from HA2.out.cell 3)
    have z4 := cellX (W0 := w2.drew) (show w2.drew.cell? ⟨w.heap.size, 4, none⟩ = some (.int .i64 x.node) from HA2.out.cell 4)
    have z5 := cellX (W0 := w2.drew) (show w2.drew.cell? ⟨w.heap.size, 5, none⟩ = some (.int .u64 x.life) from HA2.out.cell 5)
    have z6 := cellX (W0 := w2.drew) (show w2.drew.cell? ⟨w.heap.size, 6, none⟩ = some (.int .i64 x.n) from HA2.out.cell 6)
    have z7 := cellX (W0 := w2.drew) (show w2.drew.cell? ⟨w.heap.size, 7, none⟩ = some (.int .i64 x.op) from HA2.out.cell 7)
    have z8 := cellX (W0 := w2.drew) (show w2.drew.cell? ⟨w.heap.size, 8, none⟩ = some (.string x.key) from HA2.out.cell 8)
    have z9 := cellX (W0 := w2.drew) (show w2.drew.cell? ⟨w.heap.size, 9, none⟩ = some (.string x.val) from HA2.out.cell 9)
    have z10 := cellX (W0 := w2.drew) (show w2.drew.cell? ⟨w.heap.size, 10, none⟩ = some (.bool x.has) from HA2.out.cell 10)
    have z11 := cellX (W0 := w2.drew) (show w2.drew.cell? ⟨w.heap.size, 11, none⟩ = some (.int .i64 x.code) from HA2.out.cell 11)
    refine wpAnyH_seg (by kernel_rfl) (fun _ _ _ h => h) [0, 2] 3 _ _ _ (Ext.refl _) (by kernel_rfl) ?_
    simp only [opsAt, List.getElem?_toArray, List.getElem?_cons_zero, List.getElem?_cons_succ, List.cons_append, List.nil_append]
    repeat (go_big_quiet_step (fail))
    refine wpQuiet_nil ?_
    clear nA z0 z1 z2 z3 z4 z5 z6 z7 z8 z9 z10 z11
    have HY3 : Hid (Below w.heap.size w w2.drew) := HY2.out.drew
    have HA3 : Hid (Blk w2.drew w.heap.size #[.int .i64 x.kind, .int .i64 x.frm, .int .i64 x.dst, .int .u64 x.num, .int .i64 x.node, .int .u64 x.life, .int .i64 x.n, .int .i64 x.op, .string x.key, .string x.val, .bool x.has, .int .i64 x.code] 27) := HA2.out
    refine wpAnyH_callE (i := 1) (fuel := 2) 25 rfl (by kernel_rfl) rfl (Ext.refl _) (by kernel_rfl) (f := 9) (args := #[.agg #[.int .i64 x.kind, .int .i64 x.frm, .int .i64 x.dst, .int .u64 x.num, .int .i64 x.node, .int .u64 x.life, .int .i64 x.n, .int .i64 x.op, .string x.key, .string x.val, .bool x.has, .int .i64 x.code]]) (by kernel_rfl) (right15_any x w2.drew HW.out.2.2.2.2.2.2.2.2.1 HW.out.2.2.2.2.2.2.2.2.2.1) ?_
    rintro e w4 ⟨rfl, y⟩
    refine ⟨_, rfl, y, ?_⟩
    rw [HRM.out]
    have HY4 : Hid (Below w.heap.size w w4) := ext_trans HY3.out y
    have HA4 : Hid (Blk w4 w.heap.size #[.int .i64 x.kind, .int .i64 x.frm, .int .i64 x.dst, .int .u64 x.num, .int .i64 x.node, .int .u64 x.life, .int .i64 x.n, .int .i64 x.op, .string x.key, .string x.val, .bool x.has, .int .i64 x.code] 27) := HA3.out.of (y.block _ HA3.out.lt)
    have HS4 : Hid (Src w4 (.slice (some ⟨g, 0, none⟩) n c) B) := (HS2.out.below (Below.drew (Below.refl _ _))).below y
    clear y HA3 HY3
    simp only [Act.put, List.setIfInBounds_toArray, List.set_cons_succ, List.set_cons_zero]
    refine wpAnyH_callE (i := 3) (fuel := 1) 27 rfl (by kernel_rfl) rfl (Ext.refl _) (by kernel_rfl) (f := 10) (args := #[.agg #[.int .i64 x.kind, .int .i64 x.frm, .int .i64 x.dst, .int .u64 x.num, .int .i64 x.node, .int .u64 x.life, .int .i64 x.n, .int .i64 x.op, .string x.key, .string x.val, .bool x.has, .int .i64 x.code]]) (by kernel_rfl) (rightL_any x w4 HW.out.2.2.2.2.2.2.2.2.1 HW.out.2.2.2.2.2.2.2.2.2.1) ?_
    rintro e w5 ⟨rfl, y⟩
    refine ⟨_, rfl, y, ?_⟩
    rw [HRM.out]
    have HY5 : Hid (Below w.heap.size w w5) := ext_trans HY4.out y
    have HA5 : Hid (Blk w5 w.heap.size #[.int .i64 x.kind, .int .i64 x.frm, .int .i64 x.dst, .int .u64 x.num, .int .i64 x.node, .int .u64 x.life, .int .i64 x.n, .int .i64 x.op, .string x.key, .string x.val, .bool x.has, .int .i64 x.code] 27) := HA4.out.of (y.block _ HA4.out.lt)
    have HS5 : Hid (Src w5 (.slice (some ⟨g, 0, none⟩) n c) B) := (HS4.out).below y
    clear y HA4 HY4
    simp only [Act.put, List.setIfInBounds_toArray, List.set_cons_succ, List.set_cons_zero]
    haveI nA := cls_ext w5
    refine wpAnyH_seg (by kernel_rfl) (fun _ _ _ h => h) [4] 0 _ _ _ (Ext.refl _) (by kernel_rfl) ?_
    simp only [opsAt, List.getElem?_toArray, List.getElem?_cons_zero, List.getElem?_cons_succ, List.cons_append, List.nil_append]
    repeat (go_big_quiet_step (fail))
    refine wpQuiet_nil ?_
    clear nA
    refine wpAnyH_done (by kernel_rfl) (NoPanic.normal ?_) 0
    have z0 : w5.cell? ⟨w.heap.size, 0, none⟩ = some (.int .i64 x.kind) := HA5.out.cell 0
    have z1 : w5.cell? ⟨w.heap.size, 1, none⟩ = some (.int .i64 x.frm) := HA5.out.cell 1
    have z2 : w5.cell? ⟨w.heap.size, 2, none⟩ = some (.int .i64 x.dst) := HA5.out.cell 2
    have z3 : w5.cell? ⟨w.heap.size, 3, none⟩ = some (.int .u64 x.num) := HA5.out.cell 3
    have z4 : w5.cell? ⟨w.heap.size, 4, none⟩ = some (.int .i64 x.node) := HA5.out.cell 4
    have z5 : w5.cell? ⟨w.heap.size, 5, none⟩ = some (.int .u64 x.life) := HA5.out.cell 5
    have z6 : w5.cell? ⟨w.heap.size, 6, none⟩ = some (.int .i64 x.n) := HA5.out.cell 6
    have z7 : w5.cell? ⟨w.heap.size, 7, none⟩ = some (.int .i64 x.op) := HA5.out.cell 7
    have z8 : w5.cell? ⟨w.heap.size, 8, none⟩ = some (.string x.key) := HA5.out.cell 8
    have z9 : w5.cell? ⟨w.heap.size, 9, none⟩ = some (.string x.val) := HA5.out.cell 9
    have z10 : w5.cell? ⟨w.heap.size, 10, none⟩ = some (.bool x.has) := HA5.out.cell 10
    have z11 : w5.cell? ⟨w.heap.size, 11, none⟩ = some (.int .i64 x.code) := HA5.out.cell 11
    go_wp2_with fail
    refine (rightL_any x w5 HW.out.2.2.2.2.2.2.2.2.1 HW.out.2.2.2.2.2.2.2.2.2.1).mono ?_
    rintro e w6 ⟨rfl, y⟩
    rw [HRM.out]
    have HY6 : Hid (Below w.heap.size w w6) := ext_trans HY5.out y
    have HA6 : Hid (Blk w6 w.heap.size #[.int .i64 x.kind, .int .i64 x.frm, .int .i64 x.dst, .int .u64 x.num, .int .i64 x.node, .int .u64 x.life, .int .i64 x.n, .int .i64 x.op, .string x.key, .string x.val, .bool x.has, .int .i64 x.code] 27) := HA5.out.of (y.block _ HA5.out.lt)
    have HS6 : Hid (Src w6 (.slice (some ⟨g, 0, none⟩) n c) B) := (HS5.out).below y
    clear y HA5 HY5 z0 z1 z2 z3 z4 z5 z6 z7 z8 z9 z10 z11
    have HX : Hid (Calls _ _ _ _ _) := decodeM_any (some ⟨g, 0, none⟩) n c B w6 HS6.out (by have := HN.out; omega)
    go_wp2_with fail
    refine HX.out.mono ?_
    rintro e w7 ⟨h, y⟩
    have HA7 : Hid (Blk w7 w.heap.size #[.int .i64 x.kind, .int .i64 x.frm, .int .i64 x.dst, .int .u64 x.num, .int .i64 x.node, .int .u64 x.life, .int .i64 x.n, .int .i64 x.op, .string x.key, .string x.val, .bool x.has, .int .i64 x.code] 27) := HA6.out.of (y.block _ HA6.out.lt)
    have HY7 : Hid (Below w.heap.size w w7) := ext_trans HY6.out y
    have HS7 : Hid (Src w7 (.slice (some ⟨g, 0, none⟩) n c) B) := HS6.out.below y
    clear y HX HA6 HY6 HS2 HS4 HS5 HS6
    rcases h with ⟨q, rfl, qr, qw, qb⟩ | ⟨rfl, hno⟩
    case inr => exact absurd HB.out.symm (hno x HR.out HW.out.2.2.2.1.1 HW.out.2.2.2.2.2.1.1)
    have hq : q = x := (msg_apart qr qw.2.2.2.1.1 qw.2.2.2.2.2.1.1 HR.out HW.out.2.2.2.1.1 HW.out.2.2.2.2.2.1.1 (r := []) (by rw [qb, HB.out, List.append_nil])).1
    rw [hq]
    clear hq qr qw qb
    have HP : Hid (Blk (w7.alloc (.cells #[.int .i64 x.kind, .int .i64 x.frm, .int .i64 x.dst, .int .u64 x.num, .int .i64 x.node, .int .u64 x.life, .int .i64 x.n, .int .i64 x.op, .string x.key, .string x.val, .bool x.has, .int .i64 x.code] 27)) w7.heap.size #[.int .i64 x.kind, .int .i64 x.frm, .int .i64 x.dst, .int .u64 x.num, .int .i64 x.node, .int .u64 x.life, .int .i64 x.n, .int .i64 x.op, .string x.key, .string x.val, .bool x.has, .int .i64 x.code] 27) := Blk.new _ _ _
    have HA8 : Hid (Blk (w7.alloc (.cells #[.int .i64 x.kind, .int .i64 x.frm, .int .i64 x.dst, .int .u64 x.num, .int .i64 x.node, .int .u64 x.life, .int .i64 x.n, .int .i64 x.op, .string x.key, .string x.val, .bool x.has, .int .i64 x.code] 27)) w.heap.size #[.int .i64 x.kind, .int .i64 x.frm, .int .i64 x.dst, .int .u64 x.num, .int .i64 x.node, .int .u64 x.life, .int .i64 x.n, .int .i64 x.op, .string x.key, .string x.val, .bool x.has, .int .i64 x.code] 27) := HA7.out.alloc _
    have HS8 : Hid (Src (w7.alloc (.cells #[.int .i64 x.kind, .int .i64 x.frm, .int .i64 x.dst, .int .u64 x.num, .int .i64 x.node, .int .u64 x.life, .int .i64 x.n, .int .i64 x.op, .string x.key, .string x.val, .bool x.has, .int .i64 x.code] 27)) (.slice (some ⟨g, 0, none⟩) n c) B) := HS7.out.below ((Below.refl _ _).alloc (Nat.le_refl _) _)
    have HY8 : Hid (Below w.heap.size w (w7.alloc (.cells #[.int .i64 x.kind, .int .i64 x.frm, .int .i64 x.dst, .int .u64 x.num, .int .i64 x.node, .int .u64 x.life, .int .i64 x.n, .int .i64 x.op, .string x.key, .string x.val, .bool x.has, .int .i64 x.code] 27))) := HY7.out.alloc HY7.out.size _
    go_upto_region 11 with fail
    generalize w7.heap.size = p at *
    generalize (w7.alloc (.cells #[.int .i64 x.kind, .int .i64 x.frm, .int .i64 x.dst, .int .u64 x.num, .int .i64 x.node, .int .u64 x.life, .int .i64 x.n, .int .i64 x.op, .string x.key, .string x.val, .bool x.has, .int .i64 x.code] 27)) = w8 at *
    clear HA7 HY7 HS7
    refine wp_region_ext (by kernel_rfl) ?_
    haveI nA := cls_ext w8.drew
    have z0 := cellX (W0 := w8.drew) (show w8.drew.cell? ⟨w.heap.size, 0, none⟩ = some (.int .i64 x.kind) from HA8.out.cell 0)
    have z1 := cellX (W0 := w8.drew) (show w8.drew.cell? ⟨w.heap.size, 1, none⟩ = some (.int .i64 x.frm) from HA8.out.cell 1)
    have z2 := cellX (W0 := w8.drew) (show w8.drew.cell? ⟨w.heap.size, 2, none⟩ = some (.int .i64 x.dst) from HA8.out.cell 2)
    have z3 := cellX (W0 := w8.drew) (show w8.drew.cell? ⟨w.heap.size, 3, none⟩ = some (.int .u64 x.num) from HA8.out.cell 3)
    have z4 := cellX (W0 := w8.drew) (show w8.drew.cell? ⟨w.heap.size, 4, none⟩ = some (.int .i64 x.node) from HA8.out.cell 4)
    have z5 := cellX (W0 := w8.drew) (show w8.drew.cell? ⟨w.heap.size, 5, none⟩ = some (.int .u64 x.life) from HA8.out.cell 5)
    have z6 := cellX (W0 := w8.drew) (show w8.drew.cell? ⟨w.heap.size, 6, none⟩ = some (.int .i64 x.n) from HA8.out.cell 6)
    have z7 := cellX (W0 := w8.drew) (show w8.drew.cell? ⟨w.heap.size, 7, none⟩ = some (.int .i64 x.op) from HA8.out.cell 7)
    have z8 := cellX (W0 := w8.drew) (show w8.drew.cell? ⟨w.heap.size, 8, none⟩ = some (.string x.key) from HA8.out.cell 8)
    have z9 := cellX (W0 := w8.drew) (show w8.drew.cell? ⟨w.heap.size, 9, none⟩ = some (.string x.val) from HA8.out.cell 9)
    have z10 := cellX (W0 := w8.drew) (show w8.drew.cell? ⟨w.heap.size, 10, none⟩ = some (.bool x.has) from HA8.out.cell 10)
    have z11 := cellX (W0 := w8.drew) (show w8.drew.cell? ⟨w.heap.size, 11, none⟩ = some (.int .i64 x.code) from HA8.out.cell 11)
    have u1 := Src.strE (W0 := w8.drew) (HS8.out.below (Below.drew (Below.refl _ _)))
    refine wpAnyH_seg (by kernel_rfl) (fun _ _ _ h => h) [0, 1, 2, 3, 4, 5] 14 _ _ _ (Ext.refl _) (by kernel_rfl) ?_
    simp only [opsAt, List.getElem?_toArray, List.getElem?_cons_zero, List.getElem?_cons_succ, List.cons_append, List.nil_append]
    repeat (go_big_quiet_step (fail))
    refine wpQuiet_nil ?_
    clear nA z0 z1 z2 z3 z4 z5 z6 z7 z8 z9 z10 z11 u1
    have HY9 : Hid (Below w.heap.size w w8.drew) := HY8.out.drew
    refine wpAnyH_callE (i := 6) (fuel := 13) 50 rfl (by kernel_rfl) rfl (Ext.refl _) (by kernel_rfl) (f := 12) (args := #[.agg #[.int .i64 x.kind, .int .i64 x.frm, .int .i64 x.dst, .int .u64 x.num, .int .i64 x.node, .int .u64 x.life, .int .i64 x.n, .int .i64 x.op, .string x.key, .string x.val, .bool x.has, .int .i64 x.code]]) (by kernel_rfl) (lawBytes15_any x w8.drew HR.out HW.out) ?_
    rintro e wa ⟨g2, c2, rfl, ho, y⟩
    refine ⟨_, rfl, y, ?_⟩
    rw [← HB.out] at ho ⊢
    have HSa : Hid (Src wa (.slice (some ⟨g2, 0, none⟩) B.length c2) B) := ho.src
    have HYa : Hid (Below w.heap.size w wa) := ext_trans HY9.out y
    have y2 : Below w8.heap.size w8 wa := (Below.drew (Below.refl _ _)).trans y
    have HAa : Hid (Blk wa w.heap.size #[.int .i64 x.kind, .int .i64 x.frm, .int .i64 x.dst, .int .u64 x.num, .int .i64 x.node, .int .u64 x.life, .int .i64 x.n, .int .i64 x.op, .string x.key, .string x.val, .bool x.has, .int .i64 x.code] 27) := HA8.out.of (y2.block _ HA8.out.lt)
    have HPa : Hid (Blk wa p #[.int .i64 x.kind, .int .i64 x.frm, .int .i64 x.dst, .int .u64 x.num, .int .i64 x.node, .int .u64 x.life, .int .i64 x.n, .int .i64 x.op, .string x.key, .string x.val, .bool x.has, .int .i64 x.code] 27) := HP.out.of (y2.block _ HP.out.lt)
    clear y y2 ho HA8 HY8 HY9 HP HS8
    simp only [Act.put, List.setIfInBounds_toArray, List.set_cons_succ, List.set_cons_zero]
    haveI nA := cls_ext wa
    have u2 := Src.strE (W0 := wa) HSa.out
    have z0 := cellX (W0 := wa) (show wa.cell? ⟨w.heap.size, 0, none⟩ = some (.int .i64 x.kind) from HAa.out.cell 0)
    have z1 := cellX (W0 := wa) (show wa.cell? ⟨w.heap.size, 1, none⟩ = some (.int .i64 x.frm) from HAa.out.cell 1)
    have z2 := cellX (W0 := wa) (show wa.cell? ⟨w.heap.size, 2, none⟩ = some (.int .i64 x.dst) from HAa.out.cell 2)
    have z3 := cellX (W0 := wa) (show wa.cell? ⟨w.heap.size, 3, none⟩ = some (.int .u64 x.num) from HAa.out.cell 3)
    have z4 := cellX (W0 := wa) (show wa.cell? ⟨w.heap.size, 4, none⟩ = some (.int .i64 x.node) from HAa.out.cell 4)
    have z5 := cellX (W0 := wa) (show wa.cell? ⟨w.heap.size, 5, none⟩ = some (.int .u64 x.life) from HAa.out.cell 5)
    have z6 := cellX (W0 := wa) (show wa.cell? ⟨w.heap.size, 6, none⟩ = some (.int .i64 x.n) from HAa.out.cell 6)
    have z7 := cellX (W0 := wa) (show wa.cell? ⟨w.heap.size, 7, none⟩ = some (.int .i64 x.op) from HAa.out.cell 7)
    have z8 := cellX (W0 := wa) (show wa.cell? ⟨w.heap.size, 8, none⟩ = some (.string x.key) from HAa.out.cell 8)
    have z9 := cellX (W0 := wa) (show wa.cell? ⟨w.heap.size, 9, none⟩ = some (.string x.val) from HAa.out.cell 9)
    have z10 := cellX (W0 := wa) (show wa.cell? ⟨w.heap.size, 10, none⟩ = some (.bool x.has) from HAa.out.cell 10)
    have z11 := cellX (W0 := wa) (show wa.cell? ⟨w.heap.size, 11, none⟩ = some (.int .i64 x.code) from HAa.out.cell 11)
    have y0 := cellX (W0 := wa) (show wa.cell? ⟨p, 0, none⟩ = some (.int .i64 x.kind) from HPa.out.cell 0)
    have y1 := cellX (W0 := wa) (show wa.cell? ⟨p, 1, none⟩ = some (.int .i64 x.frm) from HPa.out.cell 1)
    have y2 := cellX (W0 := wa) (show wa.cell? ⟨p, 2, none⟩ = some (.int .i64 x.dst) from HPa.out.cell 2)
    have y3 := cellX (W0 := wa) (show wa.cell? ⟨p, 3, none⟩ = some (.int .u64 x.num) from HPa.out.cell 3)
    have y4 := cellX (W0 := wa) (show wa.cell? ⟨p, 4, none⟩ = some (.int .i64 x.node) from HPa.out.cell 4)
    have y5 := cellX (W0 := wa) (show wa.cell? ⟨p, 5, none⟩ = some (.int .u64 x.life) from HPa.out.cell 5)
    have y6 := cellX (W0 := wa) (show wa.cell? ⟨p, 6, none⟩ = some (.int .i64 x.n) from HPa.out.cell 6)
    have y7 := cellX (W0 := wa) (show wa.cell? ⟨p, 7, none⟩ = some (.int .i64 x.op) from HPa.out.cell 7)
    have y8 := cellX (W0 := wa) (show wa.cell? ⟨p, 8, none⟩ = some (.string x.key) from HPa.out.cell 8)
    have y9 := cellX (W0 := wa) (show wa.cell? ⟨p, 9, none⟩ = some (.string x.val) from HPa.out.cell 9)
    have y10 := cellX (W0 := wa) (show wa.cell? ⟨p, 10, none⟩ = some (.bool x.has) from HPa.out.cell 10)
    have y11 := cellX (W0 := wa) (show wa.cell? ⟨p, 11, none⟩ = some (.int .i64 x.code) from HPa.out.cell 11)
    refine wpAnyH_seg (by kernel_rfl) (fun _ _ _ h => h) [7, 8, 9, 10, 11, 12, 13, 14, 15, 16, 17, 18, 19] 0 _ _ _ (Ext.refl _) (by kernel_rfl) ?_
    simp only [opsAt, List.getElem?_toArray, List.getElem?_cons_zero, List.getElem?_cons_succ, List.cons_append, List.nil_append]
    repeat (go_big_quiet_step (fail))
    refine wpQuiet_nil ?_
    clear nA z0 z1 z2 z3 z4 z5 z6 z7 z8 z9 z10 z11 y0 y1 y2 y3 y4 y5 y6 y7 y8 y9 y10 y11 u2
    refine wpAnyH_done (by kernel_rfl) (NoPanic.normal ?_) 0
    go_wp2
    go_ret
    exact ⟨rfl, HYa.out⟩
  · have HRM : Hid (rightM x = false) := Bool.eq_false_iff.2 fun h => hr ((right_iff x).1 h)
    clear hr
    go_upto_region 6 with fail
    refine wp_region_ext (by kernel_rfl) ?_
    haveI nA := cls_ext w2.drew
    have z0 := cellX (W0 := w2.drew) (show w2.drew.cell? ⟨w.heap.size, 0, none⟩ = some (.int .i64 x.kind) from HA2.out.cell 0)
    have z1 := cellX (W0 := w2.drew) (show w2.drew.cell? ⟨w.heap.size, 1, none⟩ = some (.int .i64 x.frm) from HA2.out.cell 1)
    have z2 := cellX (W0 := w2.drew) (show w2.drew.cell? ⟨w.heap.size, 2, none⟩ = some (.int .i64 x.dst) from HA2.out.cell 2)
    have z3 := cellX (W0 := w2.drew) (show w2.drew.cell? ⟨w.heap.size, 3, none⟩ = some (.int .u64 x.num) from HA2.out.cell 3)
    have z4 := cellX (W0 := w2.drew) (show w2.drew.cell? ⟨w.heap.size, 4, none⟩ = some (.int .i64 x.node) from HA2.out.cell 4)
    have z5 := cellX (W0 := w2.drew) (show w2.drew.cell? ⟨w.heap.size, 5, none⟩ = some (.int .u64 x.life) from HA2.out.cell 5)
    have z6 := cellX (W0 := w2.drew) (show w2.drew.cell? ⟨w.heap.size, 6, none⟩ = some (.int .i64 x.n) from HA2.out.cell 6)
    have z7 := cellX (W0 := w2.drew) (show w2.drew.cell? ⟨w.heap.size, 7, none⟩ = some (.int .i64 x.op) from HA2.out.cell 7)
    have z8 := cellX (W0 := w2.drew) (show w2.drew.cell? ⟨w.heap.size, 8, none⟩ = some (.string x.key) from HA2.out.cell 8)
    have z9 := cellX (W0 := w2.drew) (show w2.drew.cell? ⟨w.heap.size, 9, none⟩ = some (.string x.val) from HA2.out.cell 9)
    have z10 := cellX (W0 := w2.drew) (show w2.drew.cell? ⟨w.heap.size, 10, none⟩ = some (.bool x.has) from HA2.out.cell 10)
    have z11 := cellX (W0 := w2.drew) (show w2.drew.cell? ⟨w.heap.size, 11, none⟩ = some (.int .i64 x.code) from HA2.out.cell 11)
    refine wpAnyH_seg (by kernel_rfl) (fun _ _ _ h => h) [0, 2] 3 _ _ _ (Ext.refl _) (by kernel_rfl) ?_
    simp only [opsAt, List.getElem?_toArray, List.getElem?_cons_zero, List.getElem?_cons_succ, List.cons_append, List.nil_append]
    repeat (go_big_quiet_step (fail))
    refine wpQuiet_nil ?_
    clear nA z0 z1 z2 z3 z4 z5 z6 z7 z8 z9 z10 z11
    have HY3 : Hid (Below w.heap.size w w2.drew) := HY2.out.drew
    have HA3 : Hid (Blk w2.drew w.heap.size #[.int .i64 x.kind, .int .i64 x.frm, .int .i64 x.dst, .int .u64 x.num, .int .i64 x.node, .int .u64 x.life, .int .i64 x.n, .int .i64 x.op, .string x.key, .string x.val, .bool x.has, .int .i64 x.code] 27) := HA2.out
    refine wpAnyH_callE (i := 1) (fuel := 2) 25 rfl (by kernel_rfl) rfl (Ext.refl _) (by kernel_rfl) (f := 9) (args := #[.agg #[.int .i64 x.kind, .int .i64 x.frm, .int .i64 x.dst, .int .u64 x.num, .int .i64 x.node, .int .u64 x.life, .int .i64 x.n, .int .i64 x.op, .string x.key, .string x.val, .bool x.has, .int .i64 x.code]]) (by kernel_rfl) (right15_any x w2.drew HW.out.2.2.2.2.2.2.2.2.1 HW.out.2.2.2.2.2.2.2.2.2.1) ?_
    rintro e w4 ⟨rfl, y⟩
    refine ⟨_, rfl, y, ?_⟩
    rw [HRM.out]
    have HY4 : Hid (Below w.heap.size w w4) := ext_trans HY3.out y
    have HA4 : Hid (Blk w4 w.heap.size #[.int .i64 x.kind, .int .i64 x.frm, .int .i64 x.dst, .int .u64 x.num, .int .i64 x.node, .int .u64 x.life, .int .i64 x.n, .int .i64 x.op, .string x.key, .string x.val, .bool x.has, .int .i64 x.code] 27) := HA3.out.of (y.block _ HA3.out.lt)
    clear y HA3 HY3
    simp only [Act.put, List.setIfInBounds_toArray, List.set_cons_succ, List.set_cons_zero]
    refine wpAnyH_callE (i := 3) (fuel := 1) 27 rfl (by kernel_rfl) rfl (Ext.refl _) (by kernel_rfl) (f := 10) (args := #[.agg #[.int .i64 x.kind, .int .i64 x.frm, .int .i64 x.dst, .int .u64 x.num, .int .i64 x.node, .int .u64 x.life, .int .i64 x.n, .int .i64 x.op, .string x.key, .string x.val, .bool x.has, .int .i64 x.code]]) (by kernel_rfl) (rightL_any x w4 HW.out.2.2.2.2.2.2.2.2.1 HW.out.2.2.2.2.2.2.2.2.2.1) ?_
    rintro e w5 ⟨rfl, y⟩
    refine ⟨_, rfl, y, ?_⟩
    rw [HRM.out]
    have HY5 : Hid (Below w.heap.size w w5) := ext_trans HY4.out y
    have HA5 : Hid (Blk w5 w.heap.size #[.int .i64 x.kind, .int .i64 x.frm, .int .i64 x.dst, .int .u64 x.num, .int .i64 x.node, .int .u64 x.life, .int .i64 x.n, .int .i64 x.op, .string x.key, .string x.val, .bool x.has, .int .i64 x.code] 27) := HA4.out.of (y.block _ HA4.out.lt)
    clear y HA4 HY4
    simp only [Act.put, List.setIfInBounds_toArray, List.set_cons_succ, List.set_cons_zero]
    haveI nA := cls_ext w5
    refine wpAnyH_seg (by kernel_rfl) (fun _ _ _ h => h) [4] 0 _ _ _ (Ext.refl _) (by kernel_rfl) ?_
    simp only [opsAt, List.getElem?_toArray, List.getElem?_cons_zero, List.getElem?_cons_succ, List.cons_append, List.nil_append]
    repeat (go_big_quiet_step (fail))
    refine wpQuiet_nil ?_
    clear nA
    refine wpAnyH_done (by kernel_rfl) (NoPanic.normal ?_) 0
    have z0 : w5.cell? ⟨w.heap.size, 0, none⟩ = some (.int .i64 x.kind) := HA5.out.cell 0
    have z1 : w5.cell? ⟨w.heap.size, 1, none⟩ = some (.int .i64 x.frm) := HA5.out.cell 1
    have z2 : w5.cell? ⟨w.heap.size, 2, none⟩ = some (.int .i64 x.dst) := HA5.out.cell 2
    have z3 : w5.cell? ⟨w.heap.size, 3, none⟩ = some (.int .u64 x.num) := HA5.out.cell 3
    have z4 : w5.cell? ⟨w.heap.size, 4, none⟩ = some (.int .i64 x.node) := HA5.out.cell 4
    have z5 : w5.cell? ⟨w.heap.size, 5, none⟩ = some (.int .u64 x.life) := HA5.out.cell 5
    have z6 : w5.cell? ⟨w.heap.size, 6, none⟩ = some (.int .i64 x.n) := HA5.out.cell 6
    have z7 : w5.cell? ⟨w.heap.size, 7, none⟩ = some (.int .i64 x.op) := HA5.out.cell 7
    have z8 : w5.cell? ⟨w.heap.size, 8, none⟩ = some (.string x.key) := HA5.out.cell 8
    have z9 : w5.cell? ⟨w.heap.size, 9, none⟩ = some (.string x.val) := HA5.out.cell 9
    have z10 : w5.cell? ⟨w.heap.size, 10, none⟩ = some (.bool x.has) := HA5.out.cell 10
    have z11 : w5.cell? ⟨w.heap.size, 11, none⟩ = some (.int .i64 x.code) := HA5.out.cell 11
    go_wp2_with fail
    refine (rightL_any x w5 HW.out.2.2.2.2.2.2.2.2.1 HW.out.2.2.2.2.2.2.2.2.2.1).mono ?_
    rintro e w6 ⟨rfl, y⟩
    rw [HRM.out]
    have HY6 : Hid (Below w.heap.size w w6) := ext_trans HY5.out y
    have HA6 : Hid (Blk w6 w.heap.size #[.int .i64 x.kind, .int .i64 x.frm, .int .i64 x.dst, .int .u64 x.num, .int .i64 x.node, .int .u64 x.life, .int .i64 x.n, .int .i64 x.op, .string x.key, .string x.val, .bool x.has, .int .i64 x.code] 27) := HA5.out.of (y.block _ HA5.out.lt)
    clear y HA5 HY5 z0 z1 z2 z3 z4 z5 z6 z7 z8 z9 z10 z11
    go_wp2
    go_ret
    exact ⟨rfl, HY6.out⟩
end Go.Proofs.Ytefmeeffkjendaa
