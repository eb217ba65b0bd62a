/- MsgReads: the walk of the law's Go text. Own lemmas, no statement. -/
import Derived.Test.YtefmeeffkjendaaMsg5
import Derived.Test.YtefmeeffkjendaaMsg6
import Derived.Test.YtefmeeffkjendaaMsg7
import Derived.Test.YtefmeeffkjendaaBase
import Derived.Test.YtefmeeffkjendaaSrcSeg
set_option linter.unusedSimpArgs false
set_option linter.unusedVariables false
namespace Go.Proofs.Ytefmeeffkjendaa
open Go.ChangeShapes Go.WideShapes Go.ChangeAt Go.RowKit

set_option maxRecDepth 100000 in
set_option maxHeartbeats 8000000 in
theorem walk_MsgReads (a : Option Addr) (len cap : Nat) (zz : List Int) (w : World) (hw : IsRow .u8 w a len cap zz) : Calls Try.prog 4 #[.slice a len cap] w fun e w' => e = .returned (.bool true) ∧ Below w.heap.size w w' := by
  obtain ⟨l, hs, hlen⟩ := isRow_src hw
  clear hw
  subst hlen
  have HS : Hid (Src w (.slice a l.length cap) l) := hs
  have hcm : l.length ≤ 9223372036854775807 := by have := hs.at.2.2.1; have := hs.at.2.1; unfold maxLen at *; omega
  clear hs
  obtain ⟨n, hn⟩ : ∃ n, n = l.length := ⟨_, rfl⟩
  have HN : Hid (n = l.length) := hn
  rw [← hn] at HS hcm ⊢
  clear hn
  go_enter Try.func4, Try.ntmps4
  go_wp2_with fail
  refine (head15_any _).mono ?_
  rintro e w1 ⟨rfl, y⟩
  have HY1 : Hid (Below w.heap.size w w1) := y
  clear y
  by_cases hl : 300 < n
  · go_wp2
    go_ret
    exact ⟨rfl, HY1.out⟩
  have HS1 : Hid (Src w1 (.slice a n cap) l) := HS.out.below HY1.out
  have HX : Hid (Calls _ _ _ _ _) := decodeM_any a n cap l w1 HS1.out (by have := HN.out; omega)
  go_wp2_with fail
  refine HX.out.mono ?_
  rintro e w2 ⟨h, y⟩
  have HY2 : Hid (Below w.heap.size w w2) := ext_trans HY1.out y
  clear y HX
  rcases h with ⟨x, rfl, hr, hwf, hb⟩ | ⟨rfl, _⟩
  · have HR : Hid (RightM x) := hr
    have HW : Hid x.Wf := hwf
    have HB : Hid (msgB x = l) := hb
    clear hr hwf hb
    have HA : Hid (Blk (w2.alloc (.cells #[.int .i64 x.kind, .int .i64 x.frm, .int .i64 x.dst, .int .u64 x.num, .int .i64 x.node, .int .u64 x.life, .int .i64 x.n, .int .i64 x.op, .string x.key, .string x.val, .bool x.has, .int .i64 x.code] 27)) w2.heap.size #[.int .i64 x.kind, .int .i64 x.frm, .int .i64 x.dst, .int .u64 x.num, .int .i64 x.node, .int .u64 x.life, .int .i64 x.n, .int .i64 x.op, .string x.key, .string x.val, .bool x.has, .int .i64 x.code] 27) := Blk.new _ _ _
    have HY : Hid (Below w.heap.size w (w2.alloc (.cells #[.int .i64 x.kind, .int .i64 x.frm, .int .i64 x.dst, .int .u64 x.num, .int .i64 x.node, .int .u64 x.life, .int .i64 x.n, .int .i64 x.op, .string x.key, .string x.val, .bool x.has, .int .i64 x.code] 27))) := HY2.out.alloc HY2.out.size _
    go_upto_region 8 with fail
    generalize hp : w2.heap.size = p at *
    generalize (w2.alloc (.cells #[.int .i64 x.kind, .int .i64 x.frm, .int .i64 x.dst, .int .u64 x.num, .int .i64 x.node, .int .u64 x.life, .int .i64 x.n, .int .i64 x.op, .string x.key, .string x.val, .bool x.has, .int .i64 x.code] 27)) = w3 at *
    clear hp
    refine wp_region_ext (by kernel_rfl) ?_
    haveI nA := cls_ext w3.drew
    have z0 := cellX (W0 := w3.drew) (show w3.drew.cell? ⟨p, 0, none⟩ = some (.int .i64 x.kind) from HA.out.cell 0)
    have z1 := cellX (W0 := w3.drew) (show w3.drew.cell? ⟨p, 1, none⟩ = some (.int .i64 x.frm) from HA.out.cell 1)
    have z2 := cellX (W0 := w3.drew) (show w3.drew.cell? ⟨p, 2, none⟩ = some (.int .i64 x.dst) from HA.out.cell 2)
    have z3 := cellX (W0 := w3.drew) (show w3.drew.cell? ⟨p, 3, none⟩ = some (.int .u64 x.num) from HA.out.cell 3)
    have z4 := cellX (W0 := w3.drew) (show w3.drew.cell? ⟨p, 4, none⟩ = some (.int .i64 x.node) from HA.out.cell 4)
    have z5 := cellX (W0 := w3.drew) (show w3.drew.cell? ⟨p, 5, none⟩ = some (.int .u64 x.life) from HA.out.cell 5)
    have z6 := cellX (W0 := w3.drew) (show w3.drew.cell? ⟨p, 6, none⟩ = some (.int .i64 x.n) from HA.out.cell 6)
    have z7 := cellX (W0 := w3.drew) (show w3.drew.cell? ⟨p, 7, none⟩ = some (.int .i64 x.op) from HA.out.cell 7)
    have z8 := cellX (W0 := w3.drew) (show w3.drew.cell? ⟨p, 8, none⟩ = some (.string x.key) from HA.out.cell 8)
    have z9 := cellX (W0 := w3.drew) (show w3.drew.cell? ⟨p, 9, none⟩ = some (.string x.val) from HA.out.cell 9)
    have z10 := cellX (W0 := w3.drew) (show w3.drew.cell? ⟨p, 10, none⟩ = some (.bool x.has) from HA.out.cell 10)
    have z11 := cellX (W0 := w3.drew) (show w3.drew.cell? ⟨p, 11, none⟩ = some (.int .i64 x.code) from HA.out.cell 11)
    refine wpAnyH_seg (by kernel_rfl) (fun _ _ _ h => h) [0] 10 _ _ _ (Ext.refl _) (by kernel_rfl) ?_
    simp only [opsAt, List.getElem?_toArray, List.getElem?_cons_zero, List.getElem?_cons_succ, List.cons_append, List.nil_append]
    repeat (go_big_quiet_step (fail))
    refine wpQuiet_nil ?_
    clear nA z0 z1 z2 z3 z4 z5 z6 z7 z8 z9 z10 z11
    have HY4 : Hid (Below w.heap.size w w3.drew) := HY.out.drew
    have HA4 : Hid (Blk w3.drew p #[.int .i64 x.kind, .int .i64 x.frm, .int .i64 x.dst, .int .u64 x.num, .int .i64 x.node, .int .u64 x.life, .int .i64 x.n, .int .i64 x.op, .string x.key, .string x.val, .bool x.has, .int .i64 x.code] 27) := HA.out
    clear HA HY
    refine wpAnyH_callE (i := 1) (fuel := 9) 25 rfl (by kernel_rfl) rfl (Ext.refl _) (by kernel_rfl) (f := 10) (args := #[.agg #[.int .i64 x.kind, .int .i64 x.frm, .int .i64 x.dst, .int .u64 x.num, .int .i64 x.node, .int .u64 x.life, .int .i64 x.n, .int .i64 x.op, .string x.key, .string x.val, .bool x.has, .int .i64 x.code]]) (by kernel_rfl) (rightL_any x w3.drew HW.out.2.2.2.2.2.2.2.2.1 HW.out.2.2.2.2.2.2.2.2.2.1) ?_
    rintro e w5 ⟨rfl, y⟩
    refine ⟨_, rfl, y, ?_⟩
    rw [(right_iff x).2 HR.out]
    have HY5 : Hid (Below w.heap.size w w5) := ext_trans HY4.out y
    have HA5 : Hid (Blk w5 p #[.int .i64 x.kind, .int .i64 x.frm, .int .i64 x.dst, .int .u64 x.num, .int .i64 x.node, .int .u64 x.life, .int .i64 x.n, .int .i64 x.op, .string x.key, .string x.val, .bool x.has, .int .i64 x.code] 27) := HA4.out.of (y.block _ HA4.out.lt)
    clear y HA4 HY4
    simp only [Act.put, List.setIfInBounds_toArray, List.set_cons_succ, List.set_cons_zero]
    haveI nA := cls_ext w5
    have z0 := cellX (W0 := w5) (show w5.cell? ⟨p, 0, none⟩ = some (.int .i64 x.kind) from HA5.out.cell 0)
    have z1 := cellX (W0 := w5) (show w5.cell? ⟨p, 1, none⟩ = some (.int .i64 x.frm) from HA5.out.cell 1)
    have z2 := cellX (W0 := w5) (show w5.cell? ⟨p, 2, none⟩ = some (.int .i64 x.dst) from HA5.out.cell 2)
    have z3 := cellX (W0 := w5) (show w5.cell? ⟨p, 3, none⟩ = some (.int .u64 x.num) from HA5.out.cell 3)
    have z4 := cellX (W0 := w5) (show w5.cell? ⟨p, 4, none⟩ = some (.int .i64 x.node) from HA5.out.cell 4)
    have z5 := cellX (W0 := w5) (show w5.cell? ⟨p, 5, none⟩ = some (.int .u64 x.life) from HA5.out.cell 5)
    have z6 := cellX (W0 := w5) (show w5.cell? ⟨p, 6, none⟩ = some (.int .i64 x.n) from HA5.out.cell 6)
    have z7 := cellX (W0 := w5) (show w5.cell? ⟨p, 7, none⟩ = some (.int .i64 x.op) from HA5.out.cell 7)
    have z8 := cellX (W0 := w5) (show w5.cell? ⟨p, 8, none⟩ = some (.string x.key) from HA5.out.cell 8)
    have z9 := cellX (W0 := w5) (show w5.cell? ⟨p, 9, none⟩ = some (.string x.val) from HA5.out.cell 9)
    have z10 := cellX (W0 := w5) (show w5.cell? ⟨p, 10, none⟩ = some (.bool x.has) from HA5.out.cell 10)
    have z11 := cellX (W0 := w5) (show w5.cell? ⟨p, 11, none⟩ = some (.int .i64 x.code) from HA5.out.cell 11)
    have u1 := Src.strE (W0 := w5) (HS.out.below HY5.out)
    refine wpAnyH_seg (by kernel_rfl) (fun _ _ _ h => h) [2, 3, 6, 7] 5 _ _ _ (Ext.refl _) (by kernel_rfl) ?_
    simp only [opsAt, List.getElem?_toArray, List.getElem?_cons_zero, List.getElem?_cons_succ, List.cons_append, List.nil_append]
    repeat (go_big_quiet_step (fail))
    refine wpQuiet_nil ?_
    clear nA z0 z1 z2 z3 z4 z5 z6 z7 z8 z9 z10 z11 u1
    refine wpAnyH_callE (i := 4) (fuel := 4) 28 rfl (by kernel_rfl) rfl (Ext.refl _) (by kernel_rfl) (f := 12) (args := #[.agg #[.int .i64 x.kind, .int .i64 x.frm, .int .i64 x.dst, .int .u64 x.num, .int .i64 x.node, .int .u64 x.life, .int .i64 x.n, .int .i64 x.op, .string x.key, .string x.val, .bool x.has, .int .i64 x.code]]) (by kernel_rfl) (lawBytes15_any x w5 HR.out HW.out) ?_
    rintro e w6 ⟨g, c, rfl, ho, y⟩
    refine ⟨_, rfl, y, ?_⟩
    rw [HB.out] at ho ⊢
    have HS6 : Hid (Src w6 (.slice (some ⟨g, 0, none⟩) l.length c) l) := ho.src
    have HY6 : Hid (Below w.heap.size w w6) := ext_trans HY5.out y
    clear y ho HA5 HY5
    simp only [Act.put, List.setIfInBounds_toArray, List.set_cons_succ, List.set_cons_zero]
    haveI nA := cls_ext w6
    have u1 := Src.strE (W0 := w6) (HS.out.below HY6.out)
    have u2 := Src.strE (W0 := w6) HS6.out
    refine wpAnyH_seg (by kernel_rfl) (fun _ _ _ h => h) [5, 8, 9, 10] 0 _ _ _ (Ext.refl _) (by kernel_rfl) ?_
    simp only [opsAt, List.getElem?_toArray, List.getElem?_cons_zero, List.getElem?_cons_succ, List.cons_append, List.nil_append]
    repeat (go_big_quiet_step (fail))
    refine wpQuiet_nil ?_
    clear nA u1 u2
    refine wpAnyH_done (by kernel_rfl) (NoPanic.normal ?_) 0
    go_wp2
    go_ret
    exact ⟨rfl, HY6.out⟩
  · have HY : Hid (Below w.heap.size w (w2.alloc (.cells #[.int .i64 0, .int .i64 0, .int .i64 0, .int .u64 0, .int .i64 0, .int .u64 0, .int .i64 0, .int .i64 0, .string ⟨#[]⟩, .string ⟨#[]⟩, .bool false, .int .i64 0] 27))) := HY2.out.alloc HY2.out.size _
    go_wp2
    go_ret
    exact ⟨rfl, HY.out⟩
end Go.Proofs.Ytefmeeffkjendaa
