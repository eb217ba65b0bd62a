/- rec: what a record is laid as. Own lemmas, no statement. -/
import Derived.Test.YtbgofajldkblmaaGreatRec9
import Derived.Test.YtbgofajldkblmaaGreatPg7
set_option linter.unusedSimpArgs false
set_option linter.unusedVariables false
namespace Go.Proofs.YtbgofajldkblmaaGreat
open Go.ChangeShapes Go.WideShapes Go.ChangeAt Go.RowKit

def imageB (p : Pg) : ByteArray := ⟨(encP p 0).toArray⟩
def chgB (x : ChgV) : List UInt8 := intB x.n ++ textB (imageB x.p)
def turnB (x : RecV) : List UInt8 := intB x.prev ++ allB8 chgB x.gs

set_option maxRecDepth 100000 in
set_option maxHeartbeats 4000000 in
theorem change_any (x : ChgV) (w : World) (h : x.At w) (hw : 0 ≤ x.n ∧ x.n < 9223372036854775808) (hr : rightPg x.p = true) (hlen : (intB x.n ++ textB (imageB x.p)).length < 100000000000) : Calls Tryz.prog 92 #[.agg #[.int .i64 x.n, .int .i64 x.p.kind, .slice x.ka x.kn x.kc, .slice x.va x.vn x.vc, .slice x.da x.dn x.dc, .int .i64 x.p.root, .int .i64 x.p.next, .int .i64 x.p.size, .int .i64 x.p.idle]] w (OwnP w (intB x.n ++ textB (imageB x.p))) := by
  have HW : Hid (0 ≤ x.n ∧ x.n < 9223372036854775808) := hw
  have HEQ : Hid ([intB x.n, textB (imageB x.p)].flatten = intB x.n ++ textB (imageB x.p)) := by show _ = _; simp
  have HFL : Hid ([intB x.n, textB (imageB x.p)].flatten.length < 100000000000) := by show _ < _; rw [HEQ.out]; exact hlen
  have HSZ0 : Hid ((imageB x.p).size < 800000000000) := by
    show _ < _
    have h1 : (textB (imageB x.p)).length = (enc (imageB x.p).size).length + (imageB x.p).size := by unfold textB; rw [List.length_append]; rfl
    rw [List.length_append, h1] at hlen
    omega
  have HPE : Hid (∀ W, Below w.heap.size w W → Calls Tryz.prog 30 #[pgv x.p (.slice x.ka x.kn x.kc) (.slice x.va x.vn x.vc) (.slice x.da x.dn x.dc), .int .u64 0] W fun e w' => ∃ ao n c, e = .returned (.tuple #[.slice ao n c, .int .i64 0]) ∧ Src w' (.slice ao n c) (encP x.p 0) ∧ Below W.heap.size W w') := fun W hb => (encode_any x.p 0 _ _ _ W (h.rd.below hb) h.ok (by omega)).mono fun e w' he => by
    obtain ⟨h1, h2⟩ := he
    rw [if_pos hr] at h1
    obtain ⟨v, h3, h4⟩ := h1
    obtain ⟨a, c, hv⟩ : ∃ a c, v = .slice a (encP x.p 0).length c := by obtain ⟨a, c, hv, _⟩ := h4; exact ⟨a, c, hv⟩
    subst hv
    exact ⟨_, _, _, h3, h4, h2⟩
  clear hlen h hw hr
  unfold pgv at HPE
  have HB0 : Hid (Blk (w.alloc (.cells #[.int .i64 x.n, .int .i64 x.p.kind, .slice x.ka x.kn x.kc, .slice x.va x.vn x.vc, .slice x.da x.dn x.dc, .int .i64 x.p.root, .int .i64 x.p.next, .int .i64 x.p.size, .int .i64 x.p.idle] 49)) w.heap.size #[.int .i64 x.n, .int .i64 x.p.kind, .slice x.ka x.kn x.kc, .slice x.va x.vn x.vc, .slice x.da x.dn x.dc, .int .i64 x.p.root, .int .i64 x.p.next, .int .i64 x.p.size, .int .i64 x.p.idle] 49) := Blk.new _ _ _
  have HY0 : Hid (Below w.heap.size w (w.alloc (.cells #[.int .i64 x.n, .int .i64 x.p.kind, .slice x.ka x.kn x.kc, .slice x.va x.vn x.vc, .slice x.da x.dn x.dc, .int .i64 x.p.root, .int .i64 x.p.next, .int .i64 x.p.size, .int .i64 x.p.idle] 49))) := (Below.refl _ _).alloc (Nat.le_refl _) _
  go_enter Tryz.func92, Tryz.ntmps92
  go_upto_region 1 with fail
  generalize w.alloc (.cells #[.int .i64 x.n, .int .i64 x.p.kind, .slice x.ka x.kn x.kc, .slice x.va x.vn x.vc, .slice x.da x.dn x.dc, .int .i64 x.p.root, .int .i64 x.p.next, .int .i64 x.p.size, .int .i64 x.p.idle] 49) = w0 at *
  have z0 : w0.cell? ⟨w.heap.size, 0, none⟩ = some (.int .i64 x.n) := HB0.out.cell 0
  have z1 : w0.cell? ⟨w.heap.size, 1, none⟩ = some (.int .i64 x.p.kind) := HB0.out.cell 1
  have z2 : w0.cell? ⟨w.heap.size, 2, none⟩ = some (.slice x.ka x.kn x.kc) := HB0.out.cell 2
  have z3 : w0.cell? ⟨w.heap.size, 3, none⟩ = some (.slice x.va x.vn x.vc) := HB0.out.cell 3
  have z4 : w0.cell? ⟨w.heap.size, 4, none⟩ = some (.slice x.da x.dn x.dc) := HB0.out.cell 4
  have z5 : w0.cell? ⟨w.heap.size, 5, none⟩ = some (.int .i64 x.p.root) := HB0.out.cell 5
  have z6 : w0.cell? ⟨w.heap.size, 6, none⟩ = some (.int .i64 x.p.next) := HB0.out.cell 6
  have z7 : w0.cell? ⟨w.heap.size, 7, none⟩ = some (.int .i64 x.p.size) := HB0.out.cell 7
  have z8 : w0.cell? ⟨w.heap.size, 8, none⟩ = some (.int .i64 x.p.idle) := HB0.out.cell 8
  go_wp2_with fail
  refine (HPE.out _ HY0.out).mono ?_
  rintro e w1 ⟨ap, np, cp, rfl, hs, y⟩
  have HB : Hid (Blk w1 w.heap.size #[.int .i64 x.n, .int .i64 x.p.kind, .slice x.ka x.kn x.kc, .slice x.va x.vn x.vc, .slice x.da x.dn x.dc, .int .i64 x.p.root, .int .i64 x.p.next, .int .i64 x.p.size, .int .i64 x.p.idle] 49) := Blk.of HB0.out (y.block _ HB0.out.lt)
  have HY : Hid (Below w.heap.size w w1) := ext_trans HY0.out y
  have HSP : Hid (Src w1 (.slice ap np cp) (encP x.p 0)) := hs
  clear hs y HB0 HY0 HPE z0 z1 z2 z3 z4 z5 z6 z7 z8
  go_upto_region 2 with fail
  refine wp_region_ext (by kernel_rfl) ?_
  haveI nA := cls_ext w1.drew
  have q0 := cellX (W0 := w1.drew) (show w1.drew.cell? ⟨w.heap.size, 0, none⟩ = some (.int .i64 x.n) from HB.out.cell 0)
  have q1 := cellX (W0 := w1.drew) (show w1.drew.cell? ⟨w.heap.size, 1, none⟩ = some (.int .i64 x.p.kind) from HB.out.cell 1)
  have q2 := cellX (W0 := w1.drew) (show w1.drew.cell? ⟨w.heap.size, 2, none⟩ = some (.slice x.ka x.kn x.kc) from HB.out.cell 2)
  have q3 := cellX (W0 := w1.drew) (show w1.drew.cell? ⟨w.heap.size, 3, none⟩ = some (.slice x.va x.vn x.vc) from HB.out.cell 3)
  have q4 := cellX (W0 := w1.drew) (show w1.drew.cell? ⟨w.heap.size, 4, none⟩ = some (.slice x.da x.dn x.dc) from HB.out.cell 4)
  have q5 := cellX (W0 := w1.drew) (show w1.drew.cell? ⟨w.heap.size, 5, none⟩ = some (.int .i64 x.p.root) from HB.out.cell 5)
  have q6 := cellX (W0 := w1.drew) (show w1.drew.cell? ⟨w.heap.size, 6, none⟩ = some (.int .i64 x.p.next) from HB.out.cell 6)
  have q7 := cellX (W0 := w1.drew) (show w1.drew.cell? ⟨w.heap.size, 7, none⟩ = some (.int .i64 x.p.size) from HB.out.cell 7)
  have q8 := cellX (W0 := w1.drew) (show w1.drew.cell? ⟨w.heap.size, 8, none⟩ = some (.int .i64 x.p.idle) from HB.out.cell 8)
  have hcv : ∀ s : Cls (Ext w1.drew), (convert 34 9 (.slice ap np cp)).run Tryz.prog s.wd = .ok (.string (imageB x.p)) s.wd := fun s => (Src.below (HSP.out.below (Below.drew (Below.refl _ _))) s.ok).str
  refine wpAnyH_seg (by kernel_rfl) (fun _ _ _ h => h) [0, 1, 3, 4] 5 _ _ _ (Ext.refl _) (by kernel_rfl) ?_
  simp only [opsAt, List.getElem?_toArray, List.getElem?_cons_zero, List.getElem?_cons_succ, List.cons_append, List.nil_append]
  repeat (go_big_quiet_step (fail))
  refine wpQuiet_nil ?_
  clear nA q0 q1 q2 q3 q4 q5 q6 q7 q8 hcv
  have HY_0 : Hid (Below w.heap.size w w1.drew) := Below.drew HY.out
  clear HB HY
  refine wpAnyH_callE (i := 2) (fuel := 4) 13 rfl (by kernel_rfl) rfl (Ext.refl _) (by kernel_rfl) (f := 50) (args := #[.int .i64 x.n]) (by kernel_rfl) (smallB_any x.n w1.drew HW.out.1 HW.out.2) ?_
  rintro e u0 ⟨b0, m0, d0, rfl, ho, y⟩
  refine ⟨_, rfl, y, ?_⟩
  have HS0_0 : Hid (Src u0 (.slice b0 m0 d0) (intB x.n)) := ho.src
  have HY_1 : Hid (Below w.heap.size w u0) := ext_trans HY_0.out y
  clear ho y HY_0
  simp only [Act.put, List.setIfInBounds_toArray, List.set_cons_succ, List.set_cons_zero]
  refine wpAnyH_callE (i := 5) (fuel := 3) 16 rfl (by kernel_rfl) rfl (Ext.refl _) (by kernel_rfl) (f := 45) (args := #[.string (imageB x.p)]) (by kernel_rfl) (text8_any (imageB x.p) u0 HSZ0.out) ?_
  rintro e u1 ⟨b1, m1, d1, rfl, ho, y⟩
  refine ⟨_, rfl, y, ?_⟩
  have HS1_1 : Hid (Src u1 (.slice b1 m1 d1) (textB (imageB x.p))) := ho.src
  have HS0_1 : Hid (Src u1 (.slice b0 m0 d0) (intB x.n)) := HS0_0.out.below y
  have HY_2 : Hid (Below w.heap.size w u1) := ext_trans HY_1.out y
  clear ho y HY_1 HS0_0
  simp only [Act.put, List.setIfInBounds_toArray, List.set_cons_succ, List.set_cons_zero]
  refine wpAnyH_all (rs := [6]) (fuel := 2) (by kernel_rfl) (by simp) fun j hj => ?_
  obtain rfl : j = 6 := by simpa using hj
  clear hj
  refine wpOp_value 17 rfl (by kernel_rfl) rfl (exec_buildB2 rfl rfl rfl) ?_
  have HRB : Hid _ := rowB2 HS0_1.out HS1_1.out
  have HX5 : Hid (Below u1.heap.size u1 (u1.alloc (.cells #[.slice b0 m0 d0, .slice b1 m1 d1] 34))) := below_allocR _
  refine ⟨HX5.out, ?_⟩
  have HY5 : Hid (Below w.heap.size w (u1.alloc (.cells #[.slice b0 m0 d0, .slice b1 m1 d1] 34))) := ext_trans HY_2.out HX5.out
  clear HY_2 HS0_1 HS1_1
  simp only [Act.put, List.setIfInBounds_toArray, List.set_cons_succ, List.set_cons_zero]
  generalize (u1.alloc (.cells #[.slice b0 m0 d0, .slice b1 m1 d1] 34)) = w5 at *
  have HCC : Hid _ := concat_any ⟨u1.heap.size, 0, none⟩ 2 [intB x.n, textB (imageB x.p)] w5 HRB.out ⟨by simp, by simp⟩ HFL.out
  refine wpAnyH_callE (i := 7) (fuel := 1) 18 rfl (by kernel_rfl) rfl HX5.out (by kernel_rfl) (f := 14) (args := #[.slice (some ⟨u1.heap.size, 0, none⟩) 2 2]) (by kernel_rfl) HCC.out ?_
  rintro e w6 ⟨v6, rfl, ho, y⟩
  refine ⟨_, rfl, y, ?_⟩
  have HSZ : Hid (w.heap.size ≤ w5.heap.size) := HY5.out.size
  have HO9 : Hid (Own w6 w.heap.size v6 ([intB x.n, textB (imageB x.p)].flatten)) := ho.mono HSZ.out
  have HY9 : Hid (Below w.heap.size w w6) := ext_trans HY5.out y
  clear ho y HRB HCC HX5 HY5
  simp only [Act.put, List.setIfInBounds_toArray, List.set_cons_succ, List.set_cons_zero]
  haveI nA := cls_ext w6
  refine wpAnyH_seg (by kernel_rfl) (fun _ _ _ h => h) [8] 0 _ _ _ (Ext.refl _) (by kernel_rfl) ?_
  simp only [opsAt, List.getElem?_toArray, List.getElem?_cons_zero, List.getElem?_cons_succ, List.cons_append, List.nil_append]
  repeat (go_big_quiet_step (fail))
  refine wpQuiet_nil ?_
  clear nA
  refine wpAnyH_done (by kernel_rfl) (NoPanic.normal ?_) 0
  rw [HEQ.out] at HO9
  obtain ⟨a9, k9, m9, hv9⟩ : ∃ a n c, v6 = .slice a n c := by obtain ⟨a, c, e, _⟩ := HO9.out.src; exact ⟨a, _, c, e⟩
  subst hv9
  go_wp2
  go_ret
  exact ownP_of rfl HO9.out HY9.out

set_option maxRecDepth 100000 in
set_option maxHeartbeats 4000000 in
theorem turn_any (x : RecV) (w : World) (h : x.At w) (hw : 0 ≤ x.prev ∧ x.prev < 18446744073709551616) (hn : ∀ c ∈ x.gs, (0 ≤ c.n ∧ c.n < 9223372036854775808) ∧ rightPg c.p = true ∧ (chgB c).length < 100000000000) (hl : x.gs.length ≤ 100000) (hlen : (intB x.prev ++ allB8 chgB x.gs).length < 100000000000) : Calls Tryz.prog 47 #[.agg #[.int .i64 x.kind, .int .u64 x.num, .int .i64 x.node, .string x.key, .bool x.was, .string x.old, .int .u64 x.prev, .slice x.na x.nn x.nc, .slice x.ra x.rn x.rc, .slice x.ga x.gn x.gc, .slice x.oa x.om x.oc, .slice x.da x.dn x.dc]] w (OwnP w (intB x.prev ++ allB8 chgB x.gs)) := by
  have HW : Hid (0 ≤ x.prev ∧ x.prev < 18446744073709551616) := hw
  have HAI : Hid (∀ W, Below w.heap.size w W → Calls Tryz.prog 91 #[.slice x.ga x.gn x.gc, .func (.func 92) #[] #[]] W (OwnP W (allB8 chgB x.gs))) := fun W hb => allC_any _ x.gs chgB W (h.pages.below hb) hl (by rw [List.length_append] at hlen; omega) (fun W' c hb' hm => change_any c W' ((h.pagez c hm).below (ext_trans hb hb')) (hn c hm).1 (hn c hm).2.1 (hn c hm).2.2)
  clear h hw hn hl
  have HEQ : Hid ([intB x.prev, allB8 chgB x.gs].flatten = intB x.prev ++ allB8 chgB x.gs) := by show _ = _; simp
  have HFL : Hid ([intB x.prev, allB8 chgB x.gs].flatten.length < 100000000000) := by show _ < _; rw [HEQ.out]; exact hlen
  clear hlen
  have HB : Hid (Blk (w.alloc (.cells #[.int .i64 x.kind, .int .u64 x.num, .int .i64 x.node, .string x.key, .bool x.was, .string x.old, .int .u64 x.prev, .slice x.na x.nn x.nc, .slice x.ra x.rn x.rc, .slice x.ga x.gn x.gc, .slice x.oa x.om x.oc, .slice x.da x.dn x.dc] 31)) w.heap.size #[.int .i64 x.kind, .int .u64 x.num, .int .i64 x.node, .string x.key, .bool x.was, .string x.old, .int .u64 x.prev, .slice x.na x.nn x.nc, .slice x.ra x.rn x.rc, .slice x.ga x.gn x.gc, .slice x.oa x.om x.oc, .slice x.da x.dn x.dc] 31) := Blk.new _ _ _
  have HY : Hid (Below w.heap.size w (w.alloc (.cells #[.int .i64 x.kind, .int .u64 x.num, .int .i64 x.node, .string x.key, .bool x.was, .string x.old, .int .u64 x.prev, .slice x.na x.nn x.nc, .slice x.ra x.rn x.rc, .slice x.ga x.gn x.gc, .slice x.oa x.om x.oc, .slice x.da x.dn x.dc] 31))) := (Below.refl _ _).alloc (Nat.le_refl _) _
  go_enter Tryz.func47, Tryz.ntmps47
  go_upto_region 1 with fail
  generalize w.alloc (.cells #[.int .i64 x.kind, .int .u64 x.num, .int .i64 x.node, .string x.key, .bool x.was, .string x.old, .int .u64 x.prev, .slice x.na x.nn x.nc, .slice x.ra x.rn x.rc, .slice x.ga x.gn x.gc, .slice x.oa x.om x.oc, .slice x.da x.dn x.dc] 31) = w0 at *
  refine wp_region_ext (by kernel_rfl) ?_
  haveI nA := cls_ext w0.drew
  have q0 := cellX (W0 := w0.drew) (show w0.drew.cell? ⟨w.heap.size, 0, none⟩ = some (.int .i64 x.kind) from HB.out.cell 0)
  have q1 := cellX (W0 := w0.drew) (show w0.drew.cell? ⟨w.heap.size, 1, none⟩ = some (.int .u64 x.num) from HB.out.cell 1)
  have q2 := cellX (W0 := w0.drew) (show w0.drew.cell? ⟨w.heap.size, 2, none⟩ = some (.int .i64 x.node) from HB.out.cell 2)
  have q3 := cellX (W0 := w0.drew) (show w0.drew.cell? ⟨w.heap.size, 3, none⟩ = some (.string x.key) from HB.out.cell 3)
  have q4 := cellX (W0 := w0.drew) (show w0.drew.cell? ⟨w.heap.size, 4, none⟩ = some (.bool x.was) from HB.out.cell 4)
  have q5 := cellX (W0 := w0.drew) (show w0.drew.cell? ⟨w.heap.size, 5, none⟩ = some (.string x.old) from HB.out.cell 5)
  have q6 := cellX (W0 := w0.drew) (show w0.drew.cell? ⟨w.heap.size, 6, none⟩ = some (.int .u64 x.prev) from HB.out.cell 6)
  have q7 := cellX (W0 := w0.drew) (show w0.drew.cell? ⟨w.heap.size, 7, none⟩ = some (.slice x.na x.nn x.nc) from HB.out.cell 7)
  have q8 := cellX (W0 := w0.drew) (show w0.drew.cell? ⟨w.heap.size, 8, none⟩ = some (.slice x.ra x.rn x.rc) from HB.out.cell 8)
  have q9 := cellX (W0 := w0.drew) (show w0.drew.cell? ⟨w.heap.size, 9, none⟩ = some (.slice x.ga x.gn x.gc) from HB.out.cell 9)
  have q10 := cellX (W0 := w0.drew) (show w0.drew.cell? ⟨w.heap.size, 10, none⟩ = some (.slice x.oa x.om x.oc) from HB.out.cell 10)
  have q11 := cellX (W0 := w0.drew) (show w0.drew.cell? ⟨w.heap.size, 11, none⟩ = some (.slice x.da x.dn x.dc) from HB.out.cell 11)
  refine wpAnyH_seg (by kernel_rfl) (fun _ _ _ h => h) [0, 1, 3, 4] 5 _ _ _ (Ext.refl _) (by kernel_rfl) ?_
  simp only [opsAt, List.getElem?_toArray, List.getElem?_cons_zero, List.getElem?_cons_succ, List.cons_append, List.nil_append]
  repeat (go_big_quiet_step (fail))
  refine wpQuiet_nil ?_
  clear nA q0 q1 q2 q3 q4 q5 q6 q7 q8 q9 q10 q11
  have HY_0 : Hid (Below w.heap.size w w0.drew) := Below.drew HY.out
  clear HB HY
  refine wpAnyH_callE (i := 2) (fuel := 4) 5 rfl (by kernel_rfl) rfl (Ext.refl _) (by kernel_rfl) (f := 15) (args := #[.int .u64 x.prev]) (by kernel_rfl) (numB_any x.prev w0.drew HW.out.1 HW.out.2) ?_
  rintro e u0 ⟨b0, m0, d0, rfl, ho, y⟩
  refine ⟨_, rfl, y, ?_⟩
  have HS0_0 : Hid (Src u0 (.slice b0 m0 d0) (intB x.prev)) := ho.src
  have HY_1 : Hid (Below w.heap.size w u0) := ext_trans HY_0.out y
  clear ho y HY_0
  simp only [Act.put, List.setIfInBounds_toArray, List.set_cons_succ, List.set_cons_zero]
  refine wpAnyH_callE (i := 5) (fuel := 3) 8 rfl (by kernel_rfl) rfl (Ext.refl _) (by kernel_rfl) (f := 91) (args := #[.slice x.ga x.gn x.gc, .func (.func 92) #[] #[]]) (by kernel_rfl) (HAI.out u0 HY_1.out) ?_
  rintro e u1 ⟨b1, m1, d1, rfl, ho, y⟩
  refine ⟨_, rfl, y, ?_⟩
  have HS1_1 : Hid (Src u1 (.slice b1 m1 d1) (allB8 chgB x.gs)) := ho.src
  have HS0_1 : Hid (Src u1 (.slice b0 m0 d0) (intB x.prev)) := HS0_0.out.below y
  have HY_2 : Hid (Below w.heap.size w u1) := ext_trans HY_1.out y
  clear ho y HY_1 HS0_0
  simp only [Act.put, List.setIfInBounds_toArray, List.set_cons_succ, List.set_cons_zero]
  refine wpAnyH_all (rs := [6]) (fuel := 2) (by kernel_rfl) (by simp) fun j hj => ?_
  obtain rfl : j = 6 := by simpa using hj
  clear hj
  refine wpOp_value 9 rfl (by kernel_rfl) rfl (exec_buildB2 rfl rfl rfl) ?_
  have HRB : Hid _ := rowB2 HS0_1.out HS1_1.out
  have HX5 : Hid (Below u1.heap.size u1 (u1.alloc (.cells #[.slice b0 m0 d0, .slice b1 m1 d1] 34))) := below_allocR _
  refine ⟨HX5.out, ?_⟩
  have HY5 : Hid (Below w.heap.size w (u1.alloc (.cells #[.slice b0 m0 d0, .slice b1 m1 d1] 34))) := ext_trans HY_2.out HX5.out
  clear HY_2 HS0_1 HS1_1
  simp only [Act.put, List.setIfInBounds_toArray, List.set_cons_succ, List.set_cons_zero]
  generalize (u1.alloc (.cells #[.slice b0 m0 d0, .slice b1 m1 d1] 34)) = w5 at *
  have HCC : Hid _ := concat_any ⟨u1.heap.size, 0, none⟩ 2 [intB x.prev, allB8 chgB x.gs] w5 HRB.out ⟨by simp, by simp⟩ HFL.out
  refine wpAnyH_callE (i := 7) (fuel := 1) 10 rfl (by kernel_rfl) rfl HX5.out (by kernel_rfl) (f := 14) (args := #[.slice (some ⟨u1.heap.size, 0, none⟩) 2 2]) (by kernel_rfl) HCC.out ?_
  rintro e w6 ⟨v6, rfl, ho, y⟩
  refine ⟨_, rfl, y, ?_⟩
  have HSZ : Hid (w.heap.size ≤ w5.heap.size) := HY5.out.size
  have HO9 : Hid (Own w6 w.heap.size v6 ([intB x.prev, allB8 chgB x.gs].flatten)) := ho.mono HSZ.out
  have HY9 : Hid (Below w.heap.size w w6) := ext_trans HY5.out y
  clear ho y HRB HCC HX5 HY5
  simp only [Act.put, List.setIfInBounds_toArray, List.set_cons_succ, List.set_cons_zero]
  haveI nA := cls_ext w6
  refine wpAnyH_seg (by kernel_rfl) (fun _ _ _ h => h) [8] 0 _ _ _ (Ext.refl _) (by kernel_rfl) ?_
  simp only [opsAt, List.getElem?_toArray, List.getElem?_cons_zero, List.getElem?_cons_succ, List.cons_append, List.nil_append]
  repeat (go_big_quiet_step (fail))
  refine wpQuiet_nil ?_
  clear nA
  refine wpAnyH_done (by kernel_rfl) (NoPanic.normal ?_) 0
  rw [HEQ.out] at HO9
  obtain ⟨a9, k9, m9, hv9⟩ : ∃ a n c, v6 = .slice a n c := by obtain ⟨a, c, e, _⟩ := HO9.out.src; exact ⟨a, _, c, e⟩
  subst hv9
  go_wp2
  go_ret
  exact ownP_of rfl HO9.out HY9.out

def recB (x : RecV) : List UInt8 := if x.kind = 1 then textB x.key ++ (enc (flagN x.was) ++ (textB x.old ++ turnB x)) else if x.kind = 2 then turnB x else if x.kind = 3 then allB8 textB x.rs else if x.kind = 6 then allB8 intB x.ns else if x.kind = 8 then allB8 openB x.os ++ allB8 doneB x.ds else []
/-- What lies within the bounds that laying wants. -/
structure RecV.Fit (x : RecV) : Prop where
  prev : 0 ≤ x.prev ∧ x.prev < 18446744073709551616
  keyz : x.key.size < 800000000000
  oldz : x.old.size < 800000000000
  gs : ∀ c ∈ x.gs, (0 ≤ c.n ∧ c.n < 9223372036854775808) ∧ rightPg c.p = true ∧ (chgB c).length < 100000000000
  gl : x.gs.length ≤ 100000
  rs : ∀ s ∈ x.rs, s.size < 800000000000
  rl : x.rs.length ≤ 100000
  ns : ∀ n ∈ x.ns, 0 ≤ n ∧ n < 64
  nl : x.ns.length ≤ 100000
  os : ∀ o ∈ x.os, (0 ≤ o.num ∧ o.num < 18446744073709551616 ∧ 0 ≤ o.last ∧ o.last < 18446744073709551616 ∧ 0 ≤ o.first ∧ o.first < 18446744073709551616 ∧ 0 ≤ o.count ∧ o.count < 9223372036854775808) ∧ (∀ s ∈ o.rs, s.size < 800000000000) ∧ o.rs.length ≤ 100000 ∧ (openB o).length < 100000000000
  ol : x.os.length ≤ 100000
  ds : ∀ d ∈ x.ds, (0 ≤ d.num ∧ d.num < 18446744073709551616) ∧ (∀ n ∈ d.ns, 0 ≤ n ∧ n < 64) ∧ d.ns.length ≤ 100000 ∧ (doneB d).length < 100000000000
  dl : x.ds.length ≤ 100000

set_option maxRecDepth 100000 in
set_option maxHeartbeats 4000000 in
theorem body1_any (x : RecV) (w : World) (h : x.At w) (hf : x.Fit) (hk : x.kind = 1) (hlen : (textB x.key ++ (enc (flagN x.was) ++ (textB x.old ++ turnB x))).length < 100000000000) : Calls Tryz.prog 17 #[.agg #[.int .i64 x.kind, .int .u64 x.num, .int .i64 x.node, .string x.key, .bool x.was, .string x.old, .int .u64 x.prev, .slice x.na x.nn x.nc, .slice x.ra x.rn x.rc, .slice x.ga x.gn x.gc, .slice x.oa x.om x.oc, .slice x.da x.dn x.dc]] w (OwnP w (textB x.key ++ (enc (flagN x.was) ++ (textB x.old ++ turnB x)))) := by
  have HF : Hid x.Fit := hf
  have HKD : Hid (x.kind = 1) := hk
  clear hk
  have HLT : Hid ((turnB x).length < 100000000000) := by
    show _ < _
    have h2 : (turnB x).length ≤ (textB x.key ++ (enc (flagN x.was) ++ (textB x.old ++ turnB x))).length := by simp only [List.length_append]; omega
    omega
  have HTU : Hid (∀ W, Below w.heap.size w W → Calls Tryz.prog 47 #[.agg #[.int .i64 x.kind, .int .u64 x.num, .int .i64 x.node, .string x.key, .bool x.was, .string x.old, .int .u64 x.prev, .slice x.na x.nn x.nc, .slice x.ra x.rn x.rc, .slice x.ga x.gn x.gc, .slice x.oa x.om x.oc, .slice x.da x.dn x.dc]] W (OwnP W (turnB x))) := fun W hb => turn_any x W (h.below hb) hf.prev hf.gs hf.gl HLT.out
  have HEQ : Hid ([textB x.key, enc (flagN x.was), textB x.old, turnB x].flatten = textB x.key ++ (enc (flagN x.was) ++ (textB x.old ++ turnB x))) := by show _ = _; simp
  have HFL : Hid ([textB x.key, enc (flagN x.was), textB x.old, turnB x].flatten.length < 100000000000) := by show _ < _; rw [HEQ.out]; exact hlen
  clear hlen h hf
  have HB : Hid (Blk (w.alloc (.cells #[.int .i64 x.kind, .int .u64 x.num, .int .i64 x.node, .string x.key, .bool x.was, .string x.old, .int .u64 x.prev, .slice x.na x.nn x.nc, .slice x.ra x.rn x.rc, .slice x.ga x.gn x.gc, .slice x.oa x.om x.oc, .slice x.da x.dn x.dc] 31)) w.heap.size #[.int .i64 x.kind, .int .u64 x.num, .int .i64 x.node, .string x.key, .bool x.was, .string x.old, .int .u64 x.prev, .slice x.na x.nn x.nc, .slice x.ra x.rn x.rc, .slice x.ga x.gn x.gc, .slice x.oa x.om x.oc, .slice x.da x.dn x.dc] 31) := Blk.new _ _ _
  have HY : Hid (Below w.heap.size w (w.alloc (.cells #[.int .i64 x.kind, .int .u64 x.num, .int .i64 x.node, .string x.key, .bool x.was, .string x.old, .int .u64 x.prev, .slice x.na x.nn x.nc, .slice x.ra x.rn x.rc, .slice x.ga x.gn x.gc, .slice x.oa x.om x.oc, .slice x.da x.dn x.dc] 31))) := (Below.refl _ _).alloc (Nat.le_refl _) _
  go_enter Tryz.func17, Tryz.ntmps17
  go_upto_region 1 with fail
  generalize w.alloc (.cells #[.int .i64 x.kind, .int .u64 x.num, .int .i64 x.node, .string x.key, .bool x.was, .string x.old, .int .u64 x.prev, .slice x.na x.nn x.nc, .slice x.ra x.rn x.rc, .slice x.ga x.gn x.gc, .slice x.oa x.om x.oc, .slice x.da x.dn x.dc] 31) = w0 at *
  have z0 : w0.cell? ⟨w.heap.size, 0, none⟩ = some (.int .i64 x.kind) := HB.out.cell 0
  have k1 : (x.kind == 1) = true := by rw [HKD.out]; rfl
  go_upto_region 3 with fail
  clear z0 k1
  refine wp_region_ext (by kernel_rfl) ?_
  haveI nA := cls_ext w0.drew
  have q0 := cellX (W0 := w0.drew) (show w0.drew.cell? ⟨w.heap.size, 0, none⟩ = some (.int .i64 x.kind) from HB.out.cell 0)
  have q1 := cellX (W0 := w0.drew) (show w0.drew.cell? ⟨w.heap.size, 1, none⟩ = some (.int .u64 x.num) from HB.out.cell 1)
  have q2 := cellX (W0 := w0.drew) (show w0.drew.cell? ⟨w.heap.size, 2, none⟩ = some (.int .i64 x.node) from HB.out.cell 2)
  have q3 := cellX (W0 := w0.drew) (show w0.drew.cell? ⟨w.heap.size, 3, none⟩ = some (.string x.key) from HB.out.cell 3)
  have q4 := cellX (W0 := w0.drew) (show w0.drew.cell? ⟨w.heap.size, 4, none⟩ = some (.bool x.was) from HB.out.cell 4)
  have q5 := cellX (W0 := w0.drew) (show w0.drew.cell? ⟨w.heap.size, 5, none⟩ = some (.string x.old) from HB.out.cell 5)
  have q6 := cellX (W0 := w0.drew) (show w0.drew.cell? ⟨w.heap.size, 6, none⟩ = some (.int .u64 x.prev) from HB.out.cell 6)
  have q7 := cellX (W0 := w0.drew) (show w0.drew.cell? ⟨w.heap.size, 7, none⟩ = some (.slice x.na x.nn x.nc) from HB.out.cell 7)
  have q8 := cellX (W0 := w0.drew) (show w0.drew.cell? ⟨w.heap.size, 8, none⟩ = some (.slice x.ra x.rn x.rc) from HB.out.cell 8)
  have q9 := cellX (W0 := w0.drew) (show w0.drew.cell? ⟨w.heap.size, 9, none⟩ = some (.slice x.ga x.gn x.gc) from HB.out.cell 9)
  have q10 := cellX (W0 := w0.drew) (show w0.drew.cell? ⟨w.heap.size, 10, none⟩ = some (.slice x.oa x.om x.oc) from HB.out.cell 10)
  have q11 := cellX (W0 := w0.drew) (show w0.drew.cell? ⟨w.heap.size, 11, none⟩ = some (.slice x.da x.dn x.dc) from HB.out.cell 11)
  refine wpAnyH_seg (by kernel_rfl) (fun _ _ _ h => h) [0, 1, 3, 4, 6, 7, 9] 7 _ _ _ (Ext.refl _) (by kernel_rfl) ?_
  simp only [opsAt, List.getElem?_toArray, List.getElem?_cons_zero, List.getElem?_cons_succ, List.cons_append, List.nil_append]
  repeat (go_big_quiet_step (fail))
  refine wpQuiet_nil ?_
  clear nA q0 q1 q2 q3 q4 q5 q6 q7 q8 q9 q10 q11
  have HY_0 : Hid (Below w.heap.size w w0.drew) := Below.drew HY.out
  clear HB HY
  refine wpAnyH_callE (i := 2) (fuel := 6) 9 rfl (by kernel_rfl) rfl (Ext.refl _) (by kernel_rfl) (f := 45) (args := #[.string x.key]) (by kernel_rfl) (text8_any x.key w0.drew HF.out.keyz) ?_
  rintro e u0 ⟨b0, m0, d0, rfl, ho, y⟩
  refine ⟨_, rfl, y, ?_⟩
  have HS0_0 : Hid (Src u0 (.slice b0 m0 d0) (textB x.key)) := ho.src
  have HY_1 : Hid (Below w.heap.size w u0) := ext_trans HY_0.out y
  clear ho y HY_0
  simp only [Act.put, List.setIfInBounds_toArray, List.set_cons_succ, List.set_cons_zero]
  refine wpAnyH_callE (i := 5) (fuel := 5) 12 rfl (by kernel_rfl) rfl (Ext.refl _) (by kernel_rfl) (f := 46) (args := #[.bool x.was]) (by kernel_rfl) (flag8_any x.was u0) ?_
  rintro e u1 ⟨b1, m1, d1, rfl, ho, y⟩
  refine ⟨_, rfl, y, ?_⟩
  have HS1_1 : Hid (Src u1 (.slice b1 m1 d1) (enc (flagN x.was))) := ho.src
  have HS0_1 : Hid (Src u1 (.slice b0 m0 d0) (textB x.key)) := HS0_0.out.below y
  have HY_2 : Hid (Below w.heap.size w u1) := ext_trans HY_1.out y
  clear ho y HY_1 HS0_0
  simp only [Act.put, List.setIfInBounds_toArray, List.set_cons_succ, List.set_cons_zero]
  refine wpAnyH_callE (i := 8) (fuel := 4) 15 rfl (by kernel_rfl) rfl (Ext.refl _) (by kernel_rfl) (f := 45) (args := #[.string x.old]) (by kernel_rfl) (text8_any x.old u1 HF.out.oldz) ?_
  rintro e u2 ⟨b2, m2, d2, rfl, ho, y⟩
  refine ⟨_, rfl, y, ?_⟩
  have HS2_2 : Hid (Src u2 (.slice b2 m2 d2) (textB x.old)) := ho.src
  have HS0_2 : Hid (Src u2 (.slice b0 m0 d0) (textB x.key)) := HS0_1.out.below y
  have HS1_2 : Hid (Src u2 (.slice b1 m1 d1) (enc (flagN x.was))) := HS1_1.out.below y
  have HY_3 : Hid (Below w.heap.size w u2) := ext_trans HY_2.out y
  clear ho y HY_2 HS0_1 HS1_1
  simp only [Act.put, List.setIfInBounds_toArray, List.set_cons_succ, List.set_cons_zero]
  refine wpAnyH_callE (i := 10) (fuel := 3) 17 rfl (by kernel_rfl) rfl (Ext.refl _) (by kernel_rfl) (f := 47) (args := #[.agg #[.int .i64 x.kind, .int .u64 x.num, .int .i64 x.node, .string x.key, .bool x.was, .string x.old, .int .u64 x.prev, .slice x.na x.nn x.nc, .slice x.ra x.rn x.rc, .slice x.ga x.gn x.gc, .slice x.oa x.om x.oc, .slice x.da x.dn x.dc]]) (by kernel_rfl) (HTU.out u2 HY_3.out) ?_
  rintro e u3 ⟨b3, m3, d3, rfl, ho, y⟩
  refine ⟨_, rfl, y, ?_⟩
  have HS3_3 : Hid (Src u3 (.slice b3 m3 d3) (turnB x)) := ho.src
  have HS0_3 : Hid (Src u3 (.slice b0 m0 d0) (textB x.key)) := HS0_2.out.below y
  have HS1_3 : Hid (Src u3 (.slice b1 m1 d1) (enc (flagN x.was))) := HS1_2.out.below y
  have HS2_3 : Hid (Src u3 (.slice b2 m2 d2) (textB x.old)) := HS2_2.out.below y
  have HY_4 : Hid (Below w.heap.size w u3) := ext_trans HY_3.out y
  clear ho y HY_3 HS0_2 HS1_2 HS2_2
  simp only [Act.put, List.setIfInBounds_toArray, List.set_cons_succ, List.set_cons_zero]
  refine wpAnyH_all (rs := [11]) (fuel := 2) (by kernel_rfl) (by simp) fun j hj => ?_
  obtain rfl : j = 11 := by simpa using hj
  clear hj
  refine wpOp_value 18 rfl (by kernel_rfl) rfl (exec_buildB4 rfl rfl rfl rfl rfl) ?_
  have HRB : Hid _ := rowB4 HS0_3.out HS1_3.out HS2_3.out HS3_3.out
  have HX5 : Hid (Below u3.heap.size u3 (u3.alloc (.cells #[.slice b0 m0 d0, .slice b1 m1 d1, .slice b2 m2 d2, .slice b3 m3 d3] 34))) := below_allocR _
  refine ⟨HX5.out, ?_⟩
  have HY5 : Hid (Below w.heap.size w (u3.alloc (.cells #[.slice b0 m0 d0, .slice b1 m1 d1, .slice b2 m2 d2, .slice b3 m3 d3] 34))) := ext_trans HY_4.out HX5.out
  clear HY_4 HS0_3 HS1_3 HS2_3 HS3_3
  simp only [Act.put, List.setIfInBounds_toArray, List.set_cons_succ, List.set_cons_zero]
  generalize (u3.alloc (.cells #[.slice b0 m0 d0, .slice b1 m1 d1, .slice b2 m2 d2, .slice b3 m3 d3] 34)) = w5 at *
  have HCC : Hid _ := concat_any ⟨u3.heap.size, 0, none⟩ 4 [textB x.key, enc (flagN x.was), textB x.old, turnB x] w5 HRB.out ⟨by simp, by simp⟩ HFL.out
  refine wpAnyH_callE (i := 12) (fuel := 1) 19 rfl (by kernel_rfl) rfl HX5.out (by kernel_rfl) (f := 14) (args := #[.slice (some ⟨u3.heap.size, 0, none⟩) 4 4]) (by kernel_rfl) HCC.out ?_
  rintro e w6 ⟨v6, rfl, ho, y⟩
  refine ⟨_, rfl, y, ?_⟩
  have HSZ : Hid (w.heap.size ≤ w5.heap.size) := HY5.out.size
  have HO9 : Hid (Own w6 w.heap.size v6 ([textB x.key, enc (flagN x.was), textB x.old, turnB x].flatten)) := ho.mono HSZ.out
  have HY9 : Hid (Below w.heap.size w w6) := ext_trans HY5.out y
  clear ho y HRB HCC HX5 HY5
  simp only [Act.put, List.setIfInBounds_toArray, List.set_cons_succ, List.set_cons_zero]
  haveI nA := cls_ext w6
  refine wpAnyH_seg (by kernel_rfl) (fun _ _ _ h => h) [13] 0 _ _ _ (Ext.refl _) (by kernel_rfl) ?_
  simp only [opsAt, List.getElem?_toArray, List.getElem?_cons_zero, List.getElem?_cons_succ, List.cons_append, List.nil_append]
  repeat (go_big_quiet_step (fail))
  refine wpQuiet_nil ?_
  clear nA
  refine wpAnyH_done (by kernel_rfl) (NoPanic.normal ?_) 0
  rw [HEQ.out] at HO9
  obtain ⟨a9, k9, m9, hv9⟩ : ∃ a n c, v6 = .slice a n c := by obtain ⟨a, c, e, _⟩ := HO9.out.src; exact ⟨a, _, c, e⟩
  subst hv9
  go_wp2
  go_ret
  exact ownP_of rfl HO9.out HY9.out

set_option maxRecDepth 100000 in
set_option maxHeartbeats 4000000 in
theorem body2_any (x : RecV) (w : World) (h : x.At w) (hf : x.Fit) (hk : x.kind = 2) (hlen : (turnB x).length < 100000000000) : Calls Tryz.prog 17 #[.agg #[.int .i64 x.kind, .int .u64 x.num, .int .i64 x.node, .string x.key, .bool x.was, .string x.old, .int .u64 x.prev, .slice x.na x.nn x.nc, .slice x.ra x.rn x.rc, .slice x.ga x.gn x.gc, .slice x.oa x.om x.oc, .slice x.da x.dn x.dc]] w (OwnP w (turnB x)) := by
  have HF : Hid x.Fit := hf
  have HKD : Hid (x.kind = 2) := hk
  clear hk
  have HLT : Hid ((turnB x).length < 100000000000) := by
    show _ < _
    have h2 : (turnB x).length ≤ (turnB x).length := by exact Nat.le_refl _
    omega
  have HTU : Hid (∀ W, Below w.heap.size w W → Calls Tryz.prog 47 #[.agg #[.int .i64 x.kind, .int .u64 x.num, .int .i64 x.node, .string x.key, .bool x.was, .string x.old, .int .u64 x.prev, .slice x.na x.nn x.nc, .slice x.ra x.rn x.rc, .slice x.ga x.gn x.gc, .slice x.oa x.om x.oc, .slice x.da x.dn x.dc]] W (OwnP W (turnB x))) := fun W hb => turn_any x W (h.below hb) hf.prev hf.gs hf.gl HLT.out
  clear hlen h hf
  have HB : Hid (Blk (w.alloc (.cells #[.int .i64 x.kind, .int .u64 x.num, .int .i64 x.node, .string x.key, .bool x.was, .string x.old, .int .u64 x.prev, .slice x.na x.nn x.nc, .slice x.ra x.rn x.rc, .slice x.ga x.gn x.gc, .slice x.oa x.om x.oc, .slice x.da x.dn x.dc] 31)) w.heap.size #[.int .i64 x.kind, .int .u64 x.num, .int .i64 x.node, .string x.key, .bool x.was, .string x.old, .int .u64 x.prev, .slice x.na x.nn x.nc, .slice x.ra x.rn x.rc, .slice x.ga x.gn x.gc, .slice x.oa x.om x.oc, .slice x.da x.dn x.dc] 31) := Blk.new _ _ _
  have HY : Hid (Below w.heap.size w (w.alloc (.cells #[.int .i64 x.kind, .int .u64 x.num, .int .i64 x.node, .string x.key, .bool x.was, .string x.old, .int .u64 x.prev, .slice x.na x.nn x.nc, .slice x.ra x.rn x.rc, .slice x.ga x.gn x.gc, .slice x.oa x.om x.oc, .slice x.da x.dn x.dc] 31))) := (Below.refl _ _).alloc (Nat.le_refl _) _
  go_enter Tryz.func17, Tryz.ntmps17
  go_upto_region 1 with fail
  generalize w.alloc (.cells #[.int .i64 x.kind, .int .u64 x.num, .int .i64 x.node, .string x.key, .bool x.was, .string x.old, .int .u64 x.prev, .slice x.na x.nn x.nc, .slice x.ra x.rn x.rc, .slice x.ga x.gn x.gc, .slice x.oa x.om x.oc, .slice x.da x.dn x.dc] 31) = w0 at *
  have z0 : w0.cell? ⟨w.heap.size, 0, none⟩ = some (.int .i64 x.kind) := HB.out.cell 0
  have z1 : w0.cell? ⟨w.heap.size, 1, none⟩ = some (.int .u64 x.num) := HB.out.cell 1
  have z2 : w0.cell? ⟨w.heap.size, 2, none⟩ = some (.int .i64 x.node) := HB.out.cell 2
  have z3 : w0.cell? ⟨w.heap.size, 3, none⟩ = some (.string x.key) := HB.out.cell 3
  have z4 : w0.cell? ⟨w.heap.size, 4, none⟩ = some (.bool x.was) := HB.out.cell 4
  have z5 : w0.cell? ⟨w.heap.size, 5, none⟩ = some (.string x.old) := HB.out.cell 5
  have z6 : w0.cell? ⟨w.heap.size, 6, none⟩ = some (.int .u64 x.prev) := HB.out.cell 6
  have z7 : w0.cell? ⟨w.heap.size, 7, none⟩ = some (.slice x.na x.nn x.nc) := HB.out.cell 7
  have z8 : w0.cell? ⟨w.heap.size, 8, none⟩ = some (.slice x.ra x.rn x.rc) := HB.out.cell 8
  have z9 : w0.cell? ⟨w.heap.size, 9, none⟩ = some (.slice x.ga x.gn x.gc) := HB.out.cell 9
  have z10 : w0.cell? ⟨w.heap.size, 10, none⟩ = some (.slice x.oa x.om x.oc) := HB.out.cell 10
  have z11 : w0.cell? ⟨w.heap.size, 11, none⟩ = some (.slice x.da x.dn x.dc) := HB.out.cell 11
  have k1 : (x.kind == 1) = false := by rw [HKD.out]; rfl
  have k2 : (x.kind == 2) = true := by rw [HKD.out]; rfl
  go_wp2_with fail
  refine (HTU.out w0 HY.out).mono ?_
  rintro e w1 ⟨a9, n9, c9, rfl, ho, y⟩
  have HO9 : Hid (Own w1 w.heap.size (.slice a9 n9 c9) (turnB x)) := ho.mono HY.out.size
  have HY9 : Hid (Below w.heap.size w w1) := ext_trans HY.out y
  clear ho y
  go_wp2
  go_ret
  exact ownP_of rfl HO9.out HY9.out

set_option maxRecDepth 100000 in
set_option maxHeartbeats 4000000 in
theorem body3_any (x : RecV) (w : World) (h : x.At w) (hf : x.Fit) (hk : x.kind = 3) (hlen : (allB8 textB x.rs).length < 100000000000) : Calls Tryz.prog 17 #[.agg #[.int .i64 x.kind, .int .u64 x.num, .int .i64 x.node, .string x.key, .bool x.was, .string x.old, .int .u64 x.prev, .slice x.na x.nn x.nc, .slice x.ra x.rn x.rc, .slice x.ga x.gn x.gc, .slice x.oa x.om x.oc, .slice x.da x.dn x.dc]] w (OwnP w (allB8 textB x.rs)) := by
  have HF : Hid x.Fit := hf
  have HKD : Hid (x.kind = 3) := hk
  clear hk
  have HAS : Hid (∀ W, Below w.heap.size w W → Calls Tryz.prog 48 #[.slice x.ra x.rn x.rc, .func (.func 45) #[] #[]] W (OwnP W (allB8 textB x.rs))) := fun W hb => allS_any _ x.rs textB W (h.reads.below hb) hf.rl hlen (fun W' s _ hm => text8_any s W' (hf.rs s hm))
  clear hlen h hf
  have HB : Hid (Blk (w.alloc (.cells #[.int .i64 x.kind, .int .u64 x.num, .int .i64 x.node, .string x.key, .bool x.was, .string x.old, .int .u64 x.prev, .slice x.na x.nn x.nc, .slice x.ra x.rn x.rc, .slice x.ga x.gn x.gc, .slice x.oa x.om x.oc, .slice x.da x.dn x.dc] 31)) w.heap.size #[.int .i64 x.kind, .int .u64 x.num, .int .i64 x.node, .string x.key, .bool x.was, .string x.old, .int .u64 x.prev, .slice x.na x.nn x.nc, .slice x.ra x.rn x.rc, .slice x.ga x.gn x.gc, .slice x.oa x.om x.oc, .slice x.da x.dn x.dc] 31) := Blk.new _ _ _
  have HY : Hid (Below w.heap.size w (w.alloc (.cells #[.int .i64 x.kind, .int .u64 x.num, .int .i64 x.node, .string x.key, .bool x.was, .string x.old, .int .u64 x.prev, .slice x.na x.nn x.nc, .slice x.ra x.rn x.rc, .slice x.ga x.gn x.gc, .slice x.oa x.om x.oc, .slice x.da x.dn x.dc] 31))) := (Below.refl _ _).alloc (Nat.le_refl _) _
  go_enter Tryz.func17, Tryz.ntmps17
  go_upto_region 1 with fail
  generalize w.alloc (.cells #[.int .i64 x.kind, .int .u64 x.num, .int .i64 x.node, .string x.key, .bool x.was, .string x.old, .int .u64 x.prev, .slice x.na x.nn x.nc, .slice x.ra x.rn x.rc, .slice x.ga x.gn x.gc, .slice x.oa x.om x.oc, .slice x.da x.dn x.dc] 31) = w0 at *
  have z0 : w0.cell? ⟨w.heap.size, 0, none⟩ = some (.int .i64 x.kind) := HB.out.cell 0
  have z8 : w0.cell? ⟨w.heap.size, 8, none⟩ = some (.slice x.ra x.rn x.rc) := HB.out.cell 8
  have k1 : (x.kind == 1) = false := by rw [HKD.out]; rfl
  have k2 : (x.kind == 2) = false := by rw [HKD.out]; rfl
  have k3 : (x.kind == 3) = true := by rw [HKD.out]; rfl
  go_wp2_with fail
  refine (HAS.out w0 HY.out).mono ?_
  rintro e w1 ⟨a9, n9, c9, rfl, ho, y⟩
  have HO9 : Hid (Own w1 w.heap.size (.slice a9 n9 c9) (allB8 textB x.rs)) := ho.mono HY.out.size
  have HY9 : Hid (Below w.heap.size w w1) := ext_trans HY.out y
  clear ho y
  go_wp2
  go_ret
  exact ownP_of rfl HO9.out HY9.out

set_option maxRecDepth 100000 in
set_option maxHeartbeats 4000000 in
theorem body6_any (x : RecV) (w : World) (h : x.At w) (hf : x.Fit) (hk : x.kind = 6) (hlen : (allB8 intB x.ns).length < 100000000000) : Calls Tryz.prog 17 #[.agg #[.int .i64 x.kind, .int .u64 x.num, .int .i64 x.node, .string x.key, .bool x.was, .string x.old, .int .u64 x.prev, .slice x.na x.nn x.nc, .slice x.ra x.rn x.rc, .slice x.ga x.gn x.gc, .slice x.oa x.om x.oc, .slice x.da x.dn x.dc]] w (OwnP w (allB8 intB x.ns)) := by
  have HF : Hid x.Fit := hf
  have HKD : Hid (x.kind = 6) := hk
  clear hk
  have HAN : Hid (∀ W, Below w.heap.size w W → Calls Tryz.prog 49 #[.slice x.na x.nn x.nc, .func (.func 50) #[] #[]] W (OwnP W (allB8 intB x.ns))) := fun W hb => allI_any _ x.ns intB W (h.nodes.below hb) hf.nl hlen (fun W' n _ hm => smallB_any n W' (hf.ns n hm).1 (by have := (hf.ns n hm).2; omega))
  clear hlen h hf
  have HB : Hid (Blk (w.alloc (.cells #[.int .i64 x.kind, .int .u64 x.num, .int .i64 x.node, .string x.key, .bool x.was, .string x.old, .int .u64 x.prev, .slice x.na x.nn x.nc, .slice x.ra x.rn x.rc, .slice x.ga x.gn x.gc, .slice x.oa x.om x.oc, .slice x.da x.dn x.dc] 31)) w.heap.size #[.int .i64 x.kind, .int .u64 x.num, .int .i64 x.node, .string x.key, .bool x.was, .string x.old, .int .u64 x.prev, .slice x.na x.nn x.nc, .slice x.ra x.rn x.rc, .slice x.ga x.gn x.gc, .slice x.oa x.om x.oc, .slice x.da x.dn x.dc] 31) := Blk.new _ _ _
  have HY : Hid (Below w.heap.size w (w.alloc (.cells #[.int .i64 x.kind, .int .u64 x.num, .int .i64 x.node, .string x.key, .bool x.was, .string x.old, .int .u64 x.prev, .slice x.na x.nn x.nc, .slice x.ra x.rn x.rc, .slice x.ga x.gn x.gc, .slice x.oa x.om x.oc, .slice x.da x.dn x.dc] 31))) := (Below.refl _ _).alloc (Nat.le_refl _) _
  go_enter Tryz.func17, Tryz.ntmps17
  go_upto_region 1 with fail
  generalize w.alloc (.cells #[.int .i64 x.kind, .int .u64 x.num, .int .i64 x.node, .string x.key, .bool x.was, .string x.old, .int .u64 x.prev, .slice x.na x.nn x.nc, .slice x.ra x.rn x.rc, .slice x.ga x.gn x.gc, .slice x.oa x.om x.oc, .slice x.da x.dn x.dc] 31) = w0 at *
  have z0 : w0.cell? ⟨w.heap.size, 0, none⟩ = some (.int .i64 x.kind) := HB.out.cell 0
  have z7 : w0.cell? ⟨w.heap.size, 7, none⟩ = some (.slice x.na x.nn x.nc) := HB.out.cell 7
  have k1 : (x.kind == 1) = false := by rw [HKD.out]; rfl
  have k2 : (x.kind == 2) = false := by rw [HKD.out]; rfl
  have k3 : (x.kind == 3) = false := by rw [HKD.out]; rfl
  have k6 : (x.kind == 6) = true := by rw [HKD.out]; rfl
  go_wp2_with fail
  refine (HAN.out w0 HY.out).mono ?_
  rintro e w1 ⟨a9, n9, c9, rfl, ho, y⟩
  have HO9 : Hid (Own w1 w.heap.size (.slice a9 n9 c9) (allB8 intB x.ns)) := ho.mono HY.out.size
  have HY9 : Hid (Below w.heap.size w w1) := ext_trans HY.out y
  clear ho y
  go_wp2
  go_ret
  exact ownP_of rfl HO9.out HY9.out

set_option maxRecDepth 100000 in
set_option maxHeartbeats 4000000 in
theorem body8_any (x : RecV) (w : World) (h : x.At w) (hf : x.Fit) (hk : x.kind = 8) (hlen : (allB8 openB x.os ++ allB8 doneB x.ds).length < 100000000000) : Calls Tryz.prog 17 #[.agg #[.int .i64 x.kind, .int .u64 x.num, .int .i64 x.node, .string x.key, .bool x.was, .string x.old, .int .u64 x.prev, .slice x.na x.nn x.nc, .slice x.ra x.rn x.rc, .slice x.ga x.gn x.gc, .slice x.oa x.om x.oc, .slice x.da x.dn x.dc]] w (OwnP w (allB8 openB x.os ++ allB8 doneB x.ds)) := by
  have HF : Hid x.Fit := hf
  have HKD : Hid (x.kind = 8) := hk
  clear hk
  have HAO : Hid (∀ W, Below w.heap.size w W → Calls Tryz.prog 51 #[.slice x.oa x.om x.oc, .func (.func 52) #[] #[]] W (OwnP W (allB8 openB x.os))) := fun W hb => allO_any _ x.os openB W (h.opens.below hb) hf.ol (by rw [List.length_append] at hlen; omega) (fun W' o hb' hm => openLaid_any o W' ((h.openz o hm).below (ext_trans hb hb')) (hf.os o hm).1 (hf.os o hm).2.1 (hf.os o hm).2.2.1 (hf.os o hm).2.2.2)
  have HAD : Hid (∀ W, Below w.heap.size w W → Calls Tryz.prog 53 #[.slice x.da x.dn x.dc, .func (.func 54) #[] #[]] W (OwnP W (allB8 doneB x.ds))) := fun W hb => allD_any _ x.ds doneB W (h.dones.below hb) hf.dl (by rw [List.length_append] at hlen; omega) (fun W' o hb' hm => doneLaid_any o W' ((h.donez o hm).below (ext_trans hb hb')) (hf.ds o hm).1 (hf.ds o hm).2.1 (hf.ds o hm).2.2.1 (hf.ds o hm).2.2.2)
  have HEQ : Hid ([allB8 openB x.os, allB8 doneB x.ds].flatten = allB8 openB x.os ++ allB8 doneB x.ds) := by show _ = _; simp
  have HFL : Hid ([allB8 openB x.os, allB8 doneB x.ds].flatten.length < 100000000000) := by show _ < _; rw [HEQ.out]; exact hlen
  clear hlen h hf
  have HB : Hid (Blk (w.alloc (.cells #[.int .i64 x.kind, .int .u64 x.num, .int .i64 x.node, .string x.key, .bool x.was, .string x.old, .int .u64 x.prev, .slice x.na x.nn x.nc, .slice x.ra x.rn x.rc, .slice x.ga x.gn x.gc, .slice x.oa x.om x.oc, .slice x.da x.dn x.dc] 31)) w.heap.size #[.int .i64 x.kind, .int .u64 x.num, .int .i64 x.node, .string x.key, .bool x.was, .string x.old, .int .u64 x.prev, .slice x.na x.nn x.nc, .slice x.ra x.rn x.rc, .slice x.ga x.gn x.gc, .slice x.oa x.om x.oc, .slice x.da x.dn x.dc] 31) := Blk.new _ _ _
  have HY : Hid (Below w.heap.size w (w.alloc (.cells #[.int .i64 x.kind, .int .u64 x.num, .int .i64 x.node, .string x.key, .bool x.was, .string x.old, .int .u64 x.prev, .slice x.na x.nn x.nc, .slice x.ra x.rn x.rc, .slice x.ga x.gn x.gc, .slice x.oa x.om x.oc, .slice x.da x.dn x.dc] 31))) := (Below.refl _ _).alloc (Nat.le_refl _) _
  go_enter Tryz.func17, Tryz.ntmps17
  go_upto_region 1 with fail
  generalize w.alloc (.cells #[.int .i64 x.kind, .int .u64 x.num, .int .i64 x.node, .string x.key, .bool x.was, .string x.old, .int .u64 x.prev, .slice x.na x.nn x.nc, .slice x.ra x.rn x.rc, .slice x.ga x.gn x.gc, .slice x.oa x.om x.oc, .slice x.da x.dn x.dc] 31) = w0 at *
  have z0 : w0.cell? ⟨w.heap.size, 0, none⟩ = some (.int .i64 x.kind) := HB.out.cell 0
  have k1 : (x.kind == 1) = false := by rw [HKD.out]; rfl
  have k2 : (x.kind == 2) = false := by rw [HKD.out]; rfl
  have k3 : (x.kind == 3) = false := by rw [HKD.out]; rfl
  have k6 : (x.kind == 6) = false := by rw [HKD.out]; rfl
  have k8 : (x.kind == 8) = true := by rw [HKD.out]; rfl
  go_upto_region 11 with fail
  clear z0 k1 k2 k3 k6 k8
  refine wp_region_ext (by kernel_rfl) ?_
  haveI nA := cls_ext w0.drew
  have q0 := cellX (W0 := w0.drew) (show w0.drew.cell? ⟨w.heap.size, 0, none⟩ = some (.int .i64 x.kind) from HB.out.cell 0)
  have q1 := cellX (W0 := w0.drew) (show w0.drew.cell? ⟨w.heap.size, 1, none⟩ = some (.int .u64 x.num) from HB.out.cell 1)
  have q2 := cellX (W0 := w0.drew) (show w0.drew.cell? ⟨w.heap.size, 2, none⟩ = some (.int .i64 x.node) from HB.out.cell 2)
  have q3 := cellX (W0 := w0.drew) (show w0.drew.cell? ⟨w.heap.size, 3, none⟩ = some (.string x.key) from HB.out.cell 3)
  have q4 := cellX (W0 := w0.drew) (show w0.drew.cell? ⟨w.heap.size, 4, none⟩ = some (.bool x.was) from HB.out.cell 4)
  have q5 := cellX (W0 := w0.drew) (show w0.drew.cell? ⟨w.heap.size, 5, none⟩ = some (.string x.old) from HB.out.cell 5)
  have q6 := cellX (W0 := w0.drew) (show w0.drew.cell? ⟨w.heap.size, 6, none⟩ = some (.int .u64 x.prev) from HB.out.cell 6)
  have q7 := cellX (W0 := w0.drew) (show w0.drew.cell? ⟨w.heap.size, 7, none⟩ = some (.slice x.na x.nn x.nc) from HB.out.cell 7)
  have q8 := cellX (W0 := w0.drew) (show w0.drew.cell? ⟨w.heap.size, 8, none⟩ = some (.slice x.ra x.rn x.rc) from HB.out.cell 8)
  have q9 := cellX (W0 := w0.drew) (show w0.drew.cell? ⟨w.heap.size, 9, none⟩ = some (.slice x.ga x.gn x.gc) from HB.out.cell 9)
  have q10 := cellX (W0 := w0.drew) (show w0.drew.cell? ⟨w.heap.size, 10, none⟩ = some (.slice x.oa x.om x.oc) from HB.out.cell 10)
  have q11 := cellX (W0 := w0.drew) (show w0.drew.cell? ⟨w.heap.size, 11, none⟩ = some (.slice x.da x.dn x.dc) from HB.out.cell 11)
  refine wpAnyH_seg (by kernel_rfl) (fun _ _ _ h => h) [0, 1, 3, 4] 5 _ _ _ (Ext.refl _) (by kernel_rfl) ?_
  simp only [opsAt, List.getElem?_toArray, List.getElem?_cons_zero, List.getElem?_cons_succ, List.cons_append, List.nil_append]
  repeat (go_big_quiet_step (fail))
  refine wpQuiet_nil ?_
  clear nA q0 q1 q2 q3 q4 q5 q6 q7 q8 q9 q10 q11
  have HY_0 : Hid (Below w.heap.size w w0.drew) := Below.drew HY.out
  clear HB HY
  refine wpAnyH_callE (i := 2) (fuel := 4) 38 rfl (by kernel_rfl) rfl (Ext.refl _) (by kernel_rfl) (f := 51) (args := #[.slice x.oa x.om x.oc, .func (.func 52) #[] #[]]) (by kernel_rfl) (HAO.out w0.drew HY_0.out) ?_
  rintro e u0 ⟨b0, m0, d0, rfl, ho, y⟩
  refine ⟨_, rfl, y, ?_⟩
  have HS0_0 : Hid (Src u0 (.slice b0 m0 d0) (allB8 openB x.os)) := ho.src
  have HY_1 : Hid (Below w.heap.size w u0) := ext_trans HY_0.out y
  clear ho y HY_0
  simp only [Act.put, List.setIfInBounds_toArray, List.set_cons_succ, List.set_cons_zero]
  refine wpAnyH_callE (i := 5) (fuel := 3) 41 rfl (by kernel_rfl) rfl (Ext.refl _) (by kernel_rfl) (f := 53) (args := #[.slice x.da x.dn x.dc, .func (.func 54) #[] #[]]) (by kernel_rfl) (HAD.out u0 HY_1.out) ?_
  rintro e u1 ⟨b1, m1, d1, rfl, ho, y⟩
  refine ⟨_, rfl, y, ?_⟩
  have HS1_1 : Hid (Src u1 (.slice b1 m1 d1) (allB8 doneB x.ds)) := ho.src
  have HS0_1 : Hid (Src u1 (.slice b0 m0 d0) (allB8 openB x.os)) := HS0_0.out.below y
  have HY_2 : Hid (Below w.heap.size w u1) := ext_trans HY_1.out y
  clear ho y HY_1 HS0_0
  simp only [Act.put, List.setIfInBounds_toArray, List.set_cons_succ, List.set_cons_zero]
  refine wpAnyH_all (rs := [6]) (fuel := 2) (by kernel_rfl) (by simp) fun j hj => ?_
  obtain rfl : j = 6 := by simpa using hj
  clear hj
  refine wpOp_value 42 rfl (by kernel_rfl) rfl (exec_buildB2 rfl rfl rfl) ?_
  have HRB : Hid _ := rowB2 HS0_1.out HS1_1.out
  have HX5 : Hid (Below u1.heap.size u1 (u1.alloc (.cells #[.slice b0 m0 d0, .slice b1 m1 d1] 34))) := below_allocR _
  refine ⟨HX5.out, ?_⟩
  have HY5 : Hid (Below w.heap.size w (u1.alloc (.cells #[.slice b0 m0 d0, .slice b1 m1 d1] 34))) := ext_trans HY_2.out HX5.out
  clear HY_2 HS0_1 HS1_1
  simp only [Act.put, List.setIfInBounds_toArray, List.set_cons_succ, List.set_cons_zero]
  generalize (u1.alloc (.cells #[.slice b0 m0 d0, .slice b1 m1 d1] 34)) = w5 at *
  have HCC : Hid _ := concat_any ⟨u1.heap.size, 0, none⟩ 2 [allB8 openB x.os, allB8 doneB x.ds] w5 HRB.out ⟨by simp, by simp⟩ HFL.out
  refine wpAnyH_callE (i := 7) (fuel := 1) 43 rfl (by kernel_rfl) rfl HX5.out (by kernel_rfl) (f := 14) (args := #[.slice (some ⟨u1.heap.size, 0, none⟩) 2 2]) (by kernel_rfl) HCC.out ?_
  rintro e w6 ⟨v6, rfl, ho, y⟩
  refine ⟨_, rfl, y, ?_⟩
  have HSZ : Hid (w.heap.size ≤ w5.heap.size) := HY5.out.size
  have HO9 : Hid (Own w6 w.heap.size v6 ([allB8 openB x.os, allB8 doneB x.ds].flatten)) := ho.mono HSZ.out
  have HY9 : Hid (Below w.heap.size w w6) := ext_trans HY5.out y
  clear ho y HRB HCC HX5 HY5
  simp only [Act.put, List.setIfInBounds_toArray, List.set_cons_succ, List.set_cons_zero]
  haveI nA := cls_ext w6
  refine wpAnyH_seg (by kernel_rfl) (fun _ _ _ h => h) [8] 0 _ _ _ (Ext.refl _) (by kernel_rfl) ?_
  simp only [opsAt, List.getElem?_toArray, List.getElem?_cons_zero, List.getElem?_cons_succ, List.cons_append, List.nil_append]
  repeat (go_big_quiet_step (fail))
  refine wpQuiet_nil ?_
  clear nA
  refine wpAnyH_done (by kernel_rfl) (NoPanic.normal ?_) 0
  rw [HEQ.out] at HO9
  obtain ⟨a9, k9, m9, hv9⟩ : ∃ a n c, v6 = .slice a n c := by obtain ⟨a, c, e, _⟩ := HO9.out.src; exact ⟨a, _, c, e⟩
  subst hv9
  go_wp2
  go_ret
  exact ownP_of rfl HO9.out HY9.out
end Go.Proofs.YtbgofajldkblmaaGreat
