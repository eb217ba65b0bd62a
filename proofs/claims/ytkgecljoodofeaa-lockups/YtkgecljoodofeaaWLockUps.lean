/- LockUps: the walk of the law's Go text. -/
import Derived.Test.YtkgecljoodofeaaLkH1
import Derived.Test.YtkgecljoodofeaaLkQ
set_option linter.unusedSimpArgs false
set_option linter.unusedVariables false
namespace Go.Proofs.Ytkgecljoodofeaa
open Go.ChangeShapes Go.WideShapes Go.ChangeAt Go.RowKit

section
variable {a b : Td}
def wA (t : Td) (m : Int) : Wn := ⟨t.num, t.node, m⟩
theorem wA_t (t : Td) (m : Int) : (wA t m).t = t := rfl
theorem wA_m (t : Td) (m : Int) : (wA t m).mode = m := rfl
theorem up1 : askL a 1 [] [] = ⟨1, [wA a 1], [], true⟩ := by
  simp [askL, wantL, placeN, frontN, judgeN, ansN, modeT, hasT, posT, giveL, wA]
theorem up2 : askL a 2 [wA a 1] [] = ⟨1, [wA a 2], [], true⟩ := by
  have h := eldT_irr a
  have h2 := eqT_self a
  have e : ∀ m, (⟨a.num, a.node, m⟩ : Wn) = wA a m := fun m => rfl
  simp [askL, wantL, placeN, frontN, judgeN, ansN, modeT, hasT, posT, giveL, e, bad1, bad2, agB, wA_t, wA_m, h, h2]
theorem up3 : askL a 1 [wA a 2] [] = ⟨1, [wA a 2], [], false⟩ := by
  have h := eldT_irr a
  have h2 := eqT_self a
  simp [askL, modeT, posT, wA_t, wA_m, h, h2]
theorem up4 (hab : eldT a b = true) : askL b 1 [wA a 2] [] = ⟨3, [wA a 2], [], false⟩ := by
  have h := eldT_asymm hab
  have h2 := eqT_ne (eldT_ne hab)
  have h3 := eqT_ne (fun e => eldT_ne hab e.symm)
  have e : ∀ m, (⟨b.num, b.node, m⟩ : Wn) = wA b m := fun m => rfl
  simp [askL, wantL, placeN, frontN, judgeN, ansN, modeT, hasT, posT, giveL, e, bad1, bad2, agB, wA_t, wA_m, h, h2, h3, hab]
theorem up5 (hab : eldT a b = true) : askL b 1 [wA a 1] [] = ⟨1, [wA a 1, wA b 1], [], true⟩ := by
  have h := eldT_asymm hab
  have h2 := eqT_ne (eldT_ne hab)
  have h3 := eqT_ne (fun e => eldT_ne hab e.symm)
  have e : ∀ m, (⟨b.num, b.node, m⟩ : Wn) = wA b m := fun m => rfl
  simp [askL, wantL, placeN, frontN, judgeN, ansN, modeT, hasT, posT, giveL, e, bad1, bad2, agB, wA_t, wA_m, h, h2, h3, hab]
theorem up6 (hab : eldT a b = true) : askL a 2 [wA a 1, wA b 1] [] = ⟨2, [wA a 1, wA b 1], [wA a 2], true⟩ := by
  have h := eldT_asymm hab
  have h2 := eqT_ne (eldT_ne hab)
  have h3 := eqT_ne (fun e => eldT_ne hab e.symm)
  have h4 := eldT_irr a
  have h5 := eqT_self a
  have e : ∀ m, (⟨a.num, a.node, m⟩ : Wn) = wA a m := fun m => rfl
  simp [askL, wantL, placeN, frontN, judgeN, ansN, modeT, hasT, posT, giveL, e, bad1, bad2, agB, wA_t, wA_m, h, h2, h3, h4, h5, hab]
theorem up7 (hab : eldT a b = true) : askL b 2 [wA a 1, wA b 1] [wA a 2] = ⟨3, [wA a 1, wA b 1], [wA a 2], false⟩ := by
  have h := eldT_asymm hab
  have h2 := eqT_ne (eldT_ne hab)
  have h3 := eqT_ne (fun e => eldT_ne hab e.symm)
  have h4 := eldT_irr a
  have h5 := eqT_self a
  have h6 := eldT_irr b
  have h7 := eqT_self b
  have e : ∀ m, (⟨b.num, b.node, m⟩ : Wn) = wA b m := fun m => rfl
  simp [askL, wantL, placeN, frontN, judgeN, ansN, modeT, hasT, posT, giveL, e, bad1, bad2, agB, wA_t, wA_m, h, h2, h3, h4, h5, h6, h7, hab]
theorem up8 (hab : eldT a b = true) (k : ByteArray) : freeH b [wA a 1, wA b 1] [wA a 2] = [wA a 2] ∧ freeW b [wA a 1, wA b 1] [wA a 2] = [] ∧ freeG b k [wA a 1, wA b 1] [wA a 2] = [⟨a.num, a.node, k, 2⟩] := by
  have h := eldT_asymm hab
  have h2 := eqT_ne (eldT_ne hab)
  have h3 := eqT_ne (fun e => eldT_ne hab e.symm)
  have h4 := eldT_irr a
  have h5 := eqT_self a
  have h7 := eqT_self b
  have e1 : leaveL b [wA a 1, wA b 1] = [wA a 1] := by simp [leaveL, wA_t, h2, h7]
  have e2 : leaveL b [wA a 2] = [wA a 2] := by simp [leaveL, wA_t, h2]
  have e3 : serveN [wA a 1] [wA a 2] = ([wA a 2], 1) := by simp [serveN, agB, giveL, hasT, posT, wA_t, wA_m, h4, h5]
  unfold freeH freeW freeG freeM
  rw [e1, e2, e3]
  exact ⟨rfl, rfl, rfl⟩
end

set_option maxRecDepth 100000 in
set_option maxHeartbeats 8000000 in
theorem walk_LockUps (x0 y0 x1 y1 : Int) (k : ByteArray) (w : World) (_w0 : (Lit.int .u64 x0).wf = true ∧ (Lit.int .i64 y0).wf = true) (_w1 : (Lit.int .u64 x1).wf = true ∧ (Lit.int .i64 y1).wf = true) (_w2 : k.size ≤ maxLen) :
    Calls Try.prog 8 #[.agg #[.int .u64 x0, .int .i64 y0], .agg #[.int .u64 x1, .int .i64 y1], .string k] w fun e w' => e = .returned (.bool true) ∧ Below w.heap.size w w' := by
  obtain ⟨a, ha⟩ : ∃ a : Td, a = ⟨x0, y0⟩ := ⟨_, rfl⟩
  obtain ⟨b, hb⟩ : ∃ b : Td, b = ⟨x1, y1⟩ := ⟨_, rfl⟩
  obtain rfl : a.num = x0 := by rw [ha]
  obtain rfl : a.node = y0 := by rw [ha]
  obtain rfl : b.num = x1 := by rw [hb]
  obtain rfl : b.node = y1 := by rw [hb]
  have HWF : Hid (a.wf ∧ b.wf ∧ k.size ≤ maxLen) := ⟨_w0, _w1, _w2⟩
  have hkm : (k.size : Int) ≤ 9223372036854775807 := by have := _w2; unfold maxLen at this; omega
  clear _w0 _w1 _w2 ha hb
  obtain ⟨w0, hw0⟩ : ∃ w0, w0 = (w.alloc (.cells #[.int .u64 a.num, .int .i64 a.node] 29)).alloc (.cells #[.int .u64 b.num, .int .i64 b.node] 29) := ⟨_, rfl⟩
  have HE0 : Hid (Ext w w0) := by rw [hw0]; exact ext_two _ _
  have HB0 : Hid (Blk w0 w.heap.size #[.int .u64 a.num, .int .i64 a.node] 29 ∧ Blk w0 (w.heap.size + 1) #[.int .u64 b.num, .int .i64 b.node] 29) := by
    rw [hw0]
    refine ⟨(Blk.new _ _ _).alloc _, ?_⟩
    have := Blk.new (w.alloc (.cells #[.int .u64 a.num, .int .i64 a.node] 29)) #[.int .u64 b.num, .int .i64 b.node] 29
    rw [show (w.alloc (.cells #[.int .u64 a.num, .int .i64 a.node] 29)).heap.size = w.heap.size + 1 by simp] at this
    exact this
  go_enter Try.func8, Try.ntmps8
  go_upto_region 1 with fail
  rw [← hw0]
  clear hw0
  go_wp2_with fail
  refine (head12_any _).mono ?_
  rintro e w1 ⟨rfl, h1⟩
  have HE1 : Hid (Ext w w1) := Ext.trans HE0.out h1
  have HB1 : Hid (Blk w1 w.heap.size #[.int .u64 a.num, .int .i64 a.node] 29 ∧ Blk w1 (w.heap.size + 1) #[.int .u64 b.num, .int .i64 b.node] 29) := ⟨HB0.out.1.below_ h1, HB0.out.2.below_ h1⟩
  clear h1 HE0 HB0
  by_cases hk40 : 40 < k.size
  · have hkd : decide ((40 : Int) < (k.size : Int)) = true := by simp; omega
    go_wp2
    go_ret
    exact ⟨rfl, HE1.out⟩
  have hkd : decide ((40 : Int) < (k.size : Int)) = false := by simp; omega
  have ca0 : w1.cell? ⟨w.heap.size, 0, none⟩ = some (.int .u64 a.num) := HB1.out.1.cell 0
  have ca1 : w1.cell? ⟨w.heap.size, 1, none⟩ = some (.int .i64 a.node) := HB1.out.1.cell 1
  have cb0 : w1.cell? ⟨w.heap.size + 1, 0, none⟩ = some (.int .u64 b.num) := HB1.out.2.cell 0
  have cb1 : w1.cell? ⟨w.heap.size + 1, 1, none⟩ = some (.int .i64 b.node) := HB1.out.2.cell 1
  go_wp2_with fail
  refine (elder12_any a b w1).mono ?_
  rintro e w2 ⟨rfl, hx⟩
  have HE2 : Hid (Ext w w2) := Ext.trans HE1.out hx
  have HB2 : Hid (Blk w2 w.heap.size #[.int .u64 a.num, .int .i64 a.node] 29 ∧ Blk w2 (w.heap.size + 1) #[.int .u64 b.num, .int .i64 b.node] 29) := ⟨HB1.out.1.below_ hx, HB1.out.2.below_ hx⟩
  clear hx ca0 ca1 cb0 cb1 HE1 HB1
  by_cases hab : eldT a b = true
  rotate_left
  · have hab2 : eldT a b = false := by simpa using hab
    rw [hab2]
    go_wp2
    go_ret
    exact ⟨rfl, HE2.out⟩
  have HAB : Hid (eldT a b = true) := hab
  rw [hab]
  clear hab hk40
  go_wp2_with fail
  refine (newT_any w2).mono ?_
  rintro e w3 ⟨gl, T0l, rfl, hT, hx⟩
  have HE3 : Hid (Ext w w3) := Ext.trans HE2.out hx
  have HB3 : Hid (Blk w3 w.heap.size #[.int .u64 a.num, .int .i64 a.node] 29 ∧ Blk w3 (w.heap.size + 1) #[.int .u64 b.num, .int .i64 b.node] 29) := ⟨HB2.out.1.below_ hx, HB2.out.2.below_ hx⟩
  have HT3 : Hid (TT w2.heap.size w3 gl 0 say0 T0l) := hT
  have HS3 : Hid (say0.has k = [] ∧ say0.waits k = []) := ⟨rfl, rfl⟩
  have HZ3 : Hid (w.heap.size ≤ w2.heap.size) := HE2.out.size
  clear hT hx HE2 HB2
  have ca0 : w3.cell? ⟨w.heap.size, 0, none⟩ = some (.int .u64 a.num) := HB3.out.1.cell 0
  have ca1 : w3.cell? ⟨w.heap.size, 1, none⟩ = some (.int .i64 a.node) := HB3.out.1.cell 1
  have cb0 : w3.cell? ⟨w.heap.size + 1, 0, none⟩ = some (.int .u64 b.num) := HB3.out.2.cell 0
  have cb1 : w3.cell? ⟨w.heap.size + 1, 1, none⟩ = some (.int .i64 b.node) := HB3.out.2.cell 1
  have HU : Hid (askL a 1 (Say.has say0 k) (Say.waits say0 k) = (⟨1, [wA a 1], [], true⟩ : AnsL)) := by rw [HS3.out.1, HS3.out.2]; exact up1
  have HV : Hid (ansM a 1 say0 k = 1) := by show _ = _; rw [ansM_is _ _ _ _ (by decide), HU.out]
  go_wp2_with fail
  refine (askT_any HT3.out a 1 k HWF.out.1 HWF.out.2.2 (by omega)).mono ?_
  rintro e w4 ⟨rfl, T1l, hT, hs⟩
  rw [HV.out]
  obtain ⟨S1l, hS⟩ : ∃ S, S = say0.askM a 1 k := ⟨_, rfl⟩
  rw [← hS] at hT
  have HS4 : Hid (S1l.has k = [wA a 1] ∧ S1l.waits k = []) := by
    rw [hS]
    exact ⟨by rw [askM_has _ _ _ _ (by decide), HU.out], by rw [askM_waits _ _ _ _ (by decide), HU.out]⟩
  have HT4 : Hid (TT w2.heap.size w4 gl 1 S1l T1l) := hT
  have HE4 : Hid (Ext w w4) := hs.ext HE3.out HZ3.out HT3.out
  have HB4 : Hid (Blk w4 w.heap.size #[.int .u64 a.num, .int .i64 a.node] 29 ∧ Blk w4 (w.heap.size + 1) #[.int .u64 b.num, .int .i64 b.node] 29) := ⟨hs.box HT3.out HB3.out.1 (by decide) (by decide), hs.box HT3.out HB3.out.2 (by decide) (by decide)⟩
  have HK4 : Hid (∀ q, q ≠ k → S1l.has q = [] ∧ S1l.waits q = []) := fun q hq => by
    rw [hS]
    unfold Say.askM
    rw [if_pos (by decide)]
    have h1 : (Say.ask say0 a 1 k).has q = Say.has say0 q ∧ (Say.ask say0 a 1 k).waits q = Say.waits say0 q := by unfold Say.ask; simp [hq]
    rw [h1.1, h1.2]
    exact ⟨rfl, rfl⟩
  clear hT hs hS HU HV ca0 ca1 cb0 cb1 HE3 HB3 HT3 HS3
  have ca0 : w4.cell? ⟨w.heap.size, 0, none⟩ = some (.int .u64 a.num) := HB4.out.1.cell 0
  have ca1 : w4.cell? ⟨w.heap.size, 1, none⟩ = some (.int .i64 a.node) := HB4.out.1.cell 1
  have cb0 : w4.cell? ⟨w.heap.size + 1, 0, none⟩ = some (.int .u64 b.num) := HB4.out.2.cell 0
  have cb1 : w4.cell? ⟨w.heap.size + 1, 1, none⟩ = some (.int .i64 b.node) := HB4.out.2.cell 1
  have HU : Hid (askL a 2 (Say.has S1l k) (Say.waits S1l k) = (⟨1, [wA a 2], [], true⟩ : AnsL)) := by rw [HS4.out.1, HS4.out.2]; exact up2
  have HV : Hid (ansM a 2 S1l k = 1) := by show _ = _; rw [ansM_is _ _ _ _ (by decide), HU.out]
  go_wp2_with fail
  refine (askT_any HT4.out a 2 k HWF.out.1 HWF.out.2.2 (by omega)).mono ?_
  rintro e w5 ⟨rfl, T2l, hT, hs⟩
  rw [HV.out]
  obtain ⟨S2l, hS⟩ : ∃ S, S = S1l.askM a 2 k := ⟨_, rfl⟩
  rw [← hS] at hT
  have HS5 : Hid (S2l.has k = [wA a 2] ∧ S2l.waits k = []) := by
    rw [hS]
    exact ⟨by rw [askM_has _ _ _ _ (by decide), HU.out], by rw [askM_waits _ _ _ _ (by decide), HU.out]⟩
  have HT5 : Hid (TT w2.heap.size w5 gl 2 S2l T2l) := hT
  have HE5 : Hid (Ext w w5) := hs.ext HE4.out HZ3.out HT4.out
  have HB5 : Hid (Blk w5 w.heap.size #[.int .u64 a.num, .int .i64 a.node] 29 ∧ Blk w5 (w.heap.size + 1) #[.int .u64 b.num, .int .i64 b.node] 29) := ⟨hs.box HT4.out HB4.out.1 (by decide) (by decide), hs.box HT4.out HB4.out.2 (by decide) (by decide)⟩
  have HK5 : Hid (∀ q, q ≠ k → S2l.has q = [] ∧ S2l.waits q = []) := fun q hq => by
    rw [hS]
    unfold Say.askM
    rw [if_pos (by decide)]
    have h1 : (Say.ask S1l a 2 k).has q = Say.has S1l q ∧ (Say.ask S1l a 2 k).waits q = Say.waits S1l q := by unfold Say.ask; simp [hq]
    rw [h1.1, h1.2]
    exact HK4.out q hq
  clear hT hs hS HU HV ca0 ca1 cb0 cb1 HE4 HB4 HT4 HS4
  have ca0 : w5.cell? ⟨w.heap.size, 0, none⟩ = some (.int .u64 a.num) := HB5.out.1.cell 0
  have ca1 : w5.cell? ⟨w.heap.size, 1, none⟩ = some (.int .i64 a.node) := HB5.out.1.cell 1
  have cb0 : w5.cell? ⟨w.heap.size + 1, 0, none⟩ = some (.int .u64 b.num) := HB5.out.2.cell 0
  have cb1 : w5.cell? ⟨w.heap.size + 1, 1, none⟩ = some (.int .i64 b.node) := HB5.out.2.cell 1
  have HU : Hid (askL a 1 (Say.has S2l k) (Say.waits S2l k) = (⟨1, [wA a 2], [], false⟩ : AnsL)) := by rw [HS5.out.1, HS5.out.2]; exact up3
  have HV : Hid (ansM a 1 S2l k = 1) := by show _ = _; rw [ansM_is _ _ _ _ (by decide), HU.out]
  go_wp2_with fail
  refine (askT_any HT5.out a 1 k HWF.out.1 HWF.out.2.2 (by omega)).mono ?_
  rintro e w6 ⟨rfl, T3l, hT, hs⟩
  rw [HV.out]
  obtain ⟨S3l, hS⟩ : ∃ S, S = S2l.askM a 1 k := ⟨_, rfl⟩
  rw [← hS] at hT
  have HS6 : Hid (S3l.has k = [wA a 2] ∧ S3l.waits k = []) := by
    rw [hS]
    exact ⟨by rw [askM_has _ _ _ _ (by decide), HU.out], by rw [askM_waits _ _ _ _ (by decide), HU.out]⟩
  have HT6 : Hid (TT w2.heap.size w6 gl 3 S3l T3l) := hT
  have HE6 : Hid (Ext w w6) := hs.ext HE5.out HZ3.out HT5.out
  have HB6 : Hid (Blk w6 w.heap.size #[.int .u64 a.num, .int .i64 a.node] 29 ∧ Blk w6 (w.heap.size + 1) #[.int .u64 b.num, .int .i64 b.node] 29) := ⟨hs.box HT5.out HB5.out.1 (by decide) (by decide), hs.box HT5.out HB5.out.2 (by decide) (by decide)⟩
  have HK6 : Hid (∀ q, q ≠ k → S3l.has q = [] ∧ S3l.waits q = []) := fun q hq => by
    rw [hS]
    unfold Say.askM
    rw [if_pos (by decide)]
    have h1 : (Say.ask S2l a 1 k).has q = Say.has S2l q ∧ (Say.ask S2l a 1 k).waits q = Say.waits S2l q := by unfold Say.ask; simp [hq]
    rw [h1.1, h1.2]
    exact HK5.out q hq
  clear hT hs hS HU HV ca0 ca1 cb0 cb1 HE5 HB5 HT5 HS5
  have ca0 : w6.cell? ⟨w.heap.size, 0, none⟩ = some (.int .u64 a.num) := HB6.out.1.cell 0
  have ca1 : w6.cell? ⟨w.heap.size, 1, none⟩ = some (.int .i64 a.node) := HB6.out.1.cell 1
  have cb0 : w6.cell? ⟨w.heap.size + 1, 0, none⟩ = some (.int .u64 b.num) := HB6.out.2.cell 0
  have cb1 : w6.cell? ⟨w.heap.size + 1, 1, none⟩ = some (.int .i64 b.node) := HB6.out.2.cell 1
  have HU : Hid (askL b 1 (Say.has S3l k) (Say.waits S3l k) = (⟨3, [wA a 2], [], false⟩ : AnsL)) := by rw [HS6.out.1, HS6.out.2]; exact up4 HAB.out
  have HV : Hid (ansM b 1 S3l k = 3) := by show _ = _; rw [ansM_is _ _ _ _ (by decide), HU.out]
  go_wp2_with fail
  refine (askT_any HT6.out b 1 k HWF.out.2.1 HWF.out.2.2 (by omega)).mono ?_
  rintro e w7 ⟨rfl, T4l, hT, hs⟩
  rw [HV.out]
  obtain ⟨S4l, hS⟩ : ∃ S, S = S3l.askM b 1 k := ⟨_, rfl⟩
  rw [← hS] at hT
  have HS7 : Hid (S4l.has k = [wA a 2] ∧ S4l.waits k = []) := by
    rw [hS]
    exact ⟨by rw [askM_has _ _ _ _ (by decide), HU.out], by rw [askM_waits _ _ _ _ (by decide), HU.out]⟩
  have HT7 : Hid (TT w2.heap.size w7 gl 4 S4l T4l) := hT
  have HE7 : Hid (Ext w w7) := hs.ext HE6.out HZ3.out HT6.out
  have HB7 : Hid (Blk w7 w.heap.size #[.int .u64 a.num, .int .i64 a.node] 29 ∧ Blk w7 (w.heap.size + 1) #[.int .u64 b.num, .int .i64 b.node] 29) := ⟨hs.box HT6.out HB6.out.1 (by decide) (by decide), hs.box HT6.out HB6.out.2 (by decide) (by decide)⟩
  have HK7 : Hid (∀ q, q ≠ k → S4l.has q = [] ∧ S4l.waits q = []) := fun q hq => by
    rw [hS]
    unfold Say.askM
    rw [if_pos (by decide)]
    have h1 : (Say.ask S3l b 1 k).has q = Say.has S3l q ∧ (Say.ask S3l b 1 k).waits q = Say.waits S3l q := by unfold Say.ask; simp [hq]
    rw [h1.1, h1.2]
    exact HK6.out q hq
  clear hT hs hS HU HV ca0 ca1 cb0 cb1 HE6 HB6 HT6 HS6
  go_wp2_with fail
  refine (newT_any w7).mono ?_
  rintro e w8 ⟨gm, T0m, rfl, hT, hx⟩
  have HE8 : Hid (Ext w w8) := Ext.trans HE7.out hx
  have HB8 : Hid (Blk w8 w.heap.size #[.int .u64 a.num, .int .i64 a.node] 29 ∧ Blk w8 (w.heap.size + 1) #[.int .u64 b.num, .int .i64 b.node] 29) := ⟨HB7.out.1.below_ hx, HB7.out.2.below_ hx⟩
  have HT8 : Hid (TT w7.heap.size w8 gm 0 say0 T0m) := hT
  have HS8 : Hid (say0.has k = [] ∧ say0.waits k = []) := ⟨rfl, rfl⟩
  have HZ8 : Hid (w.heap.size ≤ w7.heap.size) := HE7.out.size
  clear hT hx HE7 HB7
  have ca0 : w8.cell? ⟨w.heap.size, 0, none⟩ = some (.int .u64 a.num) := HB8.out.1.cell 0
  have ca1 : w8.cell? ⟨w.heap.size, 1, none⟩ = some (.int .i64 a.node) := HB8.out.1.cell 1
  have cb0 : w8.cell? ⟨w.heap.size + 1, 0, none⟩ = some (.int .u64 b.num) := HB8.out.2.cell 0
  have cb1 : w8.cell? ⟨w.heap.size + 1, 1, none⟩ = some (.int .i64 b.node) := HB8.out.2.cell 1
  have HU : Hid (askL a 1 (Say.has say0 k) (Say.waits say0 k) = (⟨1, [wA a 1], [], true⟩ : AnsL)) := by rw [HS8.out.1, HS8.out.2]; exact up1
  have HV : Hid (ansM a 1 say0 k = 1) := by show _ = _; rw [ansM_is _ _ _ _ (by decide), HU.out]
  go_wp2_with fail
  refine (askT_any HT8.out a 1 k HWF.out.1 HWF.out.2.2 (by omega)).mono ?_
  rintro e w9 ⟨rfl, T1m, hT, hs⟩
  rw [HV.out]
  obtain ⟨S1m, hS⟩ : ∃ S, S = say0.askM a 1 k := ⟨_, rfl⟩
  rw [← hS] at hT
  have HS9 : Hid (S1m.has k = [wA a 1] ∧ S1m.waits k = []) := by
    rw [hS]
    exact ⟨by rw [askM_has _ _ _ _ (by decide), HU.out], by rw [askM_waits _ _ _ _ (by decide), HU.out]⟩
  have HT9 : Hid (TT w7.heap.size w9 gm 1 S1m T1m) := hT
  have HE9 : Hid (Ext w w9) := hs.ext HE8.out HZ8.out HT8.out
  have HB9 : Hid (Blk w9 w.heap.size #[.int .u64 a.num, .int .i64 a.node] 29 ∧ Blk w9 (w.heap.size + 1) #[.int .u64 b.num, .int .i64 b.node] 29) := ⟨hs.box HT8.out HB8.out.1 (by decide) (by decide), hs.box HT8.out HB8.out.2 (by decide) (by decide)⟩
  have HK9 : Hid (∀ q, q ≠ k → S1m.has q = [] ∧ S1m.waits q = []) := fun q hq => by
    rw [hS]
    unfold Say.askM
    rw [if_pos (by decide)]
    have h1 : (Say.ask say0 a 1 k).has q = Say.has say0 q ∧ (Say.ask say0 a 1 k).waits q = Say.waits say0 q := by unfold Say.ask; simp [hq]
    rw [h1.1, h1.2]
    exact ⟨rfl, rfl⟩
  clear hT hs hS HU HV ca0 ca1 cb0 cb1 HE8 HB8 HT8 HS8
  have ca0 : w9.cell? ⟨w.heap.size, 0, none⟩ = some (.int .u64 a.num) := HB9.out.1.cell 0
  have ca1 : w9.cell? ⟨w.heap.size, 1, none⟩ = some (.int .i64 a.node) := HB9.out.1.cell 1
  have cb0 : w9.cell? ⟨w.heap.size + 1, 0, none⟩ = some (.int .u64 b.num) := HB9.out.2.cell 0
  have cb1 : w9.cell? ⟨w.heap.size + 1, 1, none⟩ = some (.int .i64 b.node) := HB9.out.2.cell 1
  have HU : Hid (askL b 1 (Say.has S1m k) (Say.waits S1m k) = (⟨1, [wA a 1, wA b 1], [], true⟩ : AnsL)) := by rw [HS9.out.1, HS9.out.2]; exact up5 HAB.out
  have HV : Hid (ansM b 1 S1m k = 1) := by show _ = _; rw [ansM_is _ _ _ _ (by decide), HU.out]
  go_wp2_with fail
  refine (askT_any HT9.out b 1 k HWF.out.2.1 HWF.out.2.2 (by omega)).mono ?_
  rintro e w10 ⟨rfl, T2m, hT, hs⟩
  rw [HV.out]
  obtain ⟨S2m, hS⟩ : ∃ S, S = S1m.askM b 1 k := ⟨_, rfl⟩
  rw [← hS] at hT
  have HS10 : Hid (S2m.has k = [wA a 1, wA b 1] ∧ S2m.waits k = []) := by
    rw [hS]
    exact ⟨by rw [askM_has _ _ _ _ (by decide), HU.out], by rw [askM_waits _ _ _ _ (by decide), HU.out]⟩
  have HT10 : Hid (TT w7.heap.size w10 gm 2 S2m T2m) := hT
  have HE10 : Hid (Ext w w10) := hs.ext HE9.out HZ8.out HT9.out
  have HB10 : Hid (Blk w10 w.heap.size #[.int .u64 a.num, .int .i64 a.node] 29 ∧ Blk w10 (w.heap.size + 1) #[.int .u64 b.num, .int .i64 b.node] 29) := ⟨hs.box HT9.out HB9.out.1 (by decide) (by decide), hs.box HT9.out HB9.out.2 (by decide) (by decide)⟩
  have HK10 : Hid (∀ q, q ≠ k → S2m.has q = [] ∧ S2m.waits q = []) := fun q hq => by
    rw [hS]
    unfold Say.askM
    rw [if_pos (by decide)]
    have h1 : (Say.ask S1m b 1 k).has q = Say.has S1m q ∧ (Say.ask S1m b 1 k).waits q = Say.waits S1m q := by unfold Say.ask; simp [hq]
    rw [h1.1, h1.2]
    exact HK9.out q hq
  clear hT hs hS HU HV ca0 ca1 cb0 cb1 HE9 HB9 HT9 HS9
  have ca0 : w10.cell? ⟨w.heap.size, 0, none⟩ = some (.int .u64 a.num) := HB10.out.1.cell 0
  have ca1 : w10.cell? ⟨w.heap.size, 1, none⟩ = some (.int .i64 a.node) := HB10.out.1.cell 1
  have cb0 : w10.cell? ⟨w.heap.size + 1, 0, none⟩ = some (.int .u64 b.num) := HB10.out.2.cell 0
  have cb1 : w10.cell? ⟨w.heap.size + 1, 1, none⟩ = some (.int .i64 b.node) := HB10.out.2.cell 1
  have HU : Hid (askL a 2 (Say.has S2m k) (Say.waits S2m k) = (⟨2, [wA a 1, wA b 1], [wA a 2], true⟩ : AnsL)) := by rw [HS10.out.1, HS10.out.2]; exact up6 HAB.out
  have HV : Hid (ansM a 2 S2m k = 2) := by show _ = _; rw [ansM_is _ _ _ _ (by decide), HU.out]
  go_wp2_with fail
  refine (askT_any HT10.out a 2 k HWF.out.1 HWF.out.2.2 (by omega)).mono ?_
  rintro e w11 ⟨rfl, T3m, hT, hs⟩
  rw [HV.out]
  obtain ⟨S3m, hS⟩ : ∃ S, S = S2m.askM a 2 k := ⟨_, rfl⟩
  rw [← hS] at hT
  have HS11 : Hid (S3m.has k = [wA a 1, wA b 1] ∧ S3m.waits k = [wA a 2]) := by
    rw [hS]
    exact ⟨by rw [askM_has _ _ _ _ (by decide), HU.out], by rw [askM_waits _ _ _ _ (by decide), HU.out]⟩
  have HT11 : Hid (TT w7.heap.size w11 gm 3 S3m T3m) := hT
  have HE11 : Hid (Ext w w11) := hs.ext HE10.out HZ8.out HT10.out
  have HB11 : Hid (Blk w11 w.heap.size #[.int .u64 a.num, .int .i64 a.node] 29 ∧ Blk w11 (w.heap.size + 1) #[.int .u64 b.num, .int .i64 b.node] 29) := ⟨hs.box HT10.out HB10.out.1 (by decide) (by decide), hs.box HT10.out HB10.out.2 (by decide) (by decide)⟩
  have HK11 : Hid (∀ q, q ≠ k → S3m.has q = [] ∧ S3m.waits q = []) := fun q hq => by
    rw [hS]
    unfold Say.askM
    rw [if_pos (by decide)]
    have h1 : (Say.ask S2m a 2 k).has q = Say.has S2m q ∧ (Say.ask S2m a 2 k).waits q = Say.waits S2m q := by unfold Say.ask; simp [hq]
    rw [h1.1, h1.2]
    exact HK10.out q hq
  clear hT hs hS HU HV ca0 ca1 cb0 cb1 HE10 HB10 HT10 HS10
  have ca0 : w11.cell? ⟨w.heap.size, 0, none⟩ = some (.int .u64 a.num) := HB11.out.1.cell 0
  have ca1 : w11.cell? ⟨w.heap.size, 1, none⟩ = some (.int .i64 a.node) := HB11.out.1.cell 1
  have cb0 : w11.cell? ⟨w.heap.size + 1, 0, none⟩ = some (.int .u64 b.num) := HB11.out.2.cell 0
  have cb1 : w11.cell? ⟨w.heap.size + 1, 1, none⟩ = some (.int .i64 b.node) := HB11.out.2.cell 1
  have HU : Hid (askL b 2 (Say.has S3m k) (Say.waits S3m k) = (⟨3, [wA a 1, wA b 1], [wA a 2], false⟩ : AnsL)) := by rw [HS11.out.1, HS11.out.2]; exact up7 HAB.out
  have HV : Hid (ansM b 2 S3m k = 3) := by show _ = _; rw [ansM_is _ _ _ _ (by decide), HU.out]
  go_wp2_with fail
  refine (askT_any HT11.out b 2 k HWF.out.2.1 HWF.out.2.2 (by omega)).mono ?_
  rintro e w12 ⟨rfl, T4m, hT, hs⟩
  rw [HV.out]
  obtain ⟨S4m, hS⟩ : ∃ S, S = S3m.askM b 2 k := ⟨_, rfl⟩
  rw [← hS] at hT
  have HS12 : Hid (S4m.has k = [wA a 1, wA b 1] ∧ S4m.waits k = [wA a 2]) := by
    rw [hS]
    exact ⟨by rw [askM_has _ _ _ _ (by decide), HU.out], by rw [askM_waits _ _ _ _ (by decide), HU.out]⟩
  have HT12 : Hid (TT w7.heap.size w12 gm 4 S4m T4m) := hT
  have HE12 : Hid (Ext w w12) := hs.ext HE11.out HZ8.out HT11.out
  have HB12 : Hid (Blk w12 w.heap.size #[.int .u64 a.num, .int .i64 a.node] 29 ∧ Blk w12 (w.heap.size + 1) #[.int .u64 b.num, .int .i64 b.node] 29) := ⟨hs.box HT11.out HB11.out.1 (by decide) (by decide), hs.box HT11.out HB11.out.2 (by decide) (by decide)⟩
  have HK12 : Hid (∀ q, q ≠ k → S4m.has q = [] ∧ S4m.waits q = []) := fun q hq => by
    rw [hS]
    unfold Say.askM
    rw [if_pos (by decide)]
    have h1 : (Say.ask S3m b 2 k).has q = Say.has S3m q ∧ (Say.ask S3m b 2 k).waits q = Say.waits S3m q := by unfold Say.ask; simp [hq]
    rw [h1.1, h1.2]
    exact HK11.out q hq
  clear hT hs hS HU HV ca0 ca1 cb0 cb1 HE11 HB11 HT11 HS11
  have ca0 : w12.cell? ⟨w.heap.size, 0, none⟩ = some (.int .u64 a.num) := HB12.out.1.cell 0
  have ca1 : w12.cell? ⟨w.heap.size, 1, none⟩ = some (.int .i64 a.node) := HB12.out.1.cell 1
  have cb0 : w12.cell? ⟨w.heap.size + 1, 0, none⟩ = some (.int .u64 b.num) := HB12.out.2.cell 0
  have cb1 : w12.cell? ⟨w.heap.size + 1, 1, none⟩ = some (.int .i64 b.node) := HB12.out.2.cell 1
  have HIN : Hid (∀ q, inT b (S4m.has q) (S4m.waits q) = true ↔ q = k) := fun q => by
    rw [inT_iff]
    constructor
    · rintro ⟨x, hx, _⟩
      by_cases hq : q = k
      · exact hq
      · rw [(HK12.out q hq).1, (HK12.out q hq).2] at hx
        rcases hx with hx | hx <;> cases hx
    · rintro rfl
      rw [HS12.out.1]
      exact ⟨wA b 1, .inl (by simp), rfl⟩
  go_wp2_with fail
  refine (freeT_any (c := 1) w12 HT12.out b HWF.out.2.1 (by omega) HT12.out.base [k] (fun q hq => by simpa using (HIN.out q).1 hq) (by simp)).mono ?_
  rintro e w13 ⟨v, ks, T9, rfl, hp, hq, ho, hT, hs⟩
  have hks : ks = [k] := by
    have h1 : ∀ q, q ∈ ks ↔ q = k := fun q => (hq q).trans (HIN.out q)
    have hnd := keys_nodup hp
    have hl : ks.length ≤ 1 := nodup_le ks [k] hnd fun q hq => by simpa using (h1 q).1 hq
    have hm := (h1 k).2 rfl
    cases ks with
    | nil => cases hm
    | cons x r =>
      have : r = [] := by simpa using hl
      subst this
      rw [(h1 x).1 (by simp)]
  have HG : Hid (OwnG w13 w12.heap.size v [⟨a.num, a.node, k, 2⟩]) := by
    rw [hks] at ho
    simp only [List.flatMap_cons, List.flatMap_nil, List.append_nil] at ho
    rw [HS12.out.1, HS12.out.2, (up8 HAB.out k).2.2] at ho
    exact ho
  obtain ⟨S9, hS⟩ : ∃ S, S = S4m.free b := ⟨_, rfl⟩
  rw [← hS] at hT
  have HS13 : Hid (S9.has k = [wA a 2]) := by
    rw [hS]
    show (if inT b (S4m.has k) (S4m.waits k) then _ else _) = _
    rw [if_pos ((HIN.out k).2 rfl), HS12.out.1, HS12.out.2]
    exact (up8 HAB.out k).1
  have HT13 : Hid (TT w7.heap.size w13 gm 5 S9 T9) := hT
  have HE13 : Hid (Ext w w13) := hs.ext HE12.out HZ8.out HT12.out
  have HB13 : Hid (Blk w13 w.heap.size #[.int .u64 a.num, .int .i64 a.node] 29 ∧ Blk w13 (w.heap.size + 1) #[.int .u64 b.num, .int .i64 b.node] 29) := ⟨hs.box HT12.out HB12.out.1 (by decide) (by decide), hs.box HT12.out HB12.out.2 (by decide) (by decide)⟩
  obtain ⟨gv, gc, egv⟩ : ∃ g c, v = .slice (some ⟨g, 0, none⟩) 1 c := by
    rcases HG.out.form with ⟨_, e⟩ | ⟨g, c, e, _⟩
    · cases e
    · exact ⟨g, c, e⟩
  subst egv
  obtain ⟨d0, d1, d2, d3⟩ := HG.out.at_ (i := 0) (by simp)
  simp only [Nat.zero_mul, Nat.zero_add, List.getElem_cons_zero] at d0 d1 d2 d3
  clear ho hT hs hS hp hq hks HIN HT12 HS12 HK12 HE12 HB12 ca0 ca1 cb0 cb1
  have HHS : Hid (Calls _ _ _ _ _) := hasT_any w13.drew (HT13.out.below (Below.drew (Below.refl _ _))) k HWF.out.2.2 (by omega)
  have q0 := cellX (W0 := w13.drew) (show w13.drew.cell? ⟨gv, 0, none⟩ = _ from d0)
  have q1 := cellX (W0 := w13.drew) (show w13.drew.cell? ⟨gv, 1, none⟩ = _ from d1)
  have q2 := cellX (W0 := w13.drew) (show w13.drew.cell? ⟨gv, 2, none⟩ = _ from d2)
  have q3 := cellX (W0 := w13.drew) (show w13.drew.cell? ⟨gv, 3, none⟩ = _ from d3)
  have q4 := cellX (W0 := w13.drew) (show w13.drew.cell? ⟨w.heap.size, 0, none⟩ = _ from HB13.out.1.cell 0)
  have q5 := cellX (W0 := w13.drew) (show w13.drew.cell? ⟨w.heap.size, 1, none⟩ = _ from HB13.out.1.cell 1)
  clear d0 d1 d2 d3
  go_upto_region 12 with fail
  haveI n1 := cls_ext w13.drew
  refine wp_region_ext (by kernel_rfl) ?_
  refine wpAnyH_seg (by kernel_rfl) (fun _ _ _ h => h) [0, 1, 2, 3, 4, 5, 6, 7, 8, 9, 10, 11, 12, 13, 14] 5 _ _ _ (Ext.refl _) (by kernel_rfl) ?_
  simp only [opsAt, List.getElem?_toArray, List.getElem?_cons_zero, List.getElem?_cons_succ, List.cons_append, List.nil_append]
  repeat (go_big_quiet_step (fail))
  refine wpQuiet_nil ?_
  clear q0 q1 q2 q3 q4 q5
  refine wpAnyH_callE (i := 15) (fuel := 4) 93 rfl (by kernel_rfl) rfl (Ext.refl _) (by kernel_rfl) (f := 18) (args := #[.pointer (some ⟨gm, 0, none⟩), .string k]) (by kernel_rfl) HHS.out ?_
  rintro e w14 ⟨v2, rfl, o2, hE2⟩
  obtain ⟨ao2, c2, e2⟩ : ∃ ao c, v2 = .slice ao 1 c := by
    obtain ⟨a, c, e, _⟩ := o2.row
    rw [HS13.out] at e
    exact ⟨a, c, e⟩
  subst e2
  refine ⟨_, rfl, hE2, ?_⟩
  have HE14 : Hid (Ext w w14) := Ext.trans HE13.out (Ext.trans (Below.drew (Below.refl _ _)) hE2)
  clear HHS hE2 o2 n1
  haveI n2 := cls_ext w14
  simp only [Act.put, List.setIfInBounds_toArray, List.set_cons_succ, List.set_cons_zero]
  refine wpAnyH_seg (by kernel_rfl) (fun _ _ _ h => h) [16, 17, 18, 19] 0 _ _ _ (Ext.refl _) (by kernel_rfl) ?_
  simp only [opsAt, List.getElem?_toArray, List.getElem?_cons_zero, List.getElem?_cons_succ, List.cons_append, List.nil_append]
  repeat (go_big_quiet_step (fail))
  refine wpQuiet_nil ?_
  refine wpAnyH_done (by kernel_rfl) (NoPanic.normal ?_) 0
  clear n2
  go_wp2
  go_ret
  exact ⟨rfl, HE14.out⟩
end Go.Proofs.Ytkgecljoodofeaa
