/- rec's Encode, of every record. Own lemmas, no statement. -/
import Derived.Test.YtbgofajldkblmaaGreatRec11
set_option linter.unusedSimpArgs false
set_option linter.unusedVariables false
namespace Go.Proofs.YtbgofajldkblmaaGreat
open Go.ChangeShapes Go.WideShapes Go.ChangeAt Go.RowKit

/-- A record's bytes. -/
def recBytes (x : RecV) : List UInt8 := encHead x.kind.toNat x.num.toNat x.node ++ recB x
set_option maxHeartbeats 2000000 in
theorem body0_any (x : RecV) (w : World) (h4 : x.kind = 4 ∨ x.kind = 5 ∨ x.kind = 7) : Calls Tryz.prog 17 #[.agg #[.int .i64 x.kind, .int .u64 x.num, .int .i64 x.node, .string x.key, .bool x.was, .string x.old, .int .u64 x.prev, .slice x.na x.nn x.nc, .slice x.ra x.rn x.rc, .slice x.ga x.gn x.gc, .slice x.oa x.om x.oc, .slice x.da x.dn x.dc]] w (OwnP w []) := by
  have H4 : Hid (x.kind = 4 ∨ x.kind = 5 ∨ x.kind = 7) := h4
  clear h4
  have HB : Hid (Blk (w.alloc (.cells #[.int .i64 x.kind, .int .u64 x.num, .int .i64 x.node, .string x.key, .bool x.was, .string x.old, .int .u64 x.prev, .slice x.na x.nn x.nc, .slice x.ra x.rn x.rc, .slice x.ga x.gn x.gc, .slice x.oa x.om x.oc, .slice x.da x.dn x.dc] 31)) w.heap.size #[.int .i64 x.kind, .int .u64 x.num, .int .i64 x.node, .string x.key, .bool x.was, .string x.old, .int .u64 x.prev, .slice x.na x.nn x.nc, .slice x.ra x.rn x.rc, .slice x.ga x.gn x.gc, .slice x.oa x.om x.oc, .slice x.da x.dn x.dc] 31) := Blk.new _ _ _
  have HY : Hid (Below w.heap.size w (w.alloc (.cells #[.int .i64 x.kind, .int .u64 x.num, .int .i64 x.node, .string x.key, .bool x.was, .string x.old, .int .u64 x.prev, .slice x.na x.nn x.nc, .slice x.ra x.rn x.rc, .slice x.ga x.gn x.gc, .slice x.oa x.om x.oc, .slice x.da x.dn x.dc] 31))) := (Below.refl _ _).alloc (Nat.le_refl _) _
  go_enter Tryz.func17, Tryz.ntmps17
  go_upto_region 1 with fail
  generalize w.alloc (.cells #[.int .i64 x.kind, .int .u64 x.num, .int .i64 x.node, .string x.key, .bool x.was, .string x.old, .int .u64 x.prev, .slice x.na x.nn x.nc, .slice x.ra x.rn x.rc, .slice x.ga x.gn x.gc, .slice x.oa x.om x.oc, .slice x.da x.dn x.dc] 31) = w0 at *
  have z0 : w0.cell? ⟨w.heap.size, 0, none⟩ = some (.int .i64 x.kind) := HB.out.cell 0
  have k1 : (x.kind == 1) = false := beq_eq_false_iff_ne.2 (by have := H4.out; omega)
  have k2 : (x.kind == 2) = false := beq_eq_false_iff_ne.2 (by have := H4.out; omega)
  have k3 : (x.kind == 3) = false := beq_eq_false_iff_ne.2 (by have := H4.out; omega)
  have k6 : (x.kind == 6) = false := beq_eq_false_iff_ne.2 (by have := H4.out; omega)
  have k8 : (x.kind == 8) = false := beq_eq_false_iff_ne.2 (by have := H4.out; omega)
  go_wp2
  go_ret
  exact ownP_of rfl (Own.nil _ _) HY.out
theorem body_any (x : RecV) (w : World) (h : x.At w) (hw : x.Wf) (hr : rightRec x = true) : Calls Tryz.prog 17 #[.agg #[.int .i64 x.kind, .int .u64 x.num, .int .i64 x.node, .string x.key, .bool x.was, .string x.old, .int .u64 x.prev, .slice x.na x.nn x.nc, .slice x.ra x.rn x.rc, .slice x.ga x.gn x.gc, .slice x.oa x.om x.oc, .slice x.da x.dn x.dc]] w (OwnP w (recB x)) := by
  obtain ⟨hf, hb⟩ := right_fit hr hw
  have hk := (right_all hr).1
  unfold recB at hb ⊢
  rcases (show x.kind = 1 ∨ x.kind = 2 ∨ x.kind = 3 ∨ (x.kind = 4 ∨ x.kind = 5 ∨ x.kind = 7) ∨ x.kind = 6 ∨ x.kind = 8 by omega) with k | k | k | k | k | k
  · rw [if_pos k] at hb ⊢
    exact body1_any x w h hf k (by omega)
  · rw [if_neg (by omega), if_pos k] at hb ⊢
    exact body2_any x w h hf k (by omega)
  · rw [if_neg (by omega), if_neg (by omega), if_pos k] at hb ⊢
    exact body3_any x w h hf k (by omega)
  · rw [if_neg (by omega), if_neg (by omega), if_neg (by omega), if_neg (by omega), if_neg (by omega)]
    exact body0_any x w k
  · rw [if_neg (by omega), if_neg (by omega), if_neg (by omega), if_pos k] at hb ⊢
    exact body6_any x w h hf k (by omega)
  · rw [if_neg (by omega), if_neg (by omega), if_neg (by omega), if_neg (by omega), if_pos k] at hb ⊢
    exact body8_any x w h hf k (by omega)
theorem recEncode_ok (x : RecV) (w : World) (h : x.At w) (hw : x.Wf) (hr : rightRec x = true) : Calls Tryz.prog 8 #[.agg #[.int .i64 x.kind, .int .u64 x.num, .int .i64 x.node, .string x.key, .bool x.was, .string x.old, .int .u64 x.prev, .slice x.na x.nn x.nc, .slice x.ra x.rn x.rc, .slice x.ga x.gn x.gc, .slice x.oa x.om x.oc, .slice x.da x.dn x.dc]] w (EncP w (recBytes x)) := by
  have hk := (right_all hr).1
  have hb := (right_fit hr hw).2
  exact encode_of x (recB x) w h x.kind.toNat x.num.toNat (by omega) (by omega) (by have := hw.num; omega) (by have := hw.num; omega) hr (by omega) fun W hy => (body_any x W (h.below hy) hw hr).mono fun e w' he => by
    obtain ⟨ao, n, c, h1, h2, h3⟩ := he
    exact ⟨ao, n, c, h1, h2.src, h3⟩
set_option maxRecDepth 100000 in
set_option maxHeartbeats 2000000 in
theorem recEncode_bad (x : RecV) (w : World) (h : x.At w) (hr : rightRec x = false) : Calls Tryz.prog 8 #[.agg #[.int .i64 x.kind, .int .u64 x.num, .int .i64 x.node, .string x.key, .bool x.was, .string x.old, .int .u64 x.prev, .slice x.na x.nn x.nc, .slice x.ra x.rn x.rc, .slice x.ga x.gn x.gc, .slice x.oa x.om x.oc, .slice x.da x.dn x.dc]] w fun e w' => e = .returned (.tuple #[.slice none 0 0, .int .i64 1]) ∧ Below w.heap.size w w' := by
  have HRT : Hid (∀ W, Below w.heap.size w W → Calls Tryz.prog 9 #[.agg #[.int .i64 x.kind, .int .u64 x.num, .int .i64 x.node, .string x.key, .bool x.was, .string x.old, .int .u64 x.prev, .slice x.na x.nn x.nc, .slice x.ra x.rn x.rc, .slice x.ga x.gn x.gc, .slice x.oa x.om x.oc, .slice x.da x.dn x.dc]] W fun e w' => e = .returned (.bool false) ∧ Below W.heap.size W w') := fun W hb => by have := recRight_any x W (h.below hb); rw [hr] at this; exact this
  clear h hr
  have HB : Hid (Blk (w.alloc (.cells #[.int .i64 x.kind, .int .u64 x.num, .int .i64 x.node, .string x.key, .bool x.was, .string x.old, .int .u64 x.prev, .slice x.na x.nn x.nc, .slice x.ra x.rn x.rc, .slice x.ga x.gn x.gc, .slice x.oa x.om x.oc, .slice x.da x.dn x.dc] 31)) w.heap.size #[.int .i64 x.kind, .int .u64 x.num, .int .i64 x.node, .string x.key, .bool x.was, .string x.old, .int .u64 x.prev, .slice x.na x.nn x.nc, .slice x.ra x.rn x.rc, .slice x.ga x.gn x.gc, .slice x.oa x.om x.oc, .slice x.da x.dn x.dc] 31) := Blk.new _ _ _
  have HY : Hid (Below w.heap.size w (w.alloc (.cells #[.int .i64 x.kind, .int .u64 x.num, .int .i64 x.node, .string x.key, .bool x.was, .string x.old, .int .u64 x.prev, .slice x.na x.nn x.nc, .slice x.ra x.rn x.rc, .slice x.ga x.gn x.gc, .slice x.oa x.om x.oc, .slice x.da x.dn x.dc] 31))) := (Below.refl _ _).alloc (Nat.le_refl _) _
  go_enter Tryz.func8, Tryz.ntmps8
  go_upto_region 1 with fail
  generalize w.alloc (.cells #[.int .i64 x.kind, .int .u64 x.num, .int .i64 x.node, .string x.key, .bool x.was, .string x.old, .int .u64 x.prev, .slice x.na x.nn x.nc, .slice x.ra x.rn x.rc, .slice x.ga x.gn x.gc, .slice x.oa x.om x.oc, .slice x.da x.dn x.dc] 31) = w0 at *
  have z0 : w0.cell? ⟨w.heap.size, 0, none⟩ = some (.int .i64 x.kind) := HB.out.cell 0
  have z1 : w0.cell? ⟨w.heap.size, 1, none⟩ = some (.int .u64 x.num) := HB.out.cell 1
  have z2 : w0.cell? ⟨w.heap.size, 2, none⟩ = some (.int .i64 x.node) := HB.out.cell 2
  have z3 : w0.cell? ⟨w.heap.size, 3, none⟩ = some (.string x.key) := HB.out.cell 3
  have z4 : w0.cell? ⟨w.heap.size, 4, none⟩ = some (.bool x.was) := HB.out.cell 4
  have z5 : w0.cell? ⟨w.heap.size, 5, none⟩ = some (.string x.old) := HB.out.cell 5
  have z6 : w0.cell? ⟨w.heap.size, 6, none⟩ = some (.int .u64 x.prev) := HB.out.cell 6
  have z7 : w0.cell? ⟨w.heap.size, 7, none⟩ = some (.slice x.na x.nn x.nc) := HB.out.cell 7
  have z8 : w0.cell? ⟨w.heap.size, 8, none⟩ = some (.slice x.ra x.rn x.rc) := HB.out.cell 8
  have z9 : w0.cell? ⟨w.heap.size, 9, none⟩ = some (.slice x.ga x.gn x.gc) := HB.out.cell 9
  have z10 : w0.cell? ⟨w.heap.size, 10, none⟩ = some (.slice x.oa x.om x.oc) := HB.out.cell 10
  have z11 : w0.cell? ⟨w.heap.size, 11, none⟩ = some (.slice x.da x.dn x.dc) := HB.out.cell 11
  go_wp2_with fail
  refine (HRT.out _ HY.out).mono ?_
  rintro e w1 ⟨rfl, y⟩
  have HY1 : Hid (Below w.heap.size w w1) := ext_trans HY.out y
  clear y HB HY HRT
  go_wp2
  go_ret2
  exact ⟨rfl, HY1.out⟩
end Go.Proofs.YtbgofajldkblmaaGreat
