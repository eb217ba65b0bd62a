/- rec: the law's right, of any record of kind 7. Own lemmas, no statement. -/
import Derived.Test.YthkmohcdgnldgaaGreatRecL6
set_option linter.unusedSimpArgs false
set_option linter.unusedVariables false
namespace Go.Proofs.YthkmohcdgnldgaaGreat
open Go.ChangeShapes Go.WideShapes Go.ChangeAt Go.RowKit

set_option maxRecDepth 100000 in
set_option maxHeartbeats 16000000 in
theorem right12_7 (num : Int) (node : Int) (key : ByteArray) (was : Bool) (old : ByteArray) (prev : Int) (na : Option Addr) (nn : Nat) (nc : Nat) (ns : List Int) (ra : Option Addr) (rn : Nat) (rc : Nat) (rs : List ByteArray) (ga : Option Addr) (gn : Nat) (gc : Nat) (gs : List ChgV) (oa : Option Addr) (om : Nat) (oc : Nat) (os : List OpenV) (da : Option Addr) (dn : Nat) (dc : Nat) (ds : List DoneV) (w : World) (R : Bool) (hns : Rd w (.slice na nn nc) (iv ns)) (hrs : Rd w (.slice ra rn rc) (sv rs)) (hg : RowsN w 9 ChgV.c (.slice ga gn gc) gs) (hga : ∀ c ∈ gs, c.At w) (ho : RowsN w 7 OpenV.c (.slice oa om oc) os) (hoa : ∀ c ∈ os, c.At w) (hd : RowsN w 3 DoneV.c (.slice da dn dc) ds) (hda : ∀ c ∈ ds, c.At w) (hom : om ≤ 20) (hdm : dn ≤ 20) (hkz : key.size ≤ maxLen) (hoz : old.size ≤ maxLen)
    (hN : R = true → Parts (RecV.mk 7 num node key was old prev na nn nc ns ra rn rc rs ga gn gc gs oa om oc os da dn dc ds)) (hY : Parts (RecV.mk 7 num node key was old prev na nn nc ns ra rn rc rs ga gn gc gs oa om oc os da dn dc ds) → R = true) :
    Calls Tryz.prog 10 #[.agg #[.int .i64 7, .int .u64 num, .int .i64 node, .string key, .bool was, .string old, .int .u64 prev, .slice na nn nc, .slice ra rn rc, .slice ga gn gc, .slice oa om oc, .slice da dn dc]] w (BoolP R w) := by
  have HNS : Hid (Rd w (.slice na nn nc) (iv ns)) := hns
  have HRS : Hid (Rd w (.slice ra rn rc) (sv rs)) := hrs
  have HN : Hid (R = true → Parts (RecV.mk 7 num node key was old prev na nn nc ns ra rn rc rs ga gn gc gs oa om oc os da dn dc ds)) := hN
  have HYS : Hid (Parts (RecV.mk 7 num node key was old prev na nn nc ns ra rn rc rs ga gn gc gs oa om oc os da dn dc ds) → R = true) := hY
  have LN : Hid (nn = ns.length ∧ rn = rs.length ∧ gn = gs.length ∧ om = os.length ∧ dn = ds.length) := ⟨by have h := hns.at.1; rw [iv_length] at h; exact h, by have h := hrs.at.1; rw [sv_length] at h; exact h, hg.len.1, ho.len.1, hd.len.1⟩
  have hnm : nn ≤ maxLen := by have h1 := hns.at.2.1; have h2 := hns.at.2.2.1; rw [iv_length] at h1; have h3 := LN.out.1; omega
  have hrm : rn ≤ maxLen := by have h1 := hrs.at.2.1; have h2 := hrs.at.2.2.1; rw [sv_length] at h1; have h3 := LN.out.2.1; omega
  have hgm : gn ≤ maxLen := by have h1 := hg.len.2; omega
  unfold maxLen at hnm hrm hgm hkz hoz
  clear hns hrs hg hga ho hoa hd hda hN hY
  have HB : Hid (Blk (w.alloc (.cells #[.int .i64 7, .int .u64 num, .int .i64 node, .string key, .bool was, .string old, .int .u64 prev, .slice na nn nc, .slice ra rn rc, .slice ga gn gc, .slice oa om oc, .slice da dn dc] 31)) w.heap.size #[.int .i64 7, .int .u64 num, .int .i64 node, .string key, .bool was, .string old, .int .u64 prev, .slice na nn nc, .slice ra rn rc, .slice ga gn gc, .slice oa om oc, .slice da dn dc] 31) := Blk.new _ _ _
  have HY : Hid (Below w.heap.size w (w.alloc (.cells #[.int .i64 7, .int .u64 num, .int .i64 node, .string key, .bool was, .string old, .int .u64 prev, .slice na nn nc, .slice ra rn rc, .slice ga gn gc, .slice oa om oc, .slice da dn dc] 31))) := (Below.refl _ _).alloc (Nat.le_refl _) _
  go_enter Tryz.func10, Tryz.ntmps10
  go_upto_region 1 with fail
  generalize (w.alloc (.cells #[.int .i64 7, .int .u64 num, .int .i64 node, .string key, .bool was, .string old, .int .u64 prev, .slice na nn nc, .slice ra rn rc, .slice ga gn gc, .slice oa om oc, .slice da dn dc] 31)) = w0 at *
  have z0 : w0.cell? ⟨w.heap.size, 0, none⟩ = some (.int .i64 7) := HB.out.cell 0
  have z1 : w0.cell? ⟨w.heap.size, 1, none⟩ = some (.int .u64 num) := HB.out.cell 1
  have z2 : w0.cell? ⟨w.heap.size, 2, none⟩ = some (.int .i64 node) := HB.out.cell 2
  have z3 : w0.cell? ⟨w.heap.size, 3, none⟩ = some (.string key) := HB.out.cell 3
  have z4 : w0.cell? ⟨w.heap.size, 4, none⟩ = some (.bool was) := HB.out.cell 4
  have z5 : w0.cell? ⟨w.heap.size, 5, none⟩ = some (.string old) := HB.out.cell 5
  have z6 : w0.cell? ⟨w.heap.size, 6, none⟩ = some (.int .u64 prev) := HB.out.cell 6
  have z7 : w0.cell? ⟨w.heap.size, 7, none⟩ = some (.slice na nn nc) := HB.out.cell 7
  have z8 : w0.cell? ⟨w.heap.size, 8, none⟩ = some (.slice ra rn rc) := HB.out.cell 8
  have z9 : w0.cell? ⟨w.heap.size, 9, none⟩ = some (.slice ga gn gc) := HB.out.cell 9
  have z10 : w0.cell? ⟨w.heap.size, 10, none⟩ = some (.slice oa om oc) := HB.out.cell 10
  have z11 : w0.cell? ⟨w.heap.size, 11, none⟩ = some (.slice da dn dc) := HB.out.cell 11
  go_wp2_with fail
  refine (tid11_any num node w0).mono ?_
  rintro e w1 ⟨rfl, y⟩
  have HB' : Hid (Blk w1 w.heap.size #[.int .i64 7, .int .u64 num, .int .i64 node, .string key, .bool was, .string old, .int .u64 prev, .slice na nn nc, .slice ra rn rc, .slice ga gn gc, .slice oa om oc, .slice da dn dc] 31) := Blk.of HB.out (y.block _ HB.out.lt)
  have HY' : Hid (Below w.heap.size w w1) := ext_trans HY.out y
  clear HB HY y
  clear z0 z1 z2 z3 z4 z5 z6 z7 z8 z9 z10 z11
  have HB := HB'
  have HY := HY'
  clear HB' HY'
  have z0 : w1.cell? ⟨w.heap.size, 0, none⟩ = some (.int .i64 7) := HB.out.cell 0
  have z1 : w1.cell? ⟨w.heap.size, 1, none⟩ = some (.int .u64 num) := HB.out.cell 1
  have z2 : w1.cell? ⟨w.heap.size, 2, none⟩ = some (.int .i64 node) := HB.out.cell 2
  have z3 : w1.cell? ⟨w.heap.size, 3, none⟩ = some (.string key) := HB.out.cell 3
  have z4 : w1.cell? ⟨w.heap.size, 4, none⟩ = some (.bool was) := HB.out.cell 4
  have z5 : w1.cell? ⟨w.heap.size, 5, none⟩ = some (.string old) := HB.out.cell 5
  have z6 : w1.cell? ⟨w.heap.size, 6, none⟩ = some (.int .u64 prev) := HB.out.cell 6
  have z7 : w1.cell? ⟨w.heap.size, 7, none⟩ = some (.slice na nn nc) := HB.out.cell 7
  have z8 : w1.cell? ⟨w.heap.size, 8, none⟩ = some (.slice ra rn rc) := HB.out.cell 8
  have z9 : w1.cell? ⟨w.heap.size, 9, none⟩ = some (.slice ga gn gc) := HB.out.cell 9
  have z10 : w1.cell? ⟨w.heap.size, 10, none⟩ = some (.slice oa om oc) := HB.out.cell 10
  have z11 : w1.cell? ⟨w.heap.size, 11, none⟩ = some (.slice da dn dc) := HB.out.cell 11
  cases hval : tidOk num node
  case false =>
    have E0 : Hid (tidOk num node = false) := hval
    clear hval
    go_wp2
    go_ret
    exact ⟨ret_bool (rno HN.out fun h => by have h1 : tidOk num node = true := h.tid; have h2 := E0.out; rw [h1] at h2; cases h2).symm, HY.out⟩
  have T1 : Hid (tidOk num node = true) := hval
  clear hval
  by_cases q2 : 4611686018427387904 < prev
  case pos =>
    go_wp2
    go_ret
    exact ⟨ret_bool (rno HN.out fun h => by have h1 : prev ≤ 4611686018427387904 := h.pr; omega).symm, HY.out⟩
  go_wp2_with fail
  refine (rising_any _ ns w1 (HNS.out.below HY.out)).mono ?_
  rintro e w2 ⟨rfl, y⟩
  have HB' : Hid (Blk w2 w.heap.size #[.int .i64 7, .int .u64 num, .int .i64 node, .string key, .bool was, .string old, .int .u64 prev, .slice na nn nc, .slice ra rn rc, .slice ga gn gc, .slice oa om oc, .slice da dn dc] 31) := Blk.of HB.out (y.block _ HB.out.lt)
  have HY' : Hid (Below w.heap.size w w2) := ext_trans HY.out y
  clear HB HY y
  clear z0 z1 z2 z3 z4 z5 z6 z7 z8 z9 z10 z11
  have HB := HB'
  have HY := HY'
  clear HB' HY'
  have z0 : w2.cell? ⟨w.heap.size, 0, none⟩ = some (.int .i64 7) := HB.out.cell 0
  have z1 : w2.cell? ⟨w.heap.size, 1, none⟩ = some (.int .u64 num) := HB.out.cell 1
  have z2 : w2.cell? ⟨w.heap.size, 2, none⟩ = some (.int .i64 node) := HB.out.cell 2
  have z3 : w2.cell? ⟨w.heap.size, 3, none⟩ = some (.string key) := HB.out.cell 3
  have z4 : w2.cell? ⟨w.heap.size, 4, none⟩ = some (.bool was) := HB.out.cell 4
  have z5 : w2.cell? ⟨w.heap.size, 5, none⟩ = some (.string old) := HB.out.cell 5
  have z6 : w2.cell? ⟨w.heap.size, 6, none⟩ = some (.int .u64 prev) := HB.out.cell 6
  have z7 : w2.cell? ⟨w.heap.size, 7, none⟩ = some (.slice na nn nc) := HB.out.cell 7
  have z8 : w2.cell? ⟨w.heap.size, 8, none⟩ = some (.slice ra rn rc) := HB.out.cell 8
  have z9 : w2.cell? ⟨w.heap.size, 9, none⟩ = some (.slice ga gn gc) := HB.out.cell 9
  have z10 : w2.cell? ⟨w.heap.size, 10, none⟩ = some (.slice oa om oc) := HB.out.cell 10
  have z11 : w2.cell? ⟨w.heap.size, 11, none⟩ = some (.slice da dn dc) := HB.out.cell 11
  cases hval : nodesOk ns
  case false =>
    have E0 : Hid (nodesOk ns = false) := hval
    clear hval
    go_wp2
    go_ret
    exact ⟨ret_bool (rno HN.out fun h => by have h1 : nodesOk ns = true := h.ns; have h2 := E0.out; rw [h1] at h2; cases h2).symm, HY.out⟩
  have T2 : Hid (nodesOk ns = true) := hval
  clear hval
  go_wp2_with fail
  refine (keys_any _ rs w2 (HRS.out.below HY.out)).mono ?_
  rintro e w3 ⟨rfl, y⟩
  have HB' : Hid (Blk w3 w.heap.size #[.int .i64 7, .int .u64 num, .int .i64 node, .string key, .bool was, .string old, .int .u64 prev, .slice na nn nc, .slice ra rn rc, .slice ga gn gc, .slice oa om oc, .slice da dn dc] 31) := Blk.of HB.out (y.block _ HB.out.lt)
  have HY' : Hid (Below w.heap.size w w3) := ext_trans HY.out y
  clear HB HY y
  clear z0 z1 z2 z3 z4 z5 z6 z7 z8 z9 z10 z11
  have HB := HB'
  have HY := HY'
  clear HB' HY'
  have z0 : w3.cell? ⟨w.heap.size, 0, none⟩ = some (.int .i64 7) := HB.out.cell 0
  have z1 : w3.cell? ⟨w.heap.size, 1, none⟩ = some (.int .u64 num) := HB.out.cell 1
  have z2 : w3.cell? ⟨w.heap.size, 2, none⟩ = some (.int .i64 node) := HB.out.cell 2
  have z3 : w3.cell? ⟨w.heap.size, 3, none⟩ = some (.string key) := HB.out.cell 3
  have z4 : w3.cell? ⟨w.heap.size, 4, none⟩ = some (.bool was) := HB.out.cell 4
  have z5 : w3.cell? ⟨w.heap.size, 5, none⟩ = some (.string old) := HB.out.cell 5
  have z6 : w3.cell? ⟨w.heap.size, 6, none⟩ = some (.int .u64 prev) := HB.out.cell 6
  have z7 : w3.cell? ⟨w.heap.size, 7, none⟩ = some (.slice na nn nc) := HB.out.cell 7
  have z8 : w3.cell? ⟨w.heap.size, 8, none⟩ = some (.slice ra rn rc) := HB.out.cell 8
  have z9 : w3.cell? ⟨w.heap.size, 9, none⟩ = some (.slice ga gn gc) := HB.out.cell 9
  have z10 : w3.cell? ⟨w.heap.size, 10, none⟩ = some (.slice oa om oc) := HB.out.cell 10
  have z11 : w3.cell? ⟨w.heap.size, 11, none⟩ = some (.slice da dn dc) := HB.out.cell 11
  cases hval : readsOk rs
  case false =>
    have E0 : Hid (readsOk rs = false) := hval
    clear hval
    go_wp2
    go_ret
    exact ⟨ret_bool (rno HN.out fun h => by have h1 : readsOk rs = true := h.rs; have h2 := E0.out; rw [h1] at h2; cases h2).symm, HY.out⟩
  have T3 : Hid (readsOk rs = true) := hval
  clear hval
  by_cases q3 : 30 < gn
  case pos =>
    go_wp2
    go_ret
    exact ⟨ret_bool (rno HN.out fun h => by have h1 : gs.length ≤ 30 := (fits_mem h.gs).1; have h2 := LN.out; omega).symm, HY.out⟩
  by_cases q4 : 0 < key.size
  case pos =>
    go_wp2
    go_ret
    exact ⟨ret_bool (rno HN.out fun h => by have h1 : key = .empty := (h.n1 (show ¬ (7 : Int) = 1 by decide)).1; have h2 := sz0 h1; omega).symm, HY.out⟩
  cases was
  case true =>
    go_wp2
    go_ret
    exact ⟨ret_bool (rno HN.out fun h => by have h1 : true = false := (h.n1 (show ¬ (7 : Int) = 1 by decide)).2.1; cases h1).symm, HY.out⟩
  by_cases q6 : 0 < old.size
  case pos =>
    go_wp2
    go_ret
    exact ⟨ret_bool (rno HN.out fun h => by have h1 : old = .empty := (h.n1 (show ¬ (7 : Int) = 1 by decide)).2.2; have h2 := sz0 h1; omega).symm, HY.out⟩
  by_cases q7 : prev = 0
  case neg =>
    go_wp2
    go_ret
    exact ⟨ret_bool (rno HN.out fun h => q7 (h.n2 (show ¬ (7 : Int) = 1 by decide) (show ¬ (7 : Int) = 2 by decide)).1).symm, HY.out⟩
  subst q7
  by_cases q8 : 0 < gn
  case pos =>
    go_wp2
    go_ret
    exact ⟨ret_bool (rno HN.out fun h => by have h1 : gs = [] := (h.n2 (show ¬ (7 : Int) = 1 by decide) (show ¬ (7 : Int) = 2 by decide)).2; have h2 := len0 h1; have h3 := LN.out; omega).symm, HY.out⟩
  obtain rfl : gn = 0 := by omega
  by_cases q9 : 0 < nn
  case pos =>
    go_wp2
    go_ret
    exact ⟨ret_bool (rno HN.out fun h => by have h1 : ns = [] := h.n6 (show ¬ (7 : Int) = 6 by decide); have h2 := len0 h1; have h3 := LN.out; omega).symm, HY.out⟩
  obtain rfl : nn = 0 := by omega
  by_cases q10 : 0 < rn
  case pos =>
    go_wp2
    go_ret
    exact ⟨ret_bool (rno HN.out fun h => by have h1 : rs = [] := h.n3 (show ¬ (7 : Int) = 3 by decide); have h2 := len0 h1; have h3 := LN.out; omega).symm, HY.out⟩
  obtain rfl : rn = 0 := by omega
  by_cases q11 : 0 < om
  case pos =>
    go_wp2
    go_ret
    exact ⟨ret_bool (rno HN.out fun h => by have h1 : os = [] := (h.n8 (show ¬ (7 : Int) = 8 by decide)).1; have h2 := len0 h1; have h3 := LN.out; omega).symm, HY.out⟩
  obtain rfl : om = 0 := by omega
  by_cases q12 : 0 < dn
  case pos =>
    go_wp2
    go_ret
    exact ⟨ret_bool (rno HN.out fun h => by have h1 : ds = [] := (h.n8 (show ¬ (7 : Int) = 8 by decide)).2; have h2 := len0 h1; have h3 := LN.out; omega).symm, HY.out⟩
  obtain rfl : dn = 0 := by omega
  go_wp2
  clear z0 z1 z2 z3 z4 z5 z6 z7 z8 z9 z10 z11
  go_loopw [155] (fun i wr => i = .int .i64 0 ∧ Below w.heap.size w wr ∧ Blk wr w.heap.size #[.int .i64 7, .int .u64 num, .int .i64 node, .string key, .bool false, .string old, .int .u64 0, .slice na 0 nc, .slice ra 0 rc, .slice ga 0 gc, .slice oa 0 oc, .slice da 0 dc] 31) (fun _ _ => 0)
  case atStart => exact ⟨rfl, HY.out, HB.out⟩
  case round =>
    obtain ⟨rfl, hy, hb⟩ := hrel
    clear HY HB
    have HY : Hid (Below w.heap.size w wr) := hy
    have HB : Hid (Blk wr w.heap.size #[.int .i64 7, .int .u64 num, .int .i64 node, .string key, .bool false, .string old, .int .u64 0, .slice na 0 nc, .slice ra 0 rc, .slice ga 0 gc, .slice oa 0 oc, .slice da 0 dc] 31) := hb
    clear hy hb
    rename World => wa
    have z0 : wa.cell? ⟨w.heap.size, 0, none⟩ = some (.int .i64 7) := HB.out.cell 0
    have z1 : wa.cell? ⟨w.heap.size, 1, none⟩ = some (.int .u64 num) := HB.out.cell 1
    have z2 : wa.cell? ⟨w.heap.size, 2, none⟩ = some (.int .i64 node) := HB.out.cell 2
    have z3 : wa.cell? ⟨w.heap.size, 3, none⟩ = some (.string key) := HB.out.cell 3
    have z4 : wa.cell? ⟨w.heap.size, 4, none⟩ = some (.bool false) := HB.out.cell 4
    have z5 : wa.cell? ⟨w.heap.size, 5, none⟩ = some (.string old) := HB.out.cell 5
    have z6 : wa.cell? ⟨w.heap.size, 6, none⟩ = some (.int .u64 0) := HB.out.cell 6
    have z7 : wa.cell? ⟨w.heap.size, 7, none⟩ = some (.slice na 0 nc) := HB.out.cell 7
    have z8 : wa.cell? ⟨w.heap.size, 8, none⟩ = some (.slice ra 0 rc) := HB.out.cell 8
    have z9 : wa.cell? ⟨w.heap.size, 9, none⟩ = some (.slice ga 0 gc) := HB.out.cell 9
    have z10 : wa.cell? ⟨w.heap.size, 10, none⟩ = some (.slice oa 0 oc) := HB.out.cell 10
    have z11 : wa.cell? ⟨w.heap.size, 11, none⟩ = some (.slice da 0 dc) := HB.out.cell 11
    go_wp2
    clear z0 z1 z2 z3 z4 z5 z6 z7 z8 z9 z10 z11
    go_loopw [194] (fun i wr => i = .int .i64 0 ∧ Below w.heap.size w wr ∧ Blk wr w.heap.size #[.int .i64 7, .int .u64 num, .int .i64 node, .string key, .bool false, .string old, .int .u64 0, .slice na 0 nc, .slice ra 0 rc, .slice ga 0 gc, .slice oa 0 oc, .slice da 0 dc] 31) (fun _ _ => 0)
    case atStart => exact ⟨rfl, HY.out, HB.out⟩
    case round =>
      obtain ⟨rfl, hy, hb⟩ := hrel
      clear HY HB
      have HY : Hid (Below w.heap.size w wr) := hy
      have HB : Hid (Blk wr w.heap.size #[.int .i64 7, .int .u64 num, .int .i64 node, .string key, .bool false, .string old, .int .u64 0, .slice na 0 nc, .slice ra 0 rc, .slice ga 0 gc, .slice oa 0 oc, .slice da 0 dc] 31) := hb
      clear hy hb
      rename World => wb
      have z0 : wb.cell? ⟨w.heap.size, 0, none⟩ = some (.int .i64 7) := HB.out.cell 0
      have z1 : wb.cell? ⟨w.heap.size, 1, none⟩ = some (.int .u64 num) := HB.out.cell 1
      have z2 : wb.cell? ⟨w.heap.size, 2, none⟩ = some (.int .i64 node) := HB.out.cell 2
      have z3 : wb.cell? ⟨w.heap.size, 3, none⟩ = some (.string key) := HB.out.cell 3
      have z4 : wb.cell? ⟨w.heap.size, 4, none⟩ = some (.bool false) := HB.out.cell 4
      have z5 : wb.cell? ⟨w.heap.size, 5, none⟩ = some (.string old) := HB.out.cell 5
      have z6 : wb.cell? ⟨w.heap.size, 6, none⟩ = some (.int .u64 0) := HB.out.cell 6
      have z7 : wb.cell? ⟨w.heap.size, 7, none⟩ = some (.slice na 0 nc) := HB.out.cell 7
      have z8 : wb.cell? ⟨w.heap.size, 8, none⟩ = some (.slice ra 0 rc) := HB.out.cell 8
      have z9 : wb.cell? ⟨w.heap.size, 9, none⟩ = some (.slice ga 0 gc) := HB.out.cell 9
      have z10 : wb.cell? ⟨w.heap.size, 10, none⟩ = some (.slice oa 0 oc) := HB.out.cell 10
      have z11 : wb.cell? ⟨w.heap.size, 11, none⟩ = some (.slice da 0 dc) := HB.out.cell 11
      go_wp2
      clear z0 z1 z2 z3 z4 z5 z6 z7 z8 z9 z10 z11
      go_loopw [250] (fun i wr => i = .int .i64 0 ∧ Below w.heap.size w wr ∧ Blk wr w.heap.size #[.int .i64 7, .int .u64 num, .int .i64 node, .string key, .bool false, .string old, .int .u64 0, .slice na 0 nc, .slice ra 0 rc, .slice ga 0 gc, .slice oa 0 oc, .slice da 0 dc] 31) (fun _ _ => 0)
      case atStart => exact ⟨rfl, HY.out, HB.out⟩
      case round =>
        obtain ⟨rfl, hy, hb⟩ := hrel
        clear HY HB
        have HY : Hid (Below w.heap.size w wr) := hy
        have HB : Hid (Blk wr w.heap.size #[.int .i64 7, .int .u64 num, .int .i64 node, .string key, .bool false, .string old, .int .u64 0, .slice na 0 nc, .slice ra 0 rc, .slice ga 0 gc, .slice oa 0 oc, .slice da 0 dc] 31) := hb
        clear hy hb
        rename World => wc
        have HPA : Hid (Parts (RecV.mk 7 num node key false old 0 na 0 nc ns ra 0 rc rs ga 0 gc gs oa 0 oc os da 0 dc ds)) := ⟨T1.out, fits0 (show gs.length = 0 by have h3 := LN.out; omega), fits0 (show os.length = 0 by have h3 := LN.out; omega), fits0 (show ds.length = 0 by have h3 := LN.out; omega), T3.out, T2.out, fun _ => nil0 (show rs.length = 0 by have h3 := LN.out; omega), fun _ => nil0 (show ns.length = 0 by have h3 := LN.out; omega), fun _ => ⟨nil0 (show os.length = 0 by have h3 := LN.out; omega), nil0 (show ds.length = 0 by have h3 := LN.out; omega)⟩, fun _ _ => ⟨rfl, nil0 (show gs.length = 0 by have h3 := LN.out; omega)⟩, fun _ => ⟨emp0 (show key.size = 0 by omega), rfl, emp0 (show old.size = 0 by omega)⟩, fun (h : (7 : Int) = 1) => absurd h (by decide), (show (0 : Int) ≤ 4611686018427387904 by omega), fun (h : (7 : Int) = 8) => absurd h (by decide)⟩
        go_wp2
        go_ret
        exact ⟨ret_bool (HYS.out HPA.out).symm, HY.out⟩
end Go.Proofs.YthkmohcdgnldgaaGreat
