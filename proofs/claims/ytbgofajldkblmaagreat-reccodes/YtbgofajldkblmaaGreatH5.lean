import Derived.Test.YtbgofajldkblmaaGreatH3
/- rec: the law's right, of any record of kind 1. Own lemmas, no statement. -/
set_option linter.unusedSimpArgs false
set_option linter.unusedVariables false
namespace Go.Proofs.YtbgofajldkblmaaGreat
open Go.ChangeShapes Go.WideShapes Go.ChangeAt Go.RowKit

set_option maxRecDepth 100000 in
set_option maxHeartbeats 16000000 in
theorem right12_1 (num : Int) (node : Int) (key : ByteArray) (was : Bool) (old : ByteArray) (prev : Int) (na : Option Addr) (nn : Nat) (nc : Nat) (ns : List Int) (ra : Option Addr) (rn : Nat) (rc : Nat) (rs : List ByteArray) (ga : Option Addr) (gn : Nat) (gc : Nat) (gs : List ChgV) (oa : Option Addr) (om : Nat) (oc : Nat) (os : List OpenV) (da : Option Addr) (dn : Nat) (dc : Nat) (ds : List DoneV) (w : World) (R : Bool) (hns : Rd w (.slice na nn nc) (iv ns)) (hrs : Rd w (.slice ra rn rc) (sv rs)) (hg : RowsN w 9 ChgV.c (.slice ga gn gc) gs) (hga : ∀ c ∈ gs, c.At w) (ho : RowsN w 7 OpenV.c (.slice oa om oc) os) (hoa : ∀ c ∈ os, c.At w) (hd : RowsN w 3 DoneV.c (.slice da dn dc) ds) (hda : ∀ c ∈ ds, c.At w) (hom : om ≤ 20) (hdm : dn ≤ 20) (hkz : key.size ≤ maxLen) (hoz : old.size ≤ maxLen)
    (hN : R = true → Parts (RecV.mk 1 num node key was old prev na nn nc ns ra rn rc rs ga gn gc gs oa om oc os da dn dc ds)) (hY : Parts (RecV.mk 1 num node key was old prev na nn nc ns ra rn rc rs ga gn gc gs oa om oc os da dn dc ds) → R = true) :
    Calls Tryz.prog 10 #[.agg #[.int .i64 1, .int .u64 num, .int .i64 node, .string key, .bool was, .string old, .int .u64 prev, .slice na nn nc, .slice ra rn rc, .slice ga gn gc, .slice oa om oc, .slice da dn dc]] w (BoolP R w) := by
  have HNS : Hid (Rd w (.slice na nn nc) (iv ns)) := hns
  have HRS : Hid (Rd w (.slice ra rn rc) (sv rs)) := hrs
  have HN : Hid (R = true → Parts (RecV.mk 1 num node key was old prev na nn nc ns ra rn rc rs ga gn gc gs oa om oc os da dn dc ds)) := hN
  have HYS : Hid (Parts (RecV.mk 1 num node key was old prev na nn nc ns ra rn rc rs ga gn gc gs oa om oc os da dn dc ds) → R = true) := hY
  have LN : Hid (nn = ns.length ∧ rn = rs.length ∧ gn = gs.length ∧ om = os.length ∧ dn = ds.length) := ⟨by have h := hns.at.1; rw [iv_length] at h; exact h, by have h := hrs.at.1; rw [sv_length] at h; exact h, hg.len.1, ho.len.1, hd.len.1⟩
  have hnm : nn ≤ maxLen := by have h1 := hns.at.2.1; have h2 := hns.at.2.2.1; rw [iv_length] at h1; have h3 := LN.out.1; omega
  have hrm : rn ≤ maxLen := by have h1 := hrs.at.2.1; have h2 := hrs.at.2.2.1; rw [sv_length] at h1; have h3 := LN.out.2.1; omega
  have hgm : gn ≤ maxLen := by have h1 := hg.len.2; omega
  unfold maxLen at hnm hrm hgm hkz hoz
  have HG : Hid (RowsN w 9 ChgV.c (.slice ga gn gc) gs) := hg
  have HGA : Hid (∀ c ∈ gs, c.At w) := hga
  clear hns hrs hg hga ho hoa hd hda hN hY
  have HB : Hid (Blk (w.alloc (.cells #[.int .i64 1, .int .u64 num, .int .i64 node, .string key, .bool was, .string old, .int .u64 prev, .slice na nn nc, .slice ra rn rc, .slice ga gn gc, .slice oa om oc, .slice da dn dc] 31)) w.heap.size #[.int .i64 1, .int .u64 num, .int .i64 node, .string key, .bool was, .string old, .int .u64 prev, .slice na nn nc, .slice ra rn rc, .slice ga gn gc, .slice oa om oc, .slice da dn dc] 31) := Blk.new _ _ _
  have HY : Hid (Below w.heap.size w (w.alloc (.cells #[.int .i64 1, .int .u64 num, .int .i64 node, .string key, .bool was, .string old, .int .u64 prev, .slice na nn nc, .slice ra rn rc, .slice ga gn gc, .slice oa om oc, .slice da dn dc] 31))) := (Below.refl _ _).alloc (Nat.le_refl _) _
  go_enter Tryz.func10, Tryz.ntmps10
  go_upto_region 1 with fail
  generalize (w.alloc (.cells #[.int .i64 1, .int .u64 num, .int .i64 node, .string key, .bool was, .string old, .int .u64 prev, .slice na nn nc, .slice ra rn rc, .slice ga gn gc, .slice oa om oc, .slice da dn dc] 31)) = w0 at *
  have z0 : w0.cell? ⟨w.heap.size, 0, none⟩ = some (.int .i64 1) := HB.out.cell 0
  have z1 : w0.cell? ⟨w.heap.size, 1, none⟩ = some (.int .u64 num) := HB.out.cell 1
  have z2 : w0.cell? ⟨w.heap.size, 2, none⟩ = some (.int .i64 node) := HB.out.cell 2
  have z3 : w0.cell? ⟨w.heap.size, 3, none⟩ = some (.string key) := HB.out.cell 3
  have z4 : w0.cell? ⟨w.heap.size, 4, none⟩ = some (.bool was) := HB.out.cell 4
  have z5 : w0.cell? ⟨w.heap.size, 5, none⟩ = some (.string old) := HB.out.cell 5
  have z6 : w0.cell? ⟨w.heap.size, 6, none⟩ = some (.int .u64 prev) := HB.out.cell 6
  have z7 : w0.cell? ⟨w.heap.size, 7, none⟩ = some (.slice na nn nc) := HB.out.cell 7
  have z8 : w0.cell? ⟨w.heap.size, 8, none⟩ = some (.slice ra rn rc) := HB.out.cell 8
  have z9 : w0.cell? ⟨w.heap.size, 9, none⟩ = some (.slice ga gn gc) := HB.out.cell 9
  have z10 : w0.cell? ⟨w.heap.size, 10, none⟩ = some (.slice oa om oc) := HB.out.cell 10
  have z11 : w0.cell? ⟨w.heap.size, 11, none⟩ = some (.slice da dn dc) := HB.out.cell 11
  go_wp2_with fail
  refine (tid11_any num node w0).mono ?_
  rintro e w1 ⟨rfl, y⟩
  have HB' : Hid (Blk w1 w.heap.size #[.int .i64 1, .int .u64 num, .int .i64 node, .string key, .bool was, .string old, .int .u64 prev, .slice na nn nc, .slice ra rn rc, .slice ga gn gc, .slice oa om oc, .slice da dn dc] 31) := Blk.of HB.out (y.block _ HB.out.lt)
  have HY' : Hid (Below w.heap.size w w1) := ext_trans HY.out y
  clear HB HY y
  clear z0 z1 z2 z3 z4 z5 z6 z7 z8 z9 z10 z11
  have HB := HB'
  have HY := HY'
  clear HB' HY'
  have z0 : w1.cell? ⟨w.heap.size, 0, none⟩ = some (.int .i64 1) := HB.out.cell 0
  have z1 : w1.cell? ⟨w.heap.size, 1, none⟩ = some (.int .u64 num) := HB.out.cell 1
  have z2 : w1.cell? ⟨w.heap.size, 2, none⟩ = some (.int .i64 node) := HB.out.cell 2
  have z3 : w1.cell? ⟨w.heap.size, 3, none⟩ = some (.string key) := HB.out.cell 3
  have z4 : w1.cell? ⟨w.heap.size, 4, none⟩ = some (.bool was) := HB.out.cell 4
  have z5 : w1.cell? ⟨w.heap.size, 5, none⟩ = some (.string old) := HB.out.cell 5
  have z6 : w1.cell? ⟨w.heap.size, 6, none⟩ = some (.int .u64 prev) := HB.out.cell 6
  have z7 : w1.cell? ⟨w.heap.size, 7, none⟩ = some (.slice na nn nc) := HB.out.cell 7
  have z8 : w1.cell? ⟨w.heap.size, 8, none⟩ = some (.slice ra rn rc) := HB.out.cell 8
  have z9 : w1.cell? ⟨w.heap.size, 9, none⟩ = some (.slice ga gn gc) := HB.out.cell 9
  have z10 : w1.cell? ⟨w.heap.size, 10, none⟩ = some (.slice oa om oc) := HB.out.cell 10
  have z11 : w1.cell? ⟨w.heap.size, 11, none⟩ = some (.slice da dn dc) := HB.out.cell 11
  cases hval : tidOk num node
  case false =>
    have E0 : Hid (tidOk num node = false) := hval
    clear hval
    go_wp2
    go_ret
    exact ⟨ret_bool (rno HN.out fun h => by have h1 : tidOk num node = true := h.tid; have h2 := E0.out; rw [h1] at h2; cases h2).symm, HY.out⟩
  have T1 : Hid (tidOk num node = true) := hval
  clear hval
  by_cases q2 : 4611686018427387904 < prev
  case pos =>
    go_wp2
    go_ret
    exact ⟨ret_bool (rno HN.out fun h => by have h1 : prev ≤ 4611686018427387904 := h.pr; omega).symm, HY.out⟩
  go_wp2_with fail
  refine (rising_any _ ns w1 (HNS.out.below HY.out)).mono ?_
  rintro e w2 ⟨rfl, y⟩
  have HB' : Hid (Blk w2 w.heap.size #[.int .i64 1, .int .u64 num, .int .i64 node, .string key, .bool was, .string old, .int .u64 prev, .slice na nn nc, .slice ra rn rc, .slice ga gn gc, .slice oa om oc, .slice da dn dc] 31) := Blk.of HB.out (y.block _ HB.out.lt)
  have HY' : Hid (Below w.heap.size w w2) := ext_trans HY.out y
  clear HB HY y
  clear z0 z1 z2 z3 z4 z5 z6 z7 z8 z9 z10 z11
  have HB := HB'
  have HY := HY'
  clear HB' HY'
  have z0 : w2.cell? ⟨w.heap.size, 0, none⟩ = some (.int .i64 1) := HB.out.cell 0
  have z1 : w2.cell? ⟨w.heap.size, 1, none⟩ = some (.int .u64 num) := HB.out.cell 1
  have z2 : w2.cell? ⟨w.heap.size, 2, none⟩ = some (.int .i64 node) := HB.out.cell 2
  have z3 : w2.cell? ⟨w.heap.size, 3, none⟩ = some (.string key) := HB.out.cell 3
  have z4 : w2.cell? ⟨w.heap.size, 4, none⟩ = some (.bool was) := HB.out.cell 4
  have z5 : w2.cell? ⟨w.heap.size, 5, none⟩ = some (.string old) := HB.out.cell 5
  have z6 : w2.cell? ⟨w.heap.size, 6, none⟩ = some (.int .u64 prev) := HB.out.cell 6
  have z7 : w2.cell? ⟨w.heap.size, 7, none⟩ = some (.slice na nn nc) := HB.out.cell 7
  have z8 : w2.cell? ⟨w.heap.size, 8, none⟩ = some (.slice ra rn rc) := HB.out.cell 8
  have z9 : w2.cell? ⟨w.heap.size, 9, none⟩ = some (.slice ga gn gc) := HB.out.cell 9
  have z10 : w2.cell? ⟨w.heap.size, 10, none⟩ = some (.slice oa om oc) := HB.out.cell 10
  have z11 : w2.cell? ⟨w.heap.size, 11, none⟩ = some (.slice da dn dc) := HB.out.cell 11
  cases hval : nodesOk ns
  case false =>
    have E0 : Hid (nodesOk ns = false) := hval
    clear hval
    go_wp2
    go_ret
    exact ⟨ret_bool (rno HN.out fun h => by have h1 : nodesOk ns = true := h.ns; have h2 := E0.out; rw [h1] at h2; cases h2).symm, HY.out⟩
  have T2 : Hid (nodesOk ns = true) := hval
  clear hval
  go_wp2_with fail
  refine (keys_any _ rs w2 (HRS.out.below HY.out)).mono ?_
  rintro e w3 ⟨rfl, y⟩
  have HB' : Hid (Blk w3 w.heap.size #[.int .i64 1, .int .u64 num, .int .i64 node, .string key, .bool was, .string old, .int .u64 prev, .slice na nn nc, .slice ra rn rc, .slice ga gn gc, .slice oa om oc, .slice da dn dc] 31) := Blk.of HB.out (y.block _ HB.out.lt)
  have HY' : Hid (Below w.heap.size w w3) := ext_trans HY.out y
  clear HB HY y
  clear z0 z1 z2 z3 z4 z5 z6 z7 z8 z9 z10 z11
  have HB := HB'
  have HY := HY'
  clear HB' HY'
  have z0 : w3.cell? ⟨w.heap.size, 0, none⟩ = some (.int .i64 1) := HB.out.cell 0
  have z1 : w3.cell? ⟨w.heap.size, 1, none⟩ = some (.int .u64 num) := HB.out.cell 1
  have z2 : w3.cell? ⟨w.heap.size, 2, none⟩ = some (.int .i64 node) := HB.out.cell 2
  have z3 : w3.cell? ⟨w.heap.size, 3, none⟩ = some (.string key) := HB.out.cell 3
  have z4 : w3.cell? ⟨w.heap.size, 4, none⟩ = some (.bool was) := HB.out.cell 4
  have z5 : w3.cell? ⟨w.heap.size, 5, none⟩ = some (.string old) := HB.out.cell 5
  have z6 : w3.cell? ⟨w.heap.size, 6, none⟩ = some (.int .u64 prev) := HB.out.cell 6
  have z7 : w3.cell? ⟨w.heap.size, 7, none⟩ = some (.slice na nn nc) := HB.out.cell 7
  have z8 : w3.cell? ⟨w.heap.size, 8, none⟩ = some (.slice ra rn rc) := HB.out.cell 8
  have z9 : w3.cell? ⟨w.heap.size, 9, none⟩ = some (.slice ga gn gc) := HB.out.cell 9
  have z10 : w3.cell? ⟨w.heap.size, 10, none⟩ = some (.slice oa om oc) := HB.out.cell 10
  have z11 : w3.cell? ⟨w.heap.size, 11, none⟩ = some (.slice da dn dc) := HB.out.cell 11
  cases hval : readsOk rs
  case false =>
    have E0 : Hid (readsOk rs = false) := hval
    clear hval
    go_wp2
    go_ret
    exact ⟨ret_bool (rno HN.out fun h => by have h1 : readsOk rs = true := h.rs; have h2 := E0.out; rw [h1] at h2; cases h2).symm, HY.out⟩
  have T3 : Hid (readsOk rs = true) := hval
  clear hval
  by_cases q3 : 30 < gn
  case pos =>
    go_wp2
    go_ret
    exact ⟨ret_bool (rno HN.out fun h => by have h1 : gs.length ≤ 30 := (fits_mem h.gs).1; have h2 := LN.out; omega).symm, HY.out⟩
  by_cases q4 : key.size < 1
  case pos =>
    go_wp2
    go_ret
    exact ⟨ret_bool (rno HN.out fun h => by have h1 := (h.p1 rfl).1.1; have h2 : 1 ≤ key.size := h1; omega).symm, HY.out⟩
  by_cases q5 : 24 < key.size
  case pos =>
    go_wp2
    go_ret
    exact ⟨ret_bool (rno HN.out fun h => by have h1 := (h.p1 rfl).1.2; have h2 : key.size ≤ 24 := h1; omega).symm, HY.out⟩
  by_cases q6 : 48 < old.size
  case pos =>
    go_wp2
    go_ret
    exact ⟨ret_bool (rno HN.out fun h => by have h1 := (h.p1 rfl).2.1; have h2 : old.size ≤ 48 := h1; omega).symm, HY.out⟩
  cases was
  case true =>
    by_cases q9 : 0 < nn
    case pos =>
      go_wp2
      go_ret
      exact ⟨ret_bool (rno HN.out fun h => by have h1 : ns = [] := h.n6 (show ¬ (1 : Int) = 6 by decide); have h2 := len0 h1; have h3 := LN.out; omega).symm, HY.out⟩
    obtain rfl : nn = 0 := by omega
    by_cases q10 : 0 < rn
    case pos =>
      go_wp2
      go_ret
      exact ⟨ret_bool (rno HN.out fun h => by have h1 : rs = [] := h.n3 (show ¬ (1 : Int) = 3 by decide); have h2 := len0 h1; have h3 := LN.out; omega).symm, HY.out⟩
    obtain rfl : rn = 0 := by omega
    by_cases q11 : 0 < om
    case pos =>
      go_wp2
      go_ret
      exact ⟨ret_bool (rno HN.out fun h => by have h1 : os = [] := (h.n8 (show ¬ (1 : Int) = 8 by decide)).1; have h2 := len0 h1; have h3 := LN.out; omega).symm, HY.out⟩
    obtain rfl : om = 0 := by omega
    by_cases q12 : 0 < dn
    case pos =>
      go_wp2
      go_ret
      exact ⟨ret_bool (rno HN.out fun h => by have h1 : ds = [] := (h.n8 (show ¬ (1 : Int) = 8 by decide)).2; have h2 := len0 h1; have h3 := LN.out; omega).symm, HY.out⟩
    obtain rfl : dn = 0 := by omega
    go_wp2
    clear z0 z1 z2 z3 z4 z5 z6 z7 z8 z9 z10 z11
    go_loopw [155] (fun i wr => ∃ k : Nat, i = .int .i64 (k : Int) ∧ k ≤ gn ∧ Below w.heap.size w wr ∧ Blk wr w.heap.size #[.int .i64 1, .int .u64 num, .int .i64 node, .string key, .bool true, .string old, .int .u64 prev, .slice na 0 nc, .slice ra 0 rc, .slice ga gn gc, .slice oa 0 oc, .slice da 0 dc] 31 ∧ ∀ j (hj : j < gs.length), j < k → chgOk gs[j] = true ∧ ∀ m (hm : m < gs.length), j = m + 1 → chgLt gs[m] gs[j] = true) (fun i _ => gn - (intOf i).toNat)
    case atStart => exact ⟨0, rfl, Nat.zero_le _, HY.out, HB.out, fun j _ h => absurd h (Nat.not_lt_zero _)⟩
    case round =>
      obtain ⟨k, rfl, hk, hy, hb, ha⟩ := hrel
      clear HY HB
      have HY : Hid (Below w.heap.size w wr) := hy
      have HB : Hid (Blk wr w.heap.size #[.int .i64 1, .int .u64 num, .int .i64 node, .string key, .bool true, .string old, .int .u64 prev, .slice na 0 nc, .slice ra 0 rc, .slice ga gn gc, .slice oa 0 oc, .slice da 0 dc] 31) := hb
      have HA : Hid (∀ j (hj : j < gs.length), j < k → chgOk gs[j] = true ∧ ∀ m (hm : m < gs.length), j = m + 1 → chgLt gs[m] gs[j] = true) := ha
      clear hy hb ha
      by_cases hlt : k < gn
      · have hkl : k < gs.length := by rw [← HG.out.len.1]; exact hlt
        have hi2 : (k : Int) < (gn : Int) := by omega
        obtain ⟨ad, had⟩ := RowsN.adr HG.out (by omega)
        subst had
        have HH : Hid (RowsN wr 9 _ (.slice (some ad) _ _) gs) := HG.out.below HY.out
        have e0 : wr.cell? (ad.add (k * 9)) = some _ := HH.out.at0 hkl rfl
        have e1 : wr.cell? ⟨(ad.add (k * 9)).block, (ad.add (k * 9)).off + 1, none⟩ = some _ := HH.out.atS hkl 0 rfl
        have e2 : wr.cell? ⟨(ad.add (k * 9)).block, (ad.add (k * 9)).off + 2, none⟩ = some _ := HH.out.atS hkl 1 rfl
        have e3 : wr.cell? ⟨(ad.add (k * 9)).block, (ad.add (k * 9)).off + 3, none⟩ = some _ := HH.out.atS hkl 2 rfl
        have e4 : wr.cell? ⟨(ad.add (k * 9)).block, (ad.add (k * 9)).off + 4, none⟩ = some _ := HH.out.atS hkl 3 rfl
        have e5 : wr.cell? ⟨(ad.add (k * 9)).block, (ad.add (k * 9)).off + 5, none⟩ = some _ := HH.out.atS hkl 4 rfl
        have e6 : wr.cell? ⟨(ad.add (k * 9)).block, (ad.add (k * 9)).off + 6, none⟩ = some _ := HH.out.atS hkl 5 rfl
        have e7 : wr.cell? ⟨(ad.add (k * 9)).block, (ad.add (k * 9)).off + 7, none⟩ = some _ := HH.out.atS hkl 6 rfl
        have e8 : wr.cell? ⟨(ad.add (k * 9)).block, (ad.add (k * 9)).off + 8, none⟩ = some _ := HH.out.atS hkl 7 rfl
        have HNO : Hid (chgOk gs[k] = false → R = false) := fun e => rno HN.out fun h => by
          have h2 : chgOk gs[k] = true := ((fits_iff.1 h.gs).2 k hkl).1
          rw [e] at h2
          cases h2
        have HNO2 : Hid (∀ m (hm : m < gs.length), k = m + 1 → chgLt gs[m] gs[k] = false → R = false) := fun m hm e0 e => rno HN.out fun h => by
          have h2 : chgLt gs[m] gs[k] = true := ((fits_iff.1 h.gs).2 k hkl).2 m hm e0
          rw [e] at h2
          cases h2
        have HST : Hid (chgOk gs[k] = true → (∀ m (hm : m < gs.length), k = m + 1 → chgLt gs[m] gs[k] = true) → ∀ j (hj : j < gs.length), j < k + 1 → chgOk gs[j] = true ∧ ∀ m (hm : m < gs.length), j = m + 1 → chgLt gs[m] gs[j] = true) := fun h1 h2 j hj hjk => by
          by_cases e : j = k
          · subst e; exact ⟨h1, h2⟩
          · exact HA.out j hj (by omega)
        have HQA : Hid (gs[k].At w) := HGA.out _ (List.getElem_mem hkl)
        clear HA
        generalize gs[k] = q at *
        have HY' : Hid (Below w.heap.size w (wr.alloc (.cells #[.int .i64 q.n, .int .i64 q.p.kind, .slice q.ka q.kn q.kc, .slice q.va q.vn q.vc, .slice q.da q.dn q.dc, .int .i64 q.p.root, .int .i64 q.p.next, .int .i64 q.p.size, .int .i64 q.p.idle] 49))) := HY.out.alloc HY.out.size _
        have HB' : Hid (Blk (wr.alloc (.cells #[.int .i64 q.n, .int .i64 q.p.kind, .slice q.ka q.kn q.kc, .slice q.va q.vn q.vc, .slice q.da q.dn q.dc, .int .i64 q.p.root, .int .i64 q.p.next, .int .i64 q.p.size, .int .i64 q.p.idle] 49)) w.heap.size #[.int .i64 1, .int .u64 num, .int .i64 node, .string key, .bool true, .string old, .int .u64 prev, .slice na 0 nc, .slice ra 0 rc, .slice (some ad) gn gc, .slice oa 0 oc, .slice da 0 dc] 31) := HB.out.alloc _
        have HQ : Hid (Blk (wr.alloc (.cells #[.int .i64 q.n, .int .i64 q.p.kind, .slice q.ka q.kn q.kc, .slice q.va q.vn q.vc, .slice q.da q.dn q.dc, .int .i64 q.p.root, .int .i64 q.p.next, .int .i64 q.p.size, .int .i64 q.p.idle] 49)) wr.heap.size #[.int .i64 q.n, .int .i64 q.p.kind, .slice q.ka q.kn q.kc, .slice q.va q.vn q.vc, .slice q.da q.dn q.dc, .int .i64 q.p.root, .int .i64 q.p.next, .int .i64 q.p.size, .int .i64 q.p.idle] 49) := Blk.new _ _ _
        have HH' : Hid (RowsN (wr.alloc (.cells #[.int .i64 q.n, .int .i64 q.p.kind, .slice q.ka q.kn q.kc, .slice q.va q.vn q.vc, .slice q.da q.dn q.dc, .int .i64 q.p.root, .int .i64 q.p.next, .int .i64 q.p.size, .int .i64 q.p.idle] 49)) 9 _ (.slice (some ad) _ _) gs) := HH.out.below (below_allocR _)
        go_upto_region 13 with fail
        clear e0 e1 e2 e3 e4 e5 e6 e7 e8 HH HY HB
        generalize (wr.alloc (.cells #[.int .i64 q.n, .int .i64 q.p.kind, .slice q.ka q.kn q.kc, .slice q.va q.vn q.vc, .slice q.da q.dn q.dc, .int .i64 q.p.root, .int .i64 q.p.next, .int .i64 q.p.size, .int .i64 q.p.idle] 49)) = y0 at *
        obtain ⟨b, hbb⟩ : ∃ b, wr.heap.size = b := ⟨_, rfl⟩
        rw [hbb] at HQ ⊢
        clear hbb
        by_cases f0 : q.n < 0
        case pos =>
          have df0 : decide (q.n < 0) = true := decide_eq_true f0
          refine wp_region_ext (by kernel_rfl) ?_
          haveI nA := cls_ext y0.drew
          have u0 := cellX (W0 := y0.drew) (show y0.drew.cell? ⟨b, 0, none⟩ = some (.int .i64 q.n) from (Blk.of HQ.out ((Below.drew (Below.refl _ y0)).block _ HQ.out.lt)).cell 0)
          have u1 := cellX (W0 := y0.drew) (show y0.drew.cell? ⟨b, 1, none⟩ = some (.int .i64 q.p.kind) from (Blk.of HQ.out ((Below.drew (Below.refl _ y0)).block _ HQ.out.lt)).cell 1)
          have u2 := cellX (W0 := y0.drew) (show y0.drew.cell? ⟨b, 2, none⟩ = some (.slice q.ka q.kn q.kc) from (Blk.of HQ.out ((Below.drew (Below.refl _ y0)).block _ HQ.out.lt)).cell 2)
          have u3 := cellX (W0 := y0.drew) (show y0.drew.cell? ⟨b, 3, none⟩ = some (.slice q.va q.vn q.vc) from (Blk.of HQ.out ((Below.drew (Below.refl _ y0)).block _ HQ.out.lt)).cell 3)
          have u4 := cellX (W0 := y0.drew) (show y0.drew.cell? ⟨b, 4, none⟩ = some (.slice q.da q.dn q.dc) from (Blk.of HQ.out ((Below.drew (Below.refl _ y0)).block _ HQ.out.lt)).cell 4)
          have u5 := cellX (W0 := y0.drew) (show y0.drew.cell? ⟨b, 5, none⟩ = some (.int .i64 q.p.root) from (Blk.of HQ.out ((Below.drew (Below.refl _ y0)).block _ HQ.out.lt)).cell 5)
          have u6 := cellX (W0 := y0.drew) (show y0.drew.cell? ⟨b, 6, none⟩ = some (.int .i64 q.p.next) from (Blk.of HQ.out ((Below.drew (Below.refl _ y0)).block _ HQ.out.lt)).cell 6)
          have u7 := cellX (W0 := y0.drew) (show y0.drew.cell? ⟨b, 7, none⟩ = some (.int .i64 q.p.size) from (Blk.of HQ.out ((Below.drew (Below.refl _ y0)).block _ HQ.out.lt)).cell 7)
          have u8 := cellX (W0 := y0.drew) (show y0.drew.cell? ⟨b, 8, none⟩ = some (.int .i64 q.p.idle) from (Blk.of HQ.out ((Below.drew (Below.refl _ y0)).block _ HQ.out.lt)).cell 8)
          have HYr : Hid (Below y0.heap.size y0 y0.drew) := Below.drew (Below.refl _ _)
          refine wpAnyH_seg (by kernel_rfl) (fun _ _ _ h => h) [0, 1, 2, 3, 4, 5, 6, 7, 8, 9, 10] 19 _ _ _ (Ext.refl _) (by kernel_rfl) ?_
          simp only [opsAt, List.getElem?_toArray, List.getElem?_cons_zero, List.getElem?_cons_succ, List.cons_append, List.nil_append]
          repeat (go_big_quiet_step (fail))
          refine wpQuiet_nil ?_
          refine wpAnyH_all (rs := [11]) (fuel := 18) (by kernel_rfl) (by simp) fun j0 hj0 => ?_
          obtain rfl : j0 = 11 := by simpa using hj0
          clear hj0
          refine wpOp_skip 171 rfl (by kernel_rfl) rfl ?_
          refine ⟨Ext.refl _, ?_⟩
          simp only [Act.put, List.setIfInBounds_toArray, List.set_cons_succ, List.set_cons_zero]
          refine wpAnyH_seg (by kernel_rfl) (fun _ _ _ h => h) [12, 13, 14, 15, 16, 17, 18, 19, 20, 21, 22, 23, 24, 25, 26, 27, 28, 29] 0 _ _ _ (Ext.refl _) (by kernel_rfl) ?_
          simp only [opsAt, List.getElem?_toArray, List.getElem?_cons_zero, List.getElem?_cons_succ, List.cons_append, List.nil_append]
          repeat (go_big_quiet_step (fail))
          refine wpQuiet_nil ?_
          clear nA u0 u1 u2 u3 u4 u5 u6 u7 u8
          refine wpAnyH_done (by kernel_rfl) (NoPanic.normal ?_) 0
          have HYZ : Hid (Below w.heap.size w y0.drew) := ext_trans HY'.out HYr.out
          go_wp2
          go_ret
          exact ⟨ret_bool (HNO.out (chg_no (.inl f0))).symm, HYZ.out⟩
        have df0 : decide (q.n < 0) = false := decide_eq_false f0
        by_cases f1 : 65535 < q.n
        case pos =>
          have df1 : decide (65535 < q.n) = true := decide_eq_true f1
          refine wp_region_ext (by kernel_rfl) ?_
          haveI nA := cls_ext y0.drew
          have u0 := cellX (W0 := y0.drew) (show y0.drew.cell? ⟨b, 0, none⟩ = some (.int .i64 q.n) from (Blk.of HQ.out ((Below.drew (Below.refl _ y0)).block _ HQ.out.lt)).cell 0)
          have u1 := cellX (W0 := y0.drew) (show y0.drew.cell? ⟨b, 1, none⟩ = some (.int .i64 q.p.kind) from (Blk.of HQ.out ((Below.drew (Below.refl _ y0)).block _ HQ.out.lt)).cell 1)
          have u2 := cellX (W0 := y0.drew) (show y0.drew.cell? ⟨b, 2, none⟩ = some (.slice q.ka q.kn q.kc) from (Blk.of HQ.out ((Below.drew (Below.refl _ y0)).block _ HQ.out.lt)).cell 2)
          have u3 := cellX (W0 := y0.drew) (show y0.drew.cell? ⟨b, 3, none⟩ = some (.slice q.va q.vn q.vc) from (Blk.of HQ.out ((Below.drew (Below.refl _ y0)).block _ HQ.out.lt)).cell 3)
          have u4 := cellX (W0 := y0.drew) (show y0.drew.cell? ⟨b, 4, none⟩ = some (.slice q.da q.dn q.dc) from (Blk.of HQ.out ((Below.drew (Below.refl _ y0)).block _ HQ.out.lt)).cell 4)
          have u5 := cellX (W0 := y0.drew) (show y0.drew.cell? ⟨b, 5, none⟩ = some (.int .i64 q.p.root) from (Blk.of HQ.out ((Below.drew (Below.refl _ y0)).block _ HQ.out.lt)).cell 5)
          have u6 := cellX (W0 := y0.drew) (show y0.drew.cell? ⟨b, 6, none⟩ = some (.int .i64 q.p.next) from (Blk.of HQ.out ((Below.drew (Below.refl _ y0)).block _ HQ.out.lt)).cell 6)
          have u7 := cellX (W0 := y0.drew) (show y0.drew.cell? ⟨b, 7, none⟩ = some (.int .i64 q.p.size) from (Blk.of HQ.out ((Below.drew (Below.refl _ y0)).block _ HQ.out.lt)).cell 7)
          have u8 := cellX (W0 := y0.drew) (show y0.drew.cell? ⟨b, 8, none⟩ = some (.int .i64 q.p.idle) from (Blk.of HQ.out ((Below.drew (Below.refl _ y0)).block _ HQ.out.lt)).cell 8)
          have HYr : Hid (Below y0.heap.size y0 y0.drew) := Below.drew (Below.refl _ _)
          refine wpAnyH_seg (by kernel_rfl) (fun _ _ _ h => h) [0, 1, 2, 3, 4, 5, 6, 7, 8, 9, 10] 19 _ _ _ (Ext.refl _) (by kernel_rfl) ?_
          simp only [opsAt, List.getElem?_toArray, List.getElem?_cons_zero, List.getElem?_cons_succ, List.cons_append, List.nil_append]
          repeat (go_big_quiet_step (fail))
          refine wpQuiet_nil ?_
          refine wpAnyH_all (rs := [11]) (fuel := 18) (by kernel_rfl) (by simp) fun j0 hj0 => ?_
          obtain rfl : j0 = 11 := by simpa using hj0
          clear hj0
          refine wpOp_skip 171 rfl (by kernel_rfl) rfl ?_
          refine ⟨Ext.refl _, ?_⟩
          simp only [Act.put, List.setIfInBounds_toArray, List.set_cons_succ, List.set_cons_zero]
          refine wpAnyH_seg (by kernel_rfl) (fun _ _ _ h => h) [12, 13, 14, 15, 16, 17, 18, 19, 20, 21, 22, 23, 24, 25, 26, 27, 28, 29] 0 _ _ _ (Ext.refl _) (by kernel_rfl) ?_
          simp only [opsAt, List.getElem?_toArray, List.getElem?_cons_zero, List.getElem?_cons_succ, List.cons_append, List.nil_append]
          repeat (go_big_quiet_step (fail))
          refine wpQuiet_nil ?_
          clear nA u0 u1 u2 u3 u4 u5 u6 u7 u8
          refine wpAnyH_done (by kernel_rfl) (NoPanic.normal ?_) 0
          have HYZ : Hid (Below w.heap.size w y0.drew) := ext_trans HY'.out HYr.out
          go_wp2
          go_ret
          exact ⟨ret_bool (HNO.out (chg_no (.inr (.inl f1)))).symm, HYZ.out⟩
        have df1 : decide (65535 < q.n) = false := decide_eq_false f1
        cases f2 : rightPg q.p
        case false =>
          have HPR : Hid (rightPg q.p = false) := f2
          clear f2
          refine wp_region_ext (by kernel_rfl) ?_
          haveI nA := cls_ext y0.drew
          have u0 := cellX (W0 := y0.drew) (show y0.drew.cell? ⟨b, 0, none⟩ = some (.int .i64 q.n) from (Blk.of HQ.out ((Below.drew (Below.refl _ y0)).block _ HQ.out.lt)).cell 0)
          have u1 := cellX (W0 := y0.drew) (show y0.drew.cell? ⟨b, 1, none⟩ = some (.int .i64 q.p.kind) from (Blk.of HQ.out ((Below.drew (Below.refl _ y0)).block _ HQ.out.lt)).cell 1)
          have u2 := cellX (W0 := y0.drew) (show y0.drew.cell? ⟨b, 2, none⟩ = some (.slice q.ka q.kn q.kc) from (Blk.of HQ.out ((Below.drew (Below.refl _ y0)).block _ HQ.out.lt)).cell 2)
          have u3 := cellX (W0 := y0.drew) (show y0.drew.cell? ⟨b, 3, none⟩ = some (.slice q.va q.vn q.vc) from (Blk.of HQ.out ((Below.drew (Below.refl _ y0)).block _ HQ.out.lt)).cell 3)
          have u4 := cellX (W0 := y0.drew) (show y0.drew.cell? ⟨b, 4, none⟩ = some (.slice q.da q.dn q.dc) from (Blk.of HQ.out ((Below.drew (Below.refl _ y0)).block _ HQ.out.lt)).cell 4)
          have u5 := cellX (W0 := y0.drew) (show y0.drew.cell? ⟨b, 5, none⟩ = some (.int .i64 q.p.root) from (Blk.of HQ.out ((Below.drew (Below.refl _ y0)).block _ HQ.out.lt)).cell 5)
          have u6 := cellX (W0 := y0.drew) (show y0.drew.cell? ⟨b, 6, none⟩ = some (.int .i64 q.p.next) from (Blk.of HQ.out ((Below.drew (Below.refl _ y0)).block _ HQ.out.lt)).cell 6)
          have u7 := cellX (W0 := y0.drew) (show y0.drew.cell? ⟨b, 7, none⟩ = some (.int .i64 q.p.size) from (Blk.of HQ.out ((Below.drew (Below.refl _ y0)).block _ HQ.out.lt)).cell 7)
          have u8 := cellX (W0 := y0.drew) (show y0.drew.cell? ⟨b, 8, none⟩ = some (.int .i64 q.p.idle) from (Blk.of HQ.out ((Below.drew (Below.refl _ y0)).block _ HQ.out.lt)).cell 8)
          have HYr : Hid (Below y0.heap.size y0 y0.drew) := Below.drew (Below.refl _ _)
          refine wpAnyH_seg (by kernel_rfl) (fun _ _ _ h => h) [0, 1, 2, 3, 4, 5, 6, 7, 8, 9, 10] 19 _ _ _ (Ext.refl _) (by kernel_rfl) ?_
          simp only [opsAt, List.getElem?_toArray, List.getElem?_cons_zero, List.getElem?_cons_succ, List.cons_append, List.nil_append]
          repeat (go_big_quiet_step (fail))
          refine wpQuiet_nil ?_
          clear nA u0 u1 u2 u3 u4 u5 u6 u7 u8
          refine wpAnyH_callE (i := 11) (fuel := 18) 171 rfl (by kernel_rfl) rfl (Ext.refl _) (by kernel_rfl) (f := 25) (args := #[.agg #[.int .i64 q.p.kind, .slice q.ka q.kn q.kc, .slice q.va q.vn q.vc, .slice q.da q.dn q.dc, .int .i64 q.p.root, .int .i64 q.p.next, .int .i64 q.p.size, .int .i64 q.p.idle]]) (by kernel_rfl) (page_is q.p _ _ _ false y0.drew (((HQA.out.below HY'.out).below HYr.out).rd) HQA.out.ok HPR.out) ?_
          rintro e x1 ⟨rfl, y⟩
          refine ⟨_, rfl, y, ?_⟩
          have HYr' : Hid (Below y0.heap.size y0 x1) := ext_trans HYr.out y
          clear HYr y
          have HYr := HYr'
          clear HYr'
          simp only [Act.put, List.setIfInBounds_toArray, List.set_cons_succ, List.set_cons_zero]
          haveI nA := cls_ext x1
          have u0 := cellX (W0 := x1) (show x1.cell? ⟨b, 0, none⟩ = some (.int .i64 q.n) from (Blk.of HQ.out (HYr.out.block _ HQ.out.lt)).cell 0)
          have u1 := cellX (W0 := x1) (show x1.cell? ⟨b, 1, none⟩ = some (.int .i64 q.p.kind) from (Blk.of HQ.out (HYr.out.block _ HQ.out.lt)).cell 1)
          have u2 := cellX (W0 := x1) (show x1.cell? ⟨b, 2, none⟩ = some (.slice q.ka q.kn q.kc) from (Blk.of HQ.out (HYr.out.block _ HQ.out.lt)).cell 2)
          have u3 := cellX (W0 := x1) (show x1.cell? ⟨b, 3, none⟩ = some (.slice q.va q.vn q.vc) from (Blk.of HQ.out (HYr.out.block _ HQ.out.lt)).cell 3)
          have u4 := cellX (W0 := x1) (show x1.cell? ⟨b, 4, none⟩ = some (.slice q.da q.dn q.dc) from (Blk.of HQ.out (HYr.out.block _ HQ.out.lt)).cell 4)
          have u5 := cellX (W0 := x1) (show x1.cell? ⟨b, 5, none⟩ = some (.int .i64 q.p.root) from (Blk.of HQ.out (HYr.out.block _ HQ.out.lt)).cell 5)
          have u6 := cellX (W0 := x1) (show x1.cell? ⟨b, 6, none⟩ = some (.int .i64 q.p.next) from (Blk.of HQ.out (HYr.out.block _ HQ.out.lt)).cell 6)
          have u7 := cellX (W0 := x1) (show x1.cell? ⟨b, 7, none⟩ = some (.int .i64 q.p.size) from (Blk.of HQ.out (HYr.out.block _ HQ.out.lt)).cell 7)
          have u8 := cellX (W0 := x1) (show x1.cell? ⟨b, 8, none⟩ = some (.int .i64 q.p.idle) from (Blk.of HQ.out (HYr.out.block _ HQ.out.lt)).cell 8)
          refine wpAnyH_seg (by kernel_rfl) (fun _ _ _ h => h) [12, 13, 14, 15, 16, 17, 18, 19, 20, 21, 22, 23, 24, 25, 26, 27, 28, 29] 0 _ _ _ (Ext.refl _) (by kernel_rfl) ?_
          simp only [opsAt, List.getElem?_toArray, List.getElem?_cons_zero, List.getElem?_cons_succ, List.cons_append, List.nil_append]
          repeat (go_big_quiet_step (fail))
          refine wpQuiet_nil ?_
          clear nA u0 u1 u2 u3 u4 u5 u6 u7 u8
          refine wpAnyH_done (by kernel_rfl) (NoPanic.normal ?_) 0
          have HYZ : Hid (Below w.heap.size w x1) := ext_trans HY'.out HYr.out
          go_wp2
          go_ret
          exact ⟨ret_bool (HNO.out (chg_no (.inr (.inr HPR.out)))).symm, HYZ.out⟩
        have HPR : Hid (rightPg q.p = true) := f2
        clear f2
        have HR1 : Hid (chgOk q = true) := chg_yes f0 f1 HPR.out
        rcases (show k = 0 ∨ ∃ m, k = m + 1 from by cases k; exact .inl rfl; exact .inr ⟨_, rfl⟩) with hk0 | ⟨m, hm⟩
        · have hk1 : ¬ 0 < k := by omega
          have hk2 : ¬ (0 : Int) < (k : Int) := by omega
          have hk5 : decide ((0 : Int) < (k : Int)) = false := decide_eq_false hk2
          have HNM : Hid (∀ m, ¬ k = m + 1) := fun m => by omega
          clear HH' hk0
          refine wp_region_ext (by kernel_rfl) ?_
          haveI nA := cls_ext y0.drew
          have u0 := cellX (W0 := y0.drew) (show y0.drew.cell? ⟨b, 0, none⟩ = some (.int .i64 q.n) from (Blk.of HQ.out ((Below.drew (Below.refl _ y0)).block _ HQ.out.lt)).cell 0)
          have u1 := cellX (W0 := y0.drew) (show y0.drew.cell? ⟨b, 1, none⟩ = some (.int .i64 q.p.kind) from (Blk.of HQ.out ((Below.drew (Below.refl _ y0)).block _ HQ.out.lt)).cell 1)
          have u2 := cellX (W0 := y0.drew) (show y0.drew.cell? ⟨b, 2, none⟩ = some (.slice q.ka q.kn q.kc) from (Blk.of HQ.out ((Below.drew (Below.refl _ y0)).block _ HQ.out.lt)).cell 2)
          have u3 := cellX (W0 := y0.drew) (show y0.drew.cell? ⟨b, 3, none⟩ = some (.slice q.va q.vn q.vc) from (Blk.of HQ.out ((Below.drew (Below.refl _ y0)).block _ HQ.out.lt)).cell 3)
          have u4 := cellX (W0 := y0.drew) (show y0.drew.cell? ⟨b, 4, none⟩ = some (.slice q.da q.dn q.dc) from (Blk.of HQ.out ((Below.drew (Below.refl _ y0)).block _ HQ.out.lt)).cell 4)
          have u5 := cellX (W0 := y0.drew) (show y0.drew.cell? ⟨b, 5, none⟩ = some (.int .i64 q.p.root) from (Blk.of HQ.out ((Below.drew (Below.refl _ y0)).block _ HQ.out.lt)).cell 5)
          have u6 := cellX (W0 := y0.drew) (show y0.drew.cell? ⟨b, 6, none⟩ = some (.int .i64 q.p.next) from (Blk.of HQ.out ((Below.drew (Below.refl _ y0)).block _ HQ.out.lt)).cell 6)
          have u7 := cellX (W0 := y0.drew) (show y0.drew.cell? ⟨b, 7, none⟩ = some (.int .i64 q.p.size) from (Blk.of HQ.out ((Below.drew (Below.refl _ y0)).block _ HQ.out.lt)).cell 7)
          have u8 := cellX (W0 := y0.drew) (show y0.drew.cell? ⟨b, 8, none⟩ = some (.int .i64 q.p.idle) from (Blk.of HQ.out ((Below.drew (Below.refl _ y0)).block _ HQ.out.lt)).cell 8)
          have HYr : Hid (Below y0.heap.size y0 y0.drew) := Below.drew (Below.refl _ _)
          refine wpAnyH_seg (by kernel_rfl) (fun _ _ _ h => h) [0, 1, 2, 3, 4, 5, 6, 7, 8, 9, 10] 19 _ _ _ (Ext.refl _) (by kernel_rfl) ?_
          simp only [opsAt, List.getElem?_toArray, List.getElem?_cons_zero, List.getElem?_cons_succ, List.cons_append, List.nil_append]
          repeat (go_big_quiet_step (fail))
          refine wpQuiet_nil ?_
          clear nA u0 u1 u2 u3 u4 u5 u6 u7 u8
          refine wpAnyH_callE (i := 11) (fuel := 18) 171 rfl (by kernel_rfl) rfl (Ext.refl _) (by kernel_rfl) (f := 25) (args := #[.agg #[.int .i64 q.p.kind, .slice q.ka q.kn q.kc, .slice q.va q.vn q.vc, .slice q.da q.dn q.dc, .int .i64 q.p.root, .int .i64 q.p.next, .int .i64 q.p.size, .int .i64 q.p.idle]]) (by kernel_rfl) (page_is q.p _ _ _ true y0.drew (((HQA.out.below HY'.out).below HYr.out).rd) HQA.out.ok HPR.out) ?_
          rintro e x1 ⟨rfl, y⟩
          refine ⟨_, rfl, y, ?_⟩
          have HYr' : Hid (Below y0.heap.size y0 x1) := ext_trans HYr.out y
          clear HYr y
          have HYr := HYr'
          clear HYr'
          simp only [Act.put, List.setIfInBounds_toArray, List.set_cons_succ, List.set_cons_zero]
          haveI nA := cls_ext x1
          have u0 := cellX (W0 := x1) (show x1.cell? ⟨b, 0, none⟩ = some (.int .i64 q.n) from (Blk.of HQ.out (HYr.out.block _ HQ.out.lt)).cell 0)
          have u1 := cellX (W0 := x1) (show x1.cell? ⟨b, 1, none⟩ = some (.int .i64 q.p.kind) from (Blk.of HQ.out (HYr.out.block _ HQ.out.lt)).cell 1)
          have u2 := cellX (W0 := x1) (show x1.cell? ⟨b, 2, none⟩ = some (.slice q.ka q.kn q.kc) from (Blk.of HQ.out (HYr.out.block _ HQ.out.lt)).cell 2)
          have u3 := cellX (W0 := x1) (show x1.cell? ⟨b, 3, none⟩ = some (.slice q.va q.vn q.vc) from (Blk.of HQ.out (HYr.out.block _ HQ.out.lt)).cell 3)
          have u4 := cellX (W0 := x1) (show x1.cell? ⟨b, 4, none⟩ = some (.slice q.da q.dn q.dc) from (Blk.of HQ.out (HYr.out.block _ HQ.out.lt)).cell 4)
          have u5 := cellX (W0 := x1) (show x1.cell? ⟨b, 5, none⟩ = some (.int .i64 q.p.root) from (Blk.of HQ.out (HYr.out.block _ HQ.out.lt)).cell 5)
          have u6 := cellX (W0 := x1) (show x1.cell? ⟨b, 6, none⟩ = some (.int .i64 q.p.next) from (Blk.of HQ.out (HYr.out.block _ HQ.out.lt)).cell 6)
          have u7 := cellX (W0 := x1) (show x1.cell? ⟨b, 7, none⟩ = some (.int .i64 q.p.size) from (Blk.of HQ.out (HYr.out.block _ HQ.out.lt)).cell 7)
          have u8 := cellX (W0 := x1) (show x1.cell? ⟨b, 8, none⟩ = some (.int .i64 q.p.idle) from (Blk.of HQ.out (HYr.out.block _ HQ.out.lt)).cell 8)
          refine wpAnyH_seg (by kernel_rfl) (fun _ _ _ h => h) [12, 13, 14, 15, 16, 17, 18, 19, 20, 21, 22, 23, 24, 25, 26, 27, 28, 29] 0 _ _ _ (Ext.refl _) (by kernel_rfl) ?_
          simp only [opsAt, List.getElem?_toArray, List.getElem?_cons_zero, List.getElem?_cons_succ, List.cons_append, List.nil_append]
          repeat (go_big_quiet_step (fail))
          refine wpQuiet_nil ?_
          clear nA u0 u1 u2 u3 u4 u5 u6 u7 u8
          refine wpAnyH_done (by kernel_rfl) (NoPanic.normal ?_) 0
          have HYZ : Hid (Below w.heap.size w x1) := ext_trans HY'.out HYr.out
          have HBZ : Hid (Blk x1 w.heap.size #[.int .i64 1, .int .u64 num, .int .i64 node, .string key, .bool true, .string old, .int .u64 prev, .slice na 0 nc, .slice ra 0 rc, .slice (some ad) gn gc, .slice oa 0 oc, .slice da 0 dc] 31) := Blk.of HB'.out (HYr.out.block _ HB'.out.lt)
          go_wp2
          go_roundw
          case rel => exact ⟨k + 1, by go_num, by omega, HYZ.out, HBZ.out, HST.out HR1.out fun m _ e => absurd e (HNM.out m)⟩
          case measure => simp [intOf]; omega
        · have hml : m < gs.length := by omega
          have HKM : Hid (k = m + 1) := hm
          have hk1 : 0 < k := by omega
          have hk2 : (0 : Int) < (k : Int) := by omega
          have hk5 : decide ((0 : Int) < (k : Int)) = true := decide_eq_true hk2
          have hk3 : (k : Int) - 1 = (m : Int) := by omega
          have hk4 : m < gn := by omega
          have HML : Hid (m < gs.length) := hml
          have HNM : Hid (chgLt gs[m] q = false → R = false) := HNO2.out m hml hm
          have HSM : Hid (chgLt gs[m] q = true → ∀ m' (hm : m' < gs.length), k = m' + 1 → chgLt gs[m'] q = true) := fun e m' hm' e2 => by
            have e3 : m' = m := by have := HKM.out; omega
            subst e3
            exact e
          have HM0 : Hid (∀ W, Below y0.heap.size y0 W → W.cell? (ad.add (m * 9)) = some (.int .i64 gs[m].n)) := fun W hW => (HH'.out.below hW).at0 hml rfl
          clear HH' hm HKM
          generalize gs[m] = m0 at *
          clear hml
          by_cases f3 : q.n ≤ m0.n
          case pos =>
            have df3 : decide (q.n ≤ m0.n) = true := decide_eq_true f3
            refine wp_region_ext (by kernel_rfl) ?_
            haveI nA := cls_ext y0.drew
            have u0 := cellX (W0 := y0.drew) (show y0.drew.cell? ⟨b, 0, none⟩ = some (.int .i64 q.n) from (Blk.of HQ.out ((Below.drew (Below.refl _ y0)).block _ HQ.out.lt)).cell 0)
            have u1 := cellX (W0 := y0.drew) (show y0.drew.cell? ⟨b, 1, none⟩ = some (.int .i64 q.p.kind) from (Blk.of HQ.out ((Below.drew (Below.refl _ y0)).block _ HQ.out.lt)).cell 1)
            have u2 := cellX (W0 := y0.drew) (show y0.drew.cell? ⟨b, 2, none⟩ = some (.slice q.ka q.kn q.kc) from (Blk.of HQ.out ((Below.drew (Below.refl _ y0)).block _ HQ.out.lt)).cell 2)
            have u3 := cellX (W0 := y0.drew) (show y0.drew.cell? ⟨b, 3, none⟩ = some (.slice q.va q.vn q.vc) from (Blk.of HQ.out ((Below.drew (Below.refl _ y0)).block _ HQ.out.lt)).cell 3)
            have u4 := cellX (W0 := y0.drew) (show y0.drew.cell? ⟨b, 4, none⟩ = some (.slice q.da q.dn q.dc) from (Blk.of HQ.out ((Below.drew (Below.refl _ y0)).block _ HQ.out.lt)).cell 4)
            have u5 := cellX (W0 := y0.drew) (show y0.drew.cell? ⟨b, 5, none⟩ = some (.int .i64 q.p.root) from (Blk.of HQ.out ((Below.drew (Below.refl _ y0)).block _ HQ.out.lt)).cell 5)
            have u6 := cellX (W0 := y0.drew) (show y0.drew.cell? ⟨b, 6, none⟩ = some (.int .i64 q.p.next) from (Blk.of HQ.out ((Below.drew (Below.refl _ y0)).block _ HQ.out.lt)).cell 6)
            have u7 := cellX (W0 := y0.drew) (show y0.drew.cell? ⟨b, 7, none⟩ = some (.int .i64 q.p.size) from (Blk.of HQ.out ((Below.drew (Below.refl _ y0)).block _ HQ.out.lt)).cell 7)
            have u8 := cellX (W0 := y0.drew) (show y0.drew.cell? ⟨b, 8, none⟩ = some (.int .i64 q.p.idle) from (Blk.of HQ.out ((Below.drew (Below.refl _ y0)).block _ HQ.out.lt)).cell 8)
            have p9 := cellX (W0 := y0.drew) (show y0.drew.cell? ⟨w.heap.size, 9, none⟩ = some (.slice (some ad) gn gc) from (Blk.of HB'.out ((Below.drew (Below.refl _ y0)).block _ HB'.out.lt)).cell 9)
            have m9 := cellX (W0 := y0.drew) (HM0.out _ (Below.drew (Below.refl _ y0)))
            have HYr : Hid (Below y0.heap.size y0 y0.drew) := Below.drew (Below.refl _ _)
            refine wpAnyH_seg (by kernel_rfl) (fun _ _ _ h => h) [0, 1, 2, 3, 4, 5, 6, 7, 8, 9, 10] 19 _ _ _ (Ext.refl _) (by kernel_rfl) ?_
            simp only [opsAt, List.getElem?_toArray, List.getElem?_cons_zero, List.getElem?_cons_succ, List.cons_append, List.nil_append]
            repeat (go_big_quiet_step (fail))
            refine wpQuiet_nil ?_
            clear nA u0 u1 u2 u3 u4 u5 u6 u7 u8 p9 m9
            refine wpAnyH_callE (i := 11) (fuel := 18) 171 rfl (by kernel_rfl) rfl (Ext.refl _) (by kernel_rfl) (f := 25) (args := #[.agg #[.int .i64 q.p.kind, .slice q.ka q.kn q.kc, .slice q.va q.vn q.vc, .slice q.da q.dn q.dc, .int .i64 q.p.root, .int .i64 q.p.next, .int .i64 q.p.size, .int .i64 q.p.idle]]) (by kernel_rfl) (page_is q.p _ _ _ true y0.drew (((HQA.out.below HY'.out).below HYr.out).rd) HQA.out.ok HPR.out) ?_
            rintro e x1 ⟨rfl, y⟩
            refine ⟨_, rfl, y, ?_⟩
            have HYr' : Hid (Below y0.heap.size y0 x1) := ext_trans HYr.out y
            clear HYr y
            have HYr := HYr'
            clear HYr'
            simp only [Act.put, List.setIfInBounds_toArray, List.set_cons_succ, List.set_cons_zero]
            haveI nA := cls_ext x1
            have u0 := cellX (W0 := x1) (show x1.cell? ⟨b, 0, none⟩ = some (.int .i64 q.n) from (Blk.of HQ.out (HYr.out.block _ HQ.out.lt)).cell 0)
            have u1 := cellX (W0 := x1) (show x1.cell? ⟨b, 1, none⟩ = some (.int .i64 q.p.kind) from (Blk.of HQ.out (HYr.out.block _ HQ.out.lt)).cell 1)
            have u2 := cellX (W0 := x1) (show x1.cell? ⟨b, 2, none⟩ = some (.slice q.ka q.kn q.kc) from (Blk.of HQ.out (HYr.out.block _ HQ.out.lt)).cell 2)
            have u3 := cellX (W0 := x1) (show x1.cell? ⟨b, 3, none⟩ = some (.slice q.va q.vn q.vc) from (Blk.of HQ.out (HYr.out.block _ HQ.out.lt)).cell 3)
            have u4 := cellX (W0 := x1) (show x1.cell? ⟨b, 4, none⟩ = some (.slice q.da q.dn q.dc) from (Blk.of HQ.out (HYr.out.block _ HQ.out.lt)).cell 4)
            have u5 := cellX (W0 := x1) (show x1.cell? ⟨b, 5, none⟩ = some (.int .i64 q.p.root) from (Blk.of HQ.out (HYr.out.block _ HQ.out.lt)).cell 5)
            have u6 := cellX (W0 := x1) (show x1.cell? ⟨b, 6, none⟩ = some (.int .i64 q.p.next) from (Blk.of HQ.out (HYr.out.block _ HQ.out.lt)).cell 6)
            have u7 := cellX (W0 := x1) (show x1.cell? ⟨b, 7, none⟩ = some (.int .i64 q.p.size) from (Blk.of HQ.out (HYr.out.block _ HQ.out.lt)).cell 7)
            have u8 := cellX (W0 := x1) (show x1.cell? ⟨b, 8, none⟩ = some (.int .i64 q.p.idle) from (Blk.of HQ.out (HYr.out.block _ HQ.out.lt)).cell 8)
            have p9 := cellX (W0 := x1) (show x1.cell? ⟨w.heap.size, 9, none⟩ = some (.slice (some ad) gn gc) from (Blk.of HB'.out (HYr.out.block _ HB'.out.lt)).cell 9)
            have m9 := cellX (W0 := x1) (HM0.out _ HYr.out)
            refine wpAnyH_seg (by kernel_rfl) (fun _ _ _ h => h) [12, 13, 14, 15, 16, 17, 18, 19, 20, 21, 22, 23, 24, 25, 26, 27, 28, 29] 0 _ _ _ (Ext.refl _) (by kernel_rfl) ?_
            simp only [opsAt, List.getElem?_toArray, List.getElem?_cons_zero, List.getElem?_cons_succ, List.cons_append, List.nil_append]
            repeat (go_big_quiet_step (fail))
            refine wpQuiet_nil ?_
            clear nA u0 u1 u2 u3 u4 u5 u6 u7 u8 p9 m9
            refine wpAnyH_done (by kernel_rfl) (NoPanic.normal ?_) 0
            have HYZ : Hid (Below w.heap.size w x1) := ext_trans HY'.out HYr.out
            go_wp2
            go_ret
            exact ⟨ret_bool (HNM.out (by unfold chgLt ltI; exact decide_eq_false (by omega))).symm, HYZ.out⟩
          have df3 : decide (q.n ≤ m0.n) = false := decide_eq_false f3
          refine wp_region_ext (by kernel_rfl) ?_
          haveI nA := cls_ext y0.drew
          have u0 := cellX (W0 := y0.drew) (show y0.drew.cell? ⟨b, 0, none⟩ = some (.int .i64 q.n) from (Blk.of HQ.out ((Below.drew (Below.refl _ y0)).block _ HQ.out.lt)).cell 0)
          have u1 := cellX (W0 := y0.drew) (show y0.drew.cell? ⟨b, 1, none⟩ = some (.int .i64 q.p.kind) from (Blk.of HQ.out ((Below.drew (Below.refl _ y0)).block _ HQ.out.lt)).cell 1)
          have u2 := cellX (W0 := y0.drew) (show y0.drew.cell? ⟨b, 2, none⟩ = some (.slice q.ka q.kn q.kc) from (Blk.of HQ.out ((Below.drew (Below.refl _ y0)).block _ HQ.out.lt)).cell 2)
          have u3 := cellX (W0 := y0.drew) (show y0.drew.cell? ⟨b, 3, none⟩ = some (.slice q.va q.vn q.vc) from (Blk.of HQ.out ((Below.drew (Below.refl _ y0)).block _ HQ.out.lt)).cell 3)
          have u4 := cellX (W0 := y0.drew) (show y0.drew.cell? ⟨b, 4, none⟩ = some (.slice q.da q.dn q.dc) from (Blk.of HQ.out ((Below.drew (Below.refl _ y0)).block _ HQ.out.lt)).cell 4)
          have u5 := cellX (W0 := y0.drew) (show y0.drew.cell? ⟨b, 5, none⟩ = some (.int .i64 q.p.root) from (Blk.of HQ.out ((Below.drew (Below.refl _ y0)).block _ HQ.out.lt)).cell 5)
          have u6 := cellX (W0 := y0.drew) (show y0.drew.cell? ⟨b, 6, none⟩ = some (.int .i64 q.p.next) from (Blk.of HQ.out ((Below.drew (Below.refl _ y0)).block _ HQ.out.lt)).cell 6)
          have u7 := cellX (W0 := y0.drew) (show y0.drew.cell? ⟨b, 7, none⟩ = some (.int .i64 q.p.size) from (Blk.of HQ.out ((Below.drew (Below.refl _ y0)).block _ HQ.out.lt)).cell 7)
          have u8 := cellX (W0 := y0.drew) (show y0.drew.cell? ⟨b, 8, none⟩ = some (.int .i64 q.p.idle) from (Blk.of HQ.out ((Below.drew (Below.refl _ y0)).block _ HQ.out.lt)).cell 8)
          have p9 := cellX (W0 := y0.drew) (show y0.drew.cell? ⟨w.heap.size, 9, none⟩ = some (.slice (some ad) gn gc) from (Blk.of HB'.out ((Below.drew (Below.refl _ y0)).block _ HB'.out.lt)).cell 9)
          have m9 := cellX (W0 := y0.drew) (HM0.out _ (Below.drew (Below.refl _ y0)))
          have HYr : Hid (Below y0.heap.size y0 y0.drew) := Below.drew (Below.refl _ _)
          refine wpAnyH_seg (by kernel_rfl) (fun _ _ _ h => h) [0, 1, 2, 3, 4, 5, 6, 7, 8, 9, 10] 19 _ _ _ (Ext.refl _) (by kernel_rfl) ?_
          simp only [opsAt, List.getElem?_toArray, List.getElem?_cons_zero, List.getElem?_cons_succ, List.cons_append, List.nil_append]
          repeat (go_big_quiet_step (fail))
          refine wpQuiet_nil ?_
          clear nA u0 u1 u2 u3 u4 u5 u6 u7 u8 p9 m9
          refine wpAnyH_callE (i := 11) (fuel := 18) 171 rfl (by kernel_rfl) rfl (Ext.refl _) (by kernel_rfl) (f := 25) (args := #[.agg #[.int .i64 q.p.kind, .slice q.ka q.kn q.kc, .slice q.va q.vn q.vc, .slice q.da q.dn q.dc, .int .i64 q.p.root, .int .i64 q.p.next, .int .i64 q.p.size, .int .i64 q.p.idle]]) (by kernel_rfl) (page_is q.p _ _ _ true y0.drew (((HQA.out.below HY'.out).below HYr.out).rd) HQA.out.ok HPR.out) ?_
          rintro e x1 ⟨rfl, y⟩
          refine ⟨_, rfl, y, ?_⟩
          have HYr' : Hid (Below y0.heap.size y0 x1) := ext_trans HYr.out y
          clear HYr y
          have HYr := HYr'
          clear HYr'
          simp only [Act.put, List.setIfInBounds_toArray, List.set_cons_succ, List.set_cons_zero]
          haveI nA := cls_ext x1
          have u0 := cellX (W0 := x1) (show x1.cell? ⟨b, 0, none⟩ = some (.int .i64 q.n) from (Blk.of HQ.out (HYr.out.block _ HQ.out.lt)).cell 0)
          have u1 := cellX (W0 := x1) (show x1.cell? ⟨b, 1, none⟩ = some (.int .i64 q.p.kind) from (Blk.of HQ.out (HYr.out.block _ HQ.out.lt)).cell 1)
          have u2 := cellX (W0 := x1) (show x1.cell? ⟨b, 2, none⟩ = some (.slice q.ka q.kn q.kc) from (Blk.of HQ.out (HYr.out.block _ HQ.out.lt)).cell 2)
          have u3 := cellX (W0 := x1) (show x1.cell? ⟨b, 3, none⟩ = some (.slice q.va q.vn q.vc) from (Blk.of HQ.out (HYr.out.block _ HQ.out.lt)).cell 3)
          have u4 := cellX (W0 := x1) (show x1.cell? ⟨b, 4, none⟩ = some (.slice q.da q.dn q.dc) from (Blk.of HQ.out (HYr.out.block _ HQ.out.lt)).cell 4)
          have u5 := cellX (W0 := x1) (show x1.cell? ⟨b, 5, none⟩ = some (.int .i64 q.p.root) from (Blk.of HQ.out (HYr.out.block _ HQ.out.lt)).cell 5)
          have u6 := cellX (W0 := x1) (show x1.cell? ⟨b, 6, none⟩ = some (.int .i64 q.p.next) from (Blk.of HQ.out (HYr.out.block _ HQ.out.lt)).cell 6)
          have u7 := cellX (W0 := x1) (show x1.cell? ⟨b, 7, none⟩ = some (.int .i64 q.p.size) from (Blk.of HQ.out (HYr.out.block _ HQ.out.lt)).cell 7)
          have u8 := cellX (W0 := x1) (show x1.cell? ⟨b, 8, none⟩ = some (.int .i64 q.p.idle) from (Blk.of HQ.out (HYr.out.block _ HQ.out.lt)).cell 8)
          have p9 := cellX (W0 := x1) (show x1.cell? ⟨w.heap.size, 9, none⟩ = some (.slice (some ad) gn gc) from (Blk.of HB'.out (HYr.out.block _ HB'.out.lt)).cell 9)
          have m9 := cellX (W0 := x1) (HM0.out _ HYr.out)
          refine wpAnyH_seg (by kernel_rfl) (fun _ _ _ h => h) [12, 13, 14, 15, 16, 17, 18, 19, 20, 21, 22, 23, 24, 25, 26, 27, 28, 29] 0 _ _ _ (Ext.refl _) (by kernel_rfl) ?_
          simp only [opsAt, List.getElem?_toArray, List.getElem?_cons_zero, List.getElem?_cons_succ, List.cons_append, List.nil_append]
          repeat (go_big_quiet_step (fail))
          refine wpQuiet_nil ?_
          clear nA u0 u1 u2 u3 u4 u5 u6 u7 u8 p9 m9
          refine wpAnyH_done (by kernel_rfl) (NoPanic.normal ?_) 0
          have HYZ : Hid (Below w.heap.size w x1) := ext_trans HY'.out HYr.out
          have HBZ : Hid (Blk x1 w.heap.size #[.int .i64 1, .int .u64 num, .int .i64 node, .string key, .bool true, .string old, .int .u64 prev, .slice na 0 nc, .slice ra 0 rc, .slice (some ad) gn gc, .slice oa 0 oc, .slice da 0 dc] 31) := Blk.of HB'.out (HYr.out.block _ HB'.out.lt)
          go_wp2
          go_roundw
          case rel => exact ⟨k + 1, by go_num, by omega, HYZ.out, HBZ.out, HST.out HR1.out (HSM.out (by unfold chgLt ltI; exact decide_eq_true (by omega)))⟩
          case measure => simp [intOf]; omega
      · have FG : Hid (∀ j (hj : j < gs.length), chgOk gs[j] = true ∧ ∀ m (hm : m < gs.length), j = m + 1 → chgLt gs[m] gs[j] = true) := fun j hj => HA.out j hj (by have h1 := HG.out.len.1; omega)
        clear hk HA
        rename World => wa
        have z0 : wa.cell? ⟨w.heap.size, 0, none⟩ = some (.int .i64 1) := HB.out.cell 0
        have z1 : wa.cell? ⟨w.heap.size, 1, none⟩ = some (.int .u64 num) := HB.out.cell 1
        have z2 : wa.cell? ⟨w.heap.size, 2, none⟩ = some (.int .i64 node) := HB.out.cell 2
        have z3 : wa.cell? ⟨w.heap.size, 3, none⟩ = some (.string key) := HB.out.cell 3
        have z4 : wa.cell? ⟨w.heap.size, 4, none⟩ = some (.bool true) := HB.out.cell 4
        have z5 : wa.cell? ⟨w.heap.size, 5, none⟩ = some (.string old) := HB.out.cell 5
        have z6 : wa.cell? ⟨w.heap.size, 6, none⟩ = some (.int .u64 prev) := HB.out.cell 6
        have z7 : wa.cell? ⟨w.heap.size, 7, none⟩ = some (.slice na 0 nc) := HB.out.cell 7
        have z8 : wa.cell? ⟨w.heap.size, 8, none⟩ = some (.slice ra 0 rc) := HB.out.cell 8
        have z9 : wa.cell? ⟨w.heap.size, 9, none⟩ = some (.slice ga gn gc) := HB.out.cell 9
        have z10 : wa.cell? ⟨w.heap.size, 10, none⟩ = some (.slice oa 0 oc) := HB.out.cell 10
        have z11 : wa.cell? ⟨w.heap.size, 11, none⟩ = some (.slice da 0 dc) := HB.out.cell 11
        go_wp2
        clear z0 z1 z2 z3 z4 z5 z6 z7 z8 z9 z10 z11
        go_loopw [194] (fun i wr => i = .int .i64 0 ∧ Below w.heap.size w wr ∧ Blk wr w.heap.size #[.int .i64 1, .int .u64 num, .int .i64 node, .string key, .bool true, .string old, .int .u64 prev, .slice na 0 nc, .slice ra 0 rc, .slice ga gn gc, .slice oa 0 oc, .slice da 0 dc] 31) (fun _ _ => 0)
        case atStart => exact ⟨rfl, HY.out, HB.out⟩
        case round =>
          obtain ⟨rfl, hy, hb⟩ := hrel
          clear HY HB
          have HY : Hid (Below w.heap.size w wr) := hy
          have HB : Hid (Blk wr w.heap.size #[.int .i64 1, .int .u64 num, .int .i64 node, .string key, .bool true, .string old, .int .u64 prev, .slice na 0 nc, .slice ra 0 rc, .slice ga gn gc, .slice oa 0 oc, .slice da 0 dc] 31) := hb
          clear hy hb
          rename World => wb
          have z0 : wb.cell? ⟨w.heap.size, 0, none⟩ = some (.int .i64 1) := HB.out.cell 0
          have z1 : wb.cell? ⟨w.heap.size, 1, none⟩ = some (.int .u64 num) := HB.out.cell 1
          have z2 : wb.cell? ⟨w.heap.size, 2, none⟩ = some (.int .i64 node) := HB.out.cell 2
          have z3 : wb.cell? ⟨w.heap.size, 3, none⟩ = some (.string key) := HB.out.cell 3
          have z4 : wb.cell? ⟨w.heap.size, 4, none⟩ = some (.bool true) := HB.out.cell 4
          have z5 : wb.cell? ⟨w.heap.size, 5, none⟩ = some (.string old) := HB.out.cell 5
          have z6 : wb.cell? ⟨w.heap.size, 6, none⟩ = some (.int .u64 prev) := HB.out.cell 6
          have z7 : wb.cell? ⟨w.heap.size, 7, none⟩ = some (.slice na 0 nc) := HB.out.cell 7
          have z8 : wb.cell? ⟨w.heap.size, 8, none⟩ = some (.slice ra 0 rc) := HB.out.cell 8
          have z9 : wb.cell? ⟨w.heap.size, 9, none⟩ = some (.slice ga gn gc) := HB.out.cell 9
          have z10 : wb.cell? ⟨w.heap.size, 10, none⟩ = some (.slice oa 0 oc) := HB.out.cell 10
          have z11 : wb.cell? ⟨w.heap.size, 11, none⟩ = some (.slice da 0 dc) := HB.out.cell 11
          go_wp2
          clear z0 z1 z2 z3 z4 z5 z6 z7 z8 z9 z10 z11
          go_loopw [250] (fun i wr => i = .int .i64 0 ∧ Below w.heap.size w wr ∧ Blk wr w.heap.size #[.int .i64 1, .int .u64 num, .int .i64 node, .string key, .bool true, .string old, .int .u64 prev, .slice na 0 nc, .slice ra 0 rc, .slice ga gn gc, .slice oa 0 oc, .slice da 0 dc] 31) (fun _ _ => 0)
          case atStart => exact ⟨rfl, HY.out, HB.out⟩
          case round =>
            obtain ⟨rfl, hy, hb⟩ := hrel
            clear HY HB
            have HY : Hid (Below w.heap.size w wr) := hy
            have HB : Hid (Blk wr w.heap.size #[.int .i64 1, .int .u64 num, .int .i64 node, .string key, .bool true, .string old, .int .u64 prev, .slice na 0 nc, .slice ra 0 rc, .slice ga gn gc, .slice oa 0 oc, .slice da 0 dc] 31) := hb
            clear hy hb
            rename World => wc
            have HPA : Hid (Parts (RecV.mk 1 num node key true old prev na 0 nc ns ra 0 rc rs ga gn gc gs oa 0 oc os da 0 dc ds)) := ⟨T1.out, fits_iff.2 ⟨show gs.length ≤ 30 by have h3 := LN.out; omega, FG.out⟩, fits0 (show os.length = 0 by have h3 := LN.out; omega), fits0 (show ds.length = 0 by have h3 := LN.out; omega), T3.out, T2.out, fun _ => nil0 (show rs.length = 0 by have h3 := LN.out; omega), fun _ => nil0 (show ns.length = 0 by have h3 := LN.out; omega), fun _ => ⟨nil0 (show os.length = 0 by have h3 := LN.out; omega), nil0 (show ds.length = 0 by have h3 := LN.out; omega)⟩, fun h _ => absurd rfl h, fun h => absurd rfl h, fun _ => ⟨⟨show 1 ≤ key.size by omega, show key.size ≤ 24 by omega⟩, show old.size ≤ 48 by omega, .inl rfl⟩, (show prev ≤ 4611686018427387904 by omega), fun (h : (1 : Int) = 8) => absurd h (by decide)⟩
            go_wp2
            go_ret
            exact ⟨ret_bool (HYS.out HPA.out).symm, HY.out⟩
  by_cases q13 : 0 < old.size
  case pos =>
    go_wp2
    go_ret
    exact ⟨ret_bool (rno HN.out fun h => by have h1 := (h.p1 rfl).2.2; rcases h1 with h1 | h1; cases h1; have h2 : old.size = 0 := h1; omega).symm, HY.out⟩
  by_cases q9 : 0 < nn
  case pos =>
    go_wp2
    go_ret
    exact ⟨ret_bool (rno HN.out fun h => by have h1 : ns = [] := h.n6 (show ¬ (1 : Int) = 6 by decide); have h2 := len0 h1; have h3 := LN.out; omega).symm, HY.out⟩
  obtain rfl : nn = 0 := by omega
  by_cases q10 : 0 < rn
  case pos =>
    go_wp2
    go_ret
    exact ⟨ret_bool (rno HN.out fun h => by have h1 : rs = [] := h.n3 (show ¬ (1 : Int) = 3 by decide); have h2 := len0 h1; have h3 := LN.out; omega).symm, HY.out⟩
  obtain rfl : rn = 0 := by omega
  by_cases q11 : 0 < om
  case pos =>
    go_wp2
    go_ret
    exact ⟨ret_bool (rno HN.out fun h => by have h1 : os = [] := (h.n8 (show ¬ (1 : Int) = 8 by decide)).1; have h2 := len0 h1; have h3 := LN.out; omega).symm, HY.out⟩
  obtain rfl : om = 0 := by omega
  by_cases q12 : 0 < dn
  case pos =>
    go_wp2
    go_ret
    exact ⟨ret_bool (rno HN.out fun h => by have h1 : ds = [] := (h.n8 (show ¬ (1 : Int) = 8 by decide)).2; have h2 := len0 h1; have h3 := LN.out; omega).symm, HY.out⟩
  obtain rfl : dn = 0 := by omega
  go_wp2
  clear z0 z1 z2 z3 z4 z5 z6 z7 z8 z9 z10 z11
  go_loopw [155] (fun i wr => ∃ k : Nat, i = .int .i64 (k : Int) ∧ k ≤ gn ∧ Below w.heap.size w wr ∧ Blk wr w.heap.size #[.int .i64 1, .int .u64 num, .int .i64 node, .string key, .bool false, .string old, .int .u64 prev, .slice na 0 nc, .slice ra 0 rc, .slice ga gn gc, .slice oa 0 oc, .slice da 0 dc] 31 ∧ ∀ j (hj : j < gs.length), j < k → chgOk gs[j] = true ∧ ∀ m (hm : m < gs.length), j = m + 1 → chgLt gs[m] gs[j] = true) (fun i _ => gn - (intOf i).toNat)
  case atStart => exact ⟨0, rfl, Nat.zero_le _, HY.out, HB.out, fun j _ h => absurd h (Nat.not_lt_zero _)⟩
  case round =>
    obtain ⟨k, rfl, hk, hy, hb, ha⟩ := hrel
    clear HY HB
    have HY : Hid (Below w.heap.size w wr) := hy
    have HB : Hid (Blk wr w.heap.size #[.int .i64 1, .int .u64 num, .int .i64 node, .string key, .bool false, .string old, .int .u64 prev, .slice na 0 nc, .slice ra 0 rc, .slice ga gn gc, .slice oa 0 oc, .slice da 0 dc] 31) := hb
    have HA : Hid (∀ j (hj : j < gs.length), j < k → chgOk gs[j] = true ∧ ∀ m (hm : m < gs.length), j = m + 1 → chgLt gs[m] gs[j] = true) := ha
    clear hy hb ha
    by_cases hlt : k < gn
    · have hkl : k < gs.length := by rw [← HG.out.len.1]; exact hlt
      have hi2 : (k : Int) < (gn : Int) := by omega
      obtain ⟨ad, had⟩ := RowsN.adr HG.out (by omega)
      subst had
      have HH : Hid (RowsN wr 9 _ (.slice (some ad) _ _) gs) := HG.out.below HY.out
      have e0 : wr.cell? (ad.add (k * 9)) = some _ := HH.out.at0 hkl rfl
      have e1 : wr.cell? ⟨(ad.add (k * 9)).block, (ad.add (k * 9)).off + 1, none⟩ = some _ := HH.out.atS hkl 0 rfl
      have e2 : wr.cell? ⟨(ad.add (k * 9)).block, (ad.add (k * 9)).off + 2, none⟩ = some _ := HH.out.atS hkl 1 rfl
      have e3 : wr.cell? ⟨(ad.add (k * 9)).block, (ad.add (k * 9)).off + 3, none⟩ = some _ := HH.out.atS hkl 2 rfl
      have e4 : wr.cell? ⟨(ad.add (k * 9)).block, (ad.add (k * 9)).off + 4, none⟩ = some _ := HH.out.atS hkl 3 rfl
      have e5 : wr.cell? ⟨(ad.add (k * 9)).block, (ad.add (k * 9)).off + 5, none⟩ = some _ := HH.out.atS hkl 4 rfl
      have e6 : wr.cell? ⟨(ad.add (k * 9)).block, (ad.add (k * 9)).off + 6, none⟩ = some _ := HH.out.atS hkl 5 rfl
      have e7 : wr.cell? ⟨(ad.add (k * 9)).block, (ad.add (k * 9)).off + 7, none⟩ = some _ := HH.out.atS hkl 6 rfl
      have e8 : wr.cell? ⟨(ad.add (k * 9)).block, (ad.add (k * 9)).off + 8, none⟩ = some _ := HH.out.atS hkl 7 rfl
      have HNO : Hid (chgOk gs[k] = false → R = false) := fun e => rno HN.out fun h => by
        have h2 : chgOk gs[k] = true := ((fits_iff.1 h.gs).2 k hkl).1
        rw [e] at h2
        cases h2
      have HNO2 : Hid (∀ m (hm : m < gs.length), k = m + 1 → chgLt gs[m] gs[k] = false → R = false) := fun m hm e0 e => rno HN.out fun h => by
        have h2 : chgLt gs[m] gs[k] = true := ((fits_iff.1 h.gs).2 k hkl).2 m hm e0
        rw [e] at h2
        cases h2
      have HST : Hid (chgOk gs[k] = true → (∀ m (hm : m < gs.length), k = m + 1 → chgLt gs[m] gs[k] = true) → ∀ j (hj : j < gs.length), j < k + 1 → chgOk gs[j] = true ∧ ∀ m (hm : m < gs.length), j = m + 1 → chgLt gs[m] gs[j] = true) := fun h1 h2 j hj hjk => by
        by_cases e : j = k
        · subst e; exact ⟨h1, h2⟩
        · exact HA.out j hj (by omega)
      have HQA : Hid (gs[k].At w) := HGA.out _ (List.getElem_mem hkl)
      clear HA
      generalize gs[k] = q at *
      have HY' : Hid (Below w.heap.size w (wr.alloc (.cells #[.int .i64 q.n, .int .i64 q.p.kind, .slice q.ka q.kn q.kc, .slice q.va q.vn q.vc, .slice q.da q.dn q.dc, .int .i64 q.p.root, .int .i64 q.p.next, .int .i64 q.p.size, .int .i64 q.p.idle] 49))) := HY.out.alloc HY.out.size _
      have HB' : Hid (Blk (wr.alloc (.cells #[.int .i64 q.n, .int .i64 q.p.kind, .slice q.ka q.kn q.kc, .slice q.va q.vn q.vc, .slice q.da q.dn q.dc, .int .i64 q.p.root, .int .i64 q.p.next, .int .i64 q.p.size, .int .i64 q.p.idle] 49)) w.heap.size #[.int .i64 1, .int .u64 num, .int .i64 node, .string key, .bool false, .string old, .int .u64 prev, .slice na 0 nc, .slice ra 0 rc, .slice (some ad) gn gc, .slice oa 0 oc, .slice da 0 dc] 31) := HB.out.alloc _
      have HQ : Hid (Blk (wr.alloc (.cells #[.int .i64 q.n, .int .i64 q.p.kind, .slice q.ka q.kn q.kc, .slice q.va q.vn q.vc, .slice q.da q.dn q.dc, .int .i64 q.p.root, .int .i64 q.p.next, .int .i64 q.p.size, .int .i64 q.p.idle] 49)) wr.heap.size #[.int .i64 q.n, .int .i64 q.p.kind, .slice q.ka q.kn q.kc, .slice q.va q.vn q.vc, .slice q.da q.dn q.dc, .int .i64 q.p.root, .int .i64 q.p.next, .int .i64 q.p.size, .int .i64 q.p.idle] 49) := Blk.new _ _ _
      have HH' : Hid (RowsN (wr.alloc (.cells #[.int .i64 q.n, .int .i64 q.p.kind, .slice q.ka q.kn q.kc, .slice q.va q.vn q.vc, .slice q.da q.dn q.dc, .int .i64 q.p.root, .int .i64 q.p.next, .int .i64 q.p.size, .int .i64 q.p.idle] 49)) 9 _ (.slice (some ad) _ _) gs) := HH.out.below (below_allocR _)
      go_upto_region 13 with fail
      clear e0 e1 e2 e3 e4 e5 e6 e7 e8 HH HY HB
      generalize (wr.alloc (.cells #[.int .i64 q.n, .int .i64 q.p.kind, .slice q.ka q.kn q.kc, .slice q.va q.vn q.vc, .slice q.da q.dn q.dc, .int .i64 q.p.root, .int .i64 q.p.next, .int .i64 q.p.size, .int .i64 q.p.idle] 49)) = y0 at *
      obtain ⟨b, hbb⟩ : ∃ b, wr.heap.size = b := ⟨_, rfl⟩
      rw [hbb] at HQ ⊢
      clear hbb
      by_cases f0 : q.n < 0
      case pos =>
        have df0 : decide (q.n < 0) = true := decide_eq_true f0
        refine wp_region_ext (by kernel_rfl) ?_
        haveI nA := cls_ext y0.drew
        have u0 := cellX (W0 := y0.drew) (show y0.drew.cell? ⟨b, 0, none⟩ = some (.int .i64 q.n) from (Blk.of HQ.out ((Below.drew (Below.refl _ y0)).block _ HQ.out.lt)).cell 0)
        have u1 := cellX (W0 := y0.drew) (show y0.drew.cell? ⟨b, 1, none⟩ = some (.int .i64 q.p.kind) from (Blk.of HQ.out ((Below.drew (Below.refl _ y0)).block _ HQ.out.lt)).cell 1)
        have u2 := cellX (W0 := y0.drew) (show y0.drew.cell? ⟨b, 2, none⟩ = some (.slice q.ka q.kn q.kc) from (Blk.of HQ.out ((Below.drew (Below.refl _ y0)).block _ HQ.out.lt)).cell 2)
        have u3 := cellX (W0 := y0.drew) (show y0.drew.cell? ⟨b, 3, none⟩ = some (.slice q.va q.vn q.vc) from (Blk.of HQ.out ((Below.drew (Below.refl _ y0)).block _ HQ.out.lt)).cell 3)
        have u4 := cellX (W0 := y0.drew) (show y0.drew.cell? ⟨b, 4, none⟩ = some (.slice q.da q.dn q.dc) from (Blk.of HQ.out ((Below.drew (Below.refl _ y0)).block _ HQ.out.lt)).cell 4)
        have u5 := cellX (W0 := y0.drew) (show y0.drew.cell? ⟨b, 5, none⟩ = some (.int .i64 q.p.root) from (Blk.of HQ.out ((Below.drew (Below.refl _ y0)).block _ HQ.out.lt)).cell 5)
        have u6 := cellX (W0 := y0.drew) (show y0.drew.cell? ⟨b, 6, none⟩ = some (.int .i64 q.p.next) from (Blk.of HQ.out ((Below.drew (Below.refl _ y0)).block _ HQ.out.lt)).cell 6)
        have u7 := cellX (W0 := y0.drew) (show y0.drew.cell? ⟨b, 7, none⟩ = some (.int .i64 q.p.size) from (Blk.of HQ.out ((Below.drew (Below.refl _ y0)).block _ HQ.out.lt)).cell 7)
        have u8 := cellX (W0 := y0.drew) (show y0.drew.cell? ⟨b, 8, none⟩ = some (.int .i64 q.p.idle) from (Blk.of HQ.out ((Below.drew (Below.refl _ y0)).block _ HQ.out.lt)).cell 8)
        have HYr : Hid (Below y0.heap.size y0 y0.drew) := Below.drew (Below.refl _ _)
        refine wpAnyH_seg (by kernel_rfl) (fun _ _ _ h => h) [0, 1, 2, 3, 4, 5, 6, 7, 8, 9, 10] 19 _ _ _ (Ext.refl _) (by kernel_rfl) ?_
        simp only [opsAt, List.getElem?_toArray, List.getElem?_cons_zero, List.getElem?_cons_succ, List.cons_append, List.nil_append]
        repeat (go_big_quiet_step (fail))
        refine wpQuiet_nil ?_
        refine wpAnyH_all (rs := [11]) (fuel := 18) (by kernel_rfl) (by simp) fun j0 hj0 => ?_
        obtain rfl : j0 = 11 := by simpa using hj0
        clear hj0
        refine wpOp_skip 171 rfl (by kernel_rfl) rfl ?_
        refine ⟨Ext.refl _, ?_⟩
        simp only [Act.put, List.setIfInBounds_toArray, List.set_cons_succ, List.set_cons_zero]
        refine wpAnyH_seg (by kernel_rfl) (fun _ _ _ h => h) [12, 13, 14, 15, 16, 17, 18, 19, 20, 21, 22, 23, 24, 25, 26, 27, 28, 29] 0 _ _ _ (Ext.refl _) (by kernel_rfl) ?_
        simp only [opsAt, List.getElem?_toArray, List.getElem?_cons_zero, List.getElem?_cons_succ, List.cons_append, List.nil_append]
        repeat (go_big_quiet_step (fail))
        refine wpQuiet_nil ?_
        clear nA u0 u1 u2 u3 u4 u5 u6 u7 u8
        refine wpAnyH_done (by kernel_rfl) (NoPanic.normal ?_) 0
        have HYZ : Hid (Below w.heap.size w y0.drew) := ext_trans HY'.out HYr.out
        go_wp2
        go_ret
        exact ⟨ret_bool (HNO.out (chg_no (.inl f0))).symm, HYZ.out⟩
      have df0 : decide (q.n < 0) = false := decide_eq_false f0
      by_cases f1 : 65535 < q.n
      case pos =>
        have df1 : decide (65535 < q.n) = true := decide_eq_true f1
        refine wp_region_ext (by kernel_rfl) ?_
        haveI nA := cls_ext y0.drew
        have u0 := cellX (W0 := y0.drew) (show y0.drew.cell? ⟨b, 0, none⟩ = some (.int .i64 q.n) from (Blk.of HQ.out ((Below.drew (Below.refl _ y0)).block _ HQ.out.lt)).cell 0)
        have u1 := cellX (W0 := y0.drew) (show y0.drew.cell? ⟨b, 1, none⟩ = some (.int .i64 q.p.kind) from (Blk.of HQ.out ((Below.drew (Below.refl _ y0)).block _ HQ.out.lt)).cell 1)
        have u2 := cellX (W0 := y0.drew) (show y0.drew.cell? ⟨b, 2, none⟩ = some (.slice q.ka q.kn q.kc) from (Blk.of HQ.out ((Below.drew (Below.refl _ y0)).block _ HQ.out.lt)).cell 2)
        have u3 := cellX (W0 := y0.drew) (show y0.drew.cell? ⟨b, 3, none⟩ = some (.slice q.va q.vn q.vc) from (Blk.of HQ.out ((Below.drew (Below.refl _ y0)).block _ HQ.out.lt)).cell 3)
        have u4 := cellX (W0 := y0.drew) (show y0.drew.cell? ⟨b, 4, none⟩ = some (.slice q.da q.dn q.dc) from (Blk.of HQ.out ((Below.drew (Below.refl _ y0)).block _ HQ.out.lt)).cell 4)
        have u5 := cellX (W0 := y0.drew) (show y0.drew.cell? ⟨b, 5, none⟩ = some (.int .i64 q.p.root) from (Blk.of HQ.out ((Below.drew (Below.refl _ y0)).block _ HQ.out.lt)).cell 5)
        have u6 := cellX (W0 := y0.drew) (show y0.drew.cell? ⟨b, 6, none⟩ = some (.int .i64 q.p.next) from (Blk.of HQ.out ((Below.drew (Below.refl _ y0)).block _ HQ.out.lt)).cell 6)
        have u7 := cellX (W0 := y0.drew) (show y0.drew.cell? ⟨b, 7, none⟩ = some (.int .i64 q.p.size) from (Blk.of HQ.out ((Below.drew (Below.refl _ y0)).block _ HQ.out.lt)).cell 7)
        have u8 := cellX (W0 := y0.drew) (show y0.drew.cell? ⟨b, 8, none⟩ = some (.int .i64 q.p.idle) from (Blk.of HQ.out ((Below.drew (Below.refl _ y0)).block _ HQ.out.lt)).cell 8)
        have HYr : Hid (Below y0.heap.size y0 y0.drew) := Below.drew (Below.refl _ _)
        refine wpAnyH_seg (by kernel_rfl) (fun _ _ _ h => h) [0, 1, 2, 3, 4, 5, 6, 7, 8, 9, 10] 19 _ _ _ (Ext.refl _) (by kernel_rfl) ?_
        simp only [opsAt, List.getElem?_toArray, List.getElem?_cons_zero, List.getElem?_cons_succ, List.cons_append, List.nil_append]
        repeat (go_big_quiet_step (fail))
        refine wpQuiet_nil ?_
        refine wpAnyH_all (rs := [11]) (fuel := 18) (by kernel_rfl) (by simp) fun j0 hj0 => ?_
        obtain rfl : j0 = 11 := by simpa using hj0
        clear hj0
        refine wpOp_skip 171 rfl (by kernel_rfl) rfl ?_
        refine ⟨Ext.refl _, ?_⟩
        simp only [Act.put, List.setIfInBounds_toArray, List.set_cons_succ, List.set_cons_zero]
        refine wpAnyH_seg (by kernel_rfl) (fun _ _ _ h => h) [12, 13, 14, 15, 16, 17, 18, 19, 20, 21, 22, 23, 24, 25, 26, 27, 28, 29] 0 _ _ _ (Ext.refl _) (by kernel_rfl) ?_
        simp only [opsAt, List.getElem?_toArray, List.getElem?_cons_zero, List.getElem?_cons_succ, List.cons_append, List.nil_append]
        repeat (go_big_quiet_step (fail))
        refine wpQuiet_nil ?_
        clear nA u0 u1 u2 u3 u4 u5 u6 u7 u8
        refine wpAnyH_done (by kernel_rfl) (NoPanic.normal ?_) 0
        have HYZ : Hid (Below w.heap.size w y0.drew) := ext_trans HY'.out HYr.out
        go_wp2
        go_ret
        exact ⟨ret_bool (HNO.out (chg_no (.inr (.inl f1)))).symm, HYZ.out⟩
      have df1 : decide (65535 < q.n) = false := decide_eq_false f1
      cases f2 : rightPg q.p
      case false =>
        have HPR : Hid (rightPg q.p = false) := f2
        clear f2
        refine wp_region_ext (by kernel_rfl) ?_
        haveI nA := cls_ext y0.drew
        have u0 := cellX (W0 := y0.drew) (show y0.drew.cell? ⟨b, 0, none⟩ = some (.int .i64 q.n) from (Blk.of HQ.out ((Below.drew (Below.refl _ y0)).block _ HQ.out.lt)).cell 0)
        have u1 := cellX (W0 := y0.drew) (show y0.drew.cell? ⟨b, 1, none⟩ = some (.int .i64 q.p.kind) from (Blk.of HQ.out ((Below.drew (Below.refl _ y0)).block _ HQ.out.lt)).cell 1)
        have u2 := cellX (W0 := y0.drew) (show y0.drew.cell? ⟨b, 2, none⟩ = some (.slice q.ka q.kn q.kc) from (Blk.of HQ.out ((Below.drew (Below.refl _ y0)).block _ HQ.out.lt)).cell 2)
        have u3 := cellX (W0 := y0.drew) (show y0.drew.cell? ⟨b, 3, none⟩ = some (.slice q.va q.vn q.vc) from (Blk.of HQ.out ((Below.drew (Below.refl _ y0)).block _ HQ.out.lt)).cell 3)
        have u4 := cellX (W0 := y0.drew) (show y0.drew.cell? ⟨b, 4, none⟩ = some (.slice q.da q.dn q.dc) from (Blk.of HQ.out ((Below.drew (Below.refl _ y0)).block _ HQ.out.lt)).cell 4)
        have u5 := cellX (W0 := y0.drew) (show y0.drew.cell? ⟨b, 5, none⟩ = some (.int .i64 q.p.root) from (Blk.of HQ.out ((Below.drew (Below.refl _ y0)).block _ HQ.out.lt)).cell 5)
        have u6 := cellX (W0 := y0.drew) (show y0.drew.cell? ⟨b, 6, none⟩ = some (.int .i64 q.p.next) from (Blk.of HQ.out ((Below.drew (Below.refl _ y0)).block _ HQ.out.lt)).cell 6)
        have u7 := cellX (W0 := y0.drew) (show y0.drew.cell? ⟨b, 7, none⟩ = some (.int .i64 q.p.size) from (Blk.of HQ.out ((Below.drew (Below.refl _ y0)).block _ HQ.out.lt)).cell 7)
        have u8 := cellX (W0 := y0.drew) (show y0.drew.cell? ⟨b, 8, none⟩ = some (.int .i64 q.p.idle) from (Blk.of HQ.out ((Below.drew (Below.refl _ y0)).block _ HQ.out.lt)).cell 8)
        have HYr : Hid (Below y0.heap.size y0 y0.drew) := Below.drew (Below.refl _ _)
        refine wpAnyH_seg (by kernel_rfl) (fun _ _ _ h => h) [0, 1, 2, 3, 4, 5, 6, 7, 8, 9, 10] 19 _ _ _ (Ext.refl _) (by kernel_rfl) ?_
        simp only [opsAt, List.getElem?_toArray, List.getElem?_cons_zero, List.getElem?_cons_succ, List.cons_append, List.nil_append]
        repeat (go_big_quiet_step (fail))
        refine wpQuiet_nil ?_
        clear nA u0 u1 u2 u3 u4 u5 u6 u7 u8
        refine wpAnyH_callE (i := 11) (fuel := 18) 171 rfl (by kernel_rfl) rfl (Ext.refl _) (by kernel_rfl) (f := 25) (args := #[.agg #[.int .i64 q.p.kind, .slice q.ka q.kn q.kc, .slice q.va q.vn q.vc, .slice q.da q.dn q.dc, .int .i64 q.p.root, .int .i64 q.p.next, .int .i64 q.p.size, .int .i64 q.p.idle]]) (by kernel_rfl) (page_is q.p _ _ _ false y0.drew (((HQA.out.below HY'.out).below HYr.out).rd) HQA.out.ok HPR.out) ?_
        rintro e x1 ⟨rfl, y⟩
        refine ⟨_, rfl, y, ?_⟩
        have HYr' : Hid (Below y0.heap.size y0 x1) := ext_trans HYr.out y
        clear HYr y
        have HYr := HYr'
        clear HYr'
        simp only [Act.put, List.setIfInBounds_toArray, List.set_cons_succ, List.set_cons_zero]
        haveI nA := cls_ext x1
        have u0 := cellX (W0 := x1) (show x1.cell? ⟨b, 0, none⟩ = some (.int .i64 q.n) from (Blk.of HQ.out (HYr.out.block _ HQ.out.lt)).cell 0)
        have u1 := cellX (W0 := x1) (show x1.cell? ⟨b, 1, none⟩ = some (.int .i64 q.p.kind) from (Blk.of HQ.out (HYr.out.block _ HQ.out.lt)).cell 1)
        have u2 := cellX (W0 := x1) (show x1.cell? ⟨b, 2, none⟩ = some (.slice q.ka q.kn q.kc) from (Blk.of HQ.out (HYr.out.block _ HQ.out.lt)).cell 2)
        have u3 := cellX (W0 := x1) (show x1.cell? ⟨b, 3, none⟩ = some (.slice q.va q.vn q.vc) from (Blk.of HQ.out (HYr.out.block _ HQ.out.lt)).cell 3)
        have u4 := cellX (W0 := x1) (show x1.cell? ⟨b, 4, none⟩ = some (.slice q.da q.dn q.dc) from (Blk.of HQ.out (HYr.out.block _ HQ.out.lt)).cell 4)
        have u5 := cellX (W0 := x1) (show x1.cell? ⟨b, 5, none⟩ = some (.int .i64 q.p.root) from (Blk.of HQ.out (HYr.out.block _ HQ.out.lt)).cell 5)
        have u6 := cellX (W0 := x1) (show x1.cell? ⟨b, 6, none⟩ = some (.int .i64 q.p.next) from (Blk.of HQ.out (HYr.out.block _ HQ.out.lt)).cell 6)
        have u7 := cellX (W0 := x1) (show x1.cell? ⟨b, 7, none⟩ = some (.int .i64 q.p.size) from (Blk.of HQ.out (HYr.out.block _ HQ.out.lt)).cell 7)
        have u8 := cellX (W0 := x1) (show x1.cell? ⟨b, 8, none⟩ = some (.int .i64 q.p.idle) from (Blk.of HQ.out (HYr.out.block _ HQ.out.lt)).cell 8)
        refine wpAnyH_seg (by kernel_rfl) (fun _ _ _ h => h) [12, 13, 14, 15, 16, 17, 18, 19, 20, 21, 22, 23, 24, 25, 26, 27, 28, 29] 0 _ _ _ (Ext.refl _) (by kernel_rfl) ?_
        simp only [opsAt, List.getElem?_toArray, List.getElem?_cons_zero, List.getElem?_cons_succ, List.cons_append, List.nil_append]
        repeat (go_big_quiet_step (fail))
        refine wpQuiet_nil ?_
        clear nA u0 u1 u2 u3 u4 u5 u6 u7 u8
        refine wpAnyH_done (by kernel_rfl) (NoPanic.normal ?_) 0
        have HYZ : Hid (Below w.heap.size w x1) := ext_trans HY'.out HYr.out
        go_wp2
        go_ret
        exact ⟨ret_bool (HNO.out (chg_no (.inr (.inr HPR.out)))).symm, HYZ.out⟩
      have HPR : Hid (rightPg q.p = true) := f2
      clear f2
      have HR1 : Hid (chgOk q = true) := chg_yes f0 f1 HPR.out
      rcases (show k = 0 ∨ ∃ m, k = m + 1 from by cases k; exact .inl rfl; exact .inr ⟨_, rfl⟩) with hk0 | ⟨m, hm⟩
      · have hk1 : ¬ 0 < k := by omega
        have hk2 : ¬ (0 : Int) < (k : Int) := by omega
        have hk5 : decide ((0 : Int) < (k : Int)) = false := decide_eq_false hk2
        have HNM : Hid (∀ m, ¬ k = m + 1) := fun m => by omega
        clear HH' hk0
        refine wp_region_ext (by kernel_rfl) ?_
        haveI nA := cls_ext y0.drew
        have u0 := cellX (W0 := y0.drew) (show y0.drew.cell? ⟨b, 0, none⟩ = some (.int .i64 q.n) from (Blk.of HQ.out ((Below.drew (Below.refl _ y0)).block _ HQ.out.lt)).cell 0)
        have u1 := cellX (W0 := y0.drew) (show y0.drew.cell? ⟨b, 1, none⟩ = some (.int .i64 q.p.kind) from (Blk.of HQ.out ((Below.drew (Below.refl _ y0)).block _ HQ.out.lt)).cell 1)
        have u2 := cellX (W0 := y0.drew) (show y0.drew.cell? ⟨b, 2, none⟩ = some (.slice q.ka q.kn q.kc) from (Blk.of HQ.out ((Below.drew (Below.refl _ y0)).block _ HQ.out.lt)).cell 2)
        have u3 := cellX (W0 := y0.drew) (show y0.drew.cell? ⟨b, 3, none⟩ = some (.slice q.va q.vn q.vc) from (Blk.of HQ.out ((Below.drew (Below.refl _ y0)).block _ HQ.out.lt)).cell 3)
        have u4 := cellX (W0 := y0.drew) (show y0.drew.cell? ⟨b, 4, none⟩ = some (.slice q.da q.dn q.dc) from (Blk.of HQ.out ((Below.drew (Below.refl _ y0)).block _ HQ.out.lt)).cell 4)
        have u5 := cellX (W0 := y0.drew) (show y0.drew.cell? ⟨b, 5, none⟩ = some (.int .i64 q.p.root) from (Blk.of HQ.out ((Below.drew (Below.refl _ y0)).block _ HQ.out.lt)).cell 5)
        have u6 := cellX (W0 := y0.drew) (show y0.drew.cell? ⟨b, 6, none⟩ = some (.int .i64 q.p.next) from (Blk.of HQ.out ((Below.drew (Below.refl _ y0)).block _ HQ.out.lt)).cell 6)
        have u7 := cellX (W0 := y0.drew) (show y0.drew.cell? ⟨b, 7, none⟩ = some (.int .i64 q.p.size) from (Blk.of HQ.out ((Below.drew (Below.refl _ y0)).block _ HQ.out.lt)).cell 7)
        have u8 := cellX (W0 := y0.drew) (show y0.drew.cell? ⟨b, 8, none⟩ = some (.int .i64 q.p.idle) from (Blk.of HQ.out ((Below.drew (Below.refl _ y0)).block _ HQ.out.lt)).cell 8)
        have HYr : Hid (Below y0.heap.size y0 y0.drew) := Below.drew (Below.refl _ _)
        refine wpAnyH_seg (by kernel_rfl) (fun _ _ _ h => h) [0, 1, 2, 3, 4, 5, 6, 7, 8, 9, 10] 19 _ _ _ (Ext.refl _) (by kernel_rfl) ?_
        simp only [opsAt, List.getElem?_toArray, List.getElem?_cons_zero, List.getElem?_cons_succ, List.cons_append, List.nil_append]
        repeat (go_big_quiet_step (fail))
        refine wpQuiet_nil ?_
        clear nA u0 u1 u2 u3 u4 u5 u6 u7 u8
        refine wpAnyH_callE (i := 11) (fuel := 18) 171 rfl (by kernel_rfl) rfl (Ext.refl _) (by kernel_rfl) (f := 25) (args := #[.agg #[.int .i64 q.p.kind, .slice q.ka q.kn q.kc, .slice q.va q.vn q.vc, .slice q.da q.dn q.dc, .int .i64 q.p.root, .int .i64 q.p.next, .int .i64 q.p.size, .int .i64 q.p.idle]]) (by kernel_rfl) (page_is q.p _ _ _ true y0.drew (((HQA.out.below HY'.out).below HYr.out).rd) HQA.out.ok HPR.out) ?_
        rintro e x1 ⟨rfl, y⟩
        refine ⟨_, rfl, y, ?_⟩
        have HYr' : Hid (Below y0.heap.size y0 x1) := ext_trans HYr.out y
        clear HYr y
        have HYr := HYr'
        clear HYr'
        simp only [Act.put, List.setIfInBounds_toArray, List.set_cons_succ, List.set_cons_zero]
        haveI nA := cls_ext x1
        have u0 := cellX (W0 := x1) (show x1.cell? ⟨b, 0, none⟩ = some (.int .i64 q.n) from (Blk.of HQ.out (HYr.out.block _ HQ.out.lt)).cell 0)
        have u1 := cellX (W0 := x1) (show x1.cell? ⟨b, 1, none⟩ = some (.int .i64 q.p.kind) from (Blk.of HQ.out (HYr.out.block _ HQ.out.lt)).cell 1)
        have u2 := cellX (W0 := x1) (show x1.cell? ⟨b, 2, none⟩ = some (.slice q.ka q.kn q.kc) from (Blk.of HQ.out (HYr.out.block _ HQ.out.lt)).cell 2)
        have u3 := cellX (W0 := x1) (show x1.cell? ⟨b, 3, none⟩ = some (.slice q.va q.vn q.vc) from (Blk.of HQ.out (HYr.out.block _ HQ.out.lt)).cell 3)
        have u4 := cellX (W0 := x1) (show x1.cell? ⟨b, 4, none⟩ = some (.slice q.da q.dn q.dc) from (Blk.of HQ.out (HYr.out.block _ HQ.out.lt)).cell 4)
        have u5 := cellX (W0 := x1) (show x1.cell? ⟨b, 5, none⟩ = some (.int .i64 q.p.root) from (Blk.of HQ.out (HYr.out.block _ HQ.out.lt)).cell 5)
        have u6 := cellX (W0 := x1) (show x1.cell? ⟨b, 6, none⟩ = some (.int .i64 q.p.next) from (Blk.of HQ.out (HYr.out.block _ HQ.out.lt)).cell 6)
        have u7 := cellX (W0 := x1) (show x1.cell? ⟨b, 7, none⟩ = some (.int .i64 q.p.size) from (Blk.of HQ.out (HYr.out.block _ HQ.out.lt)).cell 7)
        have u8 := cellX (W0 := x1) (show x1.cell? ⟨b, 8, none⟩ = some (.int .i64 q.p.idle) from (Blk.of HQ.out (HYr.out.block _ HQ.out.lt)).cell 8)
        refine wpAnyH_seg (by kernel_rfl) (fun _ _ _ h => h) [12, 13, 14, 15, 16, 17, 18, 19, 20, 21, 22, 23, 24, 25, 26, 27, 28, 29] 0 _ _ _ (Ext.refl _) (by kernel_rfl) ?_
        simp only [opsAt, List.getElem?_toArray, List.getElem?_cons_zero, List.getElem?_cons_succ, List.cons_append, List.nil_append]
        repeat (go_big_quiet_step (fail))
        refine wpQuiet_nil ?_
        clear nA u0 u1 u2 u3 u4 u5 u6 u7 u8
        refine wpAnyH_done (by kernel_rfl) (NoPanic.normal ?_) 0
        have HYZ : Hid (Below w.heap.size w x1) := ext_trans HY'.out HYr.out
        have HBZ : Hid (Blk x1 w.heap.size #[.int .i64 1, .int .u64 num, .int .i64 node, .string key, .bool false, .string old, .int .u64 prev, .slice na 0 nc, .slice ra 0 rc, .slice (some ad) gn gc, .slice oa 0 oc, .slice da 0 dc] 31) := Blk.of HB'.out (HYr.out.block _ HB'.out.lt)
        go_wp2
        go_roundw
        case rel => exact ⟨k + 1, by go_num, by omega, HYZ.out, HBZ.out, HST.out HR1.out fun m _ e => absurd e (HNM.out m)⟩
        case measure => simp [intOf]; omega
      · have hml : m < gs.length := by omega
        have HKM : Hid (k = m + 1) := hm
        have hk1 : 0 < k := by omega
        have hk2 : (0 : Int) < (k : Int) := by omega
        have hk5 : decide ((0 : Int) < (k : Int)) = true := decide_eq_true hk2
        have hk3 : (k : Int) - 1 = (m : Int) := by omega
        have hk4 : m < gn := by omega
        have HML : Hid (m < gs.length) := hml
        have HNM : Hid (chgLt gs[m] q = false → R = false) := HNO2.out m hml hm
        have HSM : Hid (chgLt gs[m] q = true → ∀ m' (hm : m' < gs.length), k = m' + 1 → chgLt gs[m'] q = true) := fun e m' hm' e2 => by
          have e3 : m' = m := by have := HKM.out; omega
          subst e3
          exact e
        have HM0 : Hid (∀ W, Below y0.heap.size y0 W → W.cell? (ad.add (m * 9)) = some (.int .i64 gs[m].n)) := fun W hW => (HH'.out.below hW).at0 hml rfl
        clear HH' hm HKM
        generalize gs[m] = m0 at *
        clear hml
        by_cases f3 : q.n ≤ m0.n
        case pos =>
          have df3 : decide (q.n ≤ m0.n) = true := decide_eq_true f3
          refine wp_region_ext (by kernel_rfl) ?_
          haveI nA := cls_ext y0.drew
          have u0 := cellX (W0 := y0.drew) (show y0.drew.cell? ⟨b, 0, none⟩ = some (.int .i64 q.n) from (Blk.of HQ.out ((Below.drew (Below.refl _ y0)).block _ HQ.out.lt)).cell 0)
          have u1 := cellX (W0 := y0.drew) (show y0.drew.cell? ⟨b, 1, none⟩ = some (.int .i64 q.p.kind) from (Blk.of HQ.out ((Below.drew (Below.refl _ y0)).block _ HQ.out.lt)).cell 1)
          have u2 := cellX (W0 := y0.drew) (show y0.drew.cell? ⟨b, 2, none⟩ = some (.slice q.ka q.kn q.kc) from (Blk.of HQ.out ((Below.drew (Below.refl _ y0)).block _ HQ.out.lt)).cell 2)
          have u3 := cellX (W0 := y0.drew) (show y0.drew.cell? ⟨b, 3, none⟩ = some (.slice q.va q.vn q.vc) from (Blk.of HQ.out ((Below.drew (Below.refl _ y0)).block _ HQ.out.lt)).cell 3)
          have u4 := cellX (W0 := y0.drew) (show y0.drew.cell? ⟨b, 4, none⟩ = some (.slice q.da q.dn q.dc) from (Blk.of HQ.out ((Below.drew (Below.refl _ y0)).block _ HQ.out.lt)).cell 4)
          have u5 := cellX (W0 := y0.drew) (show y0.drew.cell? ⟨b, 5, none⟩ = some (.int .i64 q.p.root) from (Blk.of HQ.out ((Below.drew (Below.refl _ y0)).block _ HQ.out.lt)).cell 5)
          have u6 := cellX (W0 := y0.drew) (show y0.drew.cell? ⟨b, 6, none⟩ = some (.int .i64 q.p.next) from (Blk.of HQ.out ((Below.drew (Below.refl _ y0)).block _ HQ.out.lt)).cell 6)
          have u7 := cellX (W0 := y0.drew) (show y0.drew.cell? ⟨b, 7, none⟩ = some (.int .i64 q.p.size) from (Blk.of HQ.out ((Below.drew (Below.refl _ y0)).block _ HQ.out.lt)).cell 7)
          have u8 := cellX (W0 := y0.drew) (show y0.drew.cell? ⟨b, 8, none⟩ = some (.int .i64 q.p.idle) from (Blk.of HQ.out ((Below.drew (Below.refl _ y0)).block _ HQ.out.lt)).cell 8)
          have p9 := cellX (W0 := y0.drew) (show y0.drew.cell? ⟨w.heap.size, 9, none⟩ = some (.slice (some ad) gn gc) from (Blk.of HB'.out ((Below.drew (Below.refl _ y0)).block _ HB'.out.lt)).cell 9)
          have m9 := cellX (W0 := y0.drew) (HM0.out _ (Below.drew (Below.refl _ y0)))
          have HYr : Hid (Below y0.heap.size y0 y0.drew) := Below.drew (Below.refl _ _)
          refine wpAnyH_seg (by kernel_rfl) (fun _ _ _ h => h) [0, 1, 2, 3, 4, 5, 6, 7, 8, 9, 10] 19 _ _ _ (Ext.refl _) (by kernel_rfl) ?_
          simp only [opsAt, List.getElem?_toArray, List.getElem?_cons_zero, List.getElem?_cons_succ, List.cons_append, List.nil_append]
          repeat (go_big_quiet_step (fail))
          refine wpQuiet_nil ?_
          clear nA u0 u1 u2 u3 u4 u5 u6 u7 u8 p9 m9
          refine wpAnyH_callE (i := 11) (fuel := 18) 171 rfl (by kernel_rfl) rfl (Ext.refl _) (by kernel_rfl) (f := 25) (args := #[.agg #[.int .i64 q.p.kind, .slice q.ka q.kn q.kc, .slice q.va q.vn q.vc, .slice q.da q.dn q.dc, .int .i64 q.p.root, .int .i64 q.p.next, .int .i64 q.p.size, .int .i64 q.p.idle]]) (by kernel_rfl) (page_is q.p _ _ _ true y0.drew (((HQA.out.below HY'.out).below HYr.out).rd) HQA.out.ok HPR.out) ?_
          rintro e x1 ⟨rfl, y⟩
          refine ⟨_, rfl, y, ?_⟩
          have HYr' : Hid (Below y0.heap.size y0 x1) := ext_trans HYr.out y
          clear HYr y
          have HYr := HYr'
          clear HYr'
          simp only [Act.put, List.setIfInBounds_toArray, List.set_cons_succ, List.set_cons_zero]
          haveI nA := cls_ext x1
          have u0 := cellX (W0 := x1) (show x1.cell? ⟨b, 0, none⟩ = some (.int .i64 q.n) from (Blk.of HQ.out (HYr.out.block _ HQ.out.lt)).cell 0)
          have u1 := cellX (W0 := x1) (show x1.cell? ⟨b, 1, none⟩ = some (.int .i64 q.p.kind) from (Blk.of HQ.out (HYr.out.block _ HQ.out.lt)).cell 1)
          have u2 := cellX (W0 := x1) (show x1.cell? ⟨b, 2, none⟩ = some (.slice q.ka q.kn q.kc) from (Blk.of HQ.out (HYr.out.block _ HQ.out.lt)).cell 2)
          have u3 := cellX (W0 := x1) (show x1.cell? ⟨b, 3, none⟩ = some (.slice q.va q.vn q.vc) from (Blk.of HQ.out (HYr.out.block _ HQ.out.lt)).cell 3)
          have u4 := cellX (W0 := x1) (show x1.cell? ⟨b, 4, none⟩ = some (.slice q.da q.dn q.dc) from (Blk.of HQ.out (HYr.out.block _ HQ.out.lt)).cell 4)
          have u5 := cellX (W0 := x1) (show x1.cell? ⟨b, 5, none⟩ = some (.int .i64 q.p.root) from (Blk.of HQ.out (HYr.out.block _ HQ.out.lt)).cell 5)
          have u6 := cellX (W0 := x1) (show x1.cell? ⟨b, 6, none⟩ = some (.int .i64 q.p.next) from (Blk.of HQ.out (HYr.out.block _ HQ.out.lt)).cell 6)
          have u7 := cellX (W0 := x1) (show x1.cell? ⟨b, 7, none⟩ = some (.int .i64 q.p.size) from (Blk.of HQ.out (HYr.out.block _ HQ.out.lt)).cell 7)
          have u8 := cellX (W0 := x1) (show x1.cell? ⟨b, 8, none⟩ = some (.int .i64 q.p.idle) from (Blk.of HQ.out (HYr.out.block _ HQ.out.lt)).cell 8)
          have p9 := cellX (W0 := x1) (show x1.cell? ⟨w.heap.size, 9, none⟩ = some (.slice (some ad) gn gc) from (Blk.of HB'.out (HYr.out.block _ HB'.out.lt)).cell 9)
          have m9 := cellX (W0 := x1) (HM0.out _ HYr.out)
          refine wpAnyH_seg (by kernel_rfl) (fun _ _ _ h => h) [12, 13, 14, 15, 16, 17, 18, 19, 20, 21, 22, 23, 24, 25, 26, 27, 28, 29] 0 _ _ _ (Ext.refl _) (by kernel_rfl) ?_
          simp only [opsAt, List.getElem?_toArray, List.getElem?_cons_zero, List.getElem?_cons_succ, List.cons_append, List.nil_append]
          repeat (go_big_quiet_step (fail))
          refine wpQuiet_nil ?_
          clear nA u0 u1 u2 u3 u4 u5 u6 u7 u8 p9 m9
          refine wpAnyH_done (by kernel_rfl) (NoPanic.normal ?_) 0
          have HYZ : Hid (Below w.heap.size w x1) := ext_trans HY'.out HYr.out
          go_wp2
          go_ret
          exact ⟨ret_bool (HNM.out (by unfold chgLt ltI; exact decide_eq_false (by omega))).symm, HYZ.out⟩
        have df3 : decide (q.n ≤ m0.n) = false := decide_eq_false f3
        refine wp_region_ext (by kernel_rfl) ?_
        haveI nA := cls_ext y0.drew
        have u0 := cellX (W0 := y0.drew) (show y0.drew.cell? ⟨b, 0, none⟩ = some (.int .i64 q.n) from (Blk.of HQ.out ((Below.drew (Below.refl _ y0)).block _ HQ.out.lt)).cell 0)
        have u1 := cellX (W0 := y0.drew) (show y0.drew.cell? ⟨b, 1, none⟩ = some (.int .i64 q.p.kind) from (Blk.of HQ.out ((Below.drew (Below.refl _ y0)).block _ HQ.out.lt)).cell 1)
        have u2 := cellX (W0 := y0.drew) (show y0.drew.cell? ⟨b, 2, none⟩ = some (.slice q.ka q.kn q.kc) from (Blk.of HQ.out ((Below.drew (Below.refl _ y0)).block _ HQ.out.lt)).cell 2)
        have u3 := cellX (W0 := y0.drew) (show y0.drew.cell? ⟨b, 3, none⟩ = some (.slice q.va q.vn q.vc) from (Blk.of HQ.out ((Below.drew (Below.refl _ y0)).block _ HQ.out.lt)).cell 3)
        have u4 := cellX (W0 := y0.drew) (show y0.drew.cell? ⟨b, 4, none⟩ = some (.slice q.da q.dn q.dc) from (Blk.of HQ.out ((Below.drew (Below.refl _ y0)).block _ HQ.out.lt)).cell 4)
        have u5 := cellX (W0 := y0.drew) (show y0.drew.cell? ⟨b, 5, none⟩ = some (.int .i64 q.p.root) from (Blk.of HQ.out ((Below.drew (Below.refl _ y0)).block _ HQ.out.lt)).cell 5)
        have u6 := cellX (W0 := y0.drew) (show y0.drew.cell? ⟨b, 6, none⟩ = some (.int .i64 q.p.next) from (Blk.of HQ.out ((Below.drew (Below.refl _ y0)).block _ HQ.out.lt)).cell 6)
        have u7 := cellX (W0 := y0.drew) (show y0.drew.cell? ⟨b, 7, none⟩ = some (.int .i64 q.p.size) from (Blk.of HQ.out ((Below.drew (Below.refl _ y0)).block _ HQ.out.lt)).cell 7)
        have u8 := cellX (W0 := y0.drew) (show y0.drew.cell? ⟨b, 8, none⟩ = some (.int .i64 q.p.idle) from (Blk.of HQ.out ((Below.drew (Below.refl _ y0)).block _ HQ.out.lt)).cell 8)
        have p9 := cellX (W0 := y0.drew) (show y0.drew.cell? ⟨w.heap.size, 9, none⟩ = some (.slice (some ad) gn gc) from (Blk.of HB'.out ((Below.drew (Below.refl _ y0)).block _ HB'.out.lt)).cell 9)
        have m9 := cellX (W0 := y0.drew) (HM0.out _ (Below.drew (Below.refl _ y0)))
        have HYr : Hid (Below y0.heap.size y0 y0.drew) := Below.drew (Below.refl _ _)
        refine wpAnyH_seg (by kernel_rfl) (fun _ _ _ h => h) [0, 1, 2, 3, 4, 5, 6, 7, 8, 9, 10] 19 _ _ _ (Ext.refl _) (by kernel_rfl) ?_
        simp only [opsAt, List.getElem?_toArray, List.getElem?_cons_zero, List.getElem?_cons_succ, List.cons_append, List.nil_append]
        repeat (go_big_quiet_step (fail))
        refine wpQuiet_nil ?_
        clear nA u0 u1 u2 u3 u4 u5 u6 u7 u8 p9 m9
        refine wpAnyH_callE (i := 11) (fuel := 18) 171 rfl (by kernel_rfl) rfl (Ext.refl _) (by kernel_rfl) (f := 25) (args := #[.agg #[.int .i64 q.p.kind, .slice q.ka q.kn q.kc, .slice q.va q.vn q.vc, .slice q.da q.dn q.dc, .int .i64 q.p.root, .int .i64 q.p.next, .int .i64 q.p.size, .int .i64 q.p.idle]]) (by kernel_rfl) (page_is q.p _ _ _ true y0.drew (((HQA.out.below HY'.out).below HYr.out).rd) HQA.out.ok HPR.out) ?_
        rintro e x1 ⟨rfl, y⟩
        refine ⟨_, rfl, y, ?_⟩
        have HYr' : Hid (Below y0.heap.size y0 x1) := ext_trans HYr.out y
        clear HYr y
        have HYr := HYr'
        clear HYr'
        simp only [Act.put, List.setIfInBounds_toArray, List.set_cons_succ, List.set_cons_zero]
        haveI nA := cls_ext x1
        have u0 := cellX (W0 := x1) (show x1.cell? ⟨b, 0, none⟩ = some (.int .i64 q.n) from (Blk.of HQ.out (HYr.out.block _ HQ.out.lt)).cell 0)
        have u1 := cellX (W0 := x1) (show x1.cell? ⟨b, 1, none⟩ = some (.int .i64 q.p.kind) from (Blk.of HQ.out (HYr.out.block _ HQ.out.lt)).cell 1)
        have u2 := cellX (W0 := x1) (show x1.cell? ⟨b, 2, none⟩ = some (.slice q.ka q.kn q.kc) from (Blk.of HQ.out (HYr.out.block _ HQ.out.lt)).cell 2)
        have u3 := cellX (W0 := x1) (show x1.cell? ⟨b, 3, none⟩ = some (.slice q.va q.vn q.vc) from (Blk.of HQ.out (HYr.out.block _ HQ.out.lt)).cell 3)
        have u4 := cellX (W0 := x1) (show x1.cell? ⟨b, 4, none⟩ = some (.slice q.da q.dn q.dc) from (Blk.of HQ.out (HYr.out.block _ HQ.out.lt)).cell 4)
        have u5 := cellX (W0 := x1) (show x1.cell? ⟨b, 5, none⟩ = some (.int .i64 q.p.root) from (Blk.of HQ.out (HYr.out.block _ HQ.out.lt)).cell 5)
        have u6 := cellX (W0 := x1) (show x1.cell? ⟨b, 6, none⟩ = some (.int .i64 q.p.next) from (Blk.of HQ.out (HYr.out.block _ HQ.out.lt)).cell 6)
        have u7 := cellX (W0 := x1) (show x1.cell? ⟨b, 7, none⟩ = some (.int .i64 q.p.size) from (Blk.of HQ.out (HYr.out.block _ HQ.out.lt)).cell 7)
        have u8 := cellX (W0 := x1) (show x1.cell? ⟨b, 8, none⟩ = some (.int .i64 q.p.idle) from (Blk.of HQ.out (HYr.out.block _ HQ.out.lt)).cell 8)
        have p9 := cellX (W0 := x1) (show x1.cell? ⟨w.heap.size, 9, none⟩ = some (.slice (some ad) gn gc) from (Blk.of HB'.out (HYr.out.block _ HB'.out.lt)).cell 9)
        have m9 := cellX (W0 := x1) (HM0.out _ HYr.out)
        refine wpAnyH_seg (by kernel_rfl) (fun _ _ _ h => h) [12, 13, 14, 15, 16, 17, 18, 19, 20, 21, 22, 23, 24, 25, 26, 27, 28, 29] 0 _ _ _ (Ext.refl _) (by kernel_rfl) ?_
        simp only [opsAt, List.getElem?_toArray, List.getElem?_cons_zero, List.getElem?_cons_succ, List.cons_append, List.nil_append]
        repeat (go_big_quiet_step (fail))
        refine wpQuiet_nil ?_
        clear nA u0 u1 u2 u3 u4 u5 u6 u7 u8 p9 m9
        refine wpAnyH_done (by kernel_rfl) (NoPanic.normal ?_) 0
        have HYZ : Hid (Below w.heap.size w x1) := ext_trans HY'.out HYr.out
        have HBZ : Hid (Blk x1 w.heap.size #[.int .i64 1, .int .u64 num, .int .i64 node, .string key, .bool false, .string old, .int .u64 prev, .slice na 0 nc, .slice ra 0 rc, .slice (some ad) gn gc, .slice oa 0 oc, .slice da 0 dc] 31) := Blk.of HB'.out (HYr.out.block _ HB'.out.lt)
        go_wp2
        go_roundw
        case rel => exact ⟨k + 1, by go_num, by omega, HYZ.out, HBZ.out, HST.out HR1.out (HSM.out (by unfold chgLt ltI; exact decide_eq_true (by omega)))⟩
        case measure => simp [intOf]; omega
    · have FG : Hid (∀ j (hj : j < gs.length), chgOk gs[j] = true ∧ ∀ m (hm : m < gs.length), j = m + 1 → chgLt gs[m] gs[j] = true) := fun j hj => HA.out j hj (by have h1 := HG.out.len.1; omega)
      clear hk HA
      rename World => wa
      have z0 : wa.cell? ⟨w.heap.size, 0, none⟩ = some (.int .i64 1) := HB.out.cell 0
      have z1 : wa.cell? ⟨w.heap.size, 1, none⟩ = some (.int .u64 num) := HB.out.cell 1
      have z2 : wa.cell? ⟨w.heap.size, 2, none⟩ = some (.int .i64 node) := HB.out.cell 2
      have z3 : wa.cell? ⟨w.heap.size, 3, none⟩ = some (.string key) := HB.out.cell 3
      have z4 : wa.cell? ⟨w.heap.size, 4, none⟩ = some (.bool false) := HB.out.cell 4
      have z5 : wa.cell? ⟨w.heap.size, 5, none⟩ = some (.string old) := HB.out.cell 5
      have z6 : wa.cell? ⟨w.heap.size, 6, none⟩ = some (.int .u64 prev) := HB.out.cell 6
      have z7 : wa.cell? ⟨w.heap.size, 7, none⟩ = some (.slice na 0 nc) := HB.out.cell 7
      have z8 : wa.cell? ⟨w.heap.size, 8, none⟩ = some (.slice ra 0 rc) := HB.out.cell 8
      have z9 : wa.cell? ⟨w.heap.size, 9, none⟩ = some (.slice ga gn gc) := HB.out.cell 9
      have z10 : wa.cell? ⟨w.heap.size, 10, none⟩ = some (.slice oa 0 oc) := HB.out.cell 10
      have z11 : wa.cell? ⟨w.heap.size, 11, none⟩ = some (.slice da 0 dc) := HB.out.cell 11
      go_wp2
      clear z0 z1 z2 z3 z4 z5 z6 z7 z8 z9 z10 z11
      go_loopw [194] (fun i wr => i = .int .i64 0 ∧ Below w.heap.size w wr ∧ Blk wr w.heap.size #[.int .i64 1, .int .u64 num, .int .i64 node, .string key, .bool false, .string old, .int .u64 prev, .slice na 0 nc, .slice ra 0 rc, .slice ga gn gc, .slice oa 0 oc, .slice da 0 dc] 31) (fun _ _ => 0)
      case atStart => exact ⟨rfl, HY.out, HB.out⟩
      case round =>
        obtain ⟨rfl, hy, hb⟩ := hrel
        clear HY HB
        have HY : Hid (Below w.heap.size w wr) := hy
        have HB : Hid (Blk wr w.heap.size #[.int .i64 1, .int .u64 num, .int .i64 node, .string key, .bool false, .string old, .int .u64 prev, .slice na 0 nc, .slice ra 0 rc, .slice ga gn gc, .slice oa 0 oc, .slice da 0 dc] 31) := hb
        clear hy hb
        rename World => wb
        have z0 : wb.cell? ⟨w.heap.size, 0, none⟩ = some (.int .i64 1) := HB.out.cell 0
        have z1 : wb.cell? ⟨w.heap.size, 1, none⟩ = some (.int .u64 num) := HB.out.cell 1
        have z2 : wb.cell? ⟨w.heap.size, 2, none⟩ = some (.int .i64 node) := HB.out.cell 2
        have z3 : wb.cell? ⟨w.heap.size, 3, none⟩ = some (.string key) := HB.out.cell 3
        have z4 : wb.cell? ⟨w.heap.size, 4, none⟩ = some (.bool false) := HB.out.cell 4
        have z5 : wb.cell? ⟨w.heap.size, 5, none⟩ = some (.string old) := HB.out.cell 5
        have z6 : wb.cell? ⟨w.heap.size, 6, none⟩ = some (.int .u64 prev) := HB.out.cell 6
        have z7 : wb.cell? ⟨w.heap.size, 7, none⟩ = some (.slice na 0 nc) := HB.out.cell 7
        have z8 : wb.cell? ⟨w.heap.size, 8, none⟩ = some (.slice ra 0 rc) := HB.out.cell 8
        have z9 : wb.cell? ⟨w.heap.size, 9, none⟩ = some (.slice ga gn gc) := HB.out.cell 9
        have z10 : wb.cell? ⟨w.heap.size, 10, none⟩ = some (.slice oa 0 oc) := HB.out.cell 10
        have z11 : wb.cell? ⟨w.heap.size, 11, none⟩ = some (.slice da 0 dc) := HB.out.cell 11
        go_wp2
        clear z0 z1 z2 z3 z4 z5 z6 z7 z8 z9 z10 z11
        go_loopw [250] (fun i wr => i = .int .i64 0 ∧ Below w.heap.size w wr ∧ Blk wr w.heap.size #[.int .i64 1, .int .u64 num, .int .i64 node, .string key, .bool false, .string old, .int .u64 prev, .slice na 0 nc, .slice ra 0 rc, .slice ga gn gc, .slice oa 0 oc, .slice da 0 dc] 31) (fun _ _ => 0)
        case atStart => exact ⟨rfl, HY.out, HB.out⟩
        case round =>
          obtain ⟨rfl, hy, hb⟩ := hrel
          clear HY HB
          have HY : Hid (Below w.heap.size w wr) := hy
          have HB : Hid (Blk wr w.heap.size #[.int .i64 1, .int .u64 num, .int .i64 node, .string key, .bool false, .string old, .int .u64 prev, .slice na 0 nc, .slice ra 0 rc, .slice ga gn gc, .slice oa 0 oc, .slice da 0 dc] 31) := hb
          clear hy hb
          rename World => wc
          have HPA : Hid (Parts (RecV.mk 1 num node key false old prev na 0 nc ns ra 0 rc rs ga gn gc gs oa 0 oc os da 0 dc ds)) := ⟨T1.out, fits_iff.2 ⟨show gs.length ≤ 30 by have h3 := LN.out; omega, FG.out⟩, fits0 (show os.length = 0 by have h3 := LN.out; omega), fits0 (show ds.length = 0 by have h3 := LN.out; omega), T3.out, T2.out, fun _ => nil0 (show rs.length = 0 by have h3 := LN.out; omega), fun _ => nil0 (show ns.length = 0 by have h3 := LN.out; omega), fun _ => ⟨nil0 (show os.length = 0 by have h3 := LN.out; omega), nil0 (show ds.length = 0 by have h3 := LN.out; omega)⟩, fun h _ => absurd rfl h, fun h => absurd rfl h, fun _ => ⟨⟨show 1 ≤ key.size by omega, show key.size ≤ 24 by omega⟩, show old.size ≤ 48 by omega, .inr (by show old.size = 0; omega)⟩, (show prev ≤ 4611686018427387904 by omega), fun (h : (1 : Int) = 8) => absurd h (by decide)⟩
          go_wp2
          go_ret
          exact ⟨ret_bool (HYS.out HPA.out).symm, HY.out⟩
end Go.Proofs.YtbgofajldkblmaaGreat
/- rec: the law's right, of any record of kind 3. Own lemmas, no statement. -/
set_option linter.unusedSimpArgs false
set_option linter.unusedVariables false
namespace Go.Proofs.YtbgofajldkblmaaGreat
open Go.ChangeShapes Go.WideShapes Go.ChangeAt Go.RowKit

set_option maxRecDepth 100000 in
set_option maxHeartbeats 16000000 in
theorem right12_3 (num : Int) (node : Int) (key : ByteArray) (was : Bool) (old : ByteArray) (prev : Int) (na : Option Addr) (nn : Nat) (nc : Nat) (ns : List Int) (ra : Option Addr) (rn : Nat) (rc : Nat) (rs : List ByteArray) (ga : Option Addr) (gn : Nat) (gc : Nat) (gs : List ChgV) (oa : Option Addr) (om : Nat) (oc : Nat) (os : List OpenV) (da : Option Addr) (dn : Nat) (dc : Nat) (ds : List DoneV) (w : World) (R : Bool) (hns : Rd w (.slice na nn nc) (iv ns)) (hrs : Rd w (.slice ra rn rc) (sv rs)) (hg : RowsN w 9 ChgV.c (.slice ga gn gc) gs) (hga : ∀ c ∈ gs, c.At w) (ho : RowsN w 7 OpenV.c (.slice oa om oc) os) (hoa : ∀ c ∈ os, c.At w) (hd : RowsN w 3 DoneV.c (.slice da dn dc) ds) (hda : ∀ c ∈ ds, c.At w) (hom : om ≤ 20) (hdm : dn ≤ 20) (hkz : key.size ≤ maxLen) (hoz : old.size ≤ maxLen)
    (hN : R = true → Parts (RecV.mk 3 num node key was old prev na nn nc ns ra rn rc rs ga gn gc gs oa om oc os da dn dc ds)) (hY : Parts (RecV.mk 3 num node key was old prev na nn nc ns ra rn rc rs ga gn gc gs oa om oc os da dn dc ds) → R = true) :
    Calls Tryz.prog 10 #[.agg #[.int .i64 3, .int .u64 num, .int .i64 node, .string key, .bool was, .string old, .int .u64 prev, .slice na nn nc, .slice ra rn rc, .slice ga gn gc, .slice oa om oc, .slice da dn dc]] w (BoolP R w) := by
  have HNS : Hid (Rd w (.slice na nn nc) (iv ns)) := hns
  have HRS : Hid (Rd w (.slice ra rn rc) (sv rs)) := hrs
  have HN : Hid (R = true → Parts (RecV.mk 3 num node key was old prev na nn nc ns ra rn rc rs ga gn gc gs oa om oc os da dn dc ds)) := hN
  have HYS : Hid (Parts (RecV.mk 3 num node key was old prev na nn nc ns ra rn rc rs ga gn gc gs oa om oc os da dn dc ds) → R = true) := hY
  have LN : Hid (nn = ns.length ∧ rn = rs.length ∧ gn = gs.length ∧ om = os.length ∧ dn = ds.length) := ⟨by have h := hns.at.1; rw [iv_length] at h; exact h, by have h := hrs.at.1; rw [sv_length] at h; exact h, hg.len.1, ho.len.1, hd.len.1⟩
  have hnm : nn ≤ maxLen := by have h1 := hns.at.2.1; have h2 := hns.at.2.2.1; rw [iv_length] at h1; have h3 := LN.out.1; omega
  have hrm : rn ≤ maxLen := by have h1 := hrs.at.2.1; have h2 := hrs.at.2.2.1; rw [sv_length] at h1; have h3 := LN.out.2.1; omega
  have hgm : gn ≤ maxLen := by have h1 := hg.len.2; omega
  unfold maxLen at hnm hrm hgm hkz hoz
  clear hns hrs hg hga ho hoa hd hda hN hY
  have HB : Hid (Blk (w.alloc (.cells #[.int .i64 3, .int .u64 num, .int .i64 node, .string key, .bool was, .string old, .int .u64 prev, .slice na nn nc, .slice ra rn rc, .slice ga gn gc, .slice oa om oc, .slice da dn dc] 31)) w.heap.size #[.int .i64 3, .int .u64 num, .int .i64 node, .string key, .bool was, .string old, .int .u64 prev, .slice na nn nc, .slice ra rn rc, .slice ga gn gc, .slice oa om oc, .slice da dn dc] 31) := Blk.new _ _ _
  have HY : Hid (Below w.heap.size w (w.alloc (.cells #[.int .i64 3, .int .u64 num, .int .i64 node, .string key, .bool was, .string old, .int .u64 prev, .slice na nn nc, .slice ra rn rc, .slice ga gn gc, .slice oa om oc, .slice da dn dc] 31))) := (Below.refl _ _).alloc (Nat.le_refl _) _
  go_enter Tryz.func10, Tryz.ntmps10
  go_upto_region 1 with fail
  generalize (w.alloc (.cells #[.int .i64 3, .int .u64 num, .int .i64 node, .string key, .bool was, .string old, .int .u64 prev, .slice na nn nc, .slice ra rn rc, .slice ga gn gc, .slice oa om oc, .slice da dn dc] 31)) = w0 at *
  have z0 : w0.cell? ⟨w.heap.size, 0, none⟩ = some (.int .i64 3) := HB.out.cell 0
  have z1 : w0.cell? ⟨w.heap.size, 1, none⟩ = some (.int .u64 num) := HB.out.cell 1
  have z2 : w0.cell? ⟨w.heap.size, 2, none⟩ = some (.int .i64 node) := HB.out.cell 2
  have z3 : w0.cell? ⟨w.heap.size, 3, none⟩ = some (.string key) := HB.out.cell 3
  have z4 : w0.cell? ⟨w.heap.size, 4, none⟩ = some (.bool was) := HB.out.cell 4
  have z5 : w0.cell? ⟨w.heap.size, 5, none⟩ = some (.string old) := HB.out.cell 5
  have z6 : w0.cell? ⟨w.heap.size, 6, none⟩ = some (.int .u64 prev) := HB.out.cell 6
  have z7 : w0.cell? ⟨w.heap.size, 7, none⟩ = some (.slice na nn nc) := HB.out.cell 7
  have z8 : w0.cell? ⟨w.heap.size, 8, none⟩ = some (.slice ra rn rc) := HB.out.cell 8
  have z9 : w0.cell? ⟨w.heap.size, 9, none⟩ = some (.slice ga gn gc) := HB.out.cell 9
  have z10 : w0.cell? ⟨w.heap.size, 10, none⟩ = some (.slice oa om oc) := HB.out.cell 10
  have z11 : w0.cell? ⟨w.heap.size, 11, none⟩ = some (.slice da dn dc) := HB.out.cell 11
  go_wp2_with fail
  refine (tid11_any num node w0).mono ?_
  rintro e w1 ⟨rfl, y⟩
  have HB' : Hid (Blk w1 w.heap.size #[.int .i64 3, .int .u64 num, .int .i64 node, .string key, .bool was, .string old, .int .u64 prev, .slice na nn nc, .slice ra rn rc, .slice ga gn gc, .slice oa om oc, .slice da dn dc] 31) := Blk.of HB.out (y.block _ HB.out.lt)
  have HY' : Hid (Below w.heap.size w w1) := ext_trans HY.out y
  clear HB HY y
  clear z0 z1 z2 z3 z4 z5 z6 z7 z8 z9 z10 z11
  have HB := HB'
  have HY := HY'
  clear HB' HY'
  have z0 : w1.cell? ⟨w.heap.size, 0, none⟩ = some (.int .i64 3) := HB.out.cell 0
  have z1 : w1.cell? ⟨w.heap.size, 1, none⟩ = some (.int .u64 num) := HB.out.cell 1
  have z2 : w1.cell? ⟨w.heap.size, 2, none⟩ = some (.int .i64 node) := HB.out.cell 2
  have z3 : w1.cell? ⟨w.heap.size, 3, none⟩ = some (.string key) := HB.out.cell 3
  have z4 : w1.cell? ⟨w.heap.size, 4, none⟩ = some (.bool was) := HB.out.cell 4
  have z5 : w1.cell? ⟨w.heap.size, 5, none⟩ = some (.string old) := HB.out.cell 5
  have z6 : w1.cell? ⟨w.heap.size, 6, none⟩ = some (.int .u64 prev) := HB.out.cell 6
  have z7 : w1.cell? ⟨w.heap.size, 7, none⟩ = some (.slice na nn nc) := HB.out.cell 7
  have z8 : w1.cell? ⟨w.heap.size, 8, none⟩ = some (.slice ra rn rc) := HB.out.cell 8
  have z9 : w1.cell? ⟨w.heap.size, 9, none⟩ = some (.slice ga gn gc) := HB.out.cell 9
  have z10 : w1.cell? ⟨w.heap.size, 10, none⟩ = some (.slice oa om oc) := HB.out.cell 10
  have z11 : w1.cell? ⟨w.heap.size, 11, none⟩ = some (.slice da dn dc) := HB.out.cell 11
  cases hval : tidOk num node
  case false =>
    have E0 : Hid (tidOk num node = false) := hval
    clear hval
    go_wp2
    go_ret
    exact ⟨ret_bool (rno HN.out fun h => by have h1 : tidOk num node = true := h.tid; have h2 := E0.out; rw [h1] at h2; cases h2).symm, HY.out⟩
  have T1 : Hid (tidOk num node = true) := hval
  clear hval
  by_cases q2 : 4611686018427387904 < prev
  case pos =>
    go_wp2
    go_ret
    exact ⟨ret_bool (rno HN.out fun h => by have h1 : prev ≤ 4611686018427387904 := h.pr; omega).symm, HY.out⟩
  go_wp2_with fail
  refine (rising_any _ ns w1 (HNS.out.below HY.out)).mono ?_
  rintro e w2 ⟨rfl, y⟩
  have HB' : Hid (Blk w2 w.heap.size #[.int .i64 3, .int .u64 num, .int .i64 node, .string key, .bool was, .string old, .int .u64 prev, .slice na nn nc, .slice ra rn rc, .slice ga gn gc, .slice oa om oc, .slice da dn dc] 31) := Blk.of HB.out (y.block _ HB.out.lt)
  have HY' : Hid (Below w.heap.size w w2) := ext_trans HY.out y
  clear HB HY y
  clear z0 z1 z2 z3 z4 z5 z6 z7 z8 z9 z10 z11
  have HB := HB'
  have HY := HY'
  clear HB' HY'
  have z0 : w2.cell? ⟨w.heap.size, 0, none⟩ = some (.int .i64 3) := HB.out.cell 0
  have z1 : w2.cell? ⟨w.heap.size, 1, none⟩ = some (.int .u64 num) := HB.out.cell 1
  have z2 : w2.cell? ⟨w.heap.size, 2, none⟩ = some (.int .i64 node) := HB.out.cell 2
  have z3 : w2.cell? ⟨w.heap.size, 3, none⟩ = some (.string key) := HB.out.cell 3
  have z4 : w2.cell? ⟨w.heap.size, 4, none⟩ = some (.bool was) := HB.out.cell 4
  have z5 : w2.cell? ⟨w.heap.size, 5, none⟩ = some (.string old) := HB.out.cell 5
  have z6 : w2.cell? ⟨w.heap.size, 6, none⟩ = some (.int .u64 prev) := HB.out.cell 6
  have z7 : w2.cell? ⟨w.heap.size, 7, none⟩ = some (.slice na nn nc) := HB.out.cell 7
  have z8 : w2.cell? ⟨w.heap.size, 8, none⟩ = some (.slice ra rn rc) := HB.out.cell 8
  have z9 : w2.cell? ⟨w.heap.size, 9, none⟩ = some (.slice ga gn gc) := HB.out.cell 9
  have z10 : w2.cell? ⟨w.heap.size, 10, none⟩ = some (.slice oa om oc) := HB.out.cell 10
  have z11 : w2.cell? ⟨w.heap.size, 11, none⟩ = some (.slice da dn dc) := HB.out.cell 11
  cases hval : nodesOk ns
  case false =>
    have E0 : Hid (nodesOk ns = false) := hval
    clear hval
    go_wp2
    go_ret
    exact ⟨ret_bool (rno HN.out fun h => by have h1 : nodesOk ns = true := h.ns; have h2 := E0.out; rw [h1] at h2; cases h2).symm, HY.out⟩
  have T2 : Hid (nodesOk ns = true) := hval
  clear hval
  go_wp2_with fail
  refine (keys_any _ rs w2 (HRS.out.below HY.out)).mono ?_
  rintro e w3 ⟨rfl, y⟩
  have HB' : Hid (Blk w3 w.heap.size #[.int .i64 3, .int .u64 num, .int .i64 node, .string key, .bool was, .string old, .int .u64 prev, .slice na nn nc, .slice ra rn rc, .slice ga gn gc, .slice oa om oc, .slice da dn dc] 31) := Blk.of HB.out (y.block _ HB.out.lt)
  have HY' : Hid (Below w.heap.size w w3) := ext_trans HY.out y
  clear HB HY y
  clear z0 z1 z2 z3 z4 z5 z6 z7 z8 z9 z10 z11
  have HB := HB'
  have HY := HY'
  clear HB' HY'
  have z0 : w3.cell? ⟨w.heap.size, 0, none⟩ = some (.int .i64 3) := HB.out.cell 0
  have z1 : w3.cell? ⟨w.heap.size, 1, none⟩ = some (.int .u64 num) := HB.out.cell 1
  have z2 : w3.cell? ⟨w.heap.size, 2, none⟩ = some (.int .i64 node) := HB.out.cell 2
  have z3 : w3.cell? ⟨w.heap.size, 3, none⟩ = some (.string key) := HB.out.cell 3
  have z4 : w3.cell? ⟨w.heap.size, 4, none⟩ = some (.bool was) := HB.out.cell 4
  have z5 : w3.cell? ⟨w.heap.size, 5, none⟩ = some (.string old) := HB.out.cell 5
  have z6 : w3.cell? ⟨w.heap.size, 6, none⟩ = some (.int .u64 prev) := HB.out.cell 6
  have z7 : w3.cell? ⟨w.heap.size, 7, none⟩ = some (.slice na nn nc) := HB.out.cell 7
  have z8 : w3.cell? ⟨w.heap.size, 8, none⟩ = some (.slice ra rn rc) := HB.out.cell 8
  have z9 : w3.cell? ⟨w.heap.size, 9, none⟩ = some (.slice ga gn gc) := HB.out.cell 9
  have z10 : w3.cell? ⟨w.heap.size, 10, none⟩ = some (.slice oa om oc) := HB.out.cell 10
  have z11 : w3.cell? ⟨w.heap.size, 11, none⟩ = some (.slice da dn dc) := HB.out.cell 11
  cases hval : readsOk rs
  case false =>
    have E0 : Hid (readsOk rs = false) := hval
    clear hval
    go_wp2
    go_ret
    exact ⟨ret_bool (rno HN.out fun h => by have h1 : readsOk rs = true := h.rs; have h2 := E0.out; rw [h1] at h2; cases h2).symm, HY.out⟩
  have T3 : Hid (readsOk rs = true) := hval
  clear hval
  by_cases q3 : 30 < gn
  case pos =>
    go_wp2
    go_ret
    exact ⟨ret_bool (rno HN.out fun h => by have h1 : gs.length ≤ 30 := (fits_mem h.gs).1; have h2 := LN.out; omega).symm, HY.out⟩
  by_cases q4 : 0 < key.size
  case pos =>
    go_wp2
    go_ret
    exact ⟨ret_bool (rno HN.out fun h => by have h1 : key = .empty := (h.n1 (show ¬ (3 : Int) = 1 by decide)).1; have h2 := sz0 h1; omega).symm, HY.out⟩
  cases was
  case true =>
    go_wp2
    go_ret
    exact ⟨ret_bool (rno HN.out fun h => by have h1 : true = false := (h.n1 (show ¬ (3 : Int) = 1 by decide)).2.1; cases h1).symm, HY.out⟩
  by_cases q6 : 0 < old.size
  case pos =>
    go_wp2
    go_ret
    exact ⟨ret_bool (rno HN.out fun h => by have h1 : old = .empty := (h.n1 (show ¬ (3 : Int) = 1 by decide)).2.2; have h2 := sz0 h1; omega).symm, HY.out⟩
  by_cases q7 : prev = 0
  case neg =>
    go_wp2
    go_ret
    exact ⟨ret_bool (rno HN.out fun h => q7 (h.n2 (show ¬ (3 : Int) = 1 by decide) (show ¬ (3 : Int) = 2 by decide)).1).symm, HY.out⟩
  subst q7
  by_cases q8 : 0 < gn
  case pos =>
    go_wp2
    go_ret
    exact ⟨ret_bool (rno HN.out fun h => by have h1 : gs = [] := (h.n2 (show ¬ (3 : Int) = 1 by decide) (show ¬ (3 : Int) = 2 by decide)).2; have h2 := len0 h1; have h3 := LN.out; omega).symm, HY.out⟩
  obtain rfl : gn = 0 := by omega
  by_cases q9 : 0 < nn
  case pos =>
    go_wp2
    go_ret
    exact ⟨ret_bool (rno HN.out fun h => by have h1 : ns = [] := h.n6 (show ¬ (3 : Int) = 6 by decide); have h2 := len0 h1; have h3 := LN.out; omega).symm, HY.out⟩
  obtain rfl : nn = 0 := by omega
  by_cases q11 : 0 < om
  case pos =>
    go_wp2
    go_ret
    exact ⟨ret_bool (rno HN.out fun h => by have h1 : os = [] := (h.n8 (show ¬ (3 : Int) = 8 by decide)).1; have h2 := len0 h1; have h3 := LN.out; omega).symm, HY.out⟩
  obtain rfl : om = 0 := by omega
  by_cases q12 : 0 < dn
  case pos =>
    go_wp2
    go_ret
    exact ⟨ret_bool (rno HN.out fun h => by have h1 : ds = [] := (h.n8 (show ¬ (3 : Int) = 8 by decide)).2; have h2 := len0 h1; have h3 := LN.out; omega).symm, HY.out⟩
  obtain rfl : dn = 0 := by omega
  go_wp2
  clear z0 z1 z2 z3 z4 z5 z6 z7 z8 z9 z10 z11
  go_loopw [155] (fun i wr => i = .int .i64 0 ∧ Below w.heap.size w wr ∧ Blk wr w.heap.size #[.int .i64 3, .int .u64 num, .int .i64 node, .string key, .bool false, .string old, .int .u64 0, .slice na 0 nc, .slice ra rn rc, .slice ga 0 gc, .slice oa 0 oc, .slice da 0 dc] 31) (fun _ _ => 0)
  case atStart => exact ⟨rfl, HY.out, HB.out⟩
  case round =>
    obtain ⟨rfl, hy, hb⟩ := hrel
    clear HY HB
    have HY : Hid (Below w.heap.size w wr) := hy
    have HB : Hid (Blk wr w.heap.size #[.int .i64 3, .int .u64 num, .int .i64 node, .string key, .bool false, .string old, .int .u64 0, .slice na 0 nc, .slice ra rn rc, .slice ga 0 gc, .slice oa 0 oc, .slice da 0 dc] 31) := hb
    clear hy hb
    rename World => wa
    have z0 : wa.cell? ⟨w.heap.size, 0, none⟩ = some (.int .i64 3) := HB.out.cell 0
    have z1 : wa.cell? ⟨w.heap.size, 1, none⟩ = some (.int .u64 num) := HB.out.cell 1
    have z2 : wa.cell? ⟨w.heap.size, 2, none⟩ = some (.int .i64 node) := HB.out.cell 2
    have z3 : wa.cell? ⟨w.heap.size, 3, none⟩ = some (.string key) := HB.out.cell 3
    have z4 : wa.cell? ⟨w.heap.size, 4, none⟩ = some (.bool false) := HB.out.cell 4
    have z5 : wa.cell? ⟨w.heap.size, 5, none⟩ = some (.string old) := HB.out.cell 5
    have z6 : wa.cell? ⟨w.heap.size, 6, none⟩ = some (.int .u64 0) := HB.out.cell 6
    have z7 : wa.cell? ⟨w.heap.size, 7, none⟩ = some (.slice na 0 nc) := HB.out.cell 7
    have z8 : wa.cell? ⟨w.heap.size, 8, none⟩ = some (.slice ra rn rc) := HB.out.cell 8
    have z9 : wa.cell? ⟨w.heap.size, 9, none⟩ = some (.slice ga 0 gc) := HB.out.cell 9
    have z10 : wa.cell? ⟨w.heap.size, 10, none⟩ = some (.slice oa 0 oc) := HB.out.cell 10
    have z11 : wa.cell? ⟨w.heap.size, 11, none⟩ = some (.slice da 0 dc) := HB.out.cell 11
    go_wp2
    clear z0 z1 z2 z3 z4 z5 z6 z7 z8 z9 z10 z11
    go_loopw [194] (fun i wr => i = .int .i64 0 ∧ Below w.heap.size w wr ∧ Blk wr w.heap.size #[.int .i64 3, .int .u64 num, .int .i64 node, .string key, .bool false, .string old, .int .u64 0, .slice na 0 nc, .slice ra rn rc, .slice ga 0 gc, .slice oa 0 oc, .slice da 0 dc] 31) (fun _ _ => 0)
    case atStart => exact ⟨rfl, HY.out, HB.out⟩
    case round =>
      obtain ⟨rfl, hy, hb⟩ := hrel
      clear HY HB
      have HY : Hid (Below w.heap.size w wr) := hy
      have HB : Hid (Blk wr w.heap.size #[.int .i64 3, .int .u64 num, .int .i64 node, .string key, .bool false, .string old, .int .u64 0, .slice na 0 nc, .slice ra rn rc, .slice ga 0 gc, .slice oa 0 oc, .slice da 0 dc] 31) := hb
      clear hy hb
      rename World => wb
      have z0 : wb.cell? ⟨w.heap.size, 0, none⟩ = some (.int .i64 3) := HB.out.cell 0
      have z1 : wb.cell? ⟨w.heap.size, 1, none⟩ = some (.int .u64 num) := HB.out.cell 1
      have z2 : wb.cell? ⟨w.heap.size, 2, none⟩ = some (.int .i64 node) := HB.out.cell 2
      have z3 : wb.cell? ⟨w.heap.size, 3, none⟩ = some (.string key) := HB.out.cell 3
      have z4 : wb.cell? ⟨w.heap.size, 4, none⟩ = some (.bool false) := HB.out.cell 4
      have z5 : wb.cell? ⟨w.heap.size, 5, none⟩ = some (.string old) := HB.out.cell 5
      have z6 : wb.cell? ⟨w.heap.size, 6, none⟩ = some (.int .u64 0) := HB.out.cell 6
      have z7 : wb.cell? ⟨w.heap.size, 7, none⟩ = some (.slice na 0 nc) := HB.out.cell 7
      have z8 : wb.cell? ⟨w.heap.size, 8, none⟩ = some (.slice ra rn rc) := HB.out.cell 8
      have z9 : wb.cell? ⟨w.heap.size, 9, none⟩ = some (.slice ga 0 gc) := HB.out.cell 9
      have z10 : wb.cell? ⟨w.heap.size, 10, none⟩ = some (.slice oa 0 oc) := HB.out.cell 10
      have z11 : wb.cell? ⟨w.heap.size, 11, none⟩ = some (.slice da 0 dc) := HB.out.cell 11
      go_wp2
      clear z0 z1 z2 z3 z4 z5 z6 z7 z8 z9 z10 z11
      go_loopw [250] (fun i wr => i = .int .i64 0 ∧ Below w.heap.size w wr ∧ Blk wr w.heap.size #[.int .i64 3, .int .u64 num, .int .i64 node, .string key, .bool false, .string old, .int .u64 0, .slice na 0 nc, .slice ra rn rc, .slice ga 0 gc, .slice oa 0 oc, .slice da 0 dc] 31) (fun _ _ => 0)
      case atStart => exact ⟨rfl, HY.out, HB.out⟩
      case round =>
        obtain ⟨rfl, hy, hb⟩ := hrel
        clear HY HB
        have HY : Hid (Below w.heap.size w wr) := hy
        have HB : Hid (Blk wr w.heap.size #[.int .i64 3, .int .u64 num, .int .i64 node, .string key, .bool false, .string old, .int .u64 0, .slice na 0 nc, .slice ra rn rc, .slice ga 0 gc, .slice oa 0 oc, .slice da 0 dc] 31) := hb
        clear hy hb
        rename World => wc
        have HPA : Hid (Parts (RecV.mk 3 num node key false old 0 na 0 nc ns ra rn rc rs ga 0 gc gs oa 0 oc os da 0 dc ds)) := ⟨T1.out, fits0 (show gs.length = 0 by have h3 := LN.out; omega), fits0 (show os.length = 0 by have h3 := LN.out; omega), fits0 (show ds.length = 0 by have h3 := LN.out; omega), T3.out, T2.out, fun h => absurd rfl h, fun _ => nil0 (show ns.length = 0 by have h3 := LN.out; omega), fun _ => ⟨nil0 (show os.length = 0 by have h3 := LN.out; omega), nil0 (show ds.length = 0 by have h3 := LN.out; omega)⟩, fun _ _ => ⟨rfl, nil0 (show gs.length = 0 by have h3 := LN.out; omega)⟩, fun _ => ⟨emp0 (show key.size = 0 by omega), rfl, emp0 (show old.size = 0 by omega)⟩, fun (h : (3 : Int) = 1) => absurd h (by decide), (show (0 : Int) ≤ 4611686018427387904 by omega), fun (h : (3 : Int) = 8) => absurd h (by decide)⟩
        go_wp2
        go_ret
        exact ⟨ret_bool (HYS.out HPA.out).symm, HY.out⟩
end Go.Proofs.YtbgofajldkblmaaGreat
/- rec: the law's right, of any record of kind 4. Own lemmas, no statement. -/
set_option linter.unusedSimpArgs false
set_option linter.unusedVariables false
namespace Go.Proofs.YtbgofajldkblmaaGreat
open Go.ChangeShapes Go.WideShapes Go.ChangeAt Go.RowKit

set_option maxRecDepth 100000 in
set_option maxHeartbeats 16000000 in
theorem right12_4 (num : Int) (node : Int) (key : ByteArray) (was : Bool) (old : ByteArray) (prev : Int) (na : Option Addr) (nn : Nat) (nc : Nat) (ns : List Int) (ra : Option Addr) (rn : Nat) (rc : Nat) (rs : List ByteArray) (ga : Option Addr) (gn : Nat) (gc : Nat) (gs : List ChgV) (oa : Option Addr) (om : Nat) (oc : Nat) (os : List OpenV) (da : Option Addr) (dn : Nat) (dc : Nat) (ds : List DoneV) (w : World) (R : Bool) (hns : Rd w (.slice na nn nc) (iv ns)) (hrs : Rd w (.slice ra rn rc) (sv rs)) (hg : RowsN w 9 ChgV.c (.slice ga gn gc) gs) (hga : ∀ c ∈ gs, c.At w) (ho : RowsN w 7 OpenV.c (.slice oa om oc) os) (hoa : ∀ c ∈ os, c.At w) (hd : RowsN w 3 DoneV.c (.slice da dn dc) ds) (hda : ∀ c ∈ ds, c.At w) (hom : om ≤ 20) (hdm : dn ≤ 20) (hkz : key.size ≤ maxLen) (hoz : old.size ≤ maxLen)
    (hN : R = true → Parts (RecV.mk 4 num node key was old prev na nn nc ns ra rn rc rs ga gn gc gs oa om oc os da dn dc ds)) (hY : Parts (RecV.mk 4 num node key was old prev na nn nc ns ra rn rc rs ga gn gc gs oa om oc os da dn dc ds) → R = true) :
    Calls Tryz.prog 10 #[.agg #[.int .i64 4, .int .u64 num, .int .i64 node, .string key, .bool was, .string old, .int .u64 prev, .slice na nn nc, .slice ra rn rc, .slice ga gn gc, .slice oa om oc, .slice da dn dc]] w (BoolP R w) := by
  have HNS : Hid (Rd w (.slice na nn nc) (iv ns)) := hns
  have HRS : Hid (Rd w (.slice ra rn rc) (sv rs)) := hrs
  have HN : Hid (R = true → Parts (RecV.mk 4 num node key was old prev na nn nc ns ra rn rc rs ga gn gc gs oa om oc os da dn dc ds)) := hN
  have HYS : Hid (Parts (RecV.mk 4 num node key was old prev na nn nc ns ra rn rc rs ga gn gc gs oa om oc os da dn dc ds) → R = true) := hY
  have LN : Hid (nn = ns.length ∧ rn = rs.length ∧ gn = gs.length ∧ om = os.length ∧ dn = ds.length) := ⟨by have h := hns.at.1; rw [iv_length] at h; exact h, by have h := hrs.at.1; rw [sv_length] at h; exact h, hg.len.1, ho.len.1, hd.len.1⟩
  have hnm : nn ≤ maxLen := by have h1 := hns.at.2.1; have h2 := hns.at.2.2.1; rw [iv_length] at h1; have h3 := LN.out.1; omega
  have hrm : rn ≤ maxLen := by have h1 := hrs.at.2.1; have h2 := hrs.at.2.2.1; rw [sv_length] at h1; have h3 := LN.out.2.1; omega
  have hgm : gn ≤ maxLen := by have h1 := hg.len.2; omega
  unfold maxLen at hnm hrm hgm hkz hoz
  clear hns hrs hg hga ho hoa hd hda hN hY
  have HB : Hid (Blk (w.alloc (.cells #[.int .i64 4, .int .u64 num, .int .i64 node, .string key, .bool was, .string old, .int .u64 prev, .slice na nn nc, .slice ra rn rc, .slice ga gn gc, .slice oa om oc, .slice da dn dc] 31)) w.heap.size #[.int .i64 4, .int .u64 num, .int .i64 node, .string key, .bool was, .string old, .int .u64 prev, .slice na nn nc, .slice ra rn rc, .slice ga gn gc, .slice oa om oc, .slice da dn dc] 31) := Blk.new _ _ _
  have HY : Hid (Below w.heap.size w (w.alloc (.cells #[.int .i64 4, .int .u64 num, .int .i64 node, .string key, .bool was, .string old, .int .u64 prev, .slice na nn nc, .slice ra rn rc, .slice ga gn gc, .slice oa om oc, .slice da dn dc] 31))) := (Below.refl _ _).alloc (Nat.le_refl _) _
  go_enter Tryz.func10, Tryz.ntmps10
  go_upto_region 1 with fail
  generalize (w.alloc (.cells #[.int .i64 4, .int .u64 num, .int .i64 node, .string key, .bool was, .string old, .int .u64 prev, .slice na nn nc, .slice ra rn rc, .slice ga gn gc, .slice oa om oc, .slice da dn dc] 31)) = w0 at *
  have z0 : w0.cell? ⟨w.heap.size, 0, none⟩ = some (.int .i64 4) := HB.out.cell 0
  have z1 : w0.cell? ⟨w.heap.size, 1, none⟩ = some (.int .u64 num) := HB.out.cell 1
  have z2 : w0.cell? ⟨w.heap.size, 2, none⟩ = some (.int .i64 node) := HB.out.cell 2
  have z3 : w0.cell? ⟨w.heap.size, 3, none⟩ = some (.string key) := HB.out.cell 3
  have z4 : w0.cell? ⟨w.heap.size, 4, none⟩ = some (.bool was) := HB.out.cell 4
  have z5 : w0.cell? ⟨w.heap.size, 5, none⟩ = some (.string old) := HB.out.cell 5
  have z6 : w0.cell? ⟨w.heap.size, 6, none⟩ = some (.int .u64 prev) := HB.out.cell 6
  have z7 : w0.cell? ⟨w.heap.size, 7, none⟩ = some (.slice na nn nc) := HB.out.cell 7
  have z8 : w0.cell? ⟨w.heap.size, 8, none⟩ = some (.slice ra rn rc) := HB.out.cell 8
  have z9 : w0.cell? ⟨w.heap.size, 9, none⟩ = some (.slice ga gn gc) := HB.out.cell 9
  have z10 : w0.cell? ⟨w.heap.size, 10, none⟩ = some (.slice oa om oc) := HB.out.cell 10
  have z11 : w0.cell? ⟨w.heap.size, 11, none⟩ = some (.slice da dn dc) := HB.out.cell 11
  go_wp2_with fail
  refine (tid11_any num node w0).mono ?_
  rintro e w1 ⟨rfl, y⟩
  have HB' : Hid (Blk w1 w.heap.size #[.int .i64 4, .int .u64 num, .int .i64 node, .string key, .bool was, .string old, .int .u64 prev, .slice na nn nc, .slice ra rn rc, .slice ga gn gc, .slice oa om oc, .slice da dn dc] 31) := Blk.of HB.out (y.block _ HB.out.lt)
  have HY' : Hid (Below w.heap.size w w1) := ext_trans HY.out y
  clear HB HY y
  clear z0 z1 z2 z3 z4 z5 z6 z7 z8 z9 z10 z11
  have HB := HB'
  have HY := HY'
  clear HB' HY'
  have z0 : w1.cell? ⟨w.heap.size, 0, none⟩ = some (.int .i64 4) := HB.out.cell 0
  have z1 : w1.cell? ⟨w.heap.size, 1, none⟩ = some (.int .u64 num) := HB.out.cell 1
  have z2 : w1.cell? ⟨w.heap.size, 2, none⟩ = some (.int .i64 node) := HB.out.cell 2
  have z3 : w1.cell? ⟨w.heap.size, 3, none⟩ = some (.string key) := HB.out.cell 3
  have z4 : w1.cell? ⟨w.heap.size, 4, none⟩ = some (.bool was) := HB.out.cell 4
  have z5 : w1.cell? ⟨w.heap.size, 5, none⟩ = some (.string old) := HB.out.cell 5
  have z6 : w1.cell? ⟨w.heap.size, 6, none⟩ = some (.int .u64 prev) := HB.out.cell 6
  have z7 : w1.cell? ⟨w.heap.size, 7, none⟩ = some (.slice na nn nc) := HB.out.cell 7
  have z8 : w1.cell? ⟨w.heap.size, 8, none⟩ = some (.slice ra rn rc) := HB.out.cell 8
  have z9 : w1.cell? ⟨w.heap.size, 9, none⟩ = some (.slice ga gn gc) := HB.out.cell 9
  have z10 : w1.cell? ⟨w.heap.size, 10, none⟩ = some (.slice oa om oc) := HB.out.cell 10
  have z11 : w1.cell? ⟨w.heap.size, 11, none⟩ = some (.slice da dn dc) := HB.out.cell 11
  cases hval : tidOk num node
  case false =>
    have E0 : Hid (tidOk num node = false) := hval
    clear hval
    go_wp2
    go_ret
    exact ⟨ret_bool (rno HN.out fun h => by have h1 : tidOk num node = true := h.tid; have h2 := E0.out; rw [h1] at h2; cases h2).symm, HY.out⟩
  have T1 : Hid (tidOk num node = true) := hval
  clear hval
  by_cases q2 : 4611686018427387904 < prev
  case pos =>
    go_wp2
    go_ret
    exact ⟨ret_bool (rno HN.out fun h => by have h1 : prev ≤ 4611686018427387904 := h.pr; omega).symm, HY.out⟩
  go_wp2_with fail
  refine (rising_any _ ns w1 (HNS.out.below HY.out)).mono ?_
  rintro e w2 ⟨rfl, y⟩
  have HB' : Hid (Blk w2 w.heap.size #[.int .i64 4, .int .u64 num, .int .i64 node, .string key, .bool was, .string old, .int .u64 prev, .slice na nn nc, .slice ra rn rc, .slice ga gn gc, .slice oa om oc, .slice da dn dc] 31) := Blk.of HB.out (y.block _ HB.out.lt)
  have HY' : Hid (Below w.heap.size w w2) := ext_trans HY.out y
  clear HB HY y
  clear z0 z1 z2 z3 z4 z5 z6 z7 z8 z9 z10 z11
  have HB := HB'
  have HY := HY'
  clear HB' HY'
  have z0 : w2.cell? ⟨w.heap.size, 0, none⟩ = some (.int .i64 4) := HB.out.cell 0
  have z1 : w2.cell? ⟨w.heap.size, 1, none⟩ = some (.int .u64 num) := HB.out.cell 1
  have z2 : w2.cell? ⟨w.heap.size, 2, none⟩ = some (.int .i64 node) := HB.out.cell 2
  have z3 : w2.cell? ⟨w.heap.size, 3, none⟩ = some (.string key) := HB.out.cell 3
  have z4 : w2.cell? ⟨w.heap.size, 4, none⟩ = some (.bool was) := HB.out.cell 4
  have z5 : w2.cell? ⟨w.heap.size, 5, none⟩ = some (.string old) := HB.out.cell 5
  have z6 : w2.cell? ⟨w.heap.size, 6, none⟩ = some (.int .u64 prev) := HB.out.cell 6
  have z7 : w2.cell? ⟨w.heap.size, 7, none⟩ = some (.slice na nn nc) := HB.out.cell 7
  have z8 : w2.cell? ⟨w.heap.size, 8, none⟩ = some (.slice ra rn rc) := HB.out.cell 8
  have z9 : w2.cell? ⟨w.heap.size, 9, none⟩ = some (.slice ga gn gc) := HB.out.cell 9
  have z10 : w2.cell? ⟨w.heap.size, 10, none⟩ = some (.slice oa om oc) := HB.out.cell 10
  have z11 : w2.cell? ⟨w.heap.size, 11, none⟩ = some (.slice da dn dc) := HB.out.cell 11
  cases hval : nodesOk ns
  case false =>
    have E0 : Hid (nodesOk ns = false) := hval
    clear hval
    go_wp2
    go_ret
    exact ⟨ret_bool (rno HN.out fun h => by have h1 : nodesOk ns = true := h.ns; have h2 := E0.out; rw [h1] at h2; cases h2).symm, HY.out⟩
  have T2 : Hid (nodesOk ns = true) := hval
  clear hval
  go_wp2_with fail
  refine (keys_any _ rs w2 (HRS.out.below HY.out)).mono ?_
  rintro e w3 ⟨rfl, y⟩
  have HB' : Hid (Blk w3 w.heap.size #[.int .i64 4, .int .u64 num, .int .i64 node, .string key, .bool was, .string old, .int .u64 prev, .slice na nn nc, .slice ra rn rc, .slice ga gn gc, .slice oa om oc, .slice da dn dc] 31) := Blk.of HB.out (y.block _ HB.out.lt)
  have HY' : Hid (Below w.heap.size w w3) := ext_trans HY.out y
  clear HB HY y
  clear z0 z1 z2 z3 z4 z5 z6 z7 z8 z9 z10 z11
  have HB := HB'
  have HY := HY'
  clear HB' HY'
  have z0 : w3.cell? ⟨w.heap.size, 0, none⟩ = some (.int .i64 4) := HB.out.cell 0
  have z1 : w3.cell? ⟨w.heap.size, 1, none⟩ = some (.int .u64 num) := HB.out.cell 1
  have z2 : w3.cell? ⟨w.heap.size, 2, none⟩ = some (.int .i64 node) := HB.out.cell 2
  have z3 : w3.cell? ⟨w.heap.size, 3, none⟩ = some (.string key) := HB.out.cell 3
  have z4 : w3.cell? ⟨w.heap.size, 4, none⟩ = some (.bool was) := HB.out.cell 4
  have z5 : w3.cell? ⟨w.heap.size, 5, none⟩ = some (.string old) := HB.out.cell 5
  have z6 : w3.cell? ⟨w.heap.size, 6, none⟩ = some (.int .u64 prev) := HB.out.cell 6
  have z7 : w3.cell? ⟨w.heap.size, 7, none⟩ = some (.slice na nn nc) := HB.out.cell 7
  have z8 : w3.cell? ⟨w.heap.size, 8, none⟩ = some (.slice ra rn rc) := HB.out.cell 8
  have z9 : w3.cell? ⟨w.heap.size, 9, none⟩ = some (.slice ga gn gc) := HB.out.cell 9
  have z10 : w3.cell? ⟨w.heap.size, 10, none⟩ = some (.slice oa om oc) := HB.out.cell 10
  have z11 : w3.cell? ⟨w.heap.size, 11, none⟩ = some (.slice da dn dc) := HB.out.cell 11
  cases hval : readsOk rs
  case false =>
    have E0 : Hid (readsOk rs = false) := hval
    clear hval
    go_wp2
    go_ret
    exact ⟨ret_bool (rno HN.out fun h => by have h1 : readsOk rs = true := h.rs; have h2 := E0.out; rw [h1] at h2; cases h2).symm, HY.out⟩
  have T3 : Hid (readsOk rs = true) := hval
  clear hval
  by_cases q3 : 30 < gn
  case pos =>
    go_wp2
    go_ret
    exact ⟨ret_bool (rno HN.out fun h => by have h1 : gs.length ≤ 30 := (fits_mem h.gs).1; have h2 := LN.out; omega).symm, HY.out⟩
  by_cases q4 : 0 < key.size
  case pos =>
    go_wp2
    go_ret
    exact ⟨ret_bool (rno HN.out fun h => by have h1 : key = .empty := (h.n1 (show ¬ (4 : Int) = 1 by decide)).1; have h2 := sz0 h1; omega).symm, HY.out⟩
  cases was
  case true =>
    go_wp2
    go_ret
    exact ⟨ret_bool (rno HN.out fun h => by have h1 : true = false := (h.n1 (show ¬ (4 : Int) = 1 by decide)).2.1; cases h1).symm, HY.out⟩
  by_cases q6 : 0 < old.size
  case pos =>
    go_wp2
    go_ret
    exact ⟨ret_bool (rno HN.out fun h => by have h1 : old = .empty := (h.n1 (show ¬ (4 : Int) = 1 by decide)).2.2; have h2 := sz0 h1; omega).symm, HY.out⟩
  by_cases q7 : prev = 0
  case neg =>
    go_wp2
    go_ret
    exact ⟨ret_bool (rno HN.out fun h => q7 (h.n2 (show ¬ (4 : Int) = 1 by decide) (show ¬ (4 : Int) = 2 by decide)).1).symm, HY.out⟩
  subst q7
  by_cases q8 : 0 < gn
  case pos =>
    go_wp2
    go_ret
    exact ⟨ret_bool (rno HN.out fun h => by have h1 : gs = [] := (h.n2 (show ¬ (4 : Int) = 1 by decide) (show ¬ (4 : Int) = 2 by decide)).2; have h2 := len0 h1; have h3 := LN.out; omega).symm, HY.out⟩
  obtain rfl : gn = 0 := by omega
  by_cases q9 : 0 < nn
  case pos =>
    go_wp2
    go_ret
    exact ⟨ret_bool (rno HN.out fun h => by have h1 : ns = [] := h.n6 (show ¬ (4 : Int) = 6 by decide); have h2 := len0 h1; have h3 := LN.out; omega).symm, HY.out⟩
  obtain rfl : nn = 0 := by omega
  by_cases q10 : 0 < rn
  case pos =>
    go_wp2
    go_ret
    exact ⟨ret_bool (rno HN.out fun h => by have h1 : rs = [] := h.n3 (show ¬ (4 : Int) = 3 by decide); have h2 := len0 h1; have h3 := LN.out; omega).symm, HY.out⟩
  obtain rfl : rn = 0 := by omega
  by_cases q11 : 0 < om
  case pos =>
    go_wp2
    go_ret
    exact ⟨ret_bool (rno HN.out fun h => by have h1 : os = [] := (h.n8 (show ¬ (4 : Int) = 8 by decide)).1; have h2 := len0 h1; have h3 := LN.out; omega).symm, HY.out⟩
  obtain rfl : om = 0 := by omega
  by_cases q12 : 0 < dn
  case pos =>
    go_wp2
    go_ret
    exact ⟨ret_bool (rno HN.out fun h => by have h1 : ds = [] := (h.n8 (show ¬ (4 : Int) = 8 by decide)).2; have h2 := len0 h1; have h3 := LN.out; omega).symm, HY.out⟩
  obtain rfl : dn = 0 := by omega
  go_wp2
  clear z0 z1 z2 z3 z4 z5 z6 z7 z8 z9 z10 z11
  go_loopw [155] (fun i wr => i = .int .i64 0 ∧ Below w.heap.size w wr ∧ Blk wr w.heap.size #[.int .i64 4, .int .u64 num, .int .i64 node, .string key, .bool false, .string old, .int .u64 0, .slice na 0 nc, .slice ra 0 rc, .slice ga 0 gc, .slice oa 0 oc, .slice da 0 dc] 31) (fun _ _ => 0)
  case atStart => exact ⟨rfl, HY.out, HB.out⟩
  case round =>
    obtain ⟨rfl, hy, hb⟩ := hrel
    clear HY HB
    have HY : Hid (Below w.heap.size w wr) := hy
    have HB : Hid (Blk wr w.heap.size #[.int .i64 4, .int .u64 num, .int .i64 node, .string key, .bool false, .string old, .int .u64 0, .slice na 0 nc, .slice ra 0 rc, .slice ga 0 gc, .slice oa 0 oc, .slice da 0 dc] 31) := hb
    clear hy hb
    rename World => wa
    have z0 : wa.cell? ⟨w.heap.size, 0, none⟩ = some (.int .i64 4) := HB.out.cell 0
    have z1 : wa.cell? ⟨w.heap.size, 1, none⟩ = some (.int .u64 num) := HB.out.cell 1
    have z2 : wa.cell? ⟨w.heap.size, 2, none⟩ = some (.int .i64 node) := HB.out.cell 2
    have z3 : wa.cell? ⟨w.heap.size, 3, none⟩ = some (.string key) := HB.out.cell 3
    have z4 : wa.cell? ⟨w.heap.size, 4, none⟩ = some (.bool false) := HB.out.cell 4
    have z5 : wa.cell? ⟨w.heap.size, 5, none⟩ = some (.string old) := HB.out.cell 5
    have z6 : wa.cell? ⟨w.heap.size, 6, none⟩ = some (.int .u64 0) := HB.out.cell 6
    have z7 : wa.cell? ⟨w.heap.size, 7, none⟩ = some (.slice na 0 nc) := HB.out.cell 7
    have z8 : wa.cell? ⟨w.heap.size, 8, none⟩ = some (.slice ra 0 rc) := HB.out.cell 8
    have z9 : wa.cell? ⟨w.heap.size, 9, none⟩ = some (.slice ga 0 gc) := HB.out.cell 9
    have z10 : wa.cell? ⟨w.heap.size, 10, none⟩ = some (.slice oa 0 oc) := HB.out.cell 10
    have z11 : wa.cell? ⟨w.heap.size, 11, none⟩ = some (.slice da 0 dc) := HB.out.cell 11
    go_wp2
    clear z0 z1 z2 z3 z4 z5 z6 z7 z8 z9 z10 z11
    go_loopw [194] (fun i wr => i = .int .i64 0 ∧ Below w.heap.size w wr ∧ Blk wr w.heap.size #[.int .i64 4, .int .u64 num, .int .i64 node, .string key, .bool false, .string old, .int .u64 0, .slice na 0 nc, .slice ra 0 rc, .slice ga 0 gc, .slice oa 0 oc, .slice da 0 dc] 31) (fun _ _ => 0)
    case atStart => exact ⟨rfl, HY.out, HB.out⟩
    case round =>
      obtain ⟨rfl, hy, hb⟩ := hrel
      clear HY HB
      have HY : Hid (Below w.heap.size w wr) := hy
      have HB : Hid (Blk wr w.heap.size #[.int .i64 4, .int .u64 num, .int .i64 node, .string key, .bool false, .string old, .int .u64 0, .slice na 0 nc, .slice ra 0 rc, .slice ga 0 gc, .slice oa 0 oc, .slice da 0 dc] 31) := hb
      clear hy hb
      rename World => wb
      have z0 : wb.cell? ⟨w.heap.size, 0, none⟩ = some (.int .i64 4) := HB.out.cell 0
      have z1 : wb.cell? ⟨w.heap.size, 1, none⟩ = some (.int .u64 num) := HB.out.cell 1
      have z2 : wb.cell? ⟨w.heap.size, 2, none⟩ = some (.int .i64 node) := HB.out.cell 2
      have z3 : wb.cell? ⟨w.heap.size, 3, none⟩ = some (.string key) := HB.out.cell 3
      have z4 : wb.cell? ⟨w.heap.size, 4, none⟩ = some (.bool false) := HB.out.cell 4
      have z5 : wb.cell? ⟨w.heap.size, 5, none⟩ = some (.string old) := HB.out.cell 5
      have z6 : wb.cell? ⟨w.heap.size, 6, none⟩ = some (.int .u64 0) := HB.out.cell 6
      have z7 : wb.cell? ⟨w.heap.size, 7, none⟩ = some (.slice na 0 nc) := HB.out.cell 7
      have z8 : wb.cell? ⟨w.heap.size, 8, none⟩ = some (.slice ra 0 rc) := HB.out.cell 8
      have z9 : wb.cell? ⟨w.heap.size, 9, none⟩ = some (.slice ga 0 gc) := HB.out.cell 9
      have z10 : wb.cell? ⟨w.heap.size, 10, none⟩ = some (.slice oa 0 oc) := HB.out.cell 10
      have z11 : wb.cell? ⟨w.heap.size, 11, none⟩ = some (.slice da 0 dc) := HB.out.cell 11
      go_wp2
      clear z0 z1 z2 z3 z4 z5 z6 z7 z8 z9 z10 z11
      go_loopw [250] (fun i wr => i = .int .i64 0 ∧ Below w.heap.size w wr ∧ Blk wr w.heap.size #[.int .i64 4, .int .u64 num, .int .i64 node, .string key, .bool false, .string old, .int .u64 0, .slice na 0 nc, .slice ra 0 rc, .slice ga 0 gc, .slice oa 0 oc, .slice da 0 dc] 31) (fun _ _ => 0)
      case atStart => exact ⟨rfl, HY.out, HB.out⟩
      case round =>
        obtain ⟨rfl, hy, hb⟩ := hrel
        clear HY HB
        have HY : Hid (Below w.heap.size w wr) := hy
        have HB : Hid (Blk wr w.heap.size #[.int .i64 4, .int .u64 num, .int .i64 node, .string key, .bool false, .string old, .int .u64 0, .slice na 0 nc, .slice ra 0 rc, .slice ga 0 gc, .slice oa 0 oc, .slice da 0 dc] 31) := hb
        clear hy hb
        rename World => wc
        have HPA : Hid (Parts (RecV.mk 4 num node key false old 0 na 0 nc ns ra 0 rc rs ga 0 gc gs oa 0 oc os da 0 dc ds)) := ⟨T1.out, fits0 (show gs.length = 0 by have h3 := LN.out; omega), fits0 (show os.length = 0 by have h3 := LN.out; omega), fits0 (show ds.length = 0 by have h3 := LN.out; omega), T3.out, T2.out, fun _ => nil0 (show rs.length = 0 by have h3 := LN.out; omega), fun _ => nil0 (show ns.length = 0 by have h3 := LN.out; omega), fun _ => ⟨nil0 (show os.length = 0 by have h3 := LN.out; omega), nil0 (show ds.length = 0 by have h3 := LN.out; omega)⟩, fun _ _ => ⟨rfl, nil0 (show gs.length = 0 by have h3 := LN.out; omega)⟩, fun _ => ⟨emp0 (show key.size = 0 by omega), rfl, emp0 (show old.size = 0 by omega)⟩, fun (h : (4 : Int) = 1) => absurd h (by decide), (show (0 : Int) ≤ 4611686018427387904 by omega), fun (h : (4 : Int) = 8) => absurd h (by decide)⟩
        go_wp2
        go_ret
        exact ⟨ret_bool (HYS.out HPA.out).symm, HY.out⟩
end Go.Proofs.YtbgofajldkblmaaGreat
/- rec: the law's right, of any record of kind 5. Own lemmas, no statement. -/
set_option linter.unusedSimpArgs false
set_option linter.unusedVariables false
namespace Go.Proofs.YtbgofajldkblmaaGreat
open Go.ChangeShapes Go.WideShapes Go.ChangeAt Go.RowKit

set_option maxRecDepth 100000 in
set_option maxHeartbeats 16000000 in
theorem right12_5 (num : Int) (node : Int) (key : ByteArray) (was : Bool) (old : ByteArray) (prev : Int) (na : Option Addr) (nn : Nat) (nc : Nat) (ns : List Int) (ra : Option Addr) (rn : Nat) (rc : Nat) (rs : List ByteArray) (ga : Option Addr) (gn : Nat) (gc : Nat) (gs : List ChgV) (oa : Option Addr) (om : Nat) (oc : Nat) (os : List OpenV) (da : Option Addr) (dn : Nat) (dc : Nat) (ds : List DoneV) (w : World) (R : Bool) (hns : Rd w (.slice na nn nc) (iv ns)) (hrs : Rd w (.slice ra rn rc) (sv rs)) (hg : RowsN w 9 ChgV.c (.slice ga gn gc) gs) (hga : ∀ c ∈ gs, c.At w) (ho : RowsN w 7 OpenV.c (.slice oa om oc) os) (hoa : ∀ c ∈ os, c.At w) (hd : RowsN w 3 DoneV.c (.slice da dn dc) ds) (hda : ∀ c ∈ ds, c.At w) (hom : om ≤ 20) (hdm : dn ≤ 20) (hkz : key.size ≤ maxLen) (hoz : old.size ≤ maxLen)
    (hN : R = true → Parts (RecV.mk 5 num node key was old prev na nn nc ns ra rn rc rs ga gn gc gs oa om oc os da dn dc ds)) (hY : Parts (RecV.mk 5 num node key was old prev na nn nc ns ra rn rc rs ga gn gc gs oa om oc os da dn dc ds) → R = true) :
    Calls Tryz.prog 10 #[.agg #[.int .i64 5, .int .u64 num, .int .i64 node, .string key, .bool was, .string old, .int .u64 prev, .slice na nn nc, .slice ra rn rc, .slice ga gn gc, .slice oa om oc, .slice da dn dc]] w (BoolP R w) := by
  have HNS : Hid (Rd w (.slice na nn nc) (iv ns)) := hns
  have HRS : Hid (Rd w (.slice ra rn rc) (sv rs)) := hrs
  have HN : Hid (R = true → Parts (RecV.mk 5 num node key was old prev na nn nc ns ra rn rc rs ga gn gc gs oa om oc os da dn dc ds)) := hN
  have HYS : Hid (Parts (RecV.mk 5 num node key was old prev na nn nc ns ra rn rc rs ga gn gc gs oa om oc os da dn dc ds) → R = true) := hY
  have LN : Hid (nn = ns.length ∧ rn = rs.length ∧ gn = gs.length ∧ om = os.length ∧ dn = ds.length) := ⟨by have h := hns.at.1; rw [iv_length] at h; exact h, by have h := hrs.at.1; rw [sv_length] at h; exact h, hg.len.1, ho.len.1, hd.len.1⟩
  have hnm : nn ≤ maxLen := by have h1 := hns.at.2.1; have h2 := hns.at.2.2.1; rw [iv_length] at h1; have h3 := LN.out.1; omega
  have hrm : rn ≤ maxLen := by have h1 := hrs.at.2.1; have h2 := hrs.at.2.2.1; rw [sv_length] at h1; have h3 := LN.out.2.1; omega
  have hgm : gn ≤ maxLen := by have h1 := hg.len.2; omega
  unfold maxLen at hnm hrm hgm hkz hoz
  clear hns hrs hg hga ho hoa hd hda hN hY
  have HB : Hid (Blk (w.alloc (.cells #[.int .i64 5, .int .u64 num, .int .i64 node, .string key, .bool was, .string old, .int .u64 prev, .slice na nn nc, .slice ra rn rc, .slice ga gn gc, .slice oa om oc, .slice da dn dc] 31)) w.heap.size #[.int .i64 5, .int .u64 num, .int .i64 node, .string key, .bool was, .string old, .int .u64 prev, .slice na nn nc, .slice ra rn rc, .slice ga gn gc, .slice oa om oc, .slice da dn dc] 31) := Blk.new _ _ _
  have HY : Hid (Below w.heap.size w (w.alloc (.cells #[.int .i64 5, .int .u64 num, .int .i64 node, .string key, .bool was, .string old, .int .u64 prev, .slice na nn nc, .slice ra rn rc, .slice ga gn gc, .slice oa om oc, .slice da dn dc] 31))) := (Below.refl _ _).alloc (Nat.le_refl _) _
  go_enter Tryz.func10, Tryz.ntmps10
  go_upto_region 1 with fail
  generalize (w.alloc (.cells #[.int .i64 5, .int .u64 num, .int .i64 node, .string key, .bool was, .string old, .int .u64 prev, .slice na nn nc, .slice ra rn rc, .slice ga gn gc, .slice oa om oc, .slice da dn dc] 31)) = w0 at *
  have z0 : w0.cell? ⟨w.heap.size, 0, none⟩ = some (.int .i64 5) := HB.out.cell 0
  have z1 : w0.cell? ⟨w.heap.size, 1, none⟩ = some (.int .u64 num) := HB.out.cell 1
  have z2 : w0.cell? ⟨w.heap.size, 2, none⟩ = some (.int .i64 node) := HB.out.cell 2
  have z3 : w0.cell? ⟨w.heap.size, 3, none⟩ = some (.string key) := HB.out.cell 3
  have z4 : w0.cell? ⟨w.heap.size, 4, none⟩ = some (.bool was) := HB.out.cell 4
  have z5 : w0.cell? ⟨w.heap.size, 5, none⟩ = some (.string old) := HB.out.cell 5
  have z6 : w0.cell? ⟨w.heap.size, 6, none⟩ = some (.int .u64 prev) := HB.out.cell 6
  have z7 : w0.cell? ⟨w.heap.size, 7, none⟩ = some (.slice na nn nc) := HB.out.cell 7
  have z8 : w0.cell? ⟨w.heap.size, 8, none⟩ = some (.slice ra rn rc) := HB.out.cell 8
  have z9 : w0.cell? ⟨w.heap.size, 9, none⟩ = some (.slice ga gn gc) := HB.out.cell 9
  have z10 : w0.cell? ⟨w.heap.size, 10, none⟩ = some (.slice oa om oc) := HB.out.cell 10
  have z11 : w0.cell? ⟨w.heap.size, 11, none⟩ = some (.slice da dn dc) := HB.out.cell 11
  go_wp2_with fail
  refine (tid11_any num node w0).mono ?_
  rintro e w1 ⟨rfl, y⟩
  have HB' : Hid (Blk w1 w.heap.size #[.int .i64 5, .int .u64 num, .int .i64 node, .string key, .bool was, .string old, .int .u64 prev, .slice na nn nc, .slice ra rn rc, .slice ga gn gc, .slice oa om oc, .slice da dn dc] 31) := Blk.of HB.out (y.block _ HB.out.lt)
  have HY' : Hid (Below w.heap.size w w1) := ext_trans HY.out y
  clear HB HY y
  clear z0 z1 z2 z3 z4 z5 z6 z7 z8 z9 z10 z11
  have HB := HB'
  have HY := HY'
  clear HB' HY'
  have z0 : w1.cell? ⟨w.heap.size, 0, none⟩ = some (.int .i64 5) := HB.out.cell 0
  have z1 : w1.cell? ⟨w.heap.size, 1, none⟩ = some (.int .u64 num) := HB.out.cell 1
  have z2 : w1.cell? ⟨w.heap.size, 2, none⟩ = some (.int .i64 node) := HB.out.cell 2
  have z3 : w1.cell? ⟨w.heap.size, 3, none⟩ = some (.string key) := HB.out.cell 3
  have z4 : w1.cell? ⟨w.heap.size, 4, none⟩ = some (.bool was) := HB.out.cell 4
  have z5 : w1.cell? ⟨w.heap.size, 5, none⟩ = some (.string old) := HB.out.cell 5
  have z6 : w1.cell? ⟨w.heap.size, 6, none⟩ = some (.int .u64 prev) := HB.out.cell 6
  have z7 : w1.cell? ⟨w.heap.size, 7, none⟩ = some (.slice na nn nc) := HB.out.cell 7
  have z8 : w1.cell? ⟨w.heap.size, 8, none⟩ = some (.slice ra rn rc) := HB.out.cell 8
  have z9 : w1.cell? ⟨w.heap.size, 9, none⟩ = some (.slice ga gn gc) := HB.out.cell 9
  have z10 : w1.cell? ⟨w.heap.size, 10, none⟩ = some (.slice oa om oc) := HB.out.cell 10
  have z11 : w1.cell? ⟨w.heap.size, 11, none⟩ = some (.slice da dn dc) := HB.out.cell 11
  cases hval : tidOk num node
  case false =>
    have E0 : Hid (tidOk num node = false) := hval
    clear hval
    go_wp2
    go_ret
    exact ⟨ret_bool (rno HN.out fun h => by have h1 : tidOk num node = true := h.tid; have h2 := E0.out; rw [h1] at h2; cases h2).symm, HY.out⟩
  have T1 : Hid (tidOk num node = true) := hval
  clear hval
  by_cases q2 : 4611686018427387904 < prev
  case pos =>
    go_wp2
    go_ret
    exact ⟨ret_bool (rno HN.out fun h => by have h1 : prev ≤ 4611686018427387904 := h.pr; omega).symm, HY.out⟩
  go_wp2_with fail
  refine (rising_any _ ns w1 (HNS.out.below HY.out)).mono ?_
  rintro e w2 ⟨rfl, y⟩
  have HB' : Hid (Blk w2 w.heap.size #[.int .i64 5, .int .u64 num, .int .i64 node, .string key, .bool was, .string old, .int .u64 prev, .slice na nn nc, .slice ra rn rc, .slice ga gn gc, .slice oa om oc, .slice da dn dc] 31) := Blk.of HB.out (y.block _ HB.out.lt)
  have HY' : Hid (Below w.heap.size w w2) := ext_trans HY.out y
  clear HB HY y
  clear z0 z1 z2 z3 z4 z5 z6 z7 z8 z9 z10 z11
  have HB := HB'
  have HY := HY'
  clear HB' HY'
  have z0 : w2.cell? ⟨w.heap.size, 0, none⟩ = some (.int .i64 5) := HB.out.cell 0
  have z1 : w2.cell? ⟨w.heap.size, 1, none⟩ = some (.int .u64 num) := HB.out.cell 1
  have z2 : w2.cell? ⟨w.heap.size, 2, none⟩ = some (.int .i64 node) := HB.out.cell 2
  have z3 : w2.cell? ⟨w.heap.size, 3, none⟩ = some (.string key) := HB.out.cell 3
  have z4 : w2.cell? ⟨w.heap.size, 4, none⟩ = some (.bool was) := HB.out.cell 4
  have z5 : w2.cell? ⟨w.heap.size, 5, none⟩ = some (.string old) := HB.out.cell 5
  have z6 : w2.cell? ⟨w.heap.size, 6, none⟩ = some (.int .u64 prev) := HB.out.cell 6
  have z7 : w2.cell? ⟨w.heap.size, 7, none⟩ = some (.slice na nn nc) := HB.out.cell 7
  have z8 : w2.cell? ⟨w.heap.size, 8, none⟩ = some (.slice ra rn rc) := HB.out.cell 8
  have z9 : w2.cell? ⟨w.heap.size, 9, none⟩ = some (.slice ga gn gc) := HB.out.cell 9
  have z10 : w2.cell? ⟨w.heap.size, 10, none⟩ = some (.slice oa om oc) := HB.out.cell 10
  have z11 : w2.cell? ⟨w.heap.size, 11, none⟩ = some (.slice da dn dc) := HB.out.cell 11
  cases hval : nodesOk ns
  case false =>
    have E0 : Hid (nodesOk ns = false) := hval
    clear hval
    go_wp2
    go_ret
    exact ⟨ret_bool (rno HN.out fun h => by have h1 : nodesOk ns = true := h.ns; have h2 := E0.out; rw [h1] at h2; cases h2).symm, HY.out⟩
  have T2 : Hid (nodesOk ns = true) := hval
  clear hval
  go_wp2_with fail
  refine (keys_any _ rs w2 (HRS.out.below HY.out)).mono ?_
  rintro e w3 ⟨rfl, y⟩
  have HB' : Hid (Blk w3 w.heap.size #[.int .i64 5, .int .u64 num, .int .i64 node, .string key, .bool was, .string old, .int .u64 prev, .slice na nn nc, .slice ra rn rc, .slice ga gn gc, .slice oa om oc, .slice da dn dc] 31) := Blk.of HB.out (y.block _ HB.out.lt)
  have HY' : Hid (Below w.heap.size w w3) := ext_trans HY.out y
  clear HB HY y
  clear z0 z1 z2 z3 z4 z5 z6 z7 z8 z9 z10 z11
  have HB := HB'
  have HY := HY'
  clear HB' HY'
  have z0 : w3.cell? ⟨w.heap.size, 0, none⟩ = some (.int .i64 5) := HB.out.cell 0
  have z1 : w3.cell? ⟨w.heap.size, 1, none⟩ = some (.int .u64 num) := HB.out.cell 1
  have z2 : w3.cell? ⟨w.heap.size, 2, none⟩ = some (.int .i64 node) := HB.out.cell 2
  have z3 : w3.cell? ⟨w.heap.size, 3, none⟩ = some (.string key) := HB.out.cell 3
  have z4 : w3.cell? ⟨w.heap.size, 4, none⟩ = some (.bool was) := HB.out.cell 4
  have z5 : w3.cell? ⟨w.heap.size, 5, none⟩ = some (.string old) := HB.out.cell 5
  have z6 : w3.cell? ⟨w.heap.size, 6, none⟩ = some (.int .u64 prev) := HB.out.cell 6
  have z7 : w3.cell? ⟨w.heap.size, 7, none⟩ = some (.slice na nn nc) := HB.out.cell 7
  have z8 : w3.cell? ⟨w.heap.size, 8, none⟩ = some (.slice ra rn rc) := HB.out.cell 8
  have z9 : w3.cell? ⟨w.heap.size, 9, none⟩ = some (.slice ga gn gc) := HB.out.cell 9
  have z10 : w3.cell? ⟨w.heap.size, 10, none⟩ = some (.slice oa om oc) := HB.out.cell 10
  have z11 : w3.cell? ⟨w.heap.size, 11, none⟩ = some (.slice da dn dc) := HB.out.cell 11
  cases hval : readsOk rs
  case false =>
    have E0 : Hid (readsOk rs = false) := hval
    clear hval
    go_wp2
    go_ret
    exact ⟨ret_bool (rno HN.out fun h => by have h1 : readsOk rs = true := h.rs; have h2 := E0.out; rw [h1] at h2; cases h2).symm, HY.out⟩
  have T3 : Hid (readsOk rs = true) := hval
  clear hval
  by_cases q3 : 30 < gn
  case pos =>
    go_wp2
    go_ret
    exact ⟨ret_bool (rno HN.out fun h => by have h1 : gs.length ≤ 30 := (fits_mem h.gs).1; have h2 := LN.out; omega).symm, HY.out⟩
  by_cases q4 : 0 < key.size
  case pos =>
    go_wp2
    go_ret
    exact ⟨ret_bool (rno HN.out fun h => by have h1 : key = .empty := (h.n1 (show ¬ (5 : Int) = 1 by decide)).1; have h2 := sz0 h1; omega).symm, HY.out⟩
  cases was
  case true =>
    go_wp2
    go_ret
    exact ⟨ret_bool (rno HN.out fun h => by have h1 : true = false := (h.n1 (show ¬ (5 : Int) = 1 by decide)).2.1; cases h1).symm, HY.out⟩
  by_cases q6 : 0 < old.size
  case pos =>
    go_wp2
    go_ret
    exact ⟨ret_bool (rno HN.out fun h => by have h1 : old = .empty := (h.n1 (show ¬ (5 : Int) = 1 by decide)).2.2; have h2 := sz0 h1; omega).symm, HY.out⟩
  by_cases q7 : prev = 0
  case neg =>
    go_wp2
    go_ret
    exact ⟨ret_bool (rno HN.out fun h => q7 (h.n2 (show ¬ (5 : Int) = 1 by decide) (show ¬ (5 : Int) = 2 by decide)).1).symm, HY.out⟩
  subst q7
  by_cases q8 : 0 < gn
  case pos =>
    go_wp2
    go_ret
    exact ⟨ret_bool (rno HN.out fun h => by have h1 : gs = [] := (h.n2 (show ¬ (5 : Int) = 1 by decide) (show ¬ (5 : Int) = 2 by decide)).2; have h2 := len0 h1; have h3 := LN.out; omega).symm, HY.out⟩
  obtain rfl : gn = 0 := by omega
  by_cases q9 : 0 < nn
  case pos =>
    go_wp2
    go_ret
    exact ⟨ret_bool (rno HN.out fun h => by have h1 : ns = [] := h.n6 (show ¬ (5 : Int) = 6 by decide); have h2 := len0 h1; have h3 := LN.out; omega).symm, HY.out⟩
  obtain rfl : nn = 0 := by omega
  by_cases q10 : 0 < rn
  case pos =>
    go_wp2
    go_ret
    exact ⟨ret_bool (rno HN.out fun h => by have h1 : rs = [] := h.n3 (show ¬ (5 : Int) = 3 by decide); have h2 := len0 h1; have h3 := LN.out; omega).symm, HY.out⟩
  obtain rfl : rn = 0 := by omega
  by_cases q11 : 0 < om
  case pos =>
    go_wp2
    go_ret
    exact ⟨ret_bool (rno HN.out fun h => by have h1 : os = [] := (h.n8 (show ¬ (5 : Int) = 8 by decide)).1; have h2 := len0 h1; have h3 := LN.out; omega).symm, HY.out⟩
  obtain rfl : om = 0 := by omega
  by_cases q12 : 0 < dn
  case pos =>
    go_wp2
    go_ret
    exact ⟨ret_bool (rno HN.out fun h => by have h1 : ds = [] := (h.n8 (show ¬ (5 : Int) = 8 by decide)).2; have h2 := len0 h1; have h3 := LN.out; omega).symm, HY.out⟩
  obtain rfl : dn = 0 := by omega
  go_wp2
  clear z0 z1 z2 z3 z4 z5 z6 z7 z8 z9 z10 z11
  go_loopw [155] (fun i wr => i = .int .i64 0 ∧ Below w.heap.size w wr ∧ Blk wr w.heap.size #[.int .i64 5, .int .u64 num, .int .i64 node, .string key, .bool false, .string old, .int .u64 0, .slice na 0 nc, .slice ra 0 rc, .slice ga 0 gc, .slice oa 0 oc, .slice da 0 dc] 31) (fun _ _ => 0)
  case atStart => exact ⟨rfl, HY.out, HB.out⟩
  case round =>
    obtain ⟨rfl, hy, hb⟩ := hrel
    clear HY HB
    have HY : Hid (Below w.heap.size w wr) := hy
    have HB : Hid (Blk wr w.heap.size #[.int .i64 5, .int .u64 num, .int .i64 node, .string key, .bool false, .string old, .int .u64 0, .slice na 0 nc, .slice ra 0 rc, .slice ga 0 gc, .slice oa 0 oc, .slice da 0 dc] 31) := hb
    clear hy hb
    rename World => wa
    have z0 : wa.cell? ⟨w.heap.size, 0, none⟩ = some (.int .i64 5) := HB.out.cell 0
    have z1 : wa.cell? ⟨w.heap.size, 1, none⟩ = some (.int .u64 num) := HB.out.cell 1
    have z2 : wa.cell? ⟨w.heap.size, 2, none⟩ = some (.int .i64 node) := HB.out.cell 2
    have z3 : wa.cell? ⟨w.heap.size, 3, none⟩ = some (.string key) := HB.out.cell 3
    have z4 : wa.cell? ⟨w.heap.size, 4, none⟩ = some (.bool false) := HB.out.cell 4
    have z5 : wa.cell? ⟨w.heap.size, 5, none⟩ = some (.string old) := HB.out.cell 5
    have z6 : wa.cell? ⟨w.heap.size, 6, none⟩ = some (.int .u64 0) := HB.out.cell 6
    have z7 : wa.cell? ⟨w.heap.size, 7, none⟩ = some (.slice na 0 nc) := HB.out.cell 7
    have z8 : wa.cell? ⟨w.heap.size, 8, none⟩ = some (.slice ra 0 rc) := HB.out.cell 8
    have z9 : wa.cell? ⟨w.heap.size, 9, none⟩ = some (.slice ga 0 gc) := HB.out.cell 9
    have z10 : wa.cell? ⟨w.heap.size, 10, none⟩ = some (.slice oa 0 oc) := HB.out.cell 10
    have z11 : wa.cell? ⟨w.heap.size, 11, none⟩ = some (.slice da 0 dc) := HB.out.cell 11
    go_wp2
    clear z0 z1 z2 z3 z4 z5 z6 z7 z8 z9 z10 z11
    go_loopw [194] (fun i wr => i = .int .i64 0 ∧ Below w.heap.size w wr ∧ Blk wr w.heap.size #[.int .i64 5, .int .u64 num, .int .i64 node, .string key, .bool false, .string old, .int .u64 0, .slice na 0 nc, .slice ra 0 rc, .slice ga 0 gc, .slice oa 0 oc, .slice da 0 dc] 31) (fun _ _ => 0)
    case atStart => exact ⟨rfl, HY.out, HB.out⟩
    case round =>
      obtain ⟨rfl, hy, hb⟩ := hrel
      clear HY HB
      have HY : Hid (Below w.heap.size w wr) := hy
      have HB : Hid (Blk wr w.heap.size #[.int .i64 5, .int .u64 num, .int .i64 node, .string key, .bool false, .string old, .int .u64 0, .slice na 0 nc, .slice ra 0 rc, .slice ga 0 gc, .slice oa 0 oc, .slice da 0 dc] 31) := hb
      clear hy hb
      rename World => wb
      have z0 : wb.cell? ⟨w.heap.size, 0, none⟩ = some (.int .i64 5) := HB.out.cell 0
      have z1 : wb.cell? ⟨w.heap.size, 1, none⟩ = some (.int .u64 num) := HB.out.cell 1
      have z2 : wb.cell? ⟨w.heap.size, 2, none⟩ = some (.int .i64 node) := HB.out.cell 2
      have z3 : wb.cell? ⟨w.heap.size, 3, none⟩ = some (.string key) := HB.out.cell 3
      have z4 : wb.cell? ⟨w.heap.size, 4, none⟩ = some (.bool false) := HB.out.cell 4
      have z5 : wb.cell? ⟨w.heap.size, 5, none⟩ = some (.string old) := HB.out.cell 5
      have z6 : wb.cell? ⟨w.heap.size, 6, none⟩ = some (.int .u64 0) := HB.out.cell 6
      have z7 : wb.cell? ⟨w.heap.size, 7, none⟩ = some (.slice na 0 nc) := HB.out.cell 7
      have z8 : wb.cell? ⟨w.heap.size, 8, none⟩ = some (.slice ra 0 rc) := HB.out.cell 8
      have z9 : wb.cell? ⟨w.heap.size, 9, none⟩ = some (.slice ga 0 gc) := HB.out.cell 9
      have z10 : wb.cell? ⟨w.heap.size, 10, none⟩ = some (.slice oa 0 oc) := HB.out.cell 10
      have z11 : wb.cell? ⟨w.heap.size, 11, none⟩ = some (.slice da 0 dc) := HB.out.cell 11
      go_wp2
      clear z0 z1 z2 z3 z4 z5 z6 z7 z8 z9 z10 z11
      go_loopw [250] (fun i wr => i = .int .i64 0 ∧ Below w.heap.size w wr ∧ Blk wr w.heap.size #[.int .i64 5, .int .u64 num, .int .i64 node, .string key, .bool false, .string old, .int .u64 0, .slice na 0 nc, .slice ra 0 rc, .slice ga 0 gc, .slice oa 0 oc, .slice da 0 dc] 31) (fun _ _ => 0)
      case atStart => exact ⟨rfl, HY.out, HB.out⟩
      case round =>
        obtain ⟨rfl, hy, hb⟩ := hrel
        clear HY HB
        have HY : Hid (Below w.heap.size w wr) := hy
        have HB : Hid (Blk wr w.heap.size #[.int .i64 5, .int .u64 num, .int .i64 node, .string key, .bool false, .string old, .int .u64 0, .slice na 0 nc, .slice ra 0 rc, .slice ga 0 gc, .slice oa 0 oc, .slice da 0 dc] 31) := hb
        clear hy hb
        rename World => wc
        have HPA : Hid (Parts (RecV.mk 5 num node key false old 0 na 0 nc ns ra 0 rc rs ga 0 gc gs oa 0 oc os da 0 dc ds)) := ⟨T1.out, fits0 (show gs.length = 0 by have h3 := LN.out; omega), fits0 (show os.length = 0 by have h3 := LN.out; omega), fits0 (show ds.length = 0 by have h3 := LN.out; omega), T3.out, T2.out, fun _ => nil0 (show rs.length = 0 by have h3 := LN.out; omega), fun _ => nil0 (show ns.length = 0 by have h3 := LN.out; omega), fun _ => ⟨nil0 (show os.length = 0 by have h3 := LN.out; omega), nil0 (show ds.length = 0 by have h3 := LN.out; omega)⟩, fun _ _ => ⟨rfl, nil0 (show gs.length = 0 by have h3 := LN.out; omega)⟩, fun _ => ⟨emp0 (show key.size = 0 by omega), rfl, emp0 (show old.size = 0 by omega)⟩, fun (h : (5 : Int) = 1) => absurd h (by decide), (show (0 : Int) ≤ 4611686018427387904 by omega), fun (h : (5 : Int) = 8) => absurd h (by decide)⟩
        go_wp2
        go_ret
        exact ⟨ret_bool (HYS.out HPA.out).symm, HY.out⟩
end Go.Proofs.YtbgofajldkblmaaGreat
