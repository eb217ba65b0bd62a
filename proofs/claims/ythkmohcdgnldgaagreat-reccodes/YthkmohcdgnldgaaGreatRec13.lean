/- rec: the law's own ints, Alike, small, Same. Own lemmas, no statement. -/
import Derived.Test.YthkmohcdgnldgaaGreatRecQ
import Derived.Test.YthkmohcdgnldgaaGreatRec7
set_option linter.unusedSimpArgs false
set_option linter.unusedVariables false
namespace Go.Proofs.YthkmohcdgnldgaaGreat
open Go.ChangeShapes Go.WideShapes Go.ChangeAt Go.RowKit

/-- A call answers whether it is so. -/
def AnsP (p : Prop) (w : World) (e : Ending) (w' : World) : Prop := ∃ b : Bool, e = .returned (.bool b) ∧ (b = true ↔ p) ∧ Below w.heap.size w w'
theorem ansP_no {p : Prop} {w w' : World} {e : Ending} (he : e = .returned (.bool false)) (hp : ¬ p) (y : Below w.heap.size w w') : AnsP p w e w' := ⟨false, he, by simp [hp], y⟩
theorem ansP_yes {p : Prop} {w w' : World} {e : Ending} (he : e = .returned (.bool true)) (hp : p) (y : Below w.heap.size w w') : AnsP p w e w' := ⟨true, he, by simp [hp], y⟩
def AnyB (w : World) (e : Ending) (w' : World) : Prop := (∃ b : Bool, e = .returned (.bool b)) ∧ Below w.heap.size w w'
theorem anyB_of {w w' : World} {e : Ending} {b : Bool} (he : e = .returned (.bool b)) (y : Below w.heap.size w w') : AnyB w e w' := ⟨⟨b, he⟩, y⟩
theorem ansP_is {p q : Prop} {w w0 w' : World} {e : Ending} {b : Bool} (he : e = .returned (.bool b)) (hb : b = true ↔ q) (hp : q ↔ p) (y : Below w.heap.size w w') : AnsP p w e w' := ⟨b, he, hb.trans hp, y⟩
theorem ints_any (u v : Value) (a b : List Int) (w : World) (hu : Rd w u (iv a)) (hv : Rd w v (iv b)) :
    Calls Tryz.prog 38 #[u, v] w fun e w' => e = .returned (.bool (decide (a = b))) ∧ Below w.heap.size w w' := by
  obtain ⟨na, aa, ca, rfl⟩ := hu.any2
  obtain ⟨nb, ab, cb, rfl⟩ := hv.any2
  have HU : Hid (Rd w (.slice aa na ca) (iv a)) := hu
  have HV : Hid (Rd w (.slice ab nb cb) (iv b)) := hv
  have ha : na = a.length := by have := hu.at.1; rw [iv_length] at this; exact this
  have hb : nb = b.length := by have := hv.at.1; rw [iv_length] at this; exact this
  have hm1 : na ≤ 9223372036854775807 := by have h0 := hu.at.1; have h1 := hu.at.2.1; have h2 := hu.at.2.2.1; unfold maxLen at h2; omega
  have HA : Hid (na = a.length) := ha
  have HB : Hid (nb = b.length) := hb
  clear ha hb hu hv
  go_enter Tryz.func38, Tryz.ntmps38
  by_cases hn : na = nb
  · subst hn
    go_wp2
    go_loopw [13] (fun vi wr => ∃ i : Nat, vi = .int .i64 (i : Int) ∧ i ≤ na ∧ a.take i = b.take i ∧ Below w.heap.size w wr) (fun vi _ => na - (intOf vi).toNat)
    case atStart => exact ⟨0, rfl, Nat.zero_le _, by simp, Below.refl _ _⟩
    case round =>
      obtain ⟨i, rfl, hi, ht, y⟩ := hrel
      have HT : Hid (a.take i = b.take i) := ht
      have HY : Hid (Below w.heap.size w wr) := y
      clear ht y
      by_cases hlt : i < na
      · have hia : i < a.length := by rw [← HA.out]; exact hlt
        have hib : i < b.length := by rw [← HB.out]; exact hlt
        obtain ⟨ad, e1⟩ := HU.out.at.2.2.2.ad (by rw [iv_length]; omega)
        obtain ⟨bd, e2⟩ := HV.out.at.2.2.2.ad (by rw [iv_length]; omega)
        subst e1 e2
        have y1 : wr.cell? (ad.add i) = some (.int .i64 a[i]) := (HU.out.below HY.out).at.2.2.2.num rfl hia
        have y2 : wr.cell? (bd.add i) = some (.int .i64 b[i]) := (HV.out.below HY.out).at.2.2.2.num rfl hib
        have HS : Hid (a.take (i + 1) = a.take i ++ [a[i]] ∧ b.take (i + 1) = b.take i ++ [b[i]]) := ⟨List.take_succ_eq_append_getElem hia, List.take_succ_eq_append_getElem hib⟩
        have HE : Hid (a[i] ≠ b[i] → a ≠ b) := fun hne e => hne (by subst e; rfl)
        have hi2 : (i : Int) < (na : Int) := by omega
        generalize a[i] = x at *
        generalize b[i] = z at *
        by_cases hxz : x = z
        · have hq : (x == z) = true := by simp [hxz]
          have HXZ : Hid (x = z) := hxz
          clear hxz
          go_wp2
          go_quiet (fail)
          go_wp2
          go_roundw
          case rel => exact ⟨i + 1, by go_num, hlt, by rw [HS.out.1, HS.out.2, HT.out, HXZ.out], ⟨HY.out.os, HY.out.tape, HY.out.output, HY.out.size, HY.out.block⟩⟩
          case measure => simp [intOf]; omega
        · have hq : (x == z) = false := by simp [hxz]
          have HXZ : Hid (x ≠ z) := hxz
          clear hxz
          go_wp2
          go_quiet (fail)
          go_wp2
          go_ret
          exact ⟨ret_bool (by simp [HE.out HXZ.out]), ⟨HY.out.os, HY.out.tape, HY.out.output, HY.out.size, HY.out.block⟩⟩
      · have hin : i = na := by omega
        have HE : Hid (a = b) := by
          have h := HT.out
          rw [List.take_of_length_le (by rw [← HA.out]; omega), List.take_of_length_le (by rw [← HB.out]; omega)] at h
          exact h
        clear hin hi
        go_wp2
        go_ret
        exact ⟨ret_bool (by simp [HE.out]), HY.out⟩
  · have HE : Hid (a ≠ b) := fun e => hn (by rw [HA.out, HB.out, e])
    have hn2 : ¬ ((na : Int) = (nb : Int)) := by omega
    go_wp2
    go_ret
    exact ⟨ret_bool (by simp [HE.out]), Below.refl _ _⟩
set_option maxRecDepth 100000 in
set_option maxHeartbeats 4000000 in
theorem alike_any (x z : OpenV) (w : World) (h : x.At w) (h2 : z.At w) : Calls Tryz.prog 41 #[.agg #[.int .u64 x.num, .int .i64 x.node, .int .u64 x.last, .int .u64 x.first, .int .i64 x.count, .bool x.ready, .slice x.ra x.rn x.rc], .agg #[.int .u64 z.num, .int .i64 z.node, .int .u64 z.last, .int .u64 z.first, .int .i64 z.count, .bool z.ready, .slice z.ra z.rn z.rc]] w (AnsP (x.q = z.q) w) := by
  have H1 : Hid (Rd w (.slice x.ra x.rn x.rc) (sv x.rs)) := h.rd
  have H2 : Hid (Rd w (.slice z.ra z.rn z.rc) (sv z.rs)) := h2.rd
  have HQ : Hid (x.q = z.q ↔ x.num = z.num ∧ x.node = z.node ∧ x.last = z.last ∧ x.first = z.first ∧ x.count = z.count ∧ x.ready = z.ready ∧ x.rs = z.rs) := by
    show _ ↔ _
    unfold OpenV.q
    simp only [OpenQ.mk.injEq]
  clear h h2
  have HA : Hid (Blk ((w.alloc (.cells #[.int .u64 x.num, .int .i64 x.node, .int .u64 x.last, .int .u64 x.first, .int .i64 x.count, .bool x.ready, .slice x.ra x.rn x.rc] 45)).alloc (.cells #[.int .u64 z.num, .int .i64 z.node, .int .u64 z.last, .int .u64 z.first, .int .i64 z.count, .bool z.ready, .slice z.ra z.rn z.rc] 45)) w.heap.size #[.int .u64 x.num, .int .i64 x.node, .int .u64 x.last, .int .u64 x.first, .int .i64 x.count, .bool x.ready, .slice x.ra x.rn x.rc] 45) := (Blk.new _ _ _).alloc _
  have HR : Hid (Blk ((w.alloc (.cells #[.int .u64 x.num, .int .i64 x.node, .int .u64 x.last, .int .u64 x.first, .int .i64 x.count, .bool x.ready, .slice x.ra x.rn x.rc] 45)).alloc (.cells #[.int .u64 z.num, .int .i64 z.node, .int .u64 z.last, .int .u64 z.first, .int .i64 z.count, .bool z.ready, .slice z.ra z.rn z.rc] 45)) (w.heap.size + 1) #[.int .u64 z.num, .int .i64 z.node, .int .u64 z.last, .int .u64 z.first, .int .i64 z.count, .bool z.ready, .slice z.ra z.rn z.rc] 45) := blk_two _ _ _ _ _
  have HY : Hid (Below w.heap.size w ((w.alloc (.cells #[.int .u64 x.num, .int .i64 x.node, .int .u64 x.last, .int .u64 x.first, .int .i64 x.count, .bool x.ready, .slice x.ra x.rn x.rc] 45)).alloc (.cells #[.int .u64 z.num, .int .i64 z.node, .int .u64 z.last, .int .u64 z.first, .int .i64 z.count, .bool z.ready, .slice z.ra z.rn z.rc] 45))) := ((Below.refl _ _).alloc (Nat.le_refl _) _).alloc (by simp) _
  go_enter Tryz.func41, Tryz.ntmps41
  go_upto_region 1 with fail
  generalize ((w.alloc (.cells #[.int .u64 x.num, .int .i64 x.node, .int .u64 x.last, .int .u64 x.first, .int .i64 x.count, .bool x.ready, .slice x.ra x.rn x.rc] 45)).alloc (.cells #[.int .u64 z.num, .int .i64 z.node, .int .u64 z.last, .int .u64 z.first, .int .i64 z.count, .bool z.ready, .slice z.ra z.rn z.rc] 45)) = w0 at *
  have z0 : w0.cell? ⟨w.heap.size, 0, none⟩ = some (.int .u64 x.num) := HA.out.cell 0
  have y0 : w0.cell? ⟨w.heap.size + 1, 0, none⟩ = some (.int .u64 z.num) := HR.out.cell 0
  have z1 : w0.cell? ⟨w.heap.size, 1, none⟩ = some (.int .i64 x.node) := HA.out.cell 1
  have y1 : w0.cell? ⟨w.heap.size + 1, 1, none⟩ = some (.int .i64 z.node) := HR.out.cell 1
  have z2 : w0.cell? ⟨w.heap.size, 2, none⟩ = some (.int .u64 x.last) := HA.out.cell 2
  have y2 : w0.cell? ⟨w.heap.size + 1, 2, none⟩ = some (.int .u64 z.last) := HR.out.cell 2
  have z3 : w0.cell? ⟨w.heap.size, 3, none⟩ = some (.int .u64 x.first) := HA.out.cell 3
  have y3 : w0.cell? ⟨w.heap.size + 1, 3, none⟩ = some (.int .u64 z.first) := HR.out.cell 3
  have z4 : w0.cell? ⟨w.heap.size, 4, none⟩ = some (.int .i64 x.count) := HA.out.cell 4
  have y4 : w0.cell? ⟨w.heap.size + 1, 4, none⟩ = some (.int .i64 z.count) := HR.out.cell 4
  have z5 : w0.cell? ⟨w.heap.size, 5, none⟩ = some (.bool x.ready) := HA.out.cell 5
  have y5 : w0.cell? ⟨w.heap.size + 1, 5, none⟩ = some (.bool z.ready) := HR.out.cell 5
  have z6 : w0.cell? ⟨w.heap.size, 6, none⟩ = some (.slice x.ra x.rn x.rc) := HA.out.cell 6
  have y6 : w0.cell? ⟨w.heap.size + 1, 6, none⟩ = some (.slice z.ra z.rn z.rc) := HR.out.cell 6
  by_cases h0 : x.num = z.num
  case neg =>
    have hb0 : (x.num == z.num) = false := by simp [h0]
    have HN : Hid (¬ x.q = z.q) := fun e => h0 (HQ.out.1 e).1
    clear h0
    go_wp2
    go_ret
    exact ansP_no rfl HN.out HY.out
  have hb0 : (x.num == z.num) = true := by simp [h0]
  have HF0 : Hid (x.num = z.num) := h0
  clear h0
  by_cases h1 : x.node = z.node
  case neg =>
    have hb1 : (x.node == z.node) = false := by simp [h1]
    have HN : Hid (¬ x.q = z.q) := fun e => h1 (HQ.out.1 e).2.1
    clear h1
    go_wp2
    go_ret
    exact ansP_no rfl HN.out HY.out
  have hb1 : (x.node == z.node) = true := by simp [h1]
  have HF1 : Hid (x.node = z.node) := h1
  clear h1
  by_cases h2 : x.last = z.last
  case neg =>
    have hb2 : (x.last == z.last) = false := by simp [h2]
    have HN : Hid (¬ x.q = z.q) := fun e => h2 (HQ.out.1 e).2.2.1
    clear h2
    go_wp2
    go_ret
    exact ansP_no rfl HN.out HY.out
  have hb2 : (x.last == z.last) = true := by simp [h2]
  have HF2 : Hid (x.last = z.last) := h2
  clear h2
  by_cases h3 : x.first = z.first
  case neg =>
    have hb3 : (x.first == z.first) = false := by simp [h3]
    have HN : Hid (¬ x.q = z.q) := fun e => h3 (HQ.out.1 e).2.2.2.1
    clear h3
    go_wp2
    go_ret
    exact ansP_no rfl HN.out HY.out
  have hb3 : (x.first == z.first) = true := by simp [h3]
  have HF3 : Hid (x.first = z.first) := h3
  clear h3
  by_cases h4 : x.count = z.count
  case neg =>
    have hb4 : (x.count == z.count) = false := by simp [h4]
    have HN : Hid (¬ x.q = z.q) := fun e => h4 (HQ.out.1 e).2.2.2.2.1
    clear h4
    go_wp2
    go_ret
    exact ansP_no rfl HN.out HY.out
  have hb4 : (x.count == z.count) = true := by simp [h4]
  have HF4 : Hid (x.count = z.count) := h4
  clear h4
  by_cases h5 : x.ready = z.ready
  case neg =>
    have hb5 : (x.ready == z.ready) = false := by simp [h5]
    have HN : Hid (¬ x.q = z.q) := fun e => h5 (HQ.out.1 e).2.2.2.2.2.1
    clear h5
    go_wp2
    go_ret
    exact ansP_no rfl HN.out HY.out
  have hb5 : (x.ready == z.ready) = true := by simp [h5]
  have HF5 : Hid (x.ready = z.ready) := h5
  clear h5
  go_wp2_with fail
  refine (strs_any _ _ x.rs z.rs w0 (H1.out.below HY.out) (H2.out.below HY.out)).mono ?_
  rintro e w1 ⟨rfl, y⟩
  have HY1 : Hid (Below w.heap.size w w1) := ext_trans HY.out y
  clear y
  have HD : Hid (decide (x.rs = z.rs) = true ↔ x.q = z.q) := by
    show _ ↔ _
    rw [decide_eq_true_eq, HQ.out]
    exact ⟨fun e => ⟨HF0.out, HF1.out, HF2.out, HF3.out, HF4.out, HF5.out, e⟩, fun e => e.2.2.2.2.2.2⟩
  generalize decide (x.rs = z.rs) = B at *
  go_wp2
  go_ret
  exact ⟨B, ret_bool rfl, HD.out, HY1.out⟩

set_option maxRecDepth 100000 in
set_option maxHeartbeats 8000000 in
theorem small11_raw (kind : Int) (num : Int) (node : Int) (key : ByteArray) (was : Bool) (old : ByteArray) (prev : Int) (na : Option Addr) (nn : Nat) (nc : Nat) (ra : Option Addr) (rn : Nat) (rc : Nat) (ga : Option Addr) (gn : Nat) (gc : Nat) (oa : Option Addr) (om : Nat) (oc : Nat) (da : Option Addr) (dn : Nat) (dc : Nat) (gs : List ChgV) (os : List OpenV) (ds : List DoneV) (w : World) (h1 : RowsN w 9 ChgV.c (.slice ga gn gc) gs) (h2 : RowsN w 7 OpenV.c (.slice oa om oc) os) (h3 : RowsN w 3 DoneV.c (.slice da dn dc) ds) : Calls Tryz.prog 7 #[.agg #[.int .i64 kind, .int .u64 num, .int .i64 node, .string key, .bool was, .string old, .int .u64 prev, .slice na nn nc, .slice ra rn rc, .slice ga gn gc, .slice oa om oc, .slice da dn dc]] w (AnyB w) := by
  have HG : Hid (RowsN w 9 ChgV.c (.slice ga gn gc) gs) := h1
  have HO : Hid (RowsN w 7 OpenV.c (.slice oa om oc) os) := h2
  have HE : Hid (RowsN w 3 DoneV.c (.slice da dn dc) ds) := h3
  have m1 : gn ≤ 9223372036854775807 := by have h := h1.len.2; unfold maxLen at h; omega
  have m2 : om ≤ 9223372036854775807 := by have h := h2.len.2; unfold maxLen at h; omega
  have m3 : dn ≤ 9223372036854775807 := by have h := h3.len.2; unfold maxLen at h; omega
  clear h1 h2 h3
  have HB : Hid (Blk (w.alloc (.cells #[.int .i64 kind, .int .u64 num, .int .i64 node, .string key, .bool was, .string old, .int .u64 prev, .slice na nn nc, .slice ra rn rc, .slice ga gn gc, .slice oa om oc, .slice da dn dc] 31)) w.heap.size #[.int .i64 kind, .int .u64 num, .int .i64 node, .string key, .bool was, .string old, .int .u64 prev, .slice na nn nc, .slice ra rn rc, .slice ga gn gc, .slice oa om oc, .slice da dn dc] 31) := Blk.new _ _ _
  have HY : Hid (Below w.heap.size w (w.alloc (.cells #[.int .i64 kind, .int .u64 num, .int .i64 node, .string key, .bool was, .string old, .int .u64 prev, .slice na nn nc, .slice ra rn rc, .slice ga gn gc, .slice oa om oc, .slice da dn dc] 31))) := (Below.refl _ _).alloc (Nat.le_refl _) _
  go_enter Tryz.func7, Tryz.ntmps7
  go_upto_region 1 with fail
  generalize w.alloc (.cells #[.int .i64 kind, .int .u64 num, .int .i64 node, .string key, .bool was, .string old, .int .u64 prev, .slice na nn nc, .slice ra rn rc, .slice ga gn gc, .slice oa om oc, .slice da dn dc] 31) = w0 at *
  have z7 : w0.cell? ⟨w.heap.size, 7, none⟩ = some (.slice na nn nc) := HB.out.cell 7
  have z8 : w0.cell? ⟨w.heap.size, 8, none⟩ = some (.slice ra rn rc) := HB.out.cell 8
  have z9 : w0.cell? ⟨w.heap.size, 9, none⟩ = some (.slice ga gn gc) := HB.out.cell 9
  have z10 : w0.cell? ⟨w.heap.size, 10, none⟩ = some (.slice oa om oc) := HB.out.cell 10
  have z11 : w0.cell? ⟨w.heap.size, 11, none⟩ = some (.slice da dn dc) := HB.out.cell 11
  by_cases g0 : 70 < nn
  case pos =>
    go_wp2
    go_ret
    exact anyB_of rfl HY.out
  by_cases g1 : 35 < gn
  case pos =>
    go_wp2
    go_ret
    exact anyB_of rfl HY.out
  by_cases g2 : 20 < om
  case pos =>
    go_wp2
    go_ret
    exact anyB_of rfl HY.out
  by_cases g3 : 20 < dn
  case pos =>
    go_wp2
    go_ret
    exact anyB_of rfl HY.out
  by_cases g4 : 120 < rn
  case pos =>
    go_wp2
    go_ret
    exact anyB_of rfl HY.out
  go_wp2
  go_loopw [40] (fun i wr => ∃ k : Nat, i = .int .i64 (k : Int) ∧ k ≤ om ∧ Below w.heap.size w wr ∧ Blk wr w.heap.size #[.int .i64 kind, .int .u64 num, .int .i64 node, .string key, .bool was, .string old, .int .u64 prev, .slice na nn nc, .slice ra rn rc, .slice ga gn gc, .slice oa om oc, .slice da dn dc] 31) (fun i _ => om - (intOf i).toNat)
  case atStart => exact ⟨0, rfl, Nat.zero_le _, HY.out, HB.out⟩
  case round =>
    obtain ⟨k, rfl, hk, y, hb⟩ := hrel
    clear HY HB
    have HY : Hid (Below w.heap.size w wr) := y
    have HB : Hid (Blk wr w.heap.size #[.int .i64 kind, .int .u64 num, .int .i64 node, .string key, .bool was, .string old, .int .u64 prev, .slice na nn nc, .slice ra rn rc, .slice ga gn gc, .slice oa om oc, .slice da dn dc] 31) := hb
    clear y hb
    by_cases hlt : k < om
    · have hkl : k < os.length := by rw [← HO.out.len.1]; exact hlt
      have hi2 : (k : Int) < (om : Int) := by omega
      obtain ⟨ad, had⟩ := RowsN.adr HO.out (by omega)
      subst had
      have HH : Hid (RowsN wr 7 _ (.slice (some ad) _ _) os) := HO.out.below HY.out
      have e0 : wr.cell? (ad.add (k * 7)) = some _ := HH.out.at0 hkl rfl
      have e1 : wr.cell? ⟨(ad.add (k * 7)).block, (ad.add (k * 7)).off + 1, none⟩ = some _ := HH.out.atS hkl 0 rfl
      have e2 : wr.cell? ⟨(ad.add (k * 7)).block, (ad.add (k * 7)).off + 2, none⟩ = some _ := HH.out.atS hkl 1 rfl
      have e3 : wr.cell? ⟨(ad.add (k * 7)).block, (ad.add (k * 7)).off + 3, none⟩ = some _ := HH.out.atS hkl 2 rfl
      have e4 : wr.cell? ⟨(ad.add (k * 7)).block, (ad.add (k * 7)).off + 4, none⟩ = some _ := HH.out.atS hkl 3 rfl
      have e5 : wr.cell? ⟨(ad.add (k * 7)).block, (ad.add (k * 7)).off + 5, none⟩ = some _ := HH.out.atS hkl 4 rfl
      have e6 : wr.cell? ⟨(ad.add (k * 7)).block, (ad.add (k * 7)).off + 6, none⟩ = some _ := HH.out.atS hkl 5 rfl
      generalize os[k] = q at *
      have HY1 : Hid (Below w.heap.size w (wr.alloc (.cells #[.int .u64 q.num, .int .i64 q.node, .int .u64 q.last, .int .u64 q.first, .int .i64 q.count, .bool q.ready, .slice q.ra q.rn q.rc] 45))) := HY.out.alloc HY.out.size _
      have HB1 : Hid (Blk (wr.alloc (.cells #[.int .u64 q.num, .int .i64 q.node, .int .u64 q.last, .int .u64 q.first, .int .i64 q.count, .bool q.ready, .slice q.ra q.rn q.rc] 45)) w.heap.size #[.int .i64 kind, .int .u64 num, .int .i64 node, .string key, .bool was, .string old, .int .u64 prev, .slice na nn nc, .slice ra rn rc, .slice ga gn gc, .slice (some ad) om oc, .slice da dn dc] 31) := HB.out.alloc _
      have HQ1 : Hid (Blk (wr.alloc (.cells #[.int .u64 q.num, .int .i64 q.node, .int .u64 q.last, .int .u64 q.first, .int .i64 q.count, .bool q.ready, .slice q.ra q.rn q.rc] 45)) wr.heap.size #[.int .u64 q.num, .int .i64 q.node, .int .u64 q.last, .int .u64 q.first, .int .i64 q.count, .bool q.ready, .slice q.ra q.rn q.rc] 45) := Blk.new _ _ _
      go_upto_region 6 with fail
      clear e0 e1 e2 e3 e4 e5 e6 HH HY HB
      generalize (wr.alloc (.cells #[.int .u64 q.num, .int .i64 q.node, .int .u64 q.last, .int .u64 q.first, .int .i64 q.count, .bool q.ready, .slice q.ra q.rn q.rc] 45)) = w2 at *
      obtain ⟨b, hbb⟩ : ∃ b, wr.heap.size = b := ⟨_, rfl⟩
      rw [hbb] at HQ1 ⊢
      clear hbb
      have u6 : w2.cell? ⟨b, 6, none⟩ = some (.slice q.ra q.rn q.rc) := HQ1.out.cell 6
      by_cases f0 : 120 < q.rn
      case pos =>
        go_wp2
        go_ret
        exact anyB_of rfl HY1.out
      go_wp2
      go_roundw
      case rel => exact ⟨k + 1, by go_num, by omega, HY1.out, HB1.out⟩
      case measure => simp [intOf]; omega
    · clear hk
      rename World => wq1
      have z8 : wq1.cell? ⟨w.heap.size, 9, none⟩ = some (.slice ga gn gc) := HB.out.cell 9
      have z9 : wq1.cell? ⟨w.heap.size, 10, none⟩ = some (.slice oa om oc) := HB.out.cell 10
      have z10 : wq1.cell? ⟨w.heap.size, 11, none⟩ = some (.slice da dn dc) := HB.out.cell 11
      go_wp2
      clear hlt
      go_loopw [52] (fun i wr => ∃ k : Nat, i = .int .i64 (k : Int) ∧ k ≤ gn ∧ Below w.heap.size w wr ∧ Blk wr w.heap.size #[.int .i64 kind, .int .u64 num, .int .i64 node, .string key, .bool was, .string old, .int .u64 prev, .slice na nn nc, .slice ra rn rc, .slice ga gn gc, .slice oa om oc, .slice da dn dc] 31) (fun i _ => gn - (intOf i).toNat)
      case atStart => exact ⟨0, rfl, Nat.zero_le _, HY.out, HB.out⟩
      case round =>
        obtain ⟨k, rfl, hk, y, hb⟩ := hrel
        clear HY HB
        have HY : Hid (Below w.heap.size w wr) := y
        have HB : Hid (Blk wr w.heap.size #[.int .i64 kind, .int .u64 num, .int .i64 node, .string key, .bool was, .string old, .int .u64 prev, .slice na nn nc, .slice ra rn rc, .slice ga gn gc, .slice oa om oc, .slice da dn dc] 31) := hb
        clear y hb
        by_cases hlt : k < gn
        · have hkl : k < gs.length := by rw [← HG.out.len.1]; exact hlt
          have hi2 : (k : Int) < (gn : Int) := by omega
          obtain ⟨ad, had⟩ := RowsN.adr HG.out (by omega)
          subst had
          have HH : Hid (RowsN wr 9 _ (.slice (some ad) _ _) gs) := HG.out.below HY.out
          have e0 : wr.cell? (ad.add (k * 9)) = some _ := HH.out.at0 hkl rfl
          have e1 : wr.cell? ⟨(ad.add (k * 9)).block, (ad.add (k * 9)).off + 1, none⟩ = some _ := HH.out.atS hkl 0 rfl
          have e2 : wr.cell? ⟨(ad.add (k * 9)).block, (ad.add (k * 9)).off + 2, none⟩ = some _ := HH.out.atS hkl 1 rfl
          have e3 : wr.cell? ⟨(ad.add (k * 9)).block, (ad.add (k * 9)).off + 3, none⟩ = some _ := HH.out.atS hkl 2 rfl
          have e4 : wr.cell? ⟨(ad.add (k * 9)).block, (ad.add (k * 9)).off + 4, none⟩ = some _ := HH.out.atS hkl 3 rfl
          have e5 : wr.cell? ⟨(ad.add (k * 9)).block, (ad.add (k * 9)).off + 5, none⟩ = some _ := HH.out.atS hkl 4 rfl
          have e6 : wr.cell? ⟨(ad.add (k * 9)).block, (ad.add (k * 9)).off + 6, none⟩ = some _ := HH.out.atS hkl 5 rfl
          have e7 : wr.cell? ⟨(ad.add (k * 9)).block, (ad.add (k * 9)).off + 7, none⟩ = some _ := HH.out.atS hkl 6 rfl
          have e8 : wr.cell? ⟨(ad.add (k * 9)).block, (ad.add (k * 9)).off + 8, none⟩ = some _ := HH.out.atS hkl 7 rfl
          generalize gs[k] = q at *
          have HY1 : Hid (Below w.heap.size w (wr.alloc (.cells #[.int .i64 q.n, .int .i64 q.p.kind, .slice q.ka q.kn q.kc, .slice q.va q.vn q.vc, .slice q.da q.dn q.dc, .int .i64 q.p.root, .int .i64 q.p.next, .int .i64 q.p.size, .int .i64 q.p.idle] 49))) := HY.out.alloc HY.out.size _
          have HB1 : Hid (Blk (wr.alloc (.cells #[.int .i64 q.n, .int .i64 q.p.kind, .slice q.ka q.kn q.kc, .slice q.va q.vn q.vc, .slice q.da q.dn q.dc, .int .i64 q.p.root, .int .i64 q.p.next, .int .i64 q.p.size, .int .i64 q.p.idle] 49)) w.heap.size #[.int .i64 kind, .int .u64 num, .int .i64 node, .string key, .bool was, .string old, .int .u64 prev, .slice na nn nc, .slice ra rn rc, .slice (some ad) gn gc, .slice oa om oc, .slice da dn dc] 31) := HB.out.alloc _
          have HQ1 : Hid (Blk (wr.alloc (.cells #[.int .i64 q.n, .int .i64 q.p.kind, .slice q.ka q.kn q.kc, .slice q.va q.vn q.vc, .slice q.da q.dn q.dc, .int .i64 q.p.root, .int .i64 q.p.next, .int .i64 q.p.size, .int .i64 q.p.idle] 49)) wr.heap.size #[.int .i64 q.n, .int .i64 q.p.kind, .slice q.ka q.kn q.kc, .slice q.va q.vn q.vc, .slice q.da q.dn q.dc, .int .i64 q.p.root, .int .i64 q.p.next, .int .i64 q.p.size, .int .i64 q.p.idle] 49) := Blk.new _ _ _
          go_upto_region 12 with fail
          clear e0 e1 e2 e3 e4 e5 e6 e7 e8 HH HY HB
          generalize (wr.alloc (.cells #[.int .i64 q.n, .int .i64 q.p.kind, .slice q.ka q.kn q.kc, .slice q.va q.vn q.vc, .slice q.da q.dn q.dc, .int .i64 q.p.root, .int .i64 q.p.next, .int .i64 q.p.size, .int .i64 q.p.idle] 49)) = w2 at *
          obtain ⟨b, hbb⟩ : ∃ b, wr.heap.size = b := ⟨_, rfl⟩
          rw [hbb] at HQ1 ⊢
          clear hbb
          have u2 : w2.cell? ⟨b, 2, none⟩ = some (.slice q.ka q.kn q.kc) := HQ1.out.cell 2
          have u3 : w2.cell? ⟨b, 3, none⟩ = some (.slice q.va q.vn q.vc) := HQ1.out.cell 3
          have u4 : w2.cell? ⟨b, 4, none⟩ = some (.slice q.da q.dn q.dc) := HQ1.out.cell 4
          by_cases f0 : 10 < q.kn
          case pos =>
            go_wp2
            go_ret
            exact anyB_of rfl HY1.out
          by_cases f1 : 10 < q.vn
          case pos =>
            go_wp2
            go_ret
            exact anyB_of rfl HY1.out
          by_cases f2 : 10 < q.dn
          case pos =>
            go_wp2
            go_ret
            exact anyB_of rfl HY1.out
          go_wp2
          go_roundw
          case rel => exact ⟨k + 1, by go_num, by omega, HY1.out, HB1.out⟩
          case measure => simp [intOf]; omega
        · clear hk
          rename World => wq2
          have z8 : wq2.cell? ⟨w.heap.size, 9, none⟩ = some (.slice ga gn gc) := HB.out.cell 9
          have z9 : wq2.cell? ⟨w.heap.size, 10, none⟩ = some (.slice oa om oc) := HB.out.cell 10
          have z10 : wq2.cell? ⟨w.heap.size, 11, none⟩ = some (.slice da dn dc) := HB.out.cell 11
          go_wp2
          clear hlt
          go_loopw [79] (fun i wr => ∃ k : Nat, i = .int .i64 (k : Int) ∧ k ≤ dn ∧ Below w.heap.size w wr ∧ Blk wr w.heap.size #[.int .i64 kind, .int .u64 num, .int .i64 node, .string key, .bool was, .string old, .int .u64 prev, .slice na nn nc, .slice ra rn rc, .slice ga gn gc, .slice oa om oc, .slice da dn dc] 31) (fun i _ => dn - (intOf i).toNat)
          case atStart => exact ⟨0, rfl, Nat.zero_le _, HY.out, HB.out⟩
          case round =>
            obtain ⟨k, rfl, hk, y, hb⟩ := hrel
            clear HY HB
            have HY : Hid (Below w.heap.size w wr) := y
            have HB : Hid (Blk wr w.heap.size #[.int .i64 kind, .int .u64 num, .int .i64 node, .string key, .bool was, .string old, .int .u64 prev, .slice na nn nc, .slice ra rn rc, .slice ga gn gc, .slice oa om oc, .slice da dn dc] 31) := hb
            clear y hb
            by_cases hlt : k < dn
            · have hkl : k < ds.length := by rw [← HE.out.len.1]; exact hlt
              have hi2 : (k : Int) < (dn : Int) := by omega
              obtain ⟨ad, had⟩ := RowsN.adr HE.out (by omega)
              subst had
              have HH : Hid (RowsN wr 3 _ (.slice (some ad) _ _) ds) := HE.out.below HY.out
              have e0 : wr.cell? (ad.add (k * 3)) = some _ := HH.out.at0 hkl rfl
              have e1 : wr.cell? ⟨(ad.add (k * 3)).block, (ad.add (k * 3)).off + 1, none⟩ = some _ := HH.out.atS hkl 0 rfl
              have e2 : wr.cell? ⟨(ad.add (k * 3)).block, (ad.add (k * 3)).off + 2, none⟩ = some _ := HH.out.atS hkl 1 rfl
              generalize ds[k] = q at *
              have HY1 : Hid (Below w.heap.size w (wr.alloc (.cells #[.int .u64 q.num, .int .i64 q.node, .slice q.na q.nn q.nc] 51))) := HY.out.alloc HY.out.size _
              have HB1 : Hid (Blk (wr.alloc (.cells #[.int .u64 q.num, .int .i64 q.node, .slice q.na q.nn q.nc] 51)) w.heap.size #[.int .i64 kind, .int .u64 num, .int .i64 node, .string key, .bool was, .string old, .int .u64 prev, .slice na nn nc, .slice ra rn rc, .slice ga gn gc, .slice oa om oc, .slice (some ad) dn dc] 31) := HB.out.alloc _
              have HQ1 : Hid (Blk (wr.alloc (.cells #[.int .u64 q.num, .int .i64 q.node, .slice q.na q.nn q.nc] 51)) wr.heap.size #[.int .u64 q.num, .int .i64 q.node, .slice q.na q.nn q.nc] 51) := Blk.new _ _ _
              go_upto_region 18 with fail
              clear e0 e1 e2 HH HY HB
              generalize (wr.alloc (.cells #[.int .u64 q.num, .int .i64 q.node, .slice q.na q.nn q.nc] 51)) = w2 at *
              obtain ⟨b, hbb⟩ : ∃ b, wr.heap.size = b := ⟨_, rfl⟩
              rw [hbb] at HQ1 ⊢
              clear hbb
              have u2 : w2.cell? ⟨b, 2, none⟩ = some (.slice q.na q.nn q.nc) := HQ1.out.cell 2
              by_cases f0 : 70 < q.nn
              case pos =>
                go_wp2
                go_ret
                exact anyB_of rfl HY1.out
              go_wp2
              go_roundw
              case rel => exact ⟨k + 1, by go_num, by omega, HY1.out, HB1.out⟩
              case measure => simp [intOf]; omega
            · go_wp2
              go_ret
              exact anyB_of rfl HY.out
theorem small11_any (x : RecV) (w : World) (h : x.At w) : Calls Tryz.prog 7 #[.agg #[.int .i64 x.kind, .int .u64 x.num, .int .i64 x.node, .string x.key, .bool x.was, .string x.old, .int .u64 x.prev, .slice x.na x.nn x.nc, .slice x.ra x.rn x.rc, .slice x.ga x.gn x.gc, .slice x.oa x.om x.oc, .slice x.da x.dn x.dc]] w (AnyB w) :=
  small11_raw _ _ _ _ _ _ _ _ _ _ _ _ _ _ _ _ _ _ _ _ _ _ x.gs x.os x.ds w h.pages h.opens h.dones
end Go.Proofs.YthkmohcdgnldgaaGreat
