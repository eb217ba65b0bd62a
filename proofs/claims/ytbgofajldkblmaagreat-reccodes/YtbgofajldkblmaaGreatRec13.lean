/- rec: the law's own ints, Alike, small, Same. Own lemmas, no statement. -/
import Derived.Test.YtbgofajldkblmaaGreatRecQ
import Derived.Test.YtbgofajldkblmaaGreatRec7
set_option linter.unusedSimpArgs false
set_option linter.unusedVariables false
namespace Go.Proofs.YtbgofajldkblmaaGreat
open Go.ChangeShapes Go.WideShapes Go.ChangeAt Go.RowKit

/-- A call answers whether it is so. -/
def AnsP (p : Prop) (w : World) (e : Ending) (w' : World) : Prop := ∃ b : Bool, e = .returned (.bool b) ∧ (b = true ↔ p) ∧ Below w.heap.size w w'
theorem ansP_no {p : Prop} {w w' : World} {e : Ending} (he : e = .returned (.bool false)) (hp : ¬ p) (y : Below w.heap.size w w') : AnsP p w e w' := ⟨false, he, by simp [hp], y⟩
theorem ansP_yes {p : Prop} {w w' : World} {e : Ending} (he : e = .returned (.bool true)) (hp : p) (y : Below w.heap.size w w') : AnsP p w e w' := ⟨true, he, by simp [hp], y⟩
theorem ints_any (u v : Value) (a b : List Int) (w : World) (hu : Rd w u (iv a)) (hv : Rd w v (iv b)) :
    Calls Tryz.prog 38 #[u, v] w fun e w' => e = .returned (.bool (decide (a = b))) ∧ Below w.heap.size w w' := by
  obtain ⟨na, aa, ca, rfl⟩ := hu.any2
  obtain ⟨nb, ab, cb, rfl⟩ := hv.any2
  have HU : Hid (Rd w (.slice aa na ca) (iv a)) := hu
  have HV : Hid (Rd w (.slice ab nb cb) (iv b)) := hv
  have ha : na = a.length := by have := hu.at.1; rw [iv_length] at this; exact this
  have hb : nb = b.length := by have := hv.at.1; rw [iv_length] at this; exact this
  have hm1 : na ≤ 9223372036854775807 := by have h0 := hu.at.1; have h1 := hu.at.2.1; have h2 := hu.at.2.2.1; unfold maxLen at h2; omega
  have HA : Hid (na = a.length) := ha
  have HB : Hid (nb = b.length) := hb
  clear ha hb hu hv
  go_enter Tryz.func38, Tryz.ntmps38
  by_cases hn : na = nb
  · subst hn
    go_wp2
    go_loopw [13] (fun vi wr => ∃ i : Nat, vi = .int .i64 (i : Int) ∧ i ≤ na ∧ a.take i = b.take i ∧ Below w.heap.size w wr) (fun vi _ => na - (intOf vi).toNat)
    case atStart => exact ⟨0, rfl, Nat.zero_le _, by simp, Below.refl _ _⟩
    case round =>
      obtain ⟨i, rfl, hi, ht, y⟩ := hrel
      have HT : Hid (a.take i = b.take i) := ht
      have HY : Hid (Below w.heap.size w wr) := y
      clear ht y
      by_cases hlt : i < na
      · have hia : i < a.length := by rw [← HA.out]; exact hlt
        have hib : i < b.length := by rw [← HB.out]; exact hlt
        obtain ⟨ad, e1⟩ := HU.out.at.2.2.2.ad (by rw [iv_length]; omega)
        obtain ⟨bd, e2⟩ := HV.out.at.2.2.2.ad (by rw [iv_length]; omega)
        subst e1 e2
        have y1 : wr.cell? (ad.add i) = some (.int .i64 a[i]) := (HU.out.below HY.out).at.2.2.2.num rfl hia
        have y2 : wr.cell? (bd.add i) = some (.int .i64 b[i]) := (HV.out.below HY.out).at.2.2.2.num rfl hib
        have HS : Hid (a.take (i + 1) = a.take i ++ [a[i]] ∧ b.take (i + 1) = b.take i ++ [b[i]]) := ⟨List.take_succ_eq_append_getElem hia, List.take_succ_eq_append_getElem hib⟩
        have HE : Hid (a[i] ≠ b[i] → a ≠ b) := fun hne e => hne (by subst e; rfl)
        have hi2 : (i : Int) < (na : Int) := by omega
        generalize a[i] = x at *
        generalize b[i] = z at *
        by_cases hxz : x = z
        · have hq : (x == z) = true := by simp [hxz]
          have HXZ : Hid (x = z) := hxz
          clear hxz
          go_wp2
          go_quiet (fail)
          go_wp2
          go_roundw
          case rel => exact ⟨i + 1, by go_num, hlt, by rw [HS.out.1, HS.out.2, HT.out, HXZ.out], ⟨HY.out.os, HY.out.tape, HY.out.output, HY.out.size, HY.out.block⟩⟩
          case measure => simp [intOf]; omega
        · have hq : (x == z) = false := by simp [hxz]
          have HXZ : Hid (x ≠ z) := hxz
          clear hxz
          go_wp2
          go_quiet (fail)
          go_wp2
          go_ret
          exact ⟨ret_bool (by simp [HE.out HXZ.out]), ⟨HY.out.os, HY.out.tape, HY.out.output, HY.out.size, HY.out.block⟩⟩
      · have hin : i = na := by omega
        have HE : Hid (a = b) := by
          have h := HT.out
          rw [List.take_of_length_le (by rw [← HA.out]; omega), List.take_of_length_le (by rw [← HB.out]; omega)] at h
          exact h
        clear hin hi
        go_wp2
        go_ret
        exact ⟨ret_bool (by simp [HE.out]), HY.out⟩
  · have HE : Hid (a ≠ b) := fun e => hn (by rw [HA.out, HB.out, e])
    have hn2 : ¬ ((na : Int) = (nb : Int)) := by omega
    go_wp2
    go_ret
    exact ⟨ret_bool (by simp [HE.out]), Below.refl _ _⟩
set_option maxRecDepth 100000 in
set_option maxHeartbeats 4000000 in
theorem alike_any (x z : OpenV) (w : World) (h : x.At w) (h2 : z.At w) : Calls Tryz.prog 41 #[.agg #[.int .u64 x.num, .int .i64 x.node, .int .u64 x.last, .int .u64 x.first, .int .i64 x.count, .bool x.ready, .slice x.ra x.rn x.rc], .agg #[.int .u64 z.num, .int .i64 z.node, .int .u64 z.last, .int .u64 z.first, .int .i64 z.count, .bool z.ready, .slice z.ra z.rn z.rc]] w (AnsP (x.q = z.q) w) := by
  have H1 : Hid (Rd w (.slice x.ra x.rn x.rc) (sv x.rs)) := h.rd
  have H2 : Hid (Rd w (.slice z.ra z.rn z.rc) (sv z.rs)) := h2.rd
  have HQ : Hid (x.q = z.q ↔ x.num = z.num ∧ x.node = z.node ∧ x.last = z.last ∧ x.first = z.first ∧ x.count = z.count ∧ x.ready = z.ready ∧ x.rs = z.rs) := by
    show _ ↔ _
    unfold OpenV.q
    simp only [OpenQ.mk.injEq]
  clear h h2
  have HA : Hid (Blk ((w.alloc (.cells #[.int .u64 x.num, .int .i64 x.node, .int .u64 x.last, .int .u64 x.first, .int .i64 x.count, .bool x.ready, .slice x.ra x.rn x.rc] 45)).alloc (.cells #[.int .u64 z.num, .int .i64 z.node, .int .u64 z.last, .int .u64 z.first, .int .i64 z.count, .bool z.ready, .slice z.ra z.rn z.rc] 45)) w.heap.size #[.int .u64 x.num, .int .i64 x.node, .int .u64 x.last, .int .u64 x.first, .int .i64 x.count, .bool x.ready, .slice x.ra x.rn x.rc] 45) := (Blk.new _ _ _).alloc _
  have HR : Hid (Blk ((w.alloc (.cells #[.int .u64 x.num, .int .i64 x.node, .int .u64 x.last, .int .u64 x.first, .int .i64 x.count, .bool x.ready, .slice x.ra x.rn x.rc] 45)).alloc (.cells #[.int .u64 z.num, .int .i64 z.node, .int .u64 z.last, .int .u64 z.first, .int .i64 z.count, .bool z.ready, .slice z.ra z.rn z.rc] 45)) (w.heap.size + 1) #[.int .u64 z.num, .int .i64 z.node, .int .u64 z.last, .int .u64 z.first, .int .i64 z.count, .bool z.ready, .slice z.ra z.rn z.rc] 45) := blk_two _ _ _ _ _
  have HY : Hid (Below w.heap.size w ((w.alloc (.cells #[.int .u64 x.num, .int .i64 x.node, .int .u64 x.last, .int .u64 x.first, .int .i64 x.count, .bool x.ready, .slice x.ra x.rn x.rc] 45)).alloc (.cells #[.int .u64 z.num, .int .i64 z.node, .int .u64 z.last, .int .u64 z.first, .int .i64 z.count, .bool z.ready, .slice z.ra z.rn z.rc] 45))) := ((Below.refl _ _).alloc (Nat.le_refl _) _).alloc (by simp) _
  go_enter Tryz.func41, Tryz.ntmps41
  go_upto_region 1 with fail
  generalize ((w.alloc (.cells #[.int .u64 x.num, .int .i64 x.node, .int .u64 x.last, .int .u64 x.first, .int .i64 x.count, .bool x.ready, .slice x.ra x.rn x.rc] 45)).alloc (.cells #[.int .u64 z.num, .int .i64 z.node, .int .u64 z.last, .int .u64 z.first, .int .i64 z.count, .bool z.ready, .slice z.ra z.rn z.rc] 45)) = w0 at *
  have z0 : w0.cell? ⟨w.heap.size, 0, none⟩ = some (.int .u64 x.num) := HA.out.cell 0
  have y0 : w0.cell? ⟨w.heap.size + 1, 0, none⟩ = some (.int .u64 z.num) := HR.out.cell 0
  have z1 : w0.cell? ⟨w.heap.size, 1, none⟩ = some (.int .i64 x.node) := HA.out.cell 1
  have y1 : w0.cell? ⟨w.heap.size + 1, 1, none⟩ = some (.int .i64 z.node) := HR.out.cell 1
  have z2 : w0.cell? ⟨w.heap.size, 2, none⟩ = some (.int .u64 x.last) := HA.out.cell 2
  have y2 : w0.cell? ⟨w.heap.size + 1, 2, none⟩ = some (.int .u64 z.last) := HR.out.cell 2
  have z3 : w0.cell? ⟨w.heap.size, 3, none⟩ = some (.int .u64 x.first) := HA.out.cell 3
  have y3 : w0.cell? ⟨w.heap.size + 1, 3, none⟩ = some (.int .u64 z.first) := HR.out.cell 3
  have z4 : w0.cell? ⟨w.heap.size, 4, none⟩ = some (.int .i64 x.count) := HA.out.cell 4
  have y4 : w0.cell? ⟨w.heap.size + 1, 4, none⟩ = some (.int .i64 z.count) := HR.out.cell 4
  have z5 : w0.cell? ⟨w.heap.size, 5, none⟩ = some (.bool x.ready) := HA.out.cell 5
  have y5 : w0.cell? ⟨w.heap.size + 1, 5, none⟩ = some (.bool z.ready) := HR.out.cell 5
  have z6 : w0.cell? ⟨w.heap.size, 6, none⟩ = some (.slice x.ra x.rn x.rc) := HA.out.cell 6
  have y6 : w0.cell? ⟨w.heap.size + 1, 6, none⟩ = some (.slice z.ra z.rn z.rc) := HR.out.cell 6
  by_cases h0 : x.num = z.num
  case neg =>
    have hb0 : (x.num == z.num) = false := by simp [h0]
    have HN : Hid (¬ x.q = z.q) := fun e => h0 (HQ.out.1 e).1
    clear h0
    go_wp2
    go_ret
    exact ansP_no rfl HN.out HY.out
  have hb0 : (x.num == z.num) = true := by simp [h0]
  have HF0 : Hid (x.num = z.num) := h0
  clear h0
  by_cases h1 : x.node = z.node
  case neg =>
    have hb1 : (x.node == z.node) = false := by simp [h1]
    have HN : Hid (¬ x.q = z.q) := fun e => h1 (HQ.out.1 e).2.1
    clear h1
    go_wp2
    go_ret
    exact ansP_no rfl HN.out HY.out
  have hb1 : (x.node == z.node) = true := by simp [h1]
  have HF1 : Hid (x.node = z.node) := h1
  clear h1
  by_cases h2 : x.last = z.last
  case neg =>
    have hb2 : (x.last == z.last) = false := by simp [h2]
    have HN : Hid (¬ x.q = z.q) := fun e => h2 (HQ.out.1 e).2.2.1
    clear h2
    go_wp2
    go_ret
    exact ansP_no rfl HN.out HY.out
  have hb2 : (x.last == z.last) = true := by simp [h2]
  have HF2 : Hid (x.last = z.last) := h2
  clear h2
  by_cases h3 : x.first = z.first
  case neg =>
    have hb3 : (x.first == z.first) = false := by simp [h3]
    have HN : Hid (¬ x.q = z.q) := fun e => h3 (HQ.out.1 e).2.2.2.1
    clear h3
    go_wp2
    go_ret
    exact ansP_no rfl HN.out HY.out
  have hb3 : (x.first == z.first) = true := by simp [h3]
  have HF3 : Hid (x.first = z.first) := h3
  clear h3
  by_cases h4 : x.count = z.count
  case neg =>
    have hb4 : (x.count == z.count) = false := by simp [h4]
    have HN : Hid (¬ x.q = z.q) := fun e => h4 (HQ.out.1 e).2.2.2.2.1
    clear h4
    go_wp2
    go_ret
    exact ansP_no rfl HN.out HY.out
  have hb4 : (x.count == z.count) = true := by simp [h4]
  have HF4 : Hid (x.count = z.count) := h4
  clear h4
  by_cases h5 : x.ready = z.ready
  case neg =>
    have hb5 : (x.ready == z.ready) = false := by simp [h5]
    have HN : Hid (¬ x.q = z.q) := fun e => h5 (HQ.out.1 e).2.2.2.2.2.1
    clear h5
    go_wp2
    go_ret
    exact ansP_no rfl HN.out HY.out
  have hb5 : (x.ready == z.ready) = true := by simp [h5]
  have HF5 : Hid (x.ready = z.ready) := h5
  clear h5
  go_wp2_with fail
  refine (strs_any _ _ x.rs z.rs w0 (H1.out.below HY.out) (H2.out.below HY.out)).mono ?_
  rintro e w1 ⟨rfl, y⟩
  have HY1 : Hid (Below w.heap.size w w1) := ext_trans HY.out y
  clear y
  have HD : Hid (decide (x.rs = z.rs) = true ↔ x.q = z.q) := by
    show _ ↔ _
    rw [decide_eq_true_eq, HQ.out]
    exact ⟨fun e => ⟨HF0.out, HF1.out, HF2.out, HF3.out, HF4.out, HF5.out, e⟩, fun e => e.2.2.2.2.2.2⟩
  generalize decide (x.rs = z.rs) = B at *
  go_wp2
  go_ret
  exact ⟨B, ret_bool rfl, HD.out, HY1.out⟩

end Go.Proofs.YtbgofajldkblmaaGreat
