/- rec: the law's own Same. Own lemmas, no statement. -/
import Derived.Test.YtbgofajldkblmaaGreatRec13
set_option linter.unusedSimpArgs false
set_option linter.unusedVariables false
namespace Go.Proofs.YtbgofajldkblmaaGreat
open Go.ChangeShapes Go.WideShapes Go.ChangeAt Go.RowKit

theorem take_map_succ {α β : Type} (f : α → β) {l : List α} {k : Nat} (h : k < l.length) : (l.map f).take (k + 1) = (l.map f).take k ++ [f l[k]] := by
  rw [List.take_succ_eq_append_getElem (by rw [List.length_map]; exact h), List.getElem_map]
theorem map_ne {α β : Type} (f : α → β) {l m : List α} {k : Nat} (h : k < l.length) (h' : k < m.length) (hn : f l[k] ≠ f m[k]) : l.map f ≠ m.map f := fun e => hn (by
  have := congrArg (fun t => t[k]?) e
  simpa [h, h'] using this)
theorem map_all {α β : Type} (f : α → β) {l m : List α} {k : Nat} (h : k = l.length) (h' : k = m.length) (ht : (l.map f).take k = (m.map f).take k) : l.map f = m.map f := by
  rw [List.take_of_length_le (by rw [List.length_map]; omega), List.take_of_length_le (by rw [List.length_map]; omega)] at ht
  exact ht

set_option maxRecDepth 100000 in
set_option maxHeartbeats 16000000 in
theorem same11_raw (p : Prop) (kind : Int) (num : Int) (node : Int) (key : ByteArray) (was : Bool) (old : ByteArray) (prev : Int) (na : Option Addr) (nn : Nat) (nc : Nat) (ra : Option Addr) (rn : Nat) (rc : Nat) (ga : Option Addr) (gn : Nat) (gc : Nat) (oa : Option Addr) (om : Nat) (oc : Nat) (da : Option Addr) (dn : Nat) (dc : Nat) (kindq : Int) (numq : Int) (nodeq : Int) (keyq : ByteArray) (wasq : Bool) (oldq : ByteArray) (prevq : Int) (naq : Option Addr) (nnq : Nat) (ncq : Nat) (raq : Option Addr) (rnq : Nat) (rcq : Nat) (gaq : Option Addr) (gnq : Nat) (gcq : Nat) (oaq : Option Addr) (omq : Nat) (ocq : Nat) (daq : Option Addr) (dnq : Nat) (dcq : Nat) (ns : List Int) (rs : List ByteArray) (gs : List ChgV) (os : List OpenV) (ds : List DoneV) (nsq : List Int) (rsq : List ByteArray) (gsq : List ChgV) (osq : List OpenV) (dsq : List DoneV) (w : World)
    (hp : p ↔ kind = kindq ∧ num = numq ∧ node = nodeq ∧ key = keyq ∧ was = wasq ∧ old = oldq ∧ prev = prevq ∧ ns = nsq ∧ rs = rsq ∧ gs.map ChgV.q = gsq.map ChgV.q ∧ os.map OpenV.q = osq.map OpenV.q ∧ ds.map DoneV.q = dsq.map DoneV.q)
    (a1 : Rd w (.slice na nn nc) (iv ns)) (a2 : Rd w (.slice ra rn rc) (sv rs)) (a3 : RowsN w 9 ChgV.c (.slice ga gn gc) gs) (a4 : RowsN w 7 OpenV.c (.slice oa om oc) os) (a5 : RowsN w 3 DoneV.c (.slice da dn dc) ds)
    (b1 : Rd w (.slice naq nnq ncq) (iv nsq)) (b2 : Rd w (.slice raq rnq rcq) (sv rsq)) (b3 : RowsN w 9 ChgV.c (.slice gaq gnq gcq) gsq) (b4 : RowsN w 7 OpenV.c (.slice oaq omq ocq) osq) (b5 : RowsN w 3 DoneV.c (.slice daq dnq dcq) dsq)
    (c1 : ∀ c ∈ gs, c.At w) (c2 : ∀ c ∈ os, c.At w) (c3 : ∀ c ∈ ds, c.At w) (d1 : ∀ c ∈ gsq, c.At w) (d2 : ∀ c ∈ osq, c.At w) (d3 : ∀ c ∈ dsq, c.At w) :
    Calls Tryz.prog 13 #[.agg #[.int .i64 kind, .int .u64 num, .int .i64 node, .string key, .bool was, .string old, .int .u64 prev, .slice na nn nc, .slice ra rn rc, .slice ga gn gc, .slice oa om oc, .slice da dn dc], .agg #[.int .i64 kindq, .int .u64 numq, .int .i64 nodeq, .string keyq, .bool wasq, .string oldq, .int .u64 prevq, .slice naq nnq ncq, .slice raq rnq rcq, .slice gaq gnq gcq, .slice oaq omq ocq, .slice daq dnq dcq]] w (AnsP p w) := by
  have HP : Hid (p ↔ _) := hp
  have N1 : Hid (Rd w (.slice na nn nc) (iv ns)) := a1
  have N2 : Hid (Rd w (.slice naq nnq ncq) (iv nsq)) := b1
  have S1 : Hid (Rd w (.slice ra rn rc) (sv rs)) := a2
  have S2 : Hid (Rd w (.slice raq rnq rcq) (sv rsq)) := b2
  have G1 : Hid (RowsN w 9 ChgV.c (.slice ga gn gc) gs) := a3
  have G2 : Hid (RowsN w 9 ChgV.c (.slice gaq gnq gcq) gsq) := b3
  have O1 : Hid (RowsN w 7 OpenV.c (.slice oa om oc) os) := a4
  have O2 : Hid (RowsN w 7 OpenV.c (.slice oaq omq ocq) osq) := b4
  have D1 : Hid (RowsN w 3 DoneV.c (.slice da dn dc) ds) := a5
  have D2 : Hid (RowsN w 3 DoneV.c (.slice daq dnq dcq) dsq) := b5
  have AG1 : Hid (∀ c ∈ gs, c.At w) := c1
  have AG2 : Hid (∀ c ∈ gsq, c.At w) := d1
  have AO1 : Hid (∀ c ∈ os, c.At w) := c2
  have AO2 : Hid (∀ c ∈ osq, c.At w) := d2
  have AD1 : Hid (∀ c ∈ ds, c.At w) := c3
  have AD2 : Hid (∀ c ∈ dsq, c.At w) := d3
  have m1 : gn ≤ 9223372036854775807 := by have h := a3.len.2; unfold maxLen at h; omega
  have m2 : om ≤ 9223372036854775807 := by have h := a4.len.2; unfold maxLen at h; omega
  have m3 : dn ≤ 9223372036854775807 := by have h := a5.len.2; unfold maxLen at h; omega
  have L1 : Hid (gn = gs.length) := a3.len.1
  have L2 : Hid (om = os.length) := a4.len.1
  have L3 : Hid (dn = ds.length) := a5.len.1
  have M1 : Hid (gnq = gsq.length) := b3.len.1
  have M2 : Hid (omq = osq.length) := b4.len.1
  have M3 : Hid (dnq = dsq.length) := b5.len.1
  clear hp a1 a2 a3 a4 a5 b1 b2 b3 b4 b5 c1 c2 c3 d1 d2 d3
  have HA : Hid (Blk ((w.alloc (.cells #[.int .i64 kind, .int .u64 num, .int .i64 node, .string key, .bool was, .string old, .int .u64 prev, .slice na nn nc, .slice ra rn rc, .slice ga gn gc, .slice oa om oc, .slice da dn dc] 31)).alloc (.cells #[.int .i64 kindq, .int .u64 numq, .int .i64 nodeq, .string keyq, .bool wasq, .string oldq, .int .u64 prevq, .slice naq nnq ncq, .slice raq rnq rcq, .slice gaq gnq gcq, .slice oaq omq ocq, .slice daq dnq dcq] 31)) w.heap.size #[.int .i64 kind, .int .u64 num, .int .i64 node, .string key, .bool was, .string old, .int .u64 prev, .slice na nn nc, .slice ra rn rc, .slice ga gn gc, .slice oa om oc, .slice da dn dc] 31) := (Blk.new _ _ _).alloc _
  have HR : Hid (Blk ((w.alloc (.cells #[.int .i64 kind, .int .u64 num, .int .i64 node, .string key, .bool was, .string old, .int .u64 prev, .slice na nn nc, .slice ra rn rc, .slice ga gn gc, .slice oa om oc, .slice da dn dc] 31)).alloc (.cells #[.int .i64 kindq, .int .u64 numq, .int .i64 nodeq, .string keyq, .bool wasq, .string oldq, .int .u64 prevq, .slice naq nnq ncq, .slice raq rnq rcq, .slice gaq gnq gcq, .slice oaq omq ocq, .slice daq dnq dcq] 31)) (w.heap.size + 1) #[.int .i64 kindq, .int .u64 numq, .int .i64 nodeq, .string keyq, .bool wasq, .string oldq, .int .u64 prevq, .slice naq nnq ncq, .slice raq rnq rcq, .slice gaq gnq gcq, .slice oaq omq ocq, .slice daq dnq dcq] 31) := blk_two _ _ _ _ _
  have HY : Hid (Below w.heap.size w ((w.alloc (.cells #[.int .i64 kind, .int .u64 num, .int .i64 node, .string key, .bool was, .string old, .int .u64 prev, .slice na nn nc, .slice ra rn rc, .slice ga gn gc, .slice oa om oc, .slice da dn dc] 31)).alloc (.cells #[.int .i64 kindq, .int .u64 numq, .int .i64 nodeq, .string keyq, .bool wasq, .string oldq, .int .u64 prevq, .slice naq nnq ncq, .slice raq rnq rcq, .slice gaq gnq gcq, .slice oaq omq ocq, .slice daq dnq dcq] 31))) := ((Below.refl _ _).alloc (Nat.le_refl _) _).alloc (by simp) _
  go_enter Tryz.func13, Tryz.ntmps13
  go_upto_region 1 with fail
  generalize ((w.alloc (.cells #[.int .i64 kind, .int .u64 num, .int .i64 node, .string key, .bool was, .string old, .int .u64 prev, .slice na nn nc, .slice ra rn rc, .slice ga gn gc, .slice oa om oc, .slice da dn dc] 31)).alloc (.cells #[.int .i64 kindq, .int .u64 numq, .int .i64 nodeq, .string keyq, .bool wasq, .string oldq, .int .u64 prevq, .slice naq nnq ncq, .slice raq rnq rcq, .slice gaq gnq gcq, .slice oaq omq ocq, .slice daq dnq dcq] 31)) = w0 at *
  have z0 : w0.cell? ⟨w.heap.size, 0, none⟩ = some (.int .i64 kind) := HA.out.cell 0
  have y0 : w0.cell? ⟨w.heap.size + 1, 0, none⟩ = some (.int .i64 kindq) := HR.out.cell 0
  have z1 : w0.cell? ⟨w.heap.size, 1, none⟩ = some (.int .u64 num) := HA.out.cell 1
  have y1 : w0.cell? ⟨w.heap.size + 1, 1, none⟩ = some (.int .u64 numq) := HR.out.cell 1
  have z2 : w0.cell? ⟨w.heap.size, 2, none⟩ = some (.int .i64 node) := HA.out.cell 2
  have y2 : w0.cell? ⟨w.heap.size + 1, 2, none⟩ = some (.int .i64 nodeq) := HR.out.cell 2
  have z3 : w0.cell? ⟨w.heap.size, 3, none⟩ = some (.string key) := HA.out.cell 3
  have y3 : w0.cell? ⟨w.heap.size + 1, 3, none⟩ = some (.string keyq) := HR.out.cell 3
  have z4 : w0.cell? ⟨w.heap.size, 4, none⟩ = some (.bool was) := HA.out.cell 4
  have y4 : w0.cell? ⟨w.heap.size + 1, 4, none⟩ = some (.bool wasq) := HR.out.cell 4
  have z5 : w0.cell? ⟨w.heap.size, 5, none⟩ = some (.string old) := HA.out.cell 5
  have y5 : w0.cell? ⟨w.heap.size + 1, 5, none⟩ = some (.string oldq) := HR.out.cell 5
  have z6 : w0.cell? ⟨w.heap.size, 6, none⟩ = some (.int .u64 prev) := HA.out.cell 6
  have y6 : w0.cell? ⟨w.heap.size + 1, 6, none⟩ = some (.int .u64 prevq) := HR.out.cell 6
  have z7 : w0.cell? ⟨w.heap.size, 7, none⟩ = some (.slice na nn nc) := HA.out.cell 7
  have y7 : w0.cell? ⟨w.heap.size + 1, 7, none⟩ = some (.slice naq nnq ncq) := HR.out.cell 7
  have z8 : w0.cell? ⟨w.heap.size, 8, none⟩ = some (.slice ra rn rc) := HA.out.cell 8
  have y8 : w0.cell? ⟨w.heap.size + 1, 8, none⟩ = some (.slice raq rnq rcq) := HR.out.cell 8
  have z9 : w0.cell? ⟨w.heap.size, 9, none⟩ = some (.slice ga gn gc) := HA.out.cell 9
  have y9 : w0.cell? ⟨w.heap.size + 1, 9, none⟩ = some (.slice gaq gnq gcq) := HR.out.cell 9
  have z10 : w0.cell? ⟨w.heap.size, 10, none⟩ = some (.slice oa om oc) := HA.out.cell 10
  have y10 : w0.cell? ⟨w.heap.size + 1, 10, none⟩ = some (.slice oaq omq ocq) := HR.out.cell 10
  have z11 : w0.cell? ⟨w.heap.size, 11, none⟩ = some (.slice da dn dc) := HA.out.cell 11
  have y11 : w0.cell? ⟨w.heap.size + 1, 11, none⟩ = some (.slice daq dnq dcq) := HR.out.cell 11
  by_cases h0 : kind = kindq
  case neg =>
    have hb0 : (kind == kindq) = false := by simp [h0]
    have hc0 : (kind != kindq) = true := by simp only [bne, hb0]; rfl
    have HN : Hid (¬ p) := fun e => h0 (HP.out.1 e).1
    clear h0
    go_wp2
    go_ret
    exact ansP_no rfl HN.out HY.out
  have hb0 : (kind == kindq) = true := by simp [h0]
  have hc0 : (kind != kindq) = false := by simp only [bne, hb0]; rfl
  have HF0 : Hid (kind = kindq) := h0
  clear h0
  by_cases h1 : num = numq
  case neg =>
    have hb1 : (num == numq) = false := by simp [h1]
    have hc1 : (num != numq) = true := by simp only [bne, hb1]; rfl
    have HN : Hid (¬ p) := fun e => h1 (HP.out.1 e).2.1
    clear h1
    go_wp2
    go_ret
    exact ansP_no rfl HN.out HY.out
  have hb1 : (num == numq) = true := by simp [h1]
  have hc1 : (num != numq) = false := by simp only [bne, hb1]; rfl
  have HF1 : Hid (num = numq) := h1
  clear h1
  by_cases h2 : node = nodeq
  case neg =>
    have hb2 : (node == nodeq) = false := by simp [h2]
    have hc2 : (node != nodeq) = true := by simp only [bne, hb2]; rfl
    have HN : Hid (¬ p) := fun e => h2 (HP.out.1 e).2.2.1
    clear h2
    go_wp2
    go_ret
    exact ansP_no rfl HN.out HY.out
  have hb2 : (node == nodeq) = true := by simp [h2]
  have hc2 : (node != nodeq) = false := by simp only [bne, hb2]; rfl
  have HF2 : Hid (node = nodeq) := h2
  clear h2
  by_cases h3 : key = keyq
  case neg =>
    have hb3 : (key.toList == keyq.toList) = false := by rw [beq_str]; simp [h3]
    have hc3 : (key.toList != keyq.toList) = true := by simp only [bne, hb3]; rfl
    have HN : Hid (¬ p) := fun e => h3 (HP.out.1 e).2.2.2.1
    clear h3
    go_wp2
    go_ret
    exact ansP_no rfl HN.out HY.out
  have hb3 : (key.toList == keyq.toList) = true := by rw [beq_str]; simp [h3]
  have hc3 : (key.toList != keyq.toList) = false := by simp only [bne, hb3]; rfl
  have HF3 : Hid (key = keyq) := h3
  clear h3
  by_cases h4 : was = wasq
  case neg =>
    have hb4 : (was == wasq) = false := by simp [h4]
    have hc4 : (was != wasq) = true := by simp only [bne, hb4]; rfl
    have HN : Hid (¬ p) := fun e => h4 (HP.out.1 e).2.2.2.2.1
    clear h4
    go_wp2
    go_ret
    exact ansP_no rfl HN.out HY.out
  have hb4 : (was == wasq) = true := by simp [h4]
  have hc4 : (was != wasq) = false := by simp only [bne, hb4]; rfl
  have HF4 : Hid (was = wasq) := h4
  clear h4
  by_cases h5 : old = oldq
  case neg =>
    have hb5 : (old.toList == oldq.toList) = false := by rw [beq_str]; simp [h5]
    have hc5 : (old.toList != oldq.toList) = true := by simp only [bne, hb5]; rfl
    have HN : Hid (¬ p) := fun e => h5 (HP.out.1 e).2.2.2.2.2.1
    clear h5
    go_wp2
    go_ret
    exact ansP_no rfl HN.out HY.out
  have hb5 : (old.toList == oldq.toList) = true := by rw [beq_str]; simp [h5]
  have hc5 : (old.toList != oldq.toList) = false := by simp only [bne, hb5]; rfl
  have HF5 : Hid (old = oldq) := h5
  clear h5
  by_cases h6 : prev = prevq
  case neg =>
    have hb6 : (prev == prevq) = false := by simp [h6]
    have hc6 : (prev != prevq) = true := by simp only [bne, hb6]; rfl
    have HN : Hid (¬ p) := fun e => h6 (HP.out.1 e).2.2.2.2.2.2.1
    clear h6
    go_wp2
    go_ret
    exact ansP_no rfl HN.out HY.out
  have hb6 : (prev == prevq) = true := by simp [h6]
  have hc6 : (prev != prevq) = false := by simp only [bne, hb6]; rfl
  have HF6 : Hid (prev = prevq) := h6
  clear h6
  go_wp2_with fail
  refine (ints_any _ _ ns nsq w0 (N1.out.below HY.out) (N2.out.below HY.out)).mono ?_
  rintro e w1 ⟨rfl, y⟩
  have HA' : Hid (Blk w1 w.heap.size #[.int .i64 kind, .int .u64 num, .int .i64 node, .string key, .bool was, .string old, .int .u64 prev, .slice na nn nc, .slice ra rn rc, .slice ga gn gc, .slice oa om oc, .slice da dn dc] 31) := Blk.of HA.out (y.block _ HA.out.lt)
  have HR' : Hid (Blk w1 (w.heap.size + 1) #[.int .i64 kindq, .int .u64 numq, .int .i64 nodeq, .string keyq, .bool wasq, .string oldq, .int .u64 prevq, .slice naq nnq ncq, .slice raq rnq rcq, .slice gaq gnq gcq, .slice oaq omq ocq, .slice daq dnq dcq] 31) := Blk.of HR.out (y.block _ HR.out.lt)
  have HY' : Hid (Below w.heap.size w w1) := ext_trans HY.out y
  clear y HA HR HY z0 y0 z1 y1 z2 y2 z3 y3 z4 y4 z5 y5 z6 y6 z7 y7 z8 y8 z9 y9 z10 y10 z11 y11
  have HA := HA'
  have HR := HR'
  have HY := HY'
  clear HA' HR' HY'
  have z0 : w1.cell? ⟨w.heap.size, 0, none⟩ = some (.int .i64 kind) := HA.out.cell 0
  have y0 : w1.cell? ⟨w.heap.size + 1, 0, none⟩ = some (.int .i64 kindq) := HR.out.cell 0
  have z1 : w1.cell? ⟨w.heap.size, 1, none⟩ = some (.int .u64 num) := HA.out.cell 1
  have y1 : w1.cell? ⟨w.heap.size + 1, 1, none⟩ = some (.int .u64 numq) := HR.out.cell 1
  have z2 : w1.cell? ⟨w.heap.size, 2, none⟩ = some (.int .i64 node) := HA.out.cell 2
  have y2 : w1.cell? ⟨w.heap.size + 1, 2, none⟩ = some (.int .i64 nodeq) := HR.out.cell 2
  have z3 : w1.cell? ⟨w.heap.size, 3, none⟩ = some (.string key) := HA.out.cell 3
  have y3 : w1.cell? ⟨w.heap.size + 1, 3, none⟩ = some (.string keyq) := HR.out.cell 3
  have z4 : w1.cell? ⟨w.heap.size, 4, none⟩ = some (.bool was) := HA.out.cell 4
  have y4 : w1.cell? ⟨w.heap.size + 1, 4, none⟩ = some (.bool wasq) := HR.out.cell 4
  have z5 : w1.cell? ⟨w.heap.size, 5, none⟩ = some (.string old) := HA.out.cell 5
  have y5 : w1.cell? ⟨w.heap.size + 1, 5, none⟩ = some (.string oldq) := HR.out.cell 5
  have z6 : w1.cell? ⟨w.heap.size, 6, none⟩ = some (.int .u64 prev) := HA.out.cell 6
  have y6 : w1.cell? ⟨w.heap.size + 1, 6, none⟩ = some (.int .u64 prevq) := HR.out.cell 6
  have z7 : w1.cell? ⟨w.heap.size, 7, none⟩ = some (.slice na nn nc) := HA.out.cell 7
  have y7 : w1.cell? ⟨w.heap.size + 1, 7, none⟩ = some (.slice naq nnq ncq) := HR.out.cell 7
  have z8 : w1.cell? ⟨w.heap.size, 8, none⟩ = some (.slice ra rn rc) := HA.out.cell 8
  have y8 : w1.cell? ⟨w.heap.size + 1, 8, none⟩ = some (.slice raq rnq rcq) := HR.out.cell 8
  have z9 : w1.cell? ⟨w.heap.size, 9, none⟩ = some (.slice ga gn gc) := HA.out.cell 9
  have y9 : w1.cell? ⟨w.heap.size + 1, 9, none⟩ = some (.slice gaq gnq gcq) := HR.out.cell 9
  have z10 : w1.cell? ⟨w.heap.size, 10, none⟩ = some (.slice oa om oc) := HA.out.cell 10
  have y10 : w1.cell? ⟨w.heap.size + 1, 10, none⟩ = some (.slice oaq omq ocq) := HR.out.cell 10
  have z11 : w1.cell? ⟨w.heap.size, 11, none⟩ = some (.slice da dn dc) := HA.out.cell 11
  have y11 : w1.cell? ⟨w.heap.size + 1, 11, none⟩ = some (.slice daq dnq dcq) := HR.out.cell 11
  by_cases h7 : ns = nsq
  case neg =>
    rw [decide_eq_false h7]
    have HN : Hid (¬ p) := fun e => h7 (HP.out.1 e).2.2.2.2.2.2.2.1
    clear h7
    go_wp2
    go_ret
    exact ansP_no rfl HN.out HY.out
  rw [decide_eq_true h7]
  have HF7 : Hid (ns = nsq) := h7
  clear h7
  go_wp2_with fail
  refine (strs_any _ _ rs rsq w1 (S1.out.below HY.out) (S2.out.below HY.out)).mono ?_
  rintro e w2 ⟨rfl, y⟩
  have HA' : Hid (Blk w2 w.heap.size #[.int .i64 kind, .int .u64 num, .int .i64 node, .string key, .bool was, .string old, .int .u64 prev, .slice na nn nc, .slice ra rn rc, .slice ga gn gc, .slice oa om oc, .slice da dn dc] 31) := Blk.of HA.out (y.block _ HA.out.lt)
  have HR' : Hid (Blk w2 (w.heap.size + 1) #[.int .i64 kindq, .int .u64 numq, .int .i64 nodeq, .string keyq, .bool wasq, .string oldq, .int .u64 prevq, .slice naq nnq ncq, .slice raq rnq rcq, .slice gaq gnq gcq, .slice oaq omq ocq, .slice daq dnq dcq] 31) := Blk.of HR.out (y.block _ HR.out.lt)
  have HY' : Hid (Below w.heap.size w w2) := ext_trans HY.out y
  clear y HA HR HY z0 y0 z1 y1 z2 y2 z3 y3 z4 y4 z5 y5 z6 y6 z7 y7 z8 y8 z9 y9 z10 y10 z11 y11
  have HA := HA'
  have HR := HR'
  have HY := HY'
  clear HA' HR' HY'
  have z0 : w2.cell? ⟨w.heap.size, 0, none⟩ = some (.int .i64 kind) := HA.out.cell 0
  have y0 : w2.cell? ⟨w.heap.size + 1, 0, none⟩ = some (.int .i64 kindq) := HR.out.cell 0
  have z1 : w2.cell? ⟨w.heap.size, 1, none⟩ = some (.int .u64 num) := HA.out.cell 1
  have y1 : w2.cell? ⟨w.heap.size + 1, 1, none⟩ = some (.int .u64 numq) := HR.out.cell 1
  have z2 : w2.cell? ⟨w.heap.size, 2, none⟩ = some (.int .i64 node) := HA.out.cell 2
  have y2 : w2.cell? ⟨w.heap.size + 1, 2, none⟩ = some (.int .i64 nodeq) := HR.out.cell 2
  have z3 : w2.cell? ⟨w.heap.size, 3, none⟩ = some (.string key) := HA.out.cell 3
  have y3 : w2.cell? ⟨w.heap.size + 1, 3, none⟩ = some (.string keyq) := HR.out.cell 3
  have z4 : w2.cell? ⟨w.heap.size, 4, none⟩ = some (.bool was) := HA.out.cell 4
  have y4 : w2.cell? ⟨w.heap.size + 1, 4, none⟩ = some (.bool wasq) := HR.out.cell 4
  have z5 : w2.cell? ⟨w.heap.size, 5, none⟩ = some (.string old) := HA.out.cell 5
  have y5 : w2.cell? ⟨w.heap.size + 1, 5, none⟩ = some (.string oldq) := HR.out.cell 5
  have z6 : w2.cell? ⟨w.heap.size, 6, none⟩ = some (.int .u64 prev) := HA.out.cell 6
  have y6 : w2.cell? ⟨w.heap.size + 1, 6, none⟩ = some (.int .u64 prevq) := HR.out.cell 6
  have z7 : w2.cell? ⟨w.heap.size, 7, none⟩ = some (.slice na nn nc) := HA.out.cell 7
  have y7 : w2.cell? ⟨w.heap.size + 1, 7, none⟩ = some (.slice naq nnq ncq) := HR.out.cell 7
  have z8 : w2.cell? ⟨w.heap.size, 8, none⟩ = some (.slice ra rn rc) := HA.out.cell 8
  have y8 : w2.cell? ⟨w.heap.size + 1, 8, none⟩ = some (.slice raq rnq rcq) := HR.out.cell 8
  have z9 : w2.cell? ⟨w.heap.size, 9, none⟩ = some (.slice ga gn gc) := HA.out.cell 9
  have y9 : w2.cell? ⟨w.heap.size + 1, 9, none⟩ = some (.slice gaq gnq gcq) := HR.out.cell 9
  have z10 : w2.cell? ⟨w.heap.size, 10, none⟩ = some (.slice oa om oc) := HA.out.cell 10
  have y10 : w2.cell? ⟨w.heap.size + 1, 10, none⟩ = some (.slice oaq omq ocq) := HR.out.cell 10
  have z11 : w2.cell? ⟨w.heap.size, 11, none⟩ = some (.slice da dn dc) := HA.out.cell 11
  have y11 : w2.cell? ⟨w.heap.size + 1, 11, none⟩ = some (.slice daq dnq dcq) := HR.out.cell 11
  by_cases h8 : rs = rsq
  case neg =>
    rw [decide_eq_false h8]
    have HN : Hid (¬ p) := fun e => h8 (HP.out.1 e).2.2.2.2.2.2.2.2.1
    clear h8
    go_wp2
    go_ret
    exact ansP_no rfl HN.out HY.out
  rw [decide_eq_true h8]
  have HF8 : Hid (rs = rsq) := h8
  clear h8
  by_cases h9 : gn = gnq
  case neg =>
    have hi9 : ¬ ((gn : Int) = (gnq : Int)) := by omega
    have hj9 : ((gn : Int) == (gnq : Int)) = false := by simp [hi9]
    have HN : Hid (¬ p) := fun e => h9 (by have h := congrArg List.length (HP.out.1 e).2.2.2.2.2.2.2.2.2.1; rw [List.length_map, List.length_map] at h; rw [L1.out, M1.out]; exact h)
    clear h9
    go_wp2
    go_ret
    exact ansP_no rfl HN.out HY.out
  subst h9
  by_cases h10 : om = omq
  case neg =>
    have hi10 : ¬ ((om : Int) = (omq : Int)) := by omega
    have hj10 : ((om : Int) == (omq : Int)) = false := by simp [hi10]
    have HN : Hid (¬ p) := fun e => h10 (by have h := congrArg List.length (HP.out.1 e).2.2.2.2.2.2.2.2.2.2.1; rw [List.length_map, List.length_map] at h; rw [L2.out, M2.out]; exact h)
    clear h10
    go_wp2
    go_ret
    exact ansP_no rfl HN.out HY.out
  subst h10
  by_cases h11 : dn = dnq
  case neg =>
    have hi11 : ¬ ((dn : Int) = (dnq : Int)) := by omega
    have hj11 : ((dn : Int) == (dnq : Int)) = false := by simp [hi11]
    have HN : Hid (¬ p) := fun e => h11 (by have h := congrArg List.length (HP.out.1 e).2.2.2.2.2.2.2.2.2.2.2; rw [List.length_map, List.length_map] at h; rw [L3.out, M3.out]; exact h)
    clear h11
    go_wp2
    go_ret
    exact ansP_no rfl HN.out HY.out
  subst h11
  go_wp2
  go_loopw [94] (fun i wr => ∃ k : Nat, i = .int .i64 (k : Int) ∧ k ≤ gn ∧ (gs.map ChgV.q).take k = (gsq.map ChgV.q).take k ∧ Below w.heap.size w wr ∧ Blk wr w.heap.size #[.int .i64 kind, .int .u64 num, .int .i64 node, .string key, .bool was, .string old, .int .u64 prev, .slice na nn nc, .slice ra rn rc, .slice ga gn gc, .slice oa om oc, .slice da dn dc] 31 ∧ Blk wr (w.heap.size + 1) #[.int .i64 kindq, .int .u64 numq, .int .i64 nodeq, .string keyq, .bool wasq, .string oldq, .int .u64 prevq, .slice naq nnq ncq, .slice raq rnq rcq, .slice gaq gn gcq, .slice oaq om ocq, .slice daq dn dcq] 31) (fun i _ => gn - (intOf i).toNat)
  case atStart => exact ⟨0, rfl, Nat.zero_le _, by simp, HY.out, HA.out, HR.out⟩
  case round =>
    obtain ⟨k, rfl, hk, ht, y, ha, hr⟩ := hrel
    clear HY HA HR
    have HY : Hid (Below w.heap.size w wr) := y
    have HA : Hid (Blk wr w.heap.size _ 31) := ha
    have HR : Hid (Blk wr (w.heap.size + 1) _ 31) := hr
    have HT : Hid ((gs.map ChgV.q).take k = (gsq.map ChgV.q).take k) := ht
    clear y ha hr ht
    by_cases hlt : k < gn
    · have hkl : k < gs.length := by rw [← L1.out]; exact hlt
      have hkm : k < gsq.length := by rw [← M1.out]; exact hlt
      have hi2 : (k : Int) < (gn : Int) := by omega
      obtain ⟨ad, had⟩ := RowsN.adr G1.out (by omega)
      obtain ⟨bd, hbd⟩ := RowsN.adr G2.out (by omega)
      subst had hbd
      have HH : Hid (RowsN wr.drew 9 _ (.slice (some ad) _ _) gs) := G1.out.below (Below.drew HY.out)
      have HK : Hid (RowsN wr.drew 9 _ (.slice (some bd) _ _) gsq) := G2.out.below (Below.drew HY.out)
      go_upto_region 6 with fail
      refine wp_region_ext (by kernel_rfl) ?_
      haveI nA := cls_ext wr.drew
      have z0 := cellX (W0 := wr.drew) (show wr.drew.cell? ⟨w.heap.size, 9, none⟩ = some _ from HA.out.cell 9)
      have y0 := cellX (W0 := wr.drew) (show wr.drew.cell? ⟨w.heap.size + 1, 9, none⟩ = some _ from HR.out.cell 9)
      have e0 := cellX (W0 := wr.drew) (HH.out.at0 hkl rfl)
      have e1 := cellX (W0 := wr.drew) (HH.out.atS hkl 0 rfl)
      have e2 := cellX (W0 := wr.drew) (HH.out.atS hkl 1 rfl)
      have e3 := cellX (W0 := wr.drew) (HH.out.atS hkl 2 rfl)
      have e4 := cellX (W0 := wr.drew) (HH.out.atS hkl 3 rfl)
      have e5 := cellX (W0 := wr.drew) (HH.out.atS hkl 4 rfl)
      have e6 := cellX (W0 := wr.drew) (HH.out.atS hkl 5 rfl)
      have e7 := cellX (W0 := wr.drew) (HH.out.atS hkl 6 rfl)
      have e8 := cellX (W0 := wr.drew) (HH.out.atS hkl 7 rfl)
      have f0 := cellX (W0 := wr.drew) (HK.out.at0 hkm rfl)
      have f1 := cellX (W0 := wr.drew) (HK.out.atS hkm 0 rfl)
      have f2 := cellX (W0 := wr.drew) (HK.out.atS hkm 1 rfl)
      have f3 := cellX (W0 := wr.drew) (HK.out.atS hkm 2 rfl)
      have f4 := cellX (W0 := wr.drew) (HK.out.atS hkm 3 rfl)
      have f5 := cellX (W0 := wr.drew) (HK.out.atS hkm 4 rfl)
      have f6 := cellX (W0 := wr.drew) (HK.out.atS hkm 5 rfl)
      have f7 := cellX (W0 := wr.drew) (HK.out.atS hkm 6 rfl)
      have f8 := cellX (W0 := wr.drew) (HK.out.atS hkm 7 rfl)
      have HNE : Hid (ChgV.q gs[k] ≠ ChgV.q gsq[k] → ¬ p) := fun h e => map_ne ChgV.q hkl hkm h (HP.out.1 e).2.2.2.2.2.2.2.2.2.1
      have HS1 : Hid ((gs.map ChgV.q).take (k + 1) = (gs.map ChgV.q).take k ++ [ChgV.q gs[k]]) := take_map_succ ChgV.q hkl
      have HS2 : Hid ((gsq.map ChgV.q).take (k + 1) = (gsq.map ChgV.q).take k ++ [ChgV.q gsq[k]]) := take_map_succ ChgV.q hkm
      have AX : Hid (gs[k].At wr.drew) := (AG1.out _ (List.getElem_mem hkl)).below (Below.drew HY.out)
      have AZ : Hid (gsq[k].At wr.drew) := (AG2.out _ (List.getElem_mem hkm)).below (Below.drew HY.out)
      clear HH HK
      generalize gs[k] = x at *
      generalize gsq[k] = v at *
      have HYD : Hid (Below w.heap.size w wr.drew) := Below.drew HY.out
      have HAD : Hid (Blk wr.drew w.heap.size _ 31) := HA.out.drew
      have HRD : Hid (Blk wr.drew (w.heap.size + 1) _ 31) := HR.out.drew
      clear HA HR HY
      by_cases hc0 : x.n = v.n
      case neg =>
        have hb0 : (x.n == v.n) = false := by simp [hc0]
        have hd0 : (x.n != v.n) = true := by simp only [bne, hb0]; rfl
        have HNQ : Hid (x.q ≠ v.q) := fun e => hc0 (congrArg ChgQ.n e)
        clear hc0
        refine wpAnyH_seg (by kernel_rfl) (fun _ _ _ h => h) [0, 1, 2, 3, 4, 5, 6, 7, 8, 9, 10, 11, 12, 13, 14, 15, 16, 17, 18, 19, 20, 21, 22, 23, 24, 25] 3 _ _ _ (Ext.refl _) (by kernel_rfl) ?_
        simp only [opsAt, List.getElem?_toArray, List.getElem?_cons_zero, List.getElem?_cons_succ, List.cons_append, List.nil_append]
        repeat (go_big_quiet_step (fail))
        refine wpQuiet_nil ?_
        clear nA e0 f0 e1 f1 e2 f2 e3 f3 e4 f4 e5 f5 e6 f6 e7 f7 e8 f8 z0 y0
        refine wpAnyH_all (rs := [26]) (fuel := 2) (by kernel_rfl) (by simp) fun j0 hj0 => ?_
        obtain rfl : j0 = 26 := by simpa using hj0
        clear hj0
        refine wpOp_skip 123 rfl (by kernel_rfl) rfl ?_
        refine ⟨Ext.refl _, ?_⟩
        simp only [Act.put, List.setIfInBounds_toArray, List.set_cons_succ, List.set_cons_zero]
        haveI nA := cls_ext wr.drew
        refine wpAnyH_seg (by kernel_rfl) (fun _ _ _ h => h) [27, 28] 0 _ _ _ (Ext.refl _) (by kernel_rfl) ?_
        simp only [opsAt, List.getElem?_toArray, List.getElem?_cons_zero, List.getElem?_cons_succ, List.cons_append, List.nil_append]
        repeat (go_big_quiet_step (fail))
        refine wpQuiet_nil ?_
        clear nA
        refine wpAnyH_done (by kernel_rfl) (NoPanic.normal ?_) 0
        go_wp2
        go_ret
        exact ansP_no rfl (HNE.out HNQ.out) HYD.out
      have hb0 : (x.n == v.n) = true := by simp [hc0]
      have hd0 : (x.n != v.n) = false := by simp only [bne, hb0]; rfl
      have HC0 : Hid (x.n = v.n) := hc0
      clear hc0
      refine wpAnyH_seg (by kernel_rfl) (fun _ _ _ h => h) [0, 1, 2, 3, 4, 5, 6, 7, 8, 9, 10, 11, 12, 13, 14, 15, 16, 17, 18, 19, 20, 21, 22, 23, 24, 25] 3 _ _ _ (Ext.refl _) (by kernel_rfl) ?_
      simp only [opsAt, List.getElem?_toArray, List.getElem?_cons_zero, List.getElem?_cons_succ, List.cons_append, List.nil_append]
      repeat (go_big_quiet_step (fail))
      refine wpQuiet_nil ?_
      clear nA e0 f0 e1 f1 e2 f2 e3 f3 e4 f4 e5 f5 e6 f6 e7 f7 e8 f8 z0 y0 hb0 hd0
      refine wpAnyH_callE (i := 26) (fuel := 2) 123 rfl (by kernel_rfl) rfl (Ext.refl _) (by kernel_rfl) (f := 40) (args := #[.agg #[.int .i64 x.p.kind, .slice x.ka x.kn x.kc, .slice x.va x.vn x.vc, .slice x.da x.dn x.dc, .int .i64 x.p.root, .int .i64 x.p.next, .int .i64 x.p.size, .int .i64 x.p.idle], .agg #[.int .i64 v.p.kind, .slice v.ka v.kn v.kc, .slice v.va v.vn v.vc, .slice v.da v.dn v.dc, .int .i64 v.p.root, .int .i64 v.p.next, .int .i64 v.p.size, .int .i64 v.p.idle]]) (by kernel_rfl) (psame_any x.p v.p _ _ _ _ _ _ wr.drew AX.out.rd AZ.out.rd) ?_
      rintro e w2 ⟨rfl, y⟩
      refine ⟨_, rfl, y, ?_⟩
      have HAB : Hid (Blk w2 w.heap.size _ 31) := Blk.of HAD.out (y.block _ HAD.out.lt)
      have HRB : Hid (Blk w2 (w.heap.size + 1) _ 31) := Blk.of HRD.out (y.block _ HRD.out.lt)
      have HYB : Hid (Below w.heap.size w w2) := ext_trans HYD.out y
      have HBB : Hid (samePg x.p v.p = true ↔ x.q = v.q) := by show _ ↔ ChgQ.mk _ _ = ChgQ.mk _ _; rw [samePg_iff, ChgQ.mk.injEq]; exact ⟨fun e => ⟨HC0.out, e⟩, fun e => e.2⟩
      clear y HAD HRD HYD
      generalize samePg x.p v.p = B at *
      simp only [Act.put, List.setIfInBounds_toArray, List.set_cons_succ, List.set_cons_zero]
      cases B with
      | false =>
        haveI nA := cls_ext w2
        refine wpAnyH_seg (by kernel_rfl) (fun _ _ _ h => h) [27, 28] 0 _ _ _ (Ext.refl _) (by kernel_rfl) ?_
        simp only [opsAt, List.getElem?_toArray, List.getElem?_cons_zero, List.getElem?_cons_succ, List.cons_append, List.nil_append]
        repeat (go_big_quiet_step (fail))
        refine wpQuiet_nil ?_
        clear nA
        refine wpAnyH_done (by kernel_rfl) (NoPanic.normal ?_) 0
        go_wp2
        go_ret
        exact ansP_no rfl (HNE.out (fun h => by have := HBB.out.2 h; cases this)) HYB.out
      | true =>
        haveI nA := cls_ext w2
        refine wpAnyH_seg (by kernel_rfl) (fun _ _ _ h => h) [27, 28] 0 _ _ _ (Ext.refl _) (by kernel_rfl) ?_
        simp only [opsAt, List.getElem?_toArray, List.getElem?_cons_zero, List.getElem?_cons_succ, List.cons_append, List.nil_append]
        repeat (go_big_quiet_step (fail))
        refine wpQuiet_nil ?_
        clear nA
        refine wpAnyH_done (by kernel_rfl) (NoPanic.normal ?_) 0
        go_wp2
        go_roundw
        case rel => exact ⟨k + 1, by go_num, by omega, by rw [HS1.out, HS2.out, HT.out, HBB.out.1 rfl], HYB.out, HAB.out, HRB.out⟩
        case measure => simp [intOf]; omega
    · have HE1 : Hid (gs.map ChgV.q = gsq.map ChgV.q) := map_all ChgV.q (show gn = _ from L1.out) (show gn = _ from M1.out) (by have h := HT.out; rw [show k = gn by omega] at h; exact h)
      clear hk HT
      rename World => wq1
      have z8 : wq1.cell? ⟨w.heap.size, 10, none⟩ = some _ := HA.out.cell 10
      go_wp2
      clear hlt
      go_loopw [130] (fun i wr => ∃ k : Nat, i = .int .i64 (k : Int) ∧ k ≤ om ∧ (os.map OpenV.q).take k = (osq.map OpenV.q).take k ∧ Below w.heap.size w wr ∧ Blk wr w.heap.size #[.int .i64 kind, .int .u64 num, .int .i64 node, .string key, .bool was, .string old, .int .u64 prev, .slice na nn nc, .slice ra rn rc, .slice ga gn gc, .slice oa om oc, .slice da dn dc] 31 ∧ Blk wr (w.heap.size + 1) #[.int .i64 kindq, .int .u64 numq, .int .i64 nodeq, .string keyq, .bool wasq, .string oldq, .int .u64 prevq, .slice naq nnq ncq, .slice raq rnq rcq, .slice gaq gn gcq, .slice oaq om ocq, .slice daq dn dcq] 31) (fun i _ => om - (intOf i).toNat)
      case atStart => exact ⟨0, rfl, Nat.zero_le _, by simp, HY.out, HA.out, HR.out⟩
      case round =>
        obtain ⟨k, rfl, hk, ht, y, ha, hr⟩ := hrel
        clear HY HA HR
        have HY : Hid (Below w.heap.size w wr) := y
        have HA : Hid (Blk wr w.heap.size _ 31) := ha
        have HR : Hid (Blk wr (w.heap.size + 1) _ 31) := hr
        have HT : Hid ((os.map OpenV.q).take k = (osq.map OpenV.q).take k) := ht
        clear y ha hr ht
        by_cases hlt : k < om
        · have hkl : k < os.length := by rw [← L2.out]; exact hlt
          have hkm : k < osq.length := by rw [← M2.out]; exact hlt
          have hi2 : (k : Int) < (om : Int) := by omega
          obtain ⟨ad, had⟩ := RowsN.adr O1.out (by omega)
          obtain ⟨bd, hbd⟩ := RowsN.adr O2.out (by omega)
          subst had hbd
          have HH : Hid (RowsN wr.drew 7 _ (.slice (some ad) _ _) os) := O1.out.below (Below.drew HY.out)
          have HK : Hid (RowsN wr.drew 7 _ (.slice (some bd) _ _) osq) := O2.out.below (Below.drew HY.out)
          go_upto_region 12 with fail
          refine wp_region_ext (by kernel_rfl) ?_
          haveI nA := cls_ext wr.drew
          have z0 := cellX (W0 := wr.drew) (show wr.drew.cell? ⟨w.heap.size, 10, none⟩ = some _ from HA.out.cell 10)
          have y0 := cellX (W0 := wr.drew) (show wr.drew.cell? ⟨w.heap.size + 1, 10, none⟩ = some _ from HR.out.cell 10)
          have e0 := cellX (W0 := wr.drew) (HH.out.at0 hkl rfl)
          have e1 := cellX (W0 := wr.drew) (HH.out.atS hkl 0 rfl)
          have e2 := cellX (W0 := wr.drew) (HH.out.atS hkl 1 rfl)
          have e3 := cellX (W0 := wr.drew) (HH.out.atS hkl 2 rfl)
          have e4 := cellX (W0 := wr.drew) (HH.out.atS hkl 3 rfl)
          have e5 := cellX (W0 := wr.drew) (HH.out.atS hkl 4 rfl)
          have e6 := cellX (W0 := wr.drew) (HH.out.atS hkl 5 rfl)
          have f0 := cellX (W0 := wr.drew) (HK.out.at0 hkm rfl)
          have f1 := cellX (W0 := wr.drew) (HK.out.atS hkm 0 rfl)
          have f2 := cellX (W0 := wr.drew) (HK.out.atS hkm 1 rfl)
          have f3 := cellX (W0 := wr.drew) (HK.out.atS hkm 2 rfl)
          have f4 := cellX (W0 := wr.drew) (HK.out.atS hkm 3 rfl)
          have f5 := cellX (W0 := wr.drew) (HK.out.atS hkm 4 rfl)
          have f6 := cellX (W0 := wr.drew) (HK.out.atS hkm 5 rfl)
          have HNE : Hid (OpenV.q os[k] ≠ OpenV.q osq[k] → ¬ p) := fun h e => map_ne OpenV.q hkl hkm h (HP.out.1 e).2.2.2.2.2.2.2.2.2.2.1
          have HS1 : Hid ((os.map OpenV.q).take (k + 1) = (os.map OpenV.q).take k ++ [OpenV.q os[k]]) := take_map_succ OpenV.q hkl
          have HS2 : Hid ((osq.map OpenV.q).take (k + 1) = (osq.map OpenV.q).take k ++ [OpenV.q osq[k]]) := take_map_succ OpenV.q hkm
          have AX : Hid (os[k].At wr.drew) := (AO1.out _ (List.getElem_mem hkl)).below (Below.drew HY.out)
          have AZ : Hid (osq[k].At wr.drew) := (AO2.out _ (List.getElem_mem hkm)).below (Below.drew HY.out)
          clear HH HK
          generalize os[k] = x at *
          generalize osq[k] = v at *
          have HYD : Hid (Below w.heap.size w wr.drew) := Below.drew HY.out
          have HAD : Hid (Blk wr.drew w.heap.size _ 31) := HA.out.drew
          have HRD : Hid (Blk wr.drew (w.heap.size + 1) _ 31) := HR.out.drew
          clear HA HR HY
          refine wpAnyH_seg (by kernel_rfl) (fun _ _ _ h => h) [0, 1, 2, 3, 4, 5, 6, 7, 8, 9] 2 _ _ _ (Ext.refl _) (by kernel_rfl) ?_
          simp only [opsAt, List.getElem?_toArray, List.getElem?_cons_zero, List.getElem?_cons_succ, List.cons_append, List.nil_append]
          repeat (go_big_quiet_step (fail))
          refine wpQuiet_nil ?_
          clear nA e0 f0 e1 f1 e2 f2 e3 f3 e4 f4 e5 f5 e6 f6 z0 y0
          refine wpAnyH_callE (i := 10) (fuel := 1) 143 rfl (by kernel_rfl) rfl (Ext.refl _) (by kernel_rfl) (f := 41) (args := #[.agg #[.int .u64 x.num, .int .i64 x.node, .int .u64 x.last, .int .u64 x.first, .int .i64 x.count, .bool x.ready, .slice x.ra x.rn x.rc], .agg #[.int .u64 v.num, .int .i64 v.node, .int .u64 v.last, .int .u64 v.first, .int .i64 v.count, .bool v.ready, .slice v.ra v.rn v.rc]]) (by kernel_rfl) (alike_any x v wr.drew AX.out AZ.out) ?_
          rintro e w2 ⟨B, rfl, hB, y⟩
          refine ⟨_, rfl, y, ?_⟩
          have HAB : Hid (Blk w2 w.heap.size _ 31) := Blk.of HAD.out (y.block _ HAD.out.lt)
          have HRB : Hid (Blk w2 (w.heap.size + 1) _ 31) := Blk.of HRD.out (y.block _ HRD.out.lt)
          have HYB : Hid (Below w.heap.size w w2) := ext_trans HYD.out y
          have HBB : Hid (B = true ↔ x.q = v.q) := hB
          clear y hB HAD HRD HYD
          simp only [Act.put, List.setIfInBounds_toArray, List.set_cons_succ, List.set_cons_zero]
          cases B with
          | false =>
            haveI nA := cls_ext w2
            refine wpAnyH_seg (by kernel_rfl) (fun _ _ _ h => h) [11] 0 _ _ _ (Ext.refl _) (by kernel_rfl) ?_
            simp only [opsAt, List.getElem?_toArray, List.getElem?_cons_zero, List.getElem?_cons_succ, List.cons_append, List.nil_append]
            repeat (go_big_quiet_step (fail))
            refine wpQuiet_nil ?_
            clear nA
            refine wpAnyH_done (by kernel_rfl) (NoPanic.normal ?_) 0
            go_wp2
            go_ret
            exact ansP_no rfl (HNE.out (fun h => by have := HBB.out.2 h; cases this)) HYB.out
          | true =>
            haveI nA := cls_ext w2
            refine wpAnyH_seg (by kernel_rfl) (fun _ _ _ h => h) [11] 0 _ _ _ (Ext.refl _) (by kernel_rfl) ?_
            simp only [opsAt, List.getElem?_toArray, List.getElem?_cons_zero, List.getElem?_cons_succ, List.cons_append, List.nil_append]
            repeat (go_big_quiet_step (fail))
            refine wpQuiet_nil ?_
            clear nA
            refine wpAnyH_done (by kernel_rfl) (NoPanic.normal ?_) 0
            go_wp2
            go_roundw
            case rel => exact ⟨k + 1, by go_num, by omega, by rw [HS1.out, HS2.out, HT.out, HBB.out.1 rfl], HYB.out, HAB.out, HRB.out⟩
            case measure => simp [intOf]; omega
        · have HE2 : Hid (os.map OpenV.q = osq.map OpenV.q) := map_all OpenV.q (show om = _ from L2.out) (show om = _ from M2.out) (by have h := HT.out; rw [show k = om by omega] at h; exact h)
          clear hk HT
          rename World => wq2
          have z8 : wq2.cell? ⟨w.heap.size, 11, none⟩ = some _ := HA.out.cell 11
          go_wp2
          clear hlt
          go_loopw [149] (fun i wr => ∃ k : Nat, i = .int .i64 (k : Int) ∧ k ≤ dn ∧ (ds.map DoneV.q).take k = (dsq.map DoneV.q).take k ∧ Below w.heap.size w wr ∧ Blk wr w.heap.size #[.int .i64 kind, .int .u64 num, .int .i64 node, .string key, .bool was, .string old, .int .u64 prev, .slice na nn nc, .slice ra rn rc, .slice ga gn gc, .slice oa om oc, .slice da dn dc] 31 ∧ Blk wr (w.heap.size + 1) #[.int .i64 kindq, .int .u64 numq, .int .i64 nodeq, .string keyq, .bool wasq, .string oldq, .int .u64 prevq, .slice naq nnq ncq, .slice raq rnq rcq, .slice gaq gn gcq, .slice oaq om ocq, .slice daq dn dcq] 31) (fun i _ => dn - (intOf i).toNat)
          case atStart => exact ⟨0, rfl, Nat.zero_le _, by simp, HY.out, HA.out, HR.out⟩
          case round =>
            obtain ⟨k, rfl, hk, ht, y, ha, hr⟩ := hrel
            clear HY HA HR
            have HY : Hid (Below w.heap.size w wr) := y
            have HA : Hid (Blk wr w.heap.size _ 31) := ha
            have HR : Hid (Blk wr (w.heap.size + 1) _ 31) := hr
            have HT : Hid ((ds.map DoneV.q).take k = (dsq.map DoneV.q).take k) := ht
            clear y ha hr ht
            by_cases hlt : k < dn
            · have hkl : k < ds.length := by rw [← L3.out]; exact hlt
              have hkm : k < dsq.length := by rw [← M3.out]; exact hlt
              have hi2 : (k : Int) < (dn : Int) := by omega
              obtain ⟨ad, had⟩ := RowsN.adr D1.out (by omega)
              obtain ⟨bd, hbd⟩ := RowsN.adr D2.out (by omega)
              subst had hbd
              have HH : Hid (RowsN wr.drew 3 _ (.slice (some ad) _ _) ds) := D1.out.below (Below.drew HY.out)
              have HK : Hid (RowsN wr.drew 3 _ (.slice (some bd) _ _) dsq) := D2.out.below (Below.drew HY.out)
              go_upto_region 18 with fail
              refine wp_region_ext (by kernel_rfl) ?_
              haveI nA := cls_ext wr.drew
              have z0 := cellX (W0 := wr.drew) (show wr.drew.cell? ⟨w.heap.size, 11, none⟩ = some _ from HA.out.cell 11)
              have y0 := cellX (W0 := wr.drew) (show wr.drew.cell? ⟨w.heap.size + 1, 11, none⟩ = some _ from HR.out.cell 11)
              have e0 := cellX (W0 := wr.drew) (HH.out.at0 hkl rfl)
              have e1 := cellX (W0 := wr.drew) (HH.out.atS hkl 0 rfl)
              have e2 := cellX (W0 := wr.drew) (HH.out.atS hkl 1 rfl)
              have f0 := cellX (W0 := wr.drew) (HK.out.at0 hkm rfl)
              have f1 := cellX (W0 := wr.drew) (HK.out.atS hkm 0 rfl)
              have f2 := cellX (W0 := wr.drew) (HK.out.atS hkm 1 rfl)
              have HNE : Hid (DoneV.q ds[k] ≠ DoneV.q dsq[k] → ¬ p) := fun h e => map_ne DoneV.q hkl hkm h (HP.out.1 e).2.2.2.2.2.2.2.2.2.2.2
              have HS1 : Hid ((ds.map DoneV.q).take (k + 1) = (ds.map DoneV.q).take k ++ [DoneV.q ds[k]]) := take_map_succ DoneV.q hkl
              have HS2 : Hid ((dsq.map DoneV.q).take (k + 1) = (dsq.map DoneV.q).take k ++ [DoneV.q dsq[k]]) := take_map_succ DoneV.q hkm
              have AX : Hid (ds[k].At wr.drew) := (AD1.out _ (List.getElem_mem hkl)).below (Below.drew HY.out)
              have AZ : Hid (dsq[k].At wr.drew) := (AD2.out _ (List.getElem_mem hkm)).below (Below.drew HY.out)
              clear HH HK
              generalize ds[k] = x at *
              generalize dsq[k] = v at *
              have HYD : Hid (Below w.heap.size w wr.drew) := Below.drew HY.out
              have HAD : Hid (Blk wr.drew w.heap.size _ 31) := HA.out.drew
              have HRD : Hid (Blk wr.drew (w.heap.size + 1) _ 31) := HR.out.drew
              clear HA HR HY
              by_cases hc0 : x.num = v.num
              case neg =>
                have hb0 : (x.num == v.num) = false := by simp [hc0]
                have hd0 : (x.num != v.num) = true := by simp only [bne, hb0]; rfl
                have HNQ : Hid (x.q ≠ v.q) := fun e => hc0 (congrArg DoneQ.num e)
                clear hc0
                refine wpAnyH_seg (by kernel_rfl) (fun _ _ _ h => h) [0, 1, 2, 3, 4, 5, 6, 7, 8, 9, 10, 11, 12, 13, 14, 15, 16, 17, 18, 19, 20, 21, 22, 23, 24, 25] 3 _ _ _ (Ext.refl _) (by kernel_rfl) ?_
                simp only [opsAt, List.getElem?_toArray, List.getElem?_cons_zero, List.getElem?_cons_succ, List.cons_append, List.nil_append]
                repeat (go_big_quiet_step (fail))
                refine wpQuiet_nil ?_
                clear nA e0 f0 e1 f1 e2 f2 z0 y0
                refine wpAnyH_all (rs := [26]) (fuel := 2) (by kernel_rfl) (by simp) fun j0 hj0 => ?_
                obtain rfl : j0 = 26 := by simpa using hj0
                clear hj0
                refine wpOp_skip 178 rfl (by kernel_rfl) rfl ?_
                refine ⟨Ext.refl _, ?_⟩
                simp only [Act.put, List.setIfInBounds_toArray, List.set_cons_succ, List.set_cons_zero]
                haveI nA := cls_ext wr.drew
                refine wpAnyH_seg (by kernel_rfl) (fun _ _ _ h => h) [27, 28] 0 _ _ _ (Ext.refl _) (by kernel_rfl) ?_
                simp only [opsAt, List.getElem?_toArray, List.getElem?_cons_zero, List.getElem?_cons_succ, List.cons_append, List.nil_append]
                repeat (go_big_quiet_step (fail))
                refine wpQuiet_nil ?_
                clear nA
                refine wpAnyH_done (by kernel_rfl) (NoPanic.normal ?_) 0
                go_wp2
                go_ret
                exact ansP_no rfl (HNE.out HNQ.out) HYD.out
              have hb0 : (x.num == v.num) = true := by simp [hc0]
              have hd0 : (x.num != v.num) = false := by simp only [bne, hb0]; rfl
              have HC0 : Hid (x.num = v.num) := hc0
              clear hc0
              by_cases hc1 : x.node = v.node
              case neg =>
                have hb1 : (x.node == v.node) = false := by simp [hc1]
                have hd1 : (x.node != v.node) = true := by simp only [bne, hb1]; rfl
                have HNQ : Hid (x.q ≠ v.q) := fun e => hc1 (congrArg DoneQ.node e)
                clear hc1
                refine wpAnyH_seg (by kernel_rfl) (fun _ _ _ h => h) [0, 1, 2, 3, 4, 5, 6, 7, 8, 9, 10, 11, 12, 13, 14, 15, 16, 17, 18, 19, 20, 21, 22, 23, 24, 25] 3 _ _ _ (Ext.refl _) (by kernel_rfl) ?_
                simp only [opsAt, List.getElem?_toArray, List.getElem?_cons_zero, List.getElem?_cons_succ, List.cons_append, List.nil_append]
                repeat (go_big_quiet_step (fail))
                refine wpQuiet_nil ?_
                clear nA e0 f0 e1 f1 e2 f2 z0 y0
                refine wpAnyH_all (rs := [26]) (fuel := 2) (by kernel_rfl) (by simp) fun j0 hj0 => ?_
                obtain rfl : j0 = 26 := by simpa using hj0
                clear hj0
                refine wpOp_skip 178 rfl (by kernel_rfl) rfl ?_
                refine ⟨Ext.refl _, ?_⟩
                simp only [Act.put, List.setIfInBounds_toArray, List.set_cons_succ, List.set_cons_zero]
                haveI nA := cls_ext wr.drew
                refine wpAnyH_seg (by kernel_rfl) (fun _ _ _ h => h) [27, 28] 0 _ _ _ (Ext.refl _) (by kernel_rfl) ?_
                simp only [opsAt, List.getElem?_toArray, List.getElem?_cons_zero, List.getElem?_cons_succ, List.cons_append, List.nil_append]
                repeat (go_big_quiet_step (fail))
                refine wpQuiet_nil ?_
                clear nA
                refine wpAnyH_done (by kernel_rfl) (NoPanic.normal ?_) 0
                go_wp2
                go_ret
                exact ansP_no rfl (HNE.out HNQ.out) HYD.out
              have hb1 : (x.node == v.node) = true := by simp [hc1]
              have hd1 : (x.node != v.node) = false := by simp only [bne, hb1]; rfl
              have HC1 : Hid (x.node = v.node) := hc1
              clear hc1
              refine wpAnyH_seg (by kernel_rfl) (fun _ _ _ h => h) [0, 1, 2, 3, 4, 5, 6, 7, 8, 9, 10, 11, 12, 13, 14, 15, 16, 17, 18, 19, 20, 21, 22, 23, 24, 25] 3 _ _ _ (Ext.refl _) (by kernel_rfl) ?_
              simp only [opsAt, List.getElem?_toArray, List.getElem?_cons_zero, List.getElem?_cons_succ, List.cons_append, List.nil_append]
              repeat (go_big_quiet_step (fail))
              refine wpQuiet_nil ?_
              clear nA e0 f0 e1 f1 e2 f2 z0 y0 hb0 hd0 hb1 hd1
              refine wpAnyH_callE (i := 26) (fuel := 2) 178 rfl (by kernel_rfl) rfl (Ext.refl _) (by kernel_rfl) (f := 38) (args := #[.slice x.na x.nn x.nc, .slice v.na v.nn v.nc]) (by kernel_rfl) (ints_any _ _ x.ns v.ns wr.drew AX.out.rd AZ.out.rd) ?_
              rintro e w2 ⟨rfl, y⟩
              refine ⟨_, rfl, y, ?_⟩
              have HAB : Hid (Blk w2 w.heap.size _ 31) := Blk.of HAD.out (y.block _ HAD.out.lt)
              have HRB : Hid (Blk w2 (w.heap.size + 1) _ 31) := Blk.of HRD.out (y.block _ HRD.out.lt)
              have HYB : Hid (Below w.heap.size w w2) := ext_trans HYD.out y
              have HBB : Hid (decide (x.ns = v.ns) = true ↔ x.q = v.q) := by show _ ↔ DoneQ.mk _ _ _ = DoneQ.mk _ _ _; rw [decide_eq_true_eq, DoneQ.mk.injEq]; exact ⟨fun e => ⟨HC0.out, HC1.out, e⟩, fun e => e.2.2⟩
              clear y HAD HRD HYD
              generalize decide (x.ns = v.ns) = B at *
              simp only [Act.put, List.setIfInBounds_toArray, List.set_cons_succ, List.set_cons_zero]
              cases B with
              | false =>
                haveI nA := cls_ext w2
                refine wpAnyH_seg (by kernel_rfl) (fun _ _ _ h => h) [27, 28] 0 _ _ _ (Ext.refl _) (by kernel_rfl) ?_
                simp only [opsAt, List.getElem?_toArray, List.getElem?_cons_zero, List.getElem?_cons_succ, List.cons_append, List.nil_append]
                repeat (go_big_quiet_step (fail))
                refine wpQuiet_nil ?_
                clear nA
                refine wpAnyH_done (by kernel_rfl) (NoPanic.normal ?_) 0
                go_wp2
                go_ret
                exact ansP_no rfl (HNE.out (fun h => by have := HBB.out.2 h; cases this)) HYB.out
              | true =>
                haveI nA := cls_ext w2
                refine wpAnyH_seg (by kernel_rfl) (fun _ _ _ h => h) [27, 28] 0 _ _ _ (Ext.refl _) (by kernel_rfl) ?_
                simp only [opsAt, List.getElem?_toArray, List.getElem?_cons_zero, List.getElem?_cons_succ, List.cons_append, List.nil_append]
                repeat (go_big_quiet_step (fail))
                refine wpQuiet_nil ?_
                clear nA
                refine wpAnyH_done (by kernel_rfl) (NoPanic.normal ?_) 0
                go_wp2
                go_roundw
                case rel => exact ⟨k + 1, by go_num, by omega, by rw [HS1.out, HS2.out, HT.out, HBB.out.1 rfl], HYB.out, HAB.out, HRB.out⟩
                case measure => simp [intOf]; omega
            · have HE3 : Hid (ds.map DoneV.q = dsq.map DoneV.q) := map_all DoneV.q (show dn = _ from L3.out) (show dn = _ from M3.out) (by have h := HT.out; rw [show k = dn by omega] at h; exact h)
              clear hk HT
              go_wp2
              go_ret
              exact ansP_yes rfl (HP.out.2 ⟨HF0.out, HF1.out, HF2.out, HF3.out, HF4.out, HF5.out, HF6.out, HF7.out, HF8.out, HE1.out, HE2.out, HE3.out⟩) HY.out
theorem same11_any (x v : RecV) (w : World) (h : x.At w) (h' : v.At w) : Calls Tryz.prog 13 #[.agg #[.int .i64 x.kind, .int .u64 x.num, .int .i64 x.node, .string x.key, .bool x.was, .string x.old, .int .u64 x.prev, .slice x.na x.nn x.nc, .slice x.ra x.rn x.rc, .slice x.ga x.gn x.gc, .slice x.oa x.om x.oc, .slice x.da x.dn x.dc], .agg #[.int .i64 v.kind, .int .u64 v.num, .int .i64 v.node, .string v.key, .bool v.was, .string v.old, .int .u64 v.prev, .slice v.na v.nn v.nc, .slice v.ra v.rn v.rc, .slice v.ga v.gn v.gc, .slice v.oa v.om v.oc, .slice v.da v.dn v.dc]] w (AnsP (x.q = v.q) w) :=
  same11_raw (x.q = v.q) _ _ _ _ _ _ _ _ _ _ _ _ _ _ _ _ _ _ _ _ _ _ _ _ _ _ _ _ _ _ _ _ _ _ _ _ _ _ _ _ _ _ _ _  x.ns x.rs x.gs x.os x.ds v.ns v.rs v.gs v.os v.ds w (by show RecQ.mk _ _ _ _ _ _ _ _ _ _ _ _ = RecQ.mk _ _ _ _ _ _ _ _ _ _ _ _ ↔ _; rw [RecQ.mk.injEq]) h.nodes h.reads h.pages h.opens h.dones h'.nodes h'.reads h'.pages h'.opens h'.dones h.pagez h.openz h.donez h'.pagez h'.openz h'.donez
end Go.Proofs.YtbgofajldkblmaaGreat
