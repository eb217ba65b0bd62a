/- rec: what a record's parts are laid as. Own lemmas, no statement. -/
import Derived.Test.YtbgofajldkblmaaGreatRec8
set_option linter.unusedSimpArgs false
set_option linter.unusedVariables false
namespace Go.Proofs.YtbgofajldkblmaaGreat
open Go.ChangeShapes Go.WideShapes Go.ChangeAt Go.RowKit

theorem exec_buildB2 {ρ : Operand → Value} {o : Oper} {w : World} {x0 x1 : Operand} {a0 a1 : Option Addr} {n0 n1 c0 c1 : Nat} (ho : o.op = .buildSlice 75 2 #[(0, x0), (1, x1)]) (h0 : ρ x0 = .slice a0 n0 c0) (h1 : ρ x1 = .slice a1 n1 c1) : (execOp ρ o).run Tryz.prog w = .ok (.value (.slice (some ⟨w.heap.size, 0, none⟩) 2 2)) (w.alloc (.cells #[.slice a0 n0 c0, .slice a1 n1 c1] 34)) := by
  unfold execOp
  rw [ho]
  go_simp
theorem rowB2 {w : World} {a0 a1 : Option Addr} {n0 n1 c0 c1 : Nat} {l0 l1 : List UInt8} (h0 : Src w (.slice a0 n0 c0) l0) (h1 : Src w (.slice a1 n1 c1) l1) :
    RowB (w.alloc (.cells #[.slice a0 n0 c0, .slice a1 n1 c1] 34)) ⟨w.heap.size, 0, none⟩ [l0, l1] := by
  have hb := below_allocR (W := w) (.cells #[.slice a0 n0 c0, .slice a1 n1 c1] 34)
  have hk : Blk (w.alloc (.cells #[.slice a0 n0 c0, .slice a1 n1 c1] 34)) w.heap.size #[.slice a0 n0 c0, .slice a1 n1 c1] 34 := Blk.new _ _ _
  intro i l hl
  match i, hl with
  | 0, hl => cases hl; exact ⟨_, _, _, by simp [Addr.add], h0.below hb⟩
  | 1, hl => cases hl; exact ⟨_, _, _, by simp [Addr.add], h1.below hb⟩
theorem exec_buildB4 {ρ : Operand → Value} {o : Oper} {w : World} {x0 x1 x2 x3 : Operand} {a0 a1 a2 a3 : Option Addr} {n0 n1 n2 n3 c0 c1 c2 c3 : Nat} (ho : o.op = .buildSlice 75 4 #[(0, x0), (1, x1), (2, x2), (3, x3)]) (h0 : ρ x0 = .slice a0 n0 c0) (h1 : ρ x1 = .slice a1 n1 c1) (h2 : ρ x2 = .slice a2 n2 c2) (h3 : ρ x3 = .slice a3 n3 c3) : (execOp ρ o).run Tryz.prog w = .ok (.value (.slice (some ⟨w.heap.size, 0, none⟩) 4 4)) (w.alloc (.cells #[.slice a0 n0 c0, .slice a1 n1 c1, .slice a2 n2 c2, .slice a3 n3 c3] 34)) := by
  unfold execOp
  rw [ho]
  go_simp
theorem rowB4 {w : World} {a0 a1 a2 a3 : Option Addr} {n0 n1 n2 n3 c0 c1 c2 c3 : Nat} {l0 l1 l2 l3 : List UInt8} (h0 : Src w (.slice a0 n0 c0) l0) (h1 : Src w (.slice a1 n1 c1) l1) (h2 : Src w (.slice a2 n2 c2) l2) (h3 : Src w (.slice a3 n3 c3) l3) :
    RowB (w.alloc (.cells #[.slice a0 n0 c0, .slice a1 n1 c1, .slice a2 n2 c2, .slice a3 n3 c3] 34)) ⟨w.heap.size, 0, none⟩ [l0, l1, l2, l3] := by
  have hb := below_allocR (W := w) (.cells #[.slice a0 n0 c0, .slice a1 n1 c1, .slice a2 n2 c2, .slice a3 n3 c3] 34)
  have hk : Blk (w.alloc (.cells #[.slice a0 n0 c0, .slice a1 n1 c1, .slice a2 n2 c2, .slice a3 n3 c3] 34)) w.heap.size #[.slice a0 n0 c0, .slice a1 n1 c1, .slice a2 n2 c2, .slice a3 n3 c3] 34 := Blk.new _ _ _
  intro i l hl
  match i, hl with
  | 0, hl => cases hl; exact ⟨_, _, _, by simp [Addr.add], h0.below hb⟩
  | 1, hl => cases hl; exact ⟨_, _, _, by simp [Addr.add], h1.below hb⟩
  | 2, hl => cases hl; exact ⟨_, _, _, by simp [Addr.add], h2.below hb⟩
  | 3, hl => cases hl; exact ⟨_, _, _, by simp [Addr.add], h3.below hb⟩
theorem exec_buildB6 {ρ : Operand → Value} {o : Oper} {w : World} {x0 x1 x2 x3 x4 x5 : Operand} {a0 a1 a2 a3 a4 a5 : Option Addr} {n0 n1 n2 n3 n4 n5 c0 c1 c2 c3 c4 c5 : Nat} (ho : o.op = .buildSlice 75 6 #[(0, x0), (1, x1), (2, x2), (3, x3), (4, x4), (5, x5)]) (h0 : ρ x0 = .slice a0 n0 c0) (h1 : ρ x1 = .slice a1 n1 c1) (h2 : ρ x2 = .slice a2 n2 c2) (h3 : ρ x3 = .slice a3 n3 c3) (h4 : ρ x4 = .slice a4 n4 c4) (h5 : ρ x5 = .slice a5 n5 c5) : (execOp ρ o).run Tryz.prog w = .ok (.value (.slice (some ⟨w.heap.size, 0, none⟩) 6 6)) (w.alloc (.cells #[.slice a0 n0 c0, .slice a1 n1 c1, .slice a2 n2 c2, .slice a3 n3 c3, .slice a4 n4 c4, .slice a5 n5 c5] 34)) := by
  unfold execOp
  rw [ho]
  go_simp
theorem rowB6 {w : World} {a0 a1 a2 a3 a4 a5 : Option Addr} {n0 n1 n2 n3 n4 n5 c0 c1 c2 c3 c4 c5 : Nat} {l0 l1 l2 l3 l4 l5 : List UInt8} (h0 : Src w (.slice a0 n0 c0) l0) (h1 : Src w (.slice a1 n1 c1) l1) (h2 : Src w (.slice a2 n2 c2) l2) (h3 : Src w (.slice a3 n3 c3) l3) (h4 : Src w (.slice a4 n4 c4) l4) (h5 : Src w (.slice a5 n5 c5) l5) :
    RowB (w.alloc (.cells #[.slice a0 n0 c0, .slice a1 n1 c1, .slice a2 n2 c2, .slice a3 n3 c3, .slice a4 n4 c4, .slice a5 n5 c5] 34)) ⟨w.heap.size, 0, none⟩ [l0, l1, l2, l3, l4, l5] := by
  have hb := below_allocR (W := w) (.cells #[.slice a0 n0 c0, .slice a1 n1 c1, .slice a2 n2 c2, .slice a3 n3 c3, .slice a4 n4 c4, .slice a5 n5 c5] 34)
  have hk : Blk (w.alloc (.cells #[.slice a0 n0 c0, .slice a1 n1 c1, .slice a2 n2 c2, .slice a3 n3 c3, .slice a4 n4 c4, .slice a5 n5 c5] 34)) w.heap.size #[.slice a0 n0 c0, .slice a1 n1 c1, .slice a2 n2 c2, .slice a3 n3 c3, .slice a4 n4 c4, .slice a5 n5 c5] 34 := Blk.new _ _ _
  intro i l hl
  match i, hl with
  | 0, hl => cases hl; exact ⟨_, _, _, by simp [Addr.add], h0.below hb⟩
  | 1, hl => cases hl; exact ⟨_, _, _, by simp [Addr.add], h1.below hb⟩
  | 2, hl => cases hl; exact ⟨_, _, _, by simp [Addr.add], h2.below hb⟩
  | 3, hl => cases hl; exact ⟨_, _, _, by simp [Addr.add], h3.below hb⟩
  | 4, hl => cases hl; exact ⟨_, _, _, by simp [Addr.add], h4.below hb⟩
  | 5, hl => cases hl; exact ⟨_, _, _, by simp [Addr.add], h5.below hb⟩

def tidB (x y : Int) : List UInt8 := enc x.toNat ++ enc (uns y)
def textB (s : ByteArray) : List UInt8 := enc s.size ++ s.data.toList
def intB (n : Int) : List UInt8 := enc n.toNat
theorem tidB_any (x y : Int) (w : World) (h0 : 0 ≤ x) (h1 : x < 18446744073709551616) : Calls Tryz.prog 16 #[.slice none 0 0, .agg #[.int .u64 x, .int .i64 y]] w (OwnP w (tidB x y)) := by
  have := tid_any none 0 0 [] x.toNat y w (Src.nil w) (by omega) (by simp)
  rw [Int.toNat_of_nonneg h0] at this
  exact this.mono fun e w' h => gives_ownP h
theorem numB_any (x : Int) (w : World) (h0 : 0 ≤ x) (h1 : x < 18446744073709551616) : Calls Tryz.prog 15 #[.int .u64 x] w (OwnP w (intB x)) := by
  have := number_any x.toNat w (by omega)
  rw [Int.toNat_of_nonneg h0] at this
  exact this.mono fun e w' h => gives_ownP h
theorem smallB_any (x : Int) (w : World) (h0 : 0 ≤ x) (h1 : x < 9223372036854775808) : Calls Tryz.prog 50 #[.int .i64 x] w (OwnP w (intB x)) := small_any x x.toNat w (by rw [IntKind.wrap_u64]; omega) (by omega)
def doneB (x : DoneV) : List UInt8 := tidB x.num x.node ++ allB8 intB x.ns
def openB (x : OpenV) : List UInt8 := tidB x.num x.node ++ (intB x.last ++ (intB x.first ++ (intB x.count ++ (enc (flagN x.ready) ++ allB8 textB x.rs))))

set_option maxRecDepth 100000 in
set_option maxHeartbeats 4000000 in
theorem doneLaid_any (x : DoneV) (w : World) (h : x.At w) (hw : 0 ≤ x.num ∧ x.num < 18446744073709551616) (hn : ∀ n ∈ x.ns, 0 ≤ n ∧ n < 64) (hl : x.ns.length ≤ 100000) (hlen : (tidB x.num x.node ++ allB8 intB x.ns).length < 100000000000) : Calls Tryz.prog 54 #[.agg #[.int .u64 x.num, .int .i64 x.node, .slice x.na x.nn x.nc]] w (OwnP w (tidB x.num x.node ++ allB8 intB x.ns)) := by
  have HW : Hid (0 ≤ x.num ∧ x.num < 18446744073709551616) := hw
  have HAI : Hid (∀ W, Below w.heap.size w W → Calls Tryz.prog 49 #[.slice x.na x.nn x.nc, .func (.func 50) #[] #[]] W (OwnP W (allB8 intB x.ns))) := fun W hb => allI_any _ x.ns intB W (h.rd.below hb) hl (by rw [List.length_append] at hlen; omega) (fun W' n _ hm => smallB_any n W' (hn n hm).1 (by have := (hn n hm).2; omega))
  clear h hw hn hl
  have HEQ : Hid ([tidB x.num x.node, allB8 intB x.ns].flatten = tidB x.num x.node ++ allB8 intB x.ns) := by show _ = _; simp
  have HFL : Hid ([tidB x.num x.node, allB8 intB x.ns].flatten.length < 100000000000) := by show _ < _; rw [HEQ.out]; exact hlen
  clear hlen
  have HB : Hid (Blk (w.alloc (.cells #[.int .u64 x.num, .int .i64 x.node, .slice x.na x.nn x.nc] 51)) w.heap.size #[.int .u64 x.num, .int .i64 x.node, .slice x.na x.nn x.nc] 51) := Blk.new _ _ _
  have HY : Hid (Below w.heap.size w (w.alloc (.cells #[.int .u64 x.num, .int .i64 x.node, .slice x.na x.nn x.nc] 51))) := (Below.refl _ _).alloc (Nat.le_refl _) _
  go_enter Tryz.func54, Tryz.ntmps54
  go_upto_region 1 with fail
  generalize w.alloc (.cells #[.int .u64 x.num, .int .i64 x.node, .slice x.na x.nn x.nc] 51) = w0 at *
  refine wp_region_ext (by kernel_rfl) ?_
  haveI nA := cls_ext w0.drew
  have q0 := cellX (W0 := w0.drew) (show w0.drew.cell? ⟨w.heap.size, 0, none⟩ = some (.int .u64 x.num) from HB.out.cell 0)
  have q1 := cellX (W0 := w0.drew) (show w0.drew.cell? ⟨w.heap.size, 1, none⟩ = some (.int .i64 x.node) from HB.out.cell 1)
  have q2 := cellX (W0 := w0.drew) (show w0.drew.cell? ⟨w.heap.size, 2, none⟩ = some (.slice x.na x.nn x.nc) from HB.out.cell 2)
  refine wpAnyH_seg (by kernel_rfl) (fun _ _ _ h => h) [0, 1, 3, 4] 5 _ _ _ (Ext.refl _) (by kernel_rfl) ?_
  simp only [opsAt, List.getElem?_toArray, List.getElem?_cons_zero, List.getElem?_cons_succ, List.cons_append, List.nil_append]
  repeat (go_big_quiet_step (fail))
  refine wpQuiet_nil ?_
  clear nA q0 q1 q2
  have HY_0 : Hid (Below w.heap.size w w0.drew) := Below.drew HY.out
  clear HB HY
  refine wpAnyH_callE (i := 2) (fuel := 4) 5 rfl (by kernel_rfl) rfl (Ext.refl _) (by kernel_rfl) (f := 16) (args := #[.slice none 0 0, .agg #[.int .u64 x.num, .int .i64 x.node]]) (by kernel_rfl) (tidB_any x.num x.node w0.drew HW.out.1 HW.out.2) ?_
  rintro e u0 ⟨b0, m0, d0, rfl, ho, y⟩
  refine ⟨_, rfl, y, ?_⟩
  have HS0_0 : Hid (Src u0 (.slice b0 m0 d0) (tidB x.num x.node)) := ho.src
  have HY_1 : Hid (Below w.heap.size w u0) := ext_trans HY_0.out y
  clear ho y HY_0
  simp only [Act.put, List.setIfInBounds_toArray, List.set_cons_succ, List.set_cons_zero]
  refine wpAnyH_callE (i := 5) (fuel := 3) 8 rfl (by kernel_rfl) rfl (Ext.refl _) (by kernel_rfl) (f := 49) (args := #[.slice x.na x.nn x.nc, .func (.func 50) #[] #[]]) (by kernel_rfl) (HAI.out u0 HY_1.out) ?_
  rintro e u1 ⟨b1, m1, d1, rfl, ho, y⟩
  refine ⟨_, rfl, y, ?_⟩
  have HS1_1 : Hid (Src u1 (.slice b1 m1 d1) (allB8 intB x.ns)) := ho.src
  have HS0_1 : Hid (Src u1 (.slice b0 m0 d0) (tidB x.num x.node)) := HS0_0.out.below y
  have HY_2 : Hid (Below w.heap.size w u1) := ext_trans HY_1.out y
  clear ho y HY_1 HS0_0
  simp only [Act.put, List.setIfInBounds_toArray, List.set_cons_succ, List.set_cons_zero]
  refine wpAnyH_all (rs := [6]) (fuel := 2) (by kernel_rfl) (by simp) fun j hj => ?_
  obtain rfl : j = 6 := by simpa using hj
  clear hj
  refine wpOp_value 9 rfl (by kernel_rfl) rfl (exec_buildB2 rfl rfl rfl) ?_
  have HRB : Hid _ := rowB2 HS0_1.out HS1_1.out
  have HX5 : Hid (Below u1.heap.size u1 (u1.alloc (.cells #[.slice b0 m0 d0, .slice b1 m1 d1] 34))) := below_allocR _
  refine ⟨HX5.out, ?_⟩
  have HY5 : Hid (Below w.heap.size w (u1.alloc (.cells #[.slice b0 m0 d0, .slice b1 m1 d1] 34))) := ext_trans HY_2.out HX5.out
  clear HY_2 HS0_1 HS1_1
  simp only [Act.put, List.setIfInBounds_toArray, List.set_cons_succ, List.set_cons_zero]
  generalize (u1.alloc (.cells #[.slice b0 m0 d0, .slice b1 m1 d1] 34)) = w5 at *
  have HCC : Hid _ := concat_any ⟨u1.heap.size, 0, none⟩ 2 [tidB x.num x.node, allB8 intB x.ns] w5 HRB.out ⟨by simp, by simp⟩ HFL.out
  refine wpAnyH_callE (i := 7) (fuel := 1) 10 rfl (by kernel_rfl) rfl HX5.out (by kernel_rfl) (f := 14) (args := #[.slice (some ⟨u1.heap.size, 0, none⟩) 2 2]) (by kernel_rfl) HCC.out ?_
  rintro e w6 ⟨v6, rfl, ho, y⟩
  refine ⟨_, rfl, y, ?_⟩
  have HSZ : Hid (w.heap.size ≤ w5.heap.size) := HY5.out.size
  have HO9 : Hid (Own w6 w.heap.size v6 ([tidB x.num x.node, allB8 intB x.ns].flatten)) := ho.mono HSZ.out
  have HY9 : Hid (Below w.heap.size w w6) := ext_trans HY5.out y
  clear ho y HRB HCC HX5 HY5
  simp only [Act.put, List.setIfInBounds_toArray, List.set_cons_succ, List.set_cons_zero]
  haveI nA := cls_ext w6
  refine wpAnyH_seg (by kernel_rfl) (fun _ _ _ h => h) [8] 0 _ _ _ (Ext.refl _) (by kernel_rfl) ?_
  simp only [opsAt, List.getElem?_toArray, List.getElem?_cons_zero, List.getElem?_cons_succ, List.cons_append, List.nil_append]
  repeat (go_big_quiet_step (fail))
  refine wpQuiet_nil ?_
  clear nA
  refine wpAnyH_done (by kernel_rfl) (NoPanic.normal ?_) 0
  rw [HEQ.out] at HO9
  obtain ⟨a9, k9, m9, hv9⟩ : ∃ a n c, v6 = .slice a n c := by obtain ⟨a, c, e, _⟩ := HO9.out.src; exact ⟨a, _, c, e⟩
  subst hv9
  go_wp2
  go_ret
  exact ownP_of rfl HO9.out HY9.out

set_option maxRecDepth 100000 in
set_option maxHeartbeats 4000000 in
theorem openLaid_any (x : OpenV) (w : World) (h : x.At w) (hw : 0 ≤ x.num ∧ x.num < 18446744073709551616 ∧ 0 ≤ x.last ∧ x.last < 18446744073709551616 ∧ 0 ≤ x.first ∧ x.first < 18446744073709551616 ∧ 0 ≤ x.count ∧ x.count < 9223372036854775808) (hz : ∀ s ∈ x.rs, s.size < 800000000000) (hl : x.rs.length ≤ 100000) (hlen : (tidB x.num x.node ++ (intB x.last ++ (intB x.first ++ (intB x.count ++ (enc (flagN x.ready) ++ allB8 textB x.rs))))).length < 100000000000) : Calls Tryz.prog 52 #[.agg #[.int .u64 x.num, .int .i64 x.node, .int .u64 x.last, .int .u64 x.first, .int .i64 x.count, .bool x.ready, .slice x.ra x.rn x.rc]] w (OwnP w (tidB x.num x.node ++ (intB x.last ++ (intB x.first ++ (intB x.count ++ (enc (flagN x.ready) ++ allB8 textB x.rs)))))) := by
  have HW : Hid (0 ≤ x.num ∧ x.num < 18446744073709551616 ∧ 0 ≤ x.last ∧ x.last < 18446744073709551616 ∧ 0 ≤ x.first ∧ x.first < 18446744073709551616 ∧ 0 ≤ x.count ∧ x.count < 9223372036854775808) := hw
  have HAI : Hid (∀ W, Below w.heap.size w W → Calls Tryz.prog 48 #[.slice x.ra x.rn x.rc, .func (.func 45) #[] #[]] W (OwnP W (allB8 textB x.rs))) := fun W hb => allS_any _ x.rs textB W (h.rd.below hb) hl (by simp only [List.length_append] at hlen; omega) (fun W' s _ hm => text8_any s W' (hz s hm))
  clear h hw hz hl
  have HEQ : Hid ([tidB x.num x.node, intB x.last, intB x.first, intB x.count, enc (flagN x.ready), allB8 textB x.rs].flatten = tidB x.num x.node ++ (intB x.last ++ (intB x.first ++ (intB x.count ++ (enc (flagN x.ready) ++ allB8 textB x.rs))))) := by show _ = _; simp
  have HFL : Hid ([tidB x.num x.node, intB x.last, intB x.first, intB x.count, enc (flagN x.ready), allB8 textB x.rs].flatten.length < 100000000000) := by show _ < _; rw [HEQ.out]; exact hlen
  clear hlen
  have HB : Hid (Blk (w.alloc (.cells #[.int .u64 x.num, .int .i64 x.node, .int .u64 x.last, .int .u64 x.first, .int .i64 x.count, .bool x.ready, .slice x.ra x.rn x.rc] 45)) w.heap.size #[.int .u64 x.num, .int .i64 x.node, .int .u64 x.last, .int .u64 x.first, .int .i64 x.count, .bool x.ready, .slice x.ra x.rn x.rc] 45) := Blk.new _ _ _
  have HY : Hid (Below w.heap.size w (w.alloc (.cells #[.int .u64 x.num, .int .i64 x.node, .int .u64 x.last, .int .u64 x.first, .int .i64 x.count, .bool x.ready, .slice x.ra x.rn x.rc] 45))) := (Below.refl _ _).alloc (Nat.le_refl _) _
  go_enter Tryz.func52, Tryz.ntmps52
  go_upto_region 1 with fail
  generalize w.alloc (.cells #[.int .u64 x.num, .int .i64 x.node, .int .u64 x.last, .int .u64 x.first, .int .i64 x.count, .bool x.ready, .slice x.ra x.rn x.rc] 45) = w0 at *
  refine wp_region_ext (by kernel_rfl) ?_
  haveI nA := cls_ext w0.drew
  have q0 := cellX (W0 := w0.drew) (show w0.drew.cell? ⟨w.heap.size, 0, none⟩ = some (.int .u64 x.num) from HB.out.cell 0)
  have q1 := cellX (W0 := w0.drew) (show w0.drew.cell? ⟨w.heap.size, 1, none⟩ = some (.int .i64 x.node) from HB.out.cell 1)
  have q2 := cellX (W0 := w0.drew) (show w0.drew.cell? ⟨w.heap.size, 2, none⟩ = some (.int .u64 x.last) from HB.out.cell 2)
  have q3 := cellX (W0 := w0.drew) (show w0.drew.cell? ⟨w.heap.size, 3, none⟩ = some (.int .u64 x.first) from HB.out.cell 3)
  have q4 := cellX (W0 := w0.drew) (show w0.drew.cell? ⟨w.heap.size, 4, none⟩ = some (.int .i64 x.count) from HB.out.cell 4)
  have q5 := cellX (W0 := w0.drew) (show w0.drew.cell? ⟨w.heap.size, 5, none⟩ = some (.bool x.ready) from HB.out.cell 5)
  have q6 := cellX (W0 := w0.drew) (show w0.drew.cell? ⟨w.heap.size, 6, none⟩ = some (.slice x.ra x.rn x.rc) from HB.out.cell 6)
  refine wpAnyH_seg (by kernel_rfl) (fun _ _ _ h => h) [0, 1, 3, 4, 6, 7, 9, 10, 12, 13, 15, 16] 9 _ _ _ (Ext.refl _) (by kernel_rfl) ?_
  simp only [opsAt, List.getElem?_toArray, List.getElem?_cons_zero, List.getElem?_cons_succ, List.cons_append, List.nil_append]
  repeat (go_big_quiet_step (fail))
  refine wpQuiet_nil ?_
  clear nA q0 q1 q2 q3 q4 q5 q6
  have HY_0 : Hid (Below w.heap.size w w0.drew) := Below.drew HY.out
  clear HB HY
  refine wpAnyH_callE (i := 2) (fuel := 8) 5 rfl (by kernel_rfl) rfl (Ext.refl _) (by kernel_rfl) (f := 16) (args := #[.slice none 0 0, .agg #[.int .u64 x.num, .int .i64 x.node]]) (by kernel_rfl) (tidB_any x.num x.node w0.drew HW.out.1 HW.out.2.1) ?_
  rintro e u0 ⟨b0, m0, d0, rfl, ho, y⟩
  refine ⟨_, rfl, y, ?_⟩
  have HS0_0 : Hid (Src u0 (.slice b0 m0 d0) (tidB x.num x.node)) := ho.src
  have HY_1 : Hid (Below w.heap.size w u0) := ext_trans HY_0.out y
  clear ho y HY_0
  simp only [Act.put, List.setIfInBounds_toArray, List.set_cons_succ, List.set_cons_zero]
  refine wpAnyH_callE (i := 5) (fuel := 7) 8 rfl (by kernel_rfl) rfl (Ext.refl _) (by kernel_rfl) (f := 15) (args := #[.int .u64 x.last]) (by kernel_rfl) (numB_any x.last u0 HW.out.2.2.1 HW.out.2.2.2.1) ?_
  rintro e u1 ⟨b1, m1, d1, rfl, ho, y⟩
  refine ⟨_, rfl, y, ?_⟩
  have HS1_1 : Hid (Src u1 (.slice b1 m1 d1) (intB x.last)) := ho.src
  have HS0_1 : Hid (Src u1 (.slice b0 m0 d0) (tidB x.num x.node)) := HS0_0.out.below y
  have HY_2 : Hid (Below w.heap.size w u1) := ext_trans HY_1.out y
  clear ho y HY_1 HS0_0
  simp only [Act.put, List.setIfInBounds_toArray, List.set_cons_succ, List.set_cons_zero]
  refine wpAnyH_callE (i := 8) (fuel := 6) 11 rfl (by kernel_rfl) rfl (Ext.refl _) (by kernel_rfl) (f := 15) (args := #[.int .u64 x.first]) (by kernel_rfl) (numB_any x.first u1 HW.out.2.2.2.2.1 HW.out.2.2.2.2.2.1) ?_
  rintro e u2 ⟨b2, m2, d2, rfl, ho, y⟩
  refine ⟨_, rfl, y, ?_⟩
  have HS2_2 : Hid (Src u2 (.slice b2 m2 d2) (intB x.first)) := ho.src
  have HS0_2 : Hid (Src u2 (.slice b0 m0 d0) (tidB x.num x.node)) := HS0_1.out.below y
  have HS1_2 : Hid (Src u2 (.slice b1 m1 d1) (intB x.last)) := HS1_1.out.below y
  have HY_3 : Hid (Below w.heap.size w u2) := ext_trans HY_2.out y
  clear ho y HY_2 HS0_1 HS1_1
  simp only [Act.put, List.setIfInBounds_toArray, List.set_cons_succ, List.set_cons_zero]
  refine wpAnyH_callE (i := 11) (fuel := 5) 14 rfl (by kernel_rfl) rfl (Ext.refl _) (by kernel_rfl) (f := 50) (args := #[.int .i64 x.count]) (by kernel_rfl) (smallB_any x.count u2 HW.out.2.2.2.2.2.2.1 HW.out.2.2.2.2.2.2.2) ?_
  rintro e u3 ⟨b3, m3, d3, rfl, ho, y⟩
  refine ⟨_, rfl, y, ?_⟩
  have HS3_3 : Hid (Src u3 (.slice b3 m3 d3) (intB x.count)) := ho.src
  have HS0_3 : Hid (Src u3 (.slice b0 m0 d0) (tidB x.num x.node)) := HS0_2.out.below y
  have HS1_3 : Hid (Src u3 (.slice b1 m1 d1) (intB x.last)) := HS1_2.out.below y
  have HS2_3 : Hid (Src u3 (.slice b2 m2 d2) (intB x.first)) := HS2_2.out.below y
  have HY_4 : Hid (Below w.heap.size w u3) := ext_trans HY_3.out y
  clear ho y HY_3 HS0_2 HS1_2 HS2_2
  simp only [Act.put, List.setIfInBounds_toArray, List.set_cons_succ, List.set_cons_zero]
  refine wpAnyH_callE (i := 14) (fuel := 4) 17 rfl (by kernel_rfl) rfl (Ext.refl _) (by kernel_rfl) (f := 46) (args := #[.bool x.ready]) (by kernel_rfl) (flag8_any x.ready u3) ?_
  rintro e u4 ⟨b4, m4, d4, rfl, ho, y⟩
  refine ⟨_, rfl, y, ?_⟩
  have HS4_4 : Hid (Src u4 (.slice b4 m4 d4) (enc (flagN x.ready))) := ho.src
  have HS0_4 : Hid (Src u4 (.slice b0 m0 d0) (tidB x.num x.node)) := HS0_3.out.below y
  have HS1_4 : Hid (Src u4 (.slice b1 m1 d1) (intB x.last)) := HS1_3.out.below y
  have HS2_4 : Hid (Src u4 (.slice b2 m2 d2) (intB x.first)) := HS2_3.out.below y
  have HS3_4 : Hid (Src u4 (.slice b3 m3 d3) (intB x.count)) := HS3_3.out.below y
  have HY_5 : Hid (Below w.heap.size w u4) := ext_trans HY_4.out y
  clear ho y HY_4 HS0_3 HS1_3 HS2_3 HS3_3
  simp only [Act.put, List.setIfInBounds_toArray, List.set_cons_succ, List.set_cons_zero]
  refine wpAnyH_callE (i := 17) (fuel := 3) 20 rfl (by kernel_rfl) rfl (Ext.refl _) (by kernel_rfl) (f := 48) (args := #[.slice x.ra x.rn x.rc, .func (.func 45) #[] #[]]) (by kernel_rfl) (HAI.out u4 HY_5.out) ?_
  rintro e u5 ⟨b5, m5, d5, rfl, ho, y⟩
  refine ⟨_, rfl, y, ?_⟩
  have HS5_5 : Hid (Src u5 (.slice b5 m5 d5) (allB8 textB x.rs)) := ho.src
  have HS0_5 : Hid (Src u5 (.slice b0 m0 d0) (tidB x.num x.node)) := HS0_4.out.below y
  have HS1_5 : Hid (Src u5 (.slice b1 m1 d1) (intB x.last)) := HS1_4.out.below y
  have HS2_5 : Hid (Src u5 (.slice b2 m2 d2) (intB x.first)) := HS2_4.out.below y
  have HS3_5 : Hid (Src u5 (.slice b3 m3 d3) (intB x.count)) := HS3_4.out.below y
  have HS4_5 : Hid (Src u5 (.slice b4 m4 d4) (enc (flagN x.ready))) := HS4_4.out.below y
  have HY_6 : Hid (Below w.heap.size w u5) := ext_trans HY_5.out y
  clear ho y HY_5 HS0_4 HS1_4 HS2_4 HS3_4 HS4_4
  simp only [Act.put, List.setIfInBounds_toArray, List.set_cons_succ, List.set_cons_zero]
  refine wpAnyH_all (rs := [18]) (fuel := 2) (by kernel_rfl) (by simp) fun j hj => ?_
  obtain rfl : j = 18 := by simpa using hj
  clear hj
  refine wpOp_value 21 rfl (by kernel_rfl) rfl (exec_buildB6 rfl rfl rfl rfl rfl rfl rfl) ?_
  have HRB : Hid _ := rowB6 HS0_5.out HS1_5.out HS2_5.out HS3_5.out HS4_5.out HS5_5.out
  have HX5 : Hid (Below u5.heap.size u5 (u5.alloc (.cells #[.slice b0 m0 d0, .slice b1 m1 d1, .slice b2 m2 d2, .slice b3 m3 d3, .slice b4 m4 d4, .slice b5 m5 d5] 34))) := below_allocR _
  refine ⟨HX5.out, ?_⟩
  have HY5 : Hid (Below w.heap.size w (u5.alloc (.cells #[.slice b0 m0 d0, .slice b1 m1 d1, .slice b2 m2 d2, .slice b3 m3 d3, .slice b4 m4 d4, .slice b5 m5 d5] 34))) := ext_trans HY_6.out HX5.out
  clear HY_6 HS0_5 HS1_5 HS2_5 HS3_5 HS4_5 HS5_5
  simp only [Act.put, List.setIfInBounds_toArray, List.set_cons_succ, List.set_cons_zero]
  generalize (u5.alloc (.cells #[.slice b0 m0 d0, .slice b1 m1 d1, .slice b2 m2 d2, .slice b3 m3 d3, .slice b4 m4 d4, .slice b5 m5 d5] 34)) = w5 at *
  have HCC : Hid _ := concat_any ⟨u5.heap.size, 0, none⟩ 6 [tidB x.num x.node, intB x.last, intB x.first, intB x.count, enc (flagN x.ready), allB8 textB x.rs] w5 HRB.out ⟨by simp, by simp⟩ HFL.out
  refine wpAnyH_callE (i := 19) (fuel := 1) 22 rfl (by kernel_rfl) rfl HX5.out (by kernel_rfl) (f := 14) (args := #[.slice (some ⟨u5.heap.size, 0, none⟩) 6 6]) (by kernel_rfl) HCC.out ?_
  rintro e w6 ⟨v6, rfl, ho, y⟩
  refine ⟨_, rfl, y, ?_⟩
  have HSZ : Hid (w.heap.size ≤ w5.heap.size) := HY5.out.size
  have HO9 : Hid (Own w6 w.heap.size v6 ([tidB x.num x.node, intB x.last, intB x.first, intB x.count, enc (flagN x.ready), allB8 textB x.rs].flatten)) := ho.mono HSZ.out
  have HY9 : Hid (Below w.heap.size w w6) := ext_trans HY5.out y
  clear ho y HRB HCC HX5 HY5
  simp only [Act.put, List.setIfInBounds_toArray, List.set_cons_succ, List.set_cons_zero]
  haveI nA := cls_ext w6
  refine wpAnyH_seg (by kernel_rfl) (fun _ _ _ h => h) [20] 0 _ _ _ (Ext.refl _) (by kernel_rfl) ?_
  simp only [opsAt, List.getElem?_toArray, List.getElem?_cons_zero, List.getElem?_cons_succ, List.cons_append, List.nil_append]
  repeat (go_big_quiet_step (fail))
  refine wpQuiet_nil ?_
  clear nA
  refine wpAnyH_done (by kernel_rfl) (NoPanic.normal ?_) 0
  rw [HEQ.out] at HO9
  obtain ⟨a9, k9, m9, hv9⟩ : ∃ a n c, v6 = .slice a n c := by obtain ⟨a, c, e, _⟩ := HO9.out.src; exact ⟨a, _, c, e⟩
  subst hv9
  go_wp2
  go_ret
  exact ownP_of rfl HO9.out HY9.out
end Go.Proofs.YtbgofajldkblmaaGreat
