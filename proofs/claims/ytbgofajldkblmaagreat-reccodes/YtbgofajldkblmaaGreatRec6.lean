/- rec's Encode, upon what its body is; the law's head. Own lemmas, no statement. -/
import Derived.Test.YtbgofajldkblmaaGreatRec5
set_option linter.unusedSimpArgs false
set_option linter.unusedVariables false
namespace Go.Proofs.YtbgofajldkblmaaGreat
open Go.ChangeShapes Go.WideShapes Go.ChangeAt Go.RowKit

theorem number_any (n : Nat) (w : World) (hn : n < 18446744073709551616) : Calls Tryz.prog 15 #[.int .u64 (n : Int)] w (Gives w (enc n)) := by
  have HP : Hid (Calls Tryz.prog 28 #[.slice none 0 0, .int .u64 (n : Int)] w (Gives w (enc n))) := put_any none 0 0 [] n w (Src.nil w) hn (by simp)
  go_enter Tryz.func15, Tryz.ntmps15
  go_wp2_with fail
  refine HP.out.mono ?_
  rintro e w1 ⟨g, cap, rfl, ho, y⟩
  have HO : Hid _ := ho
  have HY : Hid (Below w.heap.size w w1) := y
  clear ho y
  go_wp2
  go_ret
  exact ⟨g, cap, rfl, HO.out, HY.out⟩
theorem exec_buildB3 {ρ : Operand → Value} {o : Oper} {w : World} {x y z : Operand} {a1 a2 a3 : Option Addr} {n1 n2 n3 c1 c2 c3 : Nat} (ho : o.op = .buildSlice 75 3 #[(0, x), (1, y), (2, z)]) (hx : ρ x = .slice a1 n1 c1) (hy : ρ y = .slice a2 n2 c2) (hz : ρ z = .slice a3 n3 c3) : (execOp ρ o).run Tryz.prog w = .ok (.value (.slice (some ⟨w.heap.size, 0, none⟩) 3 3)) (w.alloc (.cells #[.slice a1 n1 c1, .slice a2 n2 c2, .slice a3 n3 c3] 34)) := by
  unfold execOp
  rw [ho]
  go_simp
theorem rowB3 {w : World} {a1 a2 a3 : Option Addr} {n1 n2 n3 c1 c2 c3 : Nat} {l1 l2 l3 : List UInt8} (h1 : Src w (.slice a1 n1 c1) l1) (h2 : Src w (.slice a2 n2 c2) l2) (h3 : Src w (.slice a3 n3 c3) l3) :
    RowB (w.alloc (.cells #[.slice a1 n1 c1, .slice a2 n2 c2, .slice a3 n3 c3] 34)) ⟨w.heap.size, 0, none⟩ [l1, l2, l3] := by
  have hb := below_allocR (W := w) (.cells #[.slice a1 n1 c1, .slice a2 n2 c2, .slice a3 n3 c3] 34)
  have hk : Blk (w.alloc (.cells #[.slice a1 n1 c1, .slice a2 n2 c2, .slice a3 n3 c3] 34)) w.heap.size #[.slice a1 n1 c1, .slice a2 n2 c2, .slice a3 n3 c3] 34 := Blk.new _ _ _
  intro i l hl
  match i, hl with
  | 0, hl => cases hl; exact ⟨_, _, _, by simp [Addr.add], h1.below hb⟩
  | 1, hl => cases hl; exact ⟨_, _, _, by simp [Addr.add], h2.below hb⟩
  | 2, hl => cases hl; exact ⟨_, _, _, by simp [Addr.add], h3.below hb⟩

/-- Encode, where the body's bytes are bd. -/
def encHead (k n : Nat) (y : Int) : List UInt8 := enc k ++ (enc n ++ enc (uns y))
/-- What Encode hands back, where its bytes would be l. -/
def EncP (w : World) (l : List UInt8) (e : Ending) (w' : World) : Prop :=
  (∃ v er, e = .returned (.tuple #[v, .int .i64 er]) ∧ (if l.length > 16384 then v = .slice none 0 0 ∧ er = 3 else Own w' w.heap.size v l ∧ er = 0)) ∧ Below w.heap.size w w'
theorem encP_big {w w' : World} {l : List UInt8} {e : Ending} (h : 16384 < l.length) (he : e = .returned (.tuple #[.slice none 0 0, .int .i64 3])) (y : Below w.heap.size w w') : EncP w l e w' := ⟨⟨_, _, he, by rw [if_pos h]; exact ⟨rfl, rfl⟩⟩, y⟩
theorem encP_ok {w w' : World} {l : List UInt8} {e : Ending} {v : Value} (h : ¬ 16384 < l.length) (he : e = .returned (.tuple #[v, .int .i64 0])) (o : Own w' w.heap.size v l) (y : Below w.heap.size w w') : EncP w l e w' := ⟨⟨_, _, he, by rw [if_neg h]; exact ⟨o, rfl⟩⟩, y⟩
set_option maxRecDepth 100000 in
set_option maxHeartbeats 4000000 in
theorem encode_of (x : RecV) (bd : List UInt8) (w : World) (h : x.At w) (K N : Nat) (hk : x.kind = (K : Int)) (hkk : K ≤ 8) (hN : x.num = (N : Int)) (hNN : N < 18446744073709551616) (hok : rightRec x = true) (hbd : bd.length < 100000000)
    (hbody : ∀ W, Below w.heap.size w W → Calls Tryz.prog 17 #[.agg #[.int .i64 x.kind, .int .u64 x.num, .int .i64 x.node, .string x.key, .bool x.was, .string x.old, .int .u64 x.prev, .slice x.na x.nn x.nc, .slice x.ra x.rn x.rc, .slice x.ga x.gn x.gc, .slice x.oa x.om x.oc, .slice x.da x.dn x.dc]] W fun e w' => ∃ ao n c, e = .returned (.slice ao n c) ∧ Src w' (.slice ao n c) bd ∧ Below W.heap.size W w') :
    Calls Tryz.prog 8 #[.agg #[.int .i64 x.kind, .int .u64 x.num, .int .i64 x.node, .string x.key, .bool x.was, .string x.old, .int .u64 x.prev, .slice x.na x.nn x.nc, .slice x.ra x.rn x.rc, .slice x.ga x.gn x.gc, .slice x.oa x.om x.oc, .slice x.da x.dn x.dc]] w (EncP w (encHead K N x.node ++ bd)) := by
  have HX : Hid (x.At w) := h
  have HRT : Hid (∀ W, Below w.heap.size w W → Calls Tryz.prog 9 #[.agg #[.int .i64 x.kind, .int .u64 x.num, .int .i64 x.node, .string x.key, .bool x.was, .string x.old, .int .u64 x.prev, .slice x.na x.nn x.nc, .slice x.ra x.rn x.rc, .slice x.ga x.gn x.gc, .slice x.oa x.om x.oc, .slice x.da x.dn x.dc]] W fun e w' => e = .returned (.bool true) ∧ Below W.heap.size W w') := fun W hb => by have := recRight_any x W (HX.out.below hb); rw [hok] at this; exact this
  have HBD : Hid (∀ W, Below w.heap.size w W → Calls Tryz.prog 17 #[.agg #[.int .i64 x.kind, .int .u64 x.num, .int .i64 x.node, .string x.key, .bool x.was, .string x.old, .int .u64 x.prev, .slice x.na x.nn x.nc, .slice x.ra x.rn x.rc, .slice x.ga x.gn x.gc, .slice x.oa x.om x.oc, .slice x.da x.dn x.dc]] W fun e w' => ∃ ao n c, e = .returned (.slice ao n c) ∧ Src w' (.slice ao n c) bd ∧ Below W.heap.size W w') := hbody
  have HTI : Hid (∀ W, Calls Tryz.prog 16 #[.slice none 0 0, .agg #[.int .u64 x.num, .int .i64 x.node]] W (Gives W (enc N ++ enc (uns x.node)))) := fun W => by have := tid_any none 0 0 [] N x.node W (Src.nil W) hNN (by simp); rw [← hN] at this; exact this
  have HNU : Hid (∀ W, Calls Tryz.prog 15 #[.int .u64 (K : Int)] W (Gives W (enc K))) := fun W => number_any K W (by omega)
  have hwk : IntKind.u64.wrap x.kind = (K : Int) := by rw [hk, IntKind.wrap_u64]; omega
  have HFL : Hid ([enc K, enc N ++ enc (uns x.node), bd].flatten = encHead K N x.node ++ bd) := by show _ = _; simp [encHead]
  have HLT : Hid ([enc K, enc N ++ enc (uns x.node), bd].flatten.length < 100000000000) := by
    show _ < _
    have h1 := enc_length K
    have h2 := enc_length N
    have h3 := enc_length (uns x.node)
    simp
    omega
  clear h hok hbody hk hkk hN hNN hbd
  have HB : Hid (Blk (w.alloc (.cells #[.int .i64 x.kind, .int .u64 x.num, .int .i64 x.node, .string x.key, .bool x.was, .string x.old, .int .u64 x.prev, .slice x.na x.nn x.nc, .slice x.ra x.rn x.rc, .slice x.ga x.gn x.gc, .slice x.oa x.om x.oc, .slice x.da x.dn x.dc] 31)) w.heap.size #[.int .i64 x.kind, .int .u64 x.num, .int .i64 x.node, .string x.key, .bool x.was, .string x.old, .int .u64 x.prev, .slice x.na x.nn x.nc, .slice x.ra x.rn x.rc, .slice x.ga x.gn x.gc, .slice x.oa x.om x.oc, .slice x.da x.dn x.dc] 31) := Blk.new _ _ _
  have HY : Hid (Below w.heap.size w (w.alloc (.cells #[.int .i64 x.kind, .int .u64 x.num, .int .i64 x.node, .string x.key, .bool x.was, .string x.old, .int .u64 x.prev, .slice x.na x.nn x.nc, .slice x.ra x.rn x.rc, .slice x.ga x.gn x.gc, .slice x.oa x.om x.oc, .slice x.da x.dn x.dc] 31))) := (Below.refl _ _).alloc (Nat.le_refl _) _
  go_enter Tryz.func8, Tryz.ntmps8
  go_upto_region 1 with fail
  generalize w.alloc (.cells #[.int .i64 x.kind, .int .u64 x.num, .int .i64 x.node, .string x.key, .bool x.was, .string x.old, .int .u64 x.prev, .slice x.na x.nn x.nc, .slice x.ra x.rn x.rc, .slice x.ga x.gn x.gc, .slice x.oa x.om x.oc, .slice x.da x.dn x.dc] 31) = w0 at *
  have z0 : w0.cell? ⟨w.heap.size, 0, none⟩ = some (.int .i64 x.kind) := HB.out.cell 0
  have z1 : w0.cell? ⟨w.heap.size, 1, none⟩ = some (.int .u64 x.num) := HB.out.cell 1
  have z2 : w0.cell? ⟨w.heap.size, 2, none⟩ = some (.int .i64 x.node) := HB.out.cell 2
  have z3 : w0.cell? ⟨w.heap.size, 3, none⟩ = some (.string x.key) := HB.out.cell 3
  have z4 : w0.cell? ⟨w.heap.size, 4, none⟩ = some (.bool x.was) := HB.out.cell 4
  have z5 : w0.cell? ⟨w.heap.size, 5, none⟩ = some (.string x.old) := HB.out.cell 5
  have z6 : w0.cell? ⟨w.heap.size, 6, none⟩ = some (.int .u64 x.prev) := HB.out.cell 6
  have z7 : w0.cell? ⟨w.heap.size, 7, none⟩ = some (.slice x.na x.nn x.nc) := HB.out.cell 7
  have z8 : w0.cell? ⟨w.heap.size, 8, none⟩ = some (.slice x.ra x.rn x.rc) := HB.out.cell 8
  have z9 : w0.cell? ⟨w.heap.size, 9, none⟩ = some (.slice x.ga x.gn x.gc) := HB.out.cell 9
  have z10 : w0.cell? ⟨w.heap.size, 10, none⟩ = some (.slice x.oa x.om x.oc) := HB.out.cell 10
  have z11 : w0.cell? ⟨w.heap.size, 11, none⟩ = some (.slice x.da x.dn x.dc) := HB.out.cell 11
  go_wp2_with fail
  refine (HRT.out _ HY.out).mono ?_
  rintro e w1 ⟨rfl, y⟩
  have HB1 : Hid (Blk w1 w.heap.size #[.int .i64 x.kind, .int .u64 x.num, .int .i64 x.node, .string x.key, .bool x.was, .string x.old, .int .u64 x.prev, .slice x.na x.nn x.nc, .slice x.ra x.rn x.rc, .slice x.ga x.gn x.gc, .slice x.oa x.om x.oc, .slice x.da x.dn x.dc] 31) := Blk.of HB.out (y.block _ HB.out.lt)
  have HY1 : Hid (Below w.heap.size w w1) := ext_trans HY.out y
  clear y HB HY HRT
  clear z0 z1 z2 z3 z4 z5 z6 z7 z8 z9 z10 z11
  go_upto_region 3 with fail
  refine wp_region_ext (by kernel_rfl) ?_
  haveI nA := cls_ext w1.drew
  have q0 := cellX (W0 := w1.drew) (show w1.drew.cell? ⟨w.heap.size, 0, none⟩ = some (.int .i64 x.kind) from HB1.out.cell 0)
  have q1 := cellX (W0 := w1.drew) (show w1.drew.cell? ⟨w.heap.size, 1, none⟩ = some (.int .u64 x.num) from HB1.out.cell 1)
  have q2 := cellX (W0 := w1.drew) (show w1.drew.cell? ⟨w.heap.size, 2, none⟩ = some (.int .i64 x.node) from HB1.out.cell 2)
  have q3 := cellX (W0 := w1.drew) (show w1.drew.cell? ⟨w.heap.size, 3, none⟩ = some (.string x.key) from HB1.out.cell 3)
  have q4 := cellX (W0 := w1.drew) (show w1.drew.cell? ⟨w.heap.size, 4, none⟩ = some (.bool x.was) from HB1.out.cell 4)
  have q5 := cellX (W0 := w1.drew) (show w1.drew.cell? ⟨w.heap.size, 5, none⟩ = some (.string x.old) from HB1.out.cell 5)
  have q6 := cellX (W0 := w1.drew) (show w1.drew.cell? ⟨w.heap.size, 6, none⟩ = some (.int .u64 x.prev) from HB1.out.cell 6)
  have q7 := cellX (W0 := w1.drew) (show w1.drew.cell? ⟨w.heap.size, 7, none⟩ = some (.slice x.na x.nn x.nc) from HB1.out.cell 7)
  have q8 := cellX (W0 := w1.drew) (show w1.drew.cell? ⟨w.heap.size, 8, none⟩ = some (.slice x.ra x.rn x.rc) from HB1.out.cell 8)
  have q9 := cellX (W0 := w1.drew) (show w1.drew.cell? ⟨w.heap.size, 9, none⟩ = some (.slice x.ga x.gn x.gc) from HB1.out.cell 9)
  have q10 := cellX (W0 := w1.drew) (show w1.drew.cell? ⟨w.heap.size, 10, none⟩ = some (.slice x.oa x.om x.oc) from HB1.out.cell 10)
  have q11 := cellX (W0 := w1.drew) (show w1.drew.cell? ⟨w.heap.size, 11, none⟩ = some (.slice x.da x.dn x.dc) from HB1.out.cell 11)
  refine wpAnyH_seg (by kernel_rfl) (fun _ _ _ h => h) [0, 1, 2, 4, 5, 7] 6 _ _ _ (Ext.refl _) (by kernel_rfl) ?_
  simp only [opsAt, List.getElem?_toArray, List.getElem?_cons_zero, List.getElem?_cons_succ, List.cons_append, List.nil_append]
  repeat (go_big_quiet_step (fail))
  refine wpQuiet_nil ?_
  clear nA q0 q1 q2 q3 q4 q5 q6 q7 q8 q9 q10 q11
  refine wpAnyH_callE (i := 3) (fuel := 5) 11 rfl (by kernel_rfl) rfl (Ext.refl _) (by kernel_rfl) (f := 15) (args := #[.int .u64 (K : Int)]) (by kernel_rfl) (HNU.out w1.drew) ?_
  rintro e w2 ⟨g2, c2, rfl, ho, y⟩
  refine ⟨_, rfl, y, ?_⟩
  have HS2 : Hid (Src w2 (.slice (some ⟨g2, 0, none⟩) (enc K).length c2) (enc K)) := ho.src
  have HY2 : Hid (Below w.heap.size w w2) := ext_trans (Below.drew HY1.out) y
  clear ho y HB1 HY1
  simp only [Act.put, List.setIfInBounds_toArray, List.set_cons_succ, List.set_cons_zero]
  refine wpAnyH_callE (i := 6) (fuel := 4) 14 rfl (by kernel_rfl) rfl (Ext.refl _) (by kernel_rfl) (f := 16) (args := #[.slice none 0 0, .agg #[.int .u64 x.num, .int .i64 x.node]]) (by kernel_rfl) (HTI.out w2) ?_
  rintro e w3 ⟨g3, c3, rfl, ho, y⟩
  refine ⟨_, rfl, y, ?_⟩
  have HS3 : Hid (Src w3 (.slice (some ⟨g3, 0, none⟩) (enc N ++ enc (uns x.node)).length c3) (enc N ++ enc (uns x.node))) := ho.src
  have HT2 : Hid (Src w3 (.slice (some ⟨g2, 0, none⟩) (enc K).length c2) (enc K)) := HS2.out.below y
  have HY3 : Hid (Below w.heap.size w w3) := ext_trans HY2.out y
  clear ho y HS2 HY2
  simp only [Act.put, List.setIfInBounds_toArray, List.set_cons_succ, List.set_cons_zero]
  refine wpAnyH_callE (i := 8) (fuel := 3) 16 rfl (by kernel_rfl) rfl (Ext.refl _) (by kernel_rfl) (f := 17) (args := #[.agg #[.int .i64 x.kind, .int .u64 x.num, .int .i64 x.node, .string x.key, .bool x.was, .string x.old, .int .u64 x.prev, .slice x.na x.nn x.nc, .slice x.ra x.rn x.rc, .slice x.ga x.gn x.gc, .slice x.oa x.om x.oc, .slice x.da x.dn x.dc]]) (by kernel_rfl) (HBD.out w3 HY3.out) ?_
  rintro e w4 ⟨a4, n4, c4, rfl, ho, y⟩
  refine ⟨_, rfl, y, ?_⟩
  have HS4 : Hid (Src w4 (.slice a4 n4 c4) bd) := ho
  have HT3 : Hid (Src w4 (.slice (some ⟨g3, 0, none⟩) (enc N ++ enc (uns x.node)).length c3) (enc N ++ enc (uns x.node))) := HS3.out.below y
  have HU2 : Hid (Src w4 (.slice (some ⟨g2, 0, none⟩) (enc K).length c2) (enc K)) := HT2.out.below y
  have HY4 : Hid (Below w.heap.size w w4) := ext_trans HY3.out y
  clear ho y HS3 HT2 HY3
  simp only [Act.put, List.setIfInBounds_toArray, List.set_cons_succ, List.set_cons_zero]
  refine wpAnyH_all (rs := [9]) (fuel := 2) (by kernel_rfl) (by simp) fun j hj => ?_
  obtain rfl : j = 9 := by simpa using hj
  clear hj
  refine wpOp_value 17 rfl (by kernel_rfl) rfl (exec_buildB3 rfl rfl rfl rfl) ?_
  have HRB : Hid _ := rowB3 HU2.out HT3.out HS4.out
  have HX5 : Hid (Below w4.heap.size w4 (w4.alloc (.cells #[.slice (some ⟨g2, 0, none⟩) (enc K).length c2, .slice (some ⟨g3, 0, none⟩) (enc N ++ enc (uns x.node)).length c3, .slice a4 n4 c4] 34))) := below_allocR _
  refine ⟨HX5.out, ?_⟩
  have HY5 : Hid (Below w.heap.size w (w4.alloc (.cells #[.slice (some ⟨g2, 0, none⟩) (enc K).length c2, .slice (some ⟨g3, 0, none⟩) (enc N ++ enc (uns x.node)).length c3, .slice a4 n4 c4] 34))) := ext_trans HY4.out HX5.out
  clear HS4 HT3 HU2 HY4
  simp only [Act.put, List.setIfInBounds_toArray, List.set_cons_succ, List.set_cons_zero]
  generalize (w4.alloc (.cells #[.slice (some ⟨g2, 0, none⟩) (enc K).length c2, .slice (some ⟨g3, 0, none⟩) (enc N ++ enc (uns x.node)).length c3, .slice a4 n4 c4] 34)) = w5 at *
  have HCC : Hid _ := concat_any ⟨w4.heap.size, 0, none⟩ 3 [enc K, enc N ++ enc (uns x.node), bd] w5 HRB.out ⟨by simp, by simp⟩ HLT.out
  refine wpAnyH_callE (i := 10) (fuel := 1) 18 rfl (by kernel_rfl) rfl HX5.out (by kernel_rfl) (f := 14) (args := #[.slice (some ⟨w4.heap.size, 0, none⟩) 3 3]) (by kernel_rfl) HCC.out ?_
  rintro e w6 ⟨v6, rfl, ho, y⟩
  refine ⟨_, rfl, y, ?_⟩
  rw [HFL.out] at ho
  have HO6 : Hid (Own w6 w5.heap.size v6 (encHead K N x.node ++ bd)) := ho
  have HY6 : Hid (Below w.heap.size w w6) := ext_trans HY5.out y
  have HSZ : Hid (w.heap.size ≤ w5.heap.size) := HY5.out.size
  clear ho y HRB HCC HX5 HY5
  simp only [Act.put,  List.setIfInBounds_toArray, List.set_cons_succ, List.set_cons_zero]
  haveI nA := cls_ext w6
  refine wpAnyH_seg (by kernel_rfl) (fun _ _ _ h => h) [11] 0 _ _ _ (Ext.refl _) (by kernel_rfl) ?_
  simp only [opsAt, List.getElem?_toArray, List.getElem?_cons_zero, List.getElem?_cons_succ, List.cons_append, List.nil_append]
  repeat (go_big_quiet_step (fail))
  refine wpQuiet_nil ?_
  clear nA
  refine wpAnyH_done (by kernel_rfl) (NoPanic.normal ?_) 0
  have HLE : Hid (Src w6 v6 (encHead K N x.node ++ bd)) := HO6.out.src
  obtain ⟨a6, k6, m6, hv6⟩ : ∃ a n c, v6 = .slice a n c := by obtain ⟨a, c, e, _⟩ := HLE.out; exact ⟨a, _, c, e⟩
  subst hv6
  have HN6 : Hid (k6 = (encHead K N x.node ++ bd).length) := HLE.out.at.1
  by_cases hbig : 16384 < k6
  · go_wp2
    go_ret2
    exact encP_big (by rw [← HN6.out]; exact hbig) rfl HY6.out
  · go_wp2
    go_ret2
    exact encP_ok (by rw [← HN6.out]; omega) rfl (HO6.out.mono HSZ.out) HY6.out

set_option maxHeartbeats 2000000 in
theorem body4_any (x : RecV) (w : World) (h4 : x.kind = 4) : Calls Tryz.prog 17 #[.agg #[.int .i64 x.kind, .int .u64 x.num, .int .i64 x.node, .string x.key, .bool x.was, .string x.old, .int .u64 x.prev, .slice x.na x.nn x.nc, .slice x.ra x.rn x.rc, .slice x.ga x.gn x.gc, .slice x.oa x.om x.oc, .slice x.da x.dn x.dc]] w fun e w' => ∃ ao n c, e = .returned (.slice ao n c) ∧ Src w' (.slice ao n c) [] ∧ Below w.heap.size w w' := by
  have H4 : Hid (x.kind = 4) := h4
  clear h4
  have HB : Hid (Blk (w.alloc (.cells #[.int .i64 x.kind, .int .u64 x.num, .int .i64 x.node, .string x.key, .bool x.was, .string x.old, .int .u64 x.prev, .slice x.na x.nn x.nc, .slice x.ra x.rn x.rc, .slice x.ga x.gn x.gc, .slice x.oa x.om x.oc, .slice x.da x.dn x.dc] 31)) w.heap.size #[.int .i64 x.kind, .int .u64 x.num, .int .i64 x.node, .string x.key, .bool x.was, .string x.old, .int .u64 x.prev, .slice x.na x.nn x.nc, .slice x.ra x.rn x.rc, .slice x.ga x.gn x.gc, .slice x.oa x.om x.oc, .slice x.da x.dn x.dc] 31) := Blk.new _ _ _
  have HY : Hid (Below w.heap.size w (w.alloc (.cells #[.int .i64 x.kind, .int .u64 x.num, .int .i64 x.node, .string x.key, .bool x.was, .string x.old, .int .u64 x.prev, .slice x.na x.nn x.nc, .slice x.ra x.rn x.rc, .slice x.ga x.gn x.gc, .slice x.oa x.om x.oc, .slice x.da x.dn x.dc] 31))) := (Below.refl _ _).alloc (Nat.le_refl _) _
  go_enter Tryz.func17, Tryz.ntmps17
  go_upto_region 1 with fail
  generalize w.alloc (.cells #[.int .i64 x.kind, .int .u64 x.num, .int .i64 x.node, .string x.key, .bool x.was, .string x.old, .int .u64 x.prev, .slice x.na x.nn x.nc, .slice x.ra x.rn x.rc, .slice x.ga x.gn x.gc, .slice x.oa x.om x.oc, .slice x.da x.dn x.dc] 31) = w0 at *
  have z0 : w0.cell? ⟨w.heap.size, 0, none⟩ = some (.int .i64 4) := by rw [← H4.out]; exact HB.out.cell 0
  go_wp2
  go_ret
  exact ⟨_, _, _, rfl, Src.nil _, HY.out⟩
end Go.Proofs.YtbgofajldkblmaaGreat
