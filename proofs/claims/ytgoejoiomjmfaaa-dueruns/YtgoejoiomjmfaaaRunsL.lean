/- DueRuns: the best one is sought. Own lemmas, no statement. -/
import Derived.Test.YtgoejoiomjmfaaaRunsI
namespace Go.Proofs.Ytgoejoiomjmfaaa
open Go.ChangeShapes Go.WideShapes Go.ChangeAt Go.RowKit

/-- The bodies of a text's loops that lie in no other one, in order. -/
def allLoops : Code → List Code
  | .loop c => [c]
  | .seq a b => allLoops a ++ allLoops b
  | .block _ c => allLoops c
  | .scope c => allLoops c
  | .cond _ a b => allLoops a ++ allLoops b
  | _ => []
def bestOf (c : Code) : Code := (allLoops c).getD 1 .skip
def BI (w1 : World) (v0 v3 v4 v5 v6 v7 v57 v146 v147 : Value) (l : List Ent) (now : Int) (a : Act) (w : World) : Prop :=
  ∃ (j : Nat) (b : Int), frBS a v0 (.bool false) v3 v4 v5 v6 v7 (.int .i64 b) v57 v146 v147 (.int .i64 (j : Int)) ∧ j ≤ l.length ∧ Best l now j b ∧ Below w1.heap.size w1 w
def Bmu (n : Nat) (a : Act) (_ : World) : Nat := n - (intOf (a.tmps.getD 148 undef)).toNat

section
variable {P : Program} {ops : Array Oper} {Q : Exit → Act → World → Prop} {K : Act → World → Prop} {i : Nat} {o : Oper} {a : Act} {w : World}
theorem wpOp_skip (d : Tmp) (ho : ops[i]? = some o) (hw : Region.wanted o (yielded ops a.tmps) = false) (hd : o.dst = some d) (h : K (a.put (some d) undef) w) : wpOp P ops Q i K a w := by
  unfold wpOp
  simp only [ho, hw, Bool.false_eq_true, if_false]
  rw [hd]
  exact h
end

set_option maxRecDepth 100000 in
set_option maxHeartbeats 8000000 in
theorem best_round (w1 : World) (B : Nat) (v0 v3 v5 v7 v57 : Value) (x : Addr) (cap : Nat) (l : List Ent) (bo : Nat) (o : OpE) (T : Nat → Value) (j : Nat) (b : Int) (wx : World) (Q : Exit → Act → World → Prop)
    (hr : RowE w1 B x cap l) (hbo : Blk w1 bo (oC o) 31) (hj : j < l.length) (hF : Best l o.e.at_ j b) (hb : Below w1.heap.size w1 wx) :
    Code.wp Try.prog (bestOf (bodyOf Try.f3)) (Exit.then (fun a' w' => BI w1 v0 v3 (.slice (some x) l.length cap) v5 (.pointer (some ⟨bo, 0, none⟩)) v7 v57 (.slice (some x) l.length cap) (.int .i64 (l.length : Int)) l o.e.at_ a' w' ∧ Bmu l.length a' w' < l.length - j) Q)
      ⟨frB T v0 (.bool false) v3 (.slice (some x) l.length cap) v5 (.pointer (some ⟨bo, 0, none⟩)) v7 (.int .i64 b) v57 (.slice (some x) l.length cap) (.int .i64 (l.length : Int)) (.int .i64 (j : Int)), []⟩ wx := by
  have hd1 : decide ((j : Int) < (l.length : Int)) = true := decide_eq_true (by omega)
  obtain ⟨e, he⟩ : ∃ e, l[j]? = some e := ⟨l[j], List.getElem?_eq_getElem hj⟩
  obtain ⟨e0, e1, e2, e3⟩ := (hr.below hb).at he
  have hb1 : Below wx.heap.size wx (wx.alloc (.cells #[.int .i64 e.at_, .int .i64 e.kind, .int .u64 e.num, .int .i64 e.node] 34)) := (Below.refl _ _).alloc (Nat.le_refl _) _
  have hbk := (hbo.bel hb).bel hb1
  have hrk := (hr.below hb).below hb1
  have HB : Hid (Below w1.heap.size w1 (wx.alloc (.cells #[.int .i64 e.at_, .int .i64 e.kind, .int .u64 e.num, .int .i64 e.node] 34))) := bel_trans hb hb1
  have HF : Hid (Best l o.e.at_ j b) := hF
  have HE : Hid (l[j]? = some e) := he
  have HRK : Hid (RowE _ B x cap l) := hrk
  have hlm : (l.length : Int) ≤ 9223372036854775807 := by have := hr.le; omega
  have hjl : (j : Int) < (l.length : Int) := by omega
  have c4 : (wx.alloc (.cells #[.int .i64 e.at_, .int .i64 e.kind, .int .u64 e.num, .int .i64 e.node] 34)).drew.cell? ⟨bo, 4, none⟩ = some (.int .i64 o.e.at_) := hbk.cell 4
  have g0 : (wx.alloc (.cells #[.int .i64 e.at_, .int .i64 e.kind, .int .u64 e.num, .int .i64 e.node] 34)).drew.cell? ⟨wx.heap.size, 0, none⟩ = some (.int .i64 e.at_) := (Blk.new wx _ _).cell 0
  have g1 : (wx.alloc (.cells #[.int .i64 e.at_, .int .i64 e.kind, .int .u64 e.num, .int .i64 e.node] 34)).drew.cell? ⟨wx.heap.size, 1, none⟩ = some (.int .i64 e.kind) := (Blk.new wx _ _).cell 1
  have g2 : (wx.alloc (.cells #[.int .i64 e.at_, .int .i64 e.kind, .int .u64 e.num, .int .i64 e.node] 34)).drew.cell? ⟨wx.heap.size, 2, none⟩ = some (.int .u64 e.num) := (Blk.new wx _ _).cell 2
  have g3 : (wx.alloc (.cells #[.int .i64 e.at_, .int .i64 e.kind, .int .u64 e.num, .int .i64 e.node] 34)).drew.cell? ⟨wx.heap.size, 3, none⟩ = some (.int .i64 e.node) := (Blk.new wx _ _).cell 3
  have HN : Hid (l.length = l.length) := rfl
  clear hb1 hbk hrk hbo hr hF he hb
  unfold frB
  conv => arg 2; whnf
  rcases (show o.e.at_ < e.at_ ∨ e.at_ ≤ o.e.at_ by omega) with hlate | hdue
  · have hle : decide (e.at_ ≤ o.e.at_) = false := decide_eq_false (by omega)
    go_wp2_with fail
    have y4 := cellX c4
    have y0 := cellX g0
    haveI nA := cls_ext (wx.alloc (.cells #[.int .i64 e.at_, .int .i64 e.kind, .int .u64 e.num, .int .i64 e.node] 34)).drew
    refine wp_region_ext (by kernel_rfl) ?_
    refine wpAnyH_seg (by kernel_rfl) (fun _ _ _ h => h) [0, 1, 2, 3, 4, 5, 6, 7, 8, 9, 10, 11, 12, 13] 3 _ _ _ (Ext.refl _) (by kernel_rfl) ?_
    simp only [opsAt, List.getElem?_toArray, List.getElem?_cons_zero, List.getElem?_cons_succ, List.cons_append, List.nil_append]
    repeat (go_big_quiet_step (fail))
    refine wpQuiet_nil ?_
    refine wpAnyH_all (rs := [14]) (fuel := 2) (by kernel_rfl) (by simp) fun j hj => ?_
    obtain rfl : j = 14 := by simpa using hj
    refine wpOp_skip 167 rfl (by kernel_rfl) rfl ?_
    refine ⟨Ext.refl _, ?_⟩
    simp only [Act.put, List.setIfInBounds_toArray, List.set_cons_succ, List.set_cons_zero]
    refine wpAnyH_seg (by kernel_rfl) (fun _ _ _ h => h) [15, 16] 0 _ _ _ (Ext.refl _) (by kernel_rfl) ?_
    simp only [opsAt, List.getElem?_toArray, List.getElem?_cons_zero, List.getElem?_cons_succ, List.cons_append, List.nil_append]
    repeat (go_big_quiet_step (fail))
    refine wpQuiet_nil ?_
    clear y4 y0 nA
    refine wpAnyH_done (by kernel_rfl) (NoPanic.normal ?_) 0
    go_wp2_with fail
    refine ⟨⟨j + 1, b, ⟨rfl, rfl, rfl, rfl, rfl, rfl, rfl, rfl, rfl, rfl, rfl, rfl, rfl, by go_num⟩, by omega, HF.out.late HE.out hlate, HB.out.drew⟩, ?_⟩
    simp [Bmu, intOf]; omega
  · have hle : decide (e.at_ ≤ o.e.at_) = true := decide_eq_true hdue
    rcases (show b = -1 ∨ ∃ (i : Nat) (y : Ent), b = (i : Int) ∧ l[i]? = some y by
      rcases HF.out with ⟨h, _⟩ | ⟨i, y, _, h2, h3, _⟩
      · exact .inl h
      · exact .inr ⟨i, y, h2, h3⟩) with rfl | ⟨i, y, rfl, hy⟩
    · go_wp2_with fail
      have y4 := cellX c4
      have y0 := cellX g0
      haveI nA := cls_ext (wx.alloc (.cells #[.int .i64 e.at_, .int .i64 e.kind, .int .u64 e.num, .int .i64 e.node] 34)).drew
      refine wp_region_ext (by kernel_rfl) ?_
      refine wpAnyH_seg (by kernel_rfl) (fun _ _ _ h => h) [0, 1, 2, 3, 4, 5, 6, 7, 8, 9, 10, 11, 12, 13] 3 _ _ _ (Ext.refl _) (by kernel_rfl) ?_
      simp only [opsAt, List.getElem?_toArray, List.getElem?_cons_zero, List.getElem?_cons_succ, List.cons_append, List.nil_append]
      repeat (go_big_quiet_step (fail))
      refine wpQuiet_nil ?_
      refine wpAnyH_all (rs := [14]) (fuel := 2) (by kernel_rfl) (by simp) fun j hj => ?_
      obtain rfl : j = 14 := by simpa using hj
      refine wpOp_skip 167 rfl (by kernel_rfl) rfl ?_
      refine ⟨Ext.refl _, ?_⟩
      simp only [Act.put, List.setIfInBounds_toArray, List.set_cons_succ, List.set_cons_zero]
      refine wpAnyH_seg (by kernel_rfl) (fun _ _ _ h => h) [15, 16] 0 _ _ _ (Ext.refl _) (by kernel_rfl) ?_
      simp only [opsAt, List.getElem?_toArray, List.getElem?_cons_zero, List.getElem?_cons_succ, List.cons_append, List.nil_append]
      repeat (go_big_quiet_step (fail))
      refine wpQuiet_nil ?_
      clear y4 y0 nA
      refine wpAnyH_done (by kernel_rfl) (NoPanic.normal ?_) 0
      go_wp2_with fail
      refine ⟨⟨j + 1, (j : Int), ⟨rfl, rfl, rfl, rfl, rfl, rfl, rfl, rfl, rfl, rfl, rfl, rfl, rfl, by go_num⟩, by omega, HF.out.first HE.out hdue, HB.out.drew⟩, ?_⟩
      simp [Bmu, intOf]; omega
    · have HY : Hid (l[i]? = some y) := hy
      have hil : (i : Int) < (l.length : Int) := by have := (List.getElem?_eq_some_iff.1 hy).1; omega
      have hi0 : decide ((i : Int) < 0) = false := decide_eq_false (by omega)
      obtain ⟨s0, s1, s2, s3⟩ := HRK.out.at hy
      have t0 := cellX (W0 := (wx.alloc (.cells #[.int .i64 e.at_, .int .i64 e.kind, .int .u64 e.num, .int .i64 e.node] 34)).drew) s0
      have t1 := cellX (W0 := (wx.alloc (.cells #[.int .i64 e.at_, .int .i64 e.kind, .int .u64 e.num, .int .i64 e.node] 34)).drew) s1
      have t2 := cellX (W0 := (wx.alloc (.cells #[.int .i64 e.at_, .int .i64 e.kind, .int .u64 e.num, .int .i64 e.node] 34)).drew) s2
      have t3 := cellX (W0 := (wx.alloc (.cells #[.int .i64 e.at_, .int .i64 e.kind, .int .u64 e.num, .int .i64 e.node] 34)).drew) s3
      have HLS : Hid (Calls _ _ _ _ _) := less_any e y (wx.alloc (.cells #[.int .i64 e.at_, .int .i64 e.kind, .int .u64 e.num, .int .i64 e.node] 34)).drew
      clear s0 s1 s2 s3 hy
      unfold entV at HLS
      go_wp2_with fail
      have y4 := cellX c4
      have y0 := cellX g0
      have y1 := cellX g1
      have y2 := cellX g2
      have y3 := cellX g3
      haveI nA := cls_ext (wx.alloc (.cells #[.int .i64 e.at_, .int .i64 e.kind, .int .u64 e.num, .int .i64 e.node] 34)).drew
      refine wp_region_ext (by kernel_rfl) ?_
      refine wpAnyH_seg (by kernel_rfl) (fun _ _ _ h => h) [0, 1, 2, 3, 4, 5, 6, 7, 8, 9, 10, 11, 12, 13] 3 _ _ _ (Ext.refl _) (by kernel_rfl) ?_
      simp only [opsAt, List.getElem?_toArray, List.getElem?_cons_zero, List.getElem?_cons_succ, List.cons_append, List.nil_append]
      repeat (go_big_quiet_step (fail))
      refine wpQuiet_nil ?_
      clear y0 y1 y2 y3 y4 t0 t1 t2 t3 nA
      refine wpAnyH_callE (i := 14) 167 rfl (by kernel_rfl) rfl (Ext.refl _) (by kernel_rfl) (by kernel_rfl) HLS.out ?_
      rintro r w3 ⟨rfl, hb3⟩
      refine ⟨_, rfl, hb3, ?_⟩
      have HB3 : Hid (Below w1.heap.size w1 w3) := bel_trans HB.out.drew hb3
      haveI nB := cls_ext w3
      simp only [Act.put, List.setIfInBounds_toArray, List.set_cons_succ, List.set_cons_zero]
      refine wpAnyH_seg (by kernel_rfl) (fun _ _ _ h => h) [15, 16] 0 _ _ _ (Ext.refl _) (by kernel_rfl) ?_
      simp only [opsAt, List.getElem?_toArray, List.getElem?_cons_zero, List.getElem?_cons_succ, List.cons_append, List.nil_append]
      repeat (go_big_quiet_step (fail))
      refine wpQuiet_nil ?_
      clear nB hb3
      refine wpAnyH_done (by kernel_rfl) (NoPanic.normal ?_) 0
      cases hls : lessE e y with
      | true =>
        go_wp2_with fail
        refine ⟨⟨j + 1, (j : Int), ⟨rfl, rfl, rfl, rfl, rfl, rfl, rfl, rfl, rfl, rfl, rfl, rfl, rfl, by go_num⟩, by omega, HF.out.ahead HY.out HE.out hdue hls, HB3.out⟩, ?_⟩
        simp [Bmu, intOf]; omega
      | false =>
        go_wp2_with fail
        refine ⟨⟨j + 1, (i : Int), ⟨rfl, rfl, rfl, rfl, rfl, rfl, rfl, rfl, rfl, rfl, rfl, rfl, rfl, by go_num⟩, by omega, HF.out.stays HY.out HE.out hls, HB3.out⟩, ?_⟩
        simp [Bmu, intOf]; omega
end Go.Proofs.Ytgoejoiomjmfaaa
