/- NumApart: the walk of the law's Go text. -/
import Derived.Test.YtopnblhedankcaaDecode
import Derived.Test.YtopnblhedankcaaSeg
import Derived.Test.YtopnblhedankcaaElder
import Derived.Test.YtopnblhedankcaaWNumBehind
import Derived.Laws.StructEq
namespace Go.Proofs.Ytopnblhedankcaa
open Go.ChangeShapes Go.WideShapes Go.ChangeAt Go.RowKit

theorem srcAt_takeS {w : World} {ao : Option Addr} {n c : Nat} {l : List UInt8} (m : Nat) (h : Src w (.slice ao n c) l) (hm : m ≤ l.length) : Src w (.slice ao m c) (l.take m) := by
  obtain ⟨_, h1, h2, h3⟩ := h.at
  exact src_take m h3 h1 h2 hm

set_option maxHeartbeats 1000000 in
theorem begins_any (ax ay : Option Addr) (nx cx ny cy : Nat) (x y : List UInt8) (w : World) (hx : Src w (.slice ax nx cx) x) (hy : Src w (.slice ay ny cy) y) :
    Calls Try.prog 27 #[.slice ax nx cx, .slice ay ny cy] w fun e w' => e = .returned (.bool (begB x y)) ∧ Ext w w' := by
  obtain ⟨rfl, x1, x2, x3⟩ := hx.at
  obtain ⟨rfl, y1, y2, y3⟩ := hy.at
  have hx' := hx.below ((Below.refl _ w).drew)
  have hy' := hy.below ((Below.refl _ w).drew)
  clear x3 y3 hx hy
  unfold maxLen at x2 y2
  by_cases h : x.length ≤ y.length
  · have hb : begB x y = (y.take x.length == x) := by unfold begB; simp [h]
    have hd : decide ((x.length : Int) ≤ (y.length : Int)) = true := by simp; omega
    rw [hb]
    have i1 := hx'.strE
    have i2 := (srcAt_takeS x.length hy' h).strE
    clear hb hx' hy'
    haveI n1 := cls_ext w.drew
    go_enter Try.func27, Try.ntmps27
    go_wp2
    refine wp_region_ext (by kernel_rfl) ?_
    refine wpAnyH_seg (by kernel_rfl) (fun _ _ _ h => h) [0, 1, 2, 3, 4, 5, 6, 7, 8, 9, 10, 11, 12, 13, 14, 15] 0 _ _ _ (Ext.refl _) (by kernel_rfl) ?_
    simp only [opsAt, List.getElem?_toArray, List.getElem?_cons_zero, List.getElem?_cons_succ, List.cons_append, List.nil_append]
    repeat (go_big_quiet_step (fail))
    refine wpQuiet_nil ?_
    refine wpAnyH_done (by kernel_rfl) (NoPanic.normal ?_) 0
    clear i1 i2 n1
    go_wp2
    go_ret
    exact ⟨rfl, (Below.refl _ w).drew⟩
  · have hb : begB x y = false := by unfold begB; simp; omega
    have hd : decide ((x.length : Int) ≤ (y.length : Int)) = false := by simp; omega
    rw [hb]
    clear hb hx' hy'
    haveI n1 := cls_ext w.drew
    go_enter Try.func27, Try.ntmps27
    go_wp2
    refine wp_region_ext (by kernel_rfl) ?_
    refine wpAnyH_seg (by kernel_rfl) (fun _ _ _ h => h) [0, 1, 2, 3, 4, 5, 6, 7, 8, 9, 10, 11, 12, 13, 14, 15] 0 _ _ _ (Ext.refl _) (by kernel_rfl) ?_
    simp only [opsAt, List.getElem?_toArray, List.getElem?_cons_zero, List.getElem?_cons_succ, List.cons_append, List.nil_append]
    repeat (go_big_quiet_step (fail))
    refine wpQuiet_nil ?_
    refine wpAnyH_done (by kernel_rfl) (NoPanic.normal ?_) 0
    clear n1
    go_wp2
    go_ret
    exact ⟨rfl, (Below.refl _ w).drew⟩

theorem cellE {W0 : World} {a : Addr} {v : Value} (h : W0.cell? a = some v) : ∀ s : Cls (Ext W0), s.wd.cell? a = some v := fun s => (Below.cell s.ok (cell_lt h)).trans h

def tidEq (x y x' y' : Int) : Bool := decide (x = x' ∧ y = y')
theorem tid_eq (x y x' y' : Int) (W : World) : (binOp .eql 32 (.agg #[.int .u64 x, .int .i64 y]) (.agg #[.int .u64 x', .int .i64 y'])).run Try.prog W = .ok (.bool (tidEq x y x' y')) W := by
  unfold tidEq
  by_cases h : x = x'
  · subst h
    by_cases h2 : y = y'
    · subst h2; simp [go_sem]
    · simp [go_sem, h2]
  · simp [go_sem, h]

theorem same_dec (A C : Nat) : (decide (A = C) == ((A : Int) == (C : Int))) = true := by
  by_cases h : A = C
  · subst h; simp
  · have h' : ¬ ((A : Int) = (C : Int)) := by omega
    have e1 : decide (A = C) = false := by simp [h]
    have e2 : ((A : Int) == (C : Int)) = false := by simp [h']
    rw [e1, e2]; rfl

theorem uns_inj {y y' : Int} (h1 : (Lit.int .i64 y).wf = true) (h2 : (Lit.int .i64 y').wf = true) (h : uns y = uns y') : y = y' := by
  have b1 := bounds_i64 h1
  have b2 := bounds_i64 h2
  unfold uns at h
  omega

set_option maxHeartbeats 8000000 in
theorem walk_NumApart (a b : Int) (s t : ByteArray) (x1 y1 x2 y2 : Int) (w : World) (wa : (Lit.int .u64 a).wf = true) (wb : (Lit.int .u64 b).wf = true) (ws : s.size ≤ maxLen) (wt : t.size ≤ maxLen)
    (w1 : (Lit.int .u64 x1).wf = true ∧ (Lit.int .i64 y1).wf = true) (w2 : (Lit.int .u64 x2).wf = true ∧ (Lit.int .i64 y2).wf = true) :
    Calls Try.prog 6 #[.int .u64 a, .int .u64 b, .string s, .string t, .agg #[.int .u64 x1, .int .i64 y1], .agg #[.int .u64 x2, .int .i64 y2]] w fun e w' => e = .returned (.bool true) ∧ Below w.heap.size w w' := by
  have ba := bounds_u64 wa
  have bb := bounds_u64 wb
  have bx1 := bounds_u64 w1.1
  have bx2 := bounds_u64 w2.1
  have hu := fun h => uns_inj w1.2 w2.2 h
  have HU : Hid _ := hu
  clear wa wb w1 w2 hu
  obtain ⟨A, rfl⟩ := Int.eq_ofNat_of_zero_le ba.1
  obtain ⟨C, rfl⟩ := Int.eq_ofNat_of_zero_le bb.1
  obtain ⟨X1, rfl⟩ := Int.eq_ofNat_of_zero_le bx1.1
  obtain ⟨X2, rfl⟩ := Int.eq_ofNat_of_zero_le bx2.1
  unfold maxLen at ws wt
  by_cases hsz : s.size ≤ 200 ∧ t.size ≤ 200
  · obtain ⟨hs2, ht2⟩ := hsz
    go_enter Try.func6, Try.ntmps6
    go_wp2_with fail
    refine (head_any _).mono ?_
    rintro e w1 ⟨rfl, hb1⟩
    have hB1 : Below w.heap.size w w1 := (((Below.refl _ _).alloc (Nat.le_refl _) _).alloc (by simp) _).trans (hb1.mono (by simp; omega))
    have c0 : w1.drew.cell? ⟨w.heap.size, 0, none⟩ = some (.int .u64 (X1 : Int)) := (hb1.cell (p := ⟨w.heap.size, 0, none⟩) (by simp; omega)).trans (by go_simp)
    have c1 : w1.drew.cell? ⟨w.heap.size, 1, none⟩ = some (.int .i64 y1) := (hb1.cell (p := ⟨w.heap.size, 1, none⟩) (by simp; omega)).trans (by go_simp)
    have c2 : w1.drew.cell? ⟨w.heap.size + 1, 0, none⟩ = some (.int .u64 (X2 : Int)) := (hb1.cell (p := ⟨w.heap.size + 1, 0, none⟩) (by simp)).trans (by go_simp)
    have c3 : w1.drew.cell? ⟨w.heap.size + 1, 1, none⟩ = some (.int .i64 y2) := (hb1.cell (p := ⟨w.heap.size + 1, 1, none⟩) (by simp)).trans (by go_simp)
    have z1 : (begB (join [] (enc A)) (join [] (enc C)) == ((A : Int) == (C : Int))) = true := by rw [beg_put A C (by omega) (by omega)]; exact same_dec A C
    have z2 : (begB (join (join [] (enc s.size)) s.data.toList) (join (join [] (enc t.size)) t.data.toList) == (s.toList == t.toList)) = true := by rw [beg_text s t (by omega) (by omega)]; simp
    have z3 : (begB (join (join [] (enc X1)) (enc (uns y1))) (join (join [] (enc X2)) (enc (uns y2))) == tidEq X1 y1 X2 y2) = true := by
      rw [beg_tid X1 (uns y1) X2 (uns y2) (by omega) (uns_lt _) (by omega) (uns_lt _)]
      have : (X1 = X2 ∧ uns y1 = uns y2) ↔ ((X1 : Int) = (X2 : Int) ∧ y1 = y2) := ⟨fun h => ⟨by omega, HU.out h.2⟩, fun h => ⟨by omega, by rw [h.2]⟩⟩
      simp only [this, tidEq, beq_self_eq_true]
    have heq := fun W => tid_eq (X1 : Int) y1 (X2 : Int) y2 W
    clear hb1 HU
    go_wp2_with fail
    all_goals
      refine wp_region_ext (by kernel_rfl) ?_
      refine wpAnyH_seg (by kernel_rfl) (fun _ _ _ h => h) [0, 1, 3, 6, 7, 8] 29 _ _ _ (Ext.refl _) (by kernel_rfl) ?_
      haveI n1 := cls_ext w1.drew
      simp only [opsAt, List.getElem?_toArray, List.getElem?_cons_zero, List.getElem?_cons_succ, List.cons_append, List.nil_append]
      repeat (go_big_quiet_step (fail))
      refine wpQuiet_nil ?_
      clear n1
      refine wpAnyH_callE (i := 2) (fuel := 28) 26 rfl (by kernel_rfl) rfl (Ext.refl _) (by kernel_rfl) (f := 16) (args := #[.slice none 0 0, .int .u64 (A : Int)]) (by kernel_rfl) (put_any none 0 0 [] A _ (Src.nil _) (by omega) (by simp)) ?_
      rintro e w2 ⟨g2, cap2, rfl, hown2, hb2⟩
      refine ⟨_, rfl, hb2, ?_⟩
      simp only [Act.put, List.setIfInBounds_toArray, List.set_cons_succ, List.set_cons_zero]
      refine wpAnyH_callE (i := 4) (fuel := 27) 28 rfl (by kernel_rfl) rfl (Ext.refl _) (by kernel_rfl) (f := 16) (args := #[.slice none 0 0, .int .u64 (C : Int)]) (by kernel_rfl) (put_any none 0 0 [] C _ (Src.nil _) (by omega) (by simp)) ?_
      rintro e w3 ⟨g3, cap3, rfl, hown3, hb3⟩
      refine ⟨_, rfl, hb3, ?_⟩
      simp only [Act.put, List.setIfInBounds_toArray, List.set_cons_succ, List.set_cons_zero]
      refine wpAnyH_callE (i := 5) (fuel := 26) 29 rfl (by kernel_rfl) rfl (Ext.refl _) (by kernel_rfl) (f := 27) (args := #[.slice (some ⟨g2, 0, none⟩) (join [] (enc A)).length cap2, .slice (some ⟨g3, 0, none⟩) (join [] (enc C)).length cap3]) (by kernel_rfl) (begins_any _ _ _ _ _ _ _ _ _ (src_of_own hown2 hb3) hown3.src) ?_
      rintro e w4 ⟨rfl, hb4⟩
      refine ⟨_, rfl, hb4, ?_⟩
      simp only [Act.put, List.setIfInBounds_toArray, List.set_cons_succ, List.set_cons_zero]
      refine wpAnyH_seg (by kernel_rfl) (fun _ _ _ h => h) [9, 10, 11, 12, 14, 17, 18, 19] 18 _ _ _ (Ext.refl _) (by kernel_rfl) ?_
      haveI n1 := cls_ext w4
      simp only [opsAt, List.getElem?_toArray, List.getElem?_cons_zero, List.getElem?_cons_succ, List.cons_append, List.nil_append]
      repeat (go_big_quiet_step (fail))
      refine wpQuiet_nil ?_
      clear n1 hown2 hown3
      refine wpAnyH_callE (i := 13) (fuel := 17) 37 rfl (by kernel_rfl) rfl (Ext.refl _) (by kernel_rfl) (f := 18) (args := #[.slice none 0 0, .string s]) (by kernel_rfl) (text_any none 0 0 [] s _ (Src.nil _) (by simp; omega)) ?_
      rintro e w5 ⟨g5, cap5, rfl, hown5, hb5⟩
      refine ⟨_, rfl, hb5, ?_⟩
      simp only [Act.put, List.setIfInBounds_toArray, List.set_cons_succ, List.set_cons_zero]
      refine wpAnyH_callE (i := 15) (fuel := 16) 39 rfl (by kernel_rfl) rfl (Ext.refl _) (by kernel_rfl) (f := 18) (args := #[.slice none 0 0, .string t]) (by kernel_rfl) (text_any none 0 0 [] t _ (Src.nil _) (by simp; omega)) ?_
      rintro e w6 ⟨g6, cap6, rfl, hown6, hb6⟩
      refine ⟨_, rfl, hb6, ?_⟩
      simp only [Act.put, List.setIfInBounds_toArray, List.set_cons_succ, List.set_cons_zero]
      refine wpAnyH_callE (i := 16) (fuel := 15) 40 rfl (by kernel_rfl) rfl (Ext.refl _) (by kernel_rfl) (f := 27) (args := #[.slice (some ⟨g5, 0, none⟩) (join (join [] (enc s.size)) s.data.toList).length cap5, .slice (some ⟨g6, 0, none⟩) (join (join [] (enc t.size)) t.data.toList).length cap6]) (by kernel_rfl) (begins_any _ _ _ _ _ _ _ _ _ (src_of_own hown5 hb6) hown6.src) ?_
      rintro e w7 ⟨rfl, hb7⟩
      refine ⟨_, rfl, hb7, ?_⟩
      simp only [Act.put, List.setIfInBounds_toArray, List.set_cons_succ, List.set_cons_zero]
      have hE7 : Ext w1.drew w7 := Ext.trans hb2 (Ext.trans hb3 (Ext.trans hb4 (Ext.trans hb5 (Ext.trans hb6 hb7))))
      have k0 := cellE ((Below.cell hE7 (cell_lt c0)).trans c0)
      have k1 := cellE ((Below.cell hE7 (cell_lt c1)).trans c1)
      have k2 := cellE ((Below.cell hE7 (cell_lt c2)).trans c2)
      have k3 := cellE ((Below.cell hE7 (cell_lt c3)).trans c3)
      clear hown5 hown6 hb2 hb3 hb4 hb5 hb6 hb7
      refine wpAnyH_seg (by kernel_rfl) (fun _ _ _ h => h) [20, 21, 22, 23, 24, 26, 29, 30, 31] 6 _ _ _ (Ext.refl _) (by kernel_rfl) ?_
      haveI n1 := cls_ext w7
      simp only [opsAt, List.getElem?_toArray, List.getElem?_cons_zero, List.getElem?_cons_succ, List.cons_append, List.nil_append]
      repeat (go_big_quiet_step (fail))
      refine wpQuiet_nil ?_
      clear n1 k0 k1 k2 k3
      refine wpAnyH_callE (i := 25) (fuel := 5) 49 rfl (by kernel_rfl) rfl (Ext.refl _) (by kernel_rfl) (f := 19) (args := #[.slice none 0 0, .agg #[.int .u64 (X1 : Int), .int .i64 y1]]) (by kernel_rfl) (tid_any none 0 0 [] X1 y1 _ (Src.nil _) (by omega) (by simp)) ?_
      rintro e w8 ⟨g8, cap8, rfl, hown8, hb8⟩
      refine ⟨_, rfl, hb8, ?_⟩
      simp only [Act.put, List.setIfInBounds_toArray, List.set_cons_succ, List.set_cons_zero]
      refine wpAnyH_callE (i := 27) (fuel := 4) 51 rfl (by kernel_rfl) rfl (Ext.refl _) (by kernel_rfl) (f := 19) (args := #[.slice none 0 0, .agg #[.int .u64 (X2 : Int), .int .i64 y2]]) (by kernel_rfl) (tid_any none 0 0 [] X2 y2 _ (Src.nil _) (by omega) (by simp)) ?_
      rintro e w9 ⟨g9, cap9, rfl, hown9, hb9⟩
      refine ⟨_, rfl, hb9, ?_⟩
      simp only [Act.put, List.setIfInBounds_toArray, List.set_cons_succ, List.set_cons_zero]
      refine wpAnyH_callE (i := 28) (fuel := 3) 52 rfl (by kernel_rfl) rfl (Ext.refl _) (by kernel_rfl) (f := 27) (args := #[.slice (some ⟨g8, 0, none⟩) (join (join [] (enc X1)) (enc (uns y1))).length cap8, .slice (some ⟨g9, 0, none⟩) (join (join [] (enc X2)) (enc (uns y2))).length cap9]) (by kernel_rfl) (begins_any _ _ _ _ _ _ _ _ _ (src_of_own hown8 hb9) hown9.src) ?_
      rintro e w10 ⟨rfl, hb10⟩
      refine ⟨_, rfl, hb10, ?_⟩
      simp only [Act.put, List.setIfInBounds_toArray, List.set_cons_succ, List.set_cons_zero]
      have hE10 : Ext w1.drew w10 := Ext.trans hE7 (Ext.trans hb8 (Ext.trans hb9 hb10))
      clear hown8 hown9 hb8 hb9 hb10 hE7 c0 c1 c2 c3
      refine wpAnyH_seg (by kernel_rfl) (fun _ _ _ h => h) [32, 33, 34] 0 _ _ _ (Ext.refl _) (by kernel_rfl) ?_
      haveI n1 := cls_ext w10
      simp only [opsAt, List.getElem?_toArray, List.getElem?_cons_zero, List.getElem?_cons_succ, List.cons_append, List.nil_append]
      repeat (go_big_quiet_step (fail))
      refine wpQuiet_nil ?_
      clear n1
      refine wpAnyH_done (by kernel_rfl) (NoPanic.normal ?_) 0
      have hB10 : Below w.heap.size w w10 := hB1.drew.trans (Below.mono hE10 hB1.size)
      clear hE10 heq z1 z2 z3
      go_wp2
      go_ret
      exact ⟨rfl, hB10⟩
  · by_cases hs2 : s.size ≤ 200
    · have ht2 : 200 < t.size := by omega
      clear hsz
      go_enter Try.func6, Try.ntmps6
      go_wp2_with fail
      refine (head_any _).mono ?_
      rintro e w1 ⟨rfl, hb1⟩
      have hB1 : Below w.heap.size w w1 := (((Below.refl _ _).alloc (Nat.le_refl _) _).alloc (by simp) _).trans (hb1.mono (by simp; omega))
      clear hb1
      go_wp2
      go_ret
      exact ⟨rfl, hB1⟩
    · clear hsz
      go_enter Try.func6, Try.ntmps6
      go_wp2_with fail
      refine (head_any _).mono ?_
      rintro e w1 ⟨rfl, hb1⟩
      have hB1 : Below w.heap.size w w1 := (((Below.refl _ _).alloc (Nat.le_refl _) _).alloc (by simp) _).trans (hb1.mono (by simp; omega))
      clear hb1
      go_wp2
      go_ret
      exact ⟨rfl, hB1⟩
end Go.Proofs.Ytopnblhedankcaa
