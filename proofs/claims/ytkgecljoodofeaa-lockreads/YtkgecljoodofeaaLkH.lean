/- lock: judge, walked. Own lemmas, no statement. -/
import Derived.Test.YtkgecljoodofeaaLkG
set_option linter.unusedSimpArgs false
set_option linter.unusedVariables false
namespace Go.Proofs.Ytkgecljoodofeaa
open Go.ChangeShapes Go.WideShapes Go.ChangeAt Go.RowKit

set_option maxRecDepth 100000 in
set_option maxHeartbeats 4000000 in
theorem judge_any (hv wv : Value) (has ls : List Wn) (x : Wn) (at_ : Nat) (w : World) (hh : RowW w hv has) (hp : RowW w wv ls) (hat : at_ ≤ ls.length) (hl : has.length ≤ 100000) (hn : ls.length ≤ 100000) :
    Calls Try.prog 27 #[.agg #[hv, wv], .agg #[.int .u64 x.num, .int .i64 x.node, .int .i64 x.mode], .int .i64 (at_ : Int)] w fun e w' => e = .returned (.int .i64 (judgeN has ls x at_)) ∧ Ext w w' := by
  have HH0 : Hid (RowW w hv has) := hh
  obtain ⟨w0, hw0⟩ : ∃ w0, w0 = (w.alloc (.cells #[hv, wv] 67)).alloc (.cells #[.int .u64 x.num, .int .i64 x.node, .int .i64 x.mode] 55) := ⟨_, rfl⟩
  have HB1 : Hid (Ext w w0) := by rw [hw0]; exact ext_two _ _
  have b1 : Blk w0 w.heap.size #[hv, wv] 67 := by rw [hw0]; exact (Blk.new _ _ _).alloc _
  have b2 : Blk w0 (w.heap.size + 1) #[.int .u64 x.num, .int .i64 x.node, .int .i64 x.mode] 55 := by
    have := Blk.new (w.alloc (.cells #[hv, wv] 67)) #[.int .u64 x.num, .int .i64 x.node, .int .i64 x.mode] 55
    rw [hw0]
    simpa using this
  have B1 : Hid (Blk w0 w.heap.size #[hv, wv] 67) := b1
  have B2 : Hid (Blk w0 (w.heap.size + 1) #[.int .u64 x.num, .int .i64 x.node, .int .i64 x.mode] 55) := b2
  obtain ⟨ao, c, rfl, h1, h2, hz, h3⟩ := hp
  obtain ⟨ho, hc, rfl, g1, g2, gz, g3⟩ := hh
  have hsl1 := fun W => sliceW_from ao ls.length c at_ hat h1 hz W
  have hsl2 := fun W => sliceW_to ao ls.length c at_ hat h1 hz W
  have HD : Hid (RowAt w0 (if c = at_ then ao else ao.map (·.add (at_ * 3))) (ls.drop at_)) := (h3.from_ at_ c h1 hat).below HB1.out
  have HT : Hid (RowAt w0 ao (ls.take at_)) := (h3.to at_).below HB1.out
  have HJ1 : Hid ((ls.drop at_).any (bad1 x) = true → judgeN has ls x at_ = 3) := fun h => by unfold judgeN; rw [if_pos h]
  have HJ2 : Hid ((ls.drop at_).any (bad1 x) = false → (has ++ ls.take at_).any (bad2 x) = true → judgeN has ls x at_ = 3) := fun h k => by unfold judgeN; rw [if_neg (by rw [h]; decide), if_pos k]
  have HJ3 : Hid ((ls.drop at_).any (bad1 x) = false → (has ++ ls.take at_).any (bad2 x) = false → judgeN has ls x at_ = ansN x (has ++ ls.take at_)) := fun h k => by unfold judgeN; rw [if_neg (by rw [h]; decide), if_neg (by rw [k]; decide)]
  have HLT : Hid ((ls.take at_).length = at_) := by show _ = _; rw [List.length_take]; omega
  have HLD : Hid ((ls.drop at_).length = ls.length - at_) := List.length_drop
  have HZ : Hid (ao = none → c = 0) := hz
  clear h3
  generalize judgeN has ls x at_ = J at *
  generalize ls.drop at_ = D at *
  generalize ls.take at_ = T at *
  generalize (if c = at_ then ao else ao.map (·.add (at_ * 3))) = ad at *
  obtain ⟨n, hln⟩ : ∃ n, ls.length = n := ⟨_, rfl⟩
  obtain ⟨k, hk⟩ : ∃ k, k = ls.length - at_ := ⟨_, rfl⟩
  obtain ⟨m, hm⟩ : ∃ m, has.length = m := ⟨_, rfl⟩
  have HLH : Hid (has.length = m) := hm
  rw [← hk] at HLD hsl1
  rw [hln] at h1 hat hn hw0 hsl1 hsl2 B1 b1 hk ⊢
  rw [hm] at hw0 g1 hl B1 b1 ⊢
  unfold maxLen at h2 g2
  clear hln hm g3 gz hz
  have c0 : w0.cell? ⟨w.heap.size, 0, none⟩ = some (.slice ho m hc) := b1.cell 0
  have c1 : w0.cell? ⟨w.heap.size, 1, none⟩ = some (.slice ao n c) := b1.cell 1
  clear b1 b2
  go_enter Try.func27, Try.ntmps27
  go_upto_region 1 with fail
  rw [← hw0]
  clear hw0
  go_wp2_with fail
  clear hsl1 c0 c1
  go_loopw [17] (fun vi wr => ∃ i : Nat, vi = .int .i64 (i : Int) ∧ i ≤ k ∧ (∀ j (hj : j < D.length), j < i → bad1 x D[j] = false) ∧ Ext w0 wr) (fun vi _ => k - (intOf vi).toNat)
  case atStart => exact ⟨0, rfl, Nat.zero_le _, fun j hj h => by omega, Ext.refl _⟩
  case round =>
    obtain ⟨i, rfl, hin, hpr, hE⟩ := hrel
    have HPR : Hid (∀ j (hj : j < D.length), j < i → bad1 x D[j] = false) := hpr
    have HE : Hid (Ext w0 wr) := hE
    clear hpr
    by_cases hlt : i < k
    · have hil : i < D.length := by rw [HLD.out]; exact hlt
      obtain ⟨a0, ha0⟩ := HD.out.ad hil
      subst ha0
      obtain ⟨k0, k1, k2⟩ := (HD.out.below hE).2 a0 rfl i hil
      obtain ⟨y, hy⟩ : ∃ y, y = D[i] := ⟨_, rfl⟩
      rw [← hy] at k0 k1 k2
      have HX : Hid (y = D[i]) := hy
      clear hy
      obtain ⟨w1, hw1⟩ : ∃ w1, w1 = wr.alloc (.cells #[.int .u64 y.num, .int .i64 y.node, .int .i64 y.mode] 55) := ⟨_, rfl⟩
      have hE1 : Ext wr w1 := by rw [hw1]; exact ext_one _
      have d0 : w1.cell? ⟨wr.heap.size, 0, none⟩ = some (.int .u64 y.num) := by rw [hw1]; exact (Blk.new _ _ _).cell 0
      have d1 : w1.cell? ⟨wr.heap.size, 1, none⟩ = some (.int .i64 y.node) := by rw [hw1]; exact (Blk.new _ _ _).cell 1
      have d2 : w1.cell? ⟨wr.heap.size, 2, none⟩ = some (.int .i64 y.mode) := by rw [hw1]; exact (Blk.new _ _ _).cell 2
      have hE01 : Ext w0 w1 := Ext.trans hE hE1
      have e0 : w1.cell? ⟨w.heap.size + 1, 0, none⟩ = some (.int .u64 x.num) := (Below.cell hE01 (cell_lt (B2.out.cell 0))).trans (B2.out.cell 0)
      have e1 : w1.cell? ⟨w.heap.size + 1, 1, none⟩ = some (.int .i64 x.node) := (Below.cell hE01 (cell_lt (B2.out.cell 1))).trans (B2.out.cell 1)
      have e2 : w1.cell? ⟨w.heap.size + 1, 2, none⟩ = some (.int .i64 x.mode) := (Below.cell hE01 (cell_lt (B2.out.cell 2))).trans (B2.out.cell 2)
      have HD0 : Hid (w1.cell? ⟨wr.heap.size, 0, none⟩ = some (.int .u64 y.num)) := d0
      have HD01 : Hid (w1.cell? ⟨wr.heap.size, 1, none⟩ = some (.int .i64 y.node)) := d1
      have HE0 : Hid (w1.cell? ⟨w.heap.size + 1, 0, none⟩ = some (.int .u64 x.num)) := e0
      have HE1 : Hid (w1.cell? ⟨w.heap.size + 1, 1, none⟩ = some (.int .i64 x.node)) := e1
      have HAG : Hid (Calls _ _ _ _ _) := against_any x y w1
      have HEW : Hid (Ext w0 w1) := Ext.trans hE hE1
      clear hE hE1 hE01
      go_upto_region 4 with fail
      rw [← hw1]
      clear hw1
      go_wp2_with fail
      refine HAG.out.mono ?_
      rintro e w2 ⟨rfl, hE2⟩
      have d0 := (Below.cell hE2 (cell_lt HD0.out)).trans HD0.out
      have d1 := (Below.cell hE2 (cell_lt HD01.out)).trans HD01.out
      have e0 := (Below.cell hE2 (cell_lt HE0.out)).trans HE0.out
      have e1 := (Below.cell hE2 (cell_lt HE1.out)).trans HE1.out
      have HEW2 : Hid (Ext w0 w2) := Ext.trans HEW.out hE2
      clear hE2 HAG HEW HD0 HD01 HE0 HE1 k0 k1 k2
      obtain ⟨b, hb⟩ : ∃ b, agB x y = b := ⟨_, rfl⟩
      rw [hb]
      have HB : Hid (agB x y = b) := hb
      clear hb
      cases b with
      | false =>
        have HBD : Hid (bad1 x D[i] = false) := by show _ = _; rw [← HX.out]; unfold bad1; rw [HB.out]; rfl
        go_wp2
        go_roundw
        case rel =>
          refine ⟨i + 1, by go_num, hlt, fun j hj hji => ?_, HEW2.out⟩
          rcases (show j < i ∨ j = i by omega) with h | rfl
          · exact HPR.out j hj h
          · exact HBD.out
        case measure => simp [intOf]; omega
      | true =>
        have HEL : Hid (Calls _ _ _ _ _) := elder_any y.num y.node x.num x.node w2
        go_wp2_with fail
        refine HEL.out.mono ?_
        rintro e w3 ⟨rfl, hE3⟩
        have HEW3 : Hid (Ext w0 w3) := Ext.trans HEW2.out hE3
        clear hE3 HEL d0 d1 e0 e1
        obtain ⟨b2, hb2⟩ : ∃ b2, elderB y.num y.node x.num x.node = b2 := ⟨_, rfl⟩
        rw [hb2]
        have HB2 : Hid (eldT y.t x.t = b2) := hb2
        clear hb2
        cases b2 with
        | true =>
          have HBD : Hid (bad1 x D[i] = false) := by show _ = _; rw [← HX.out]; unfold bad1; rw [HB.out, HB2.out]; rfl
          go_wp2
          go_roundw
          case rel =>
            refine ⟨i + 1, by go_num, hlt, fun j hj hji => ?_, HEW3.out⟩
            rcases (show j < i ∨ j = i by omega) with h | rfl
            · exact HPR.out j hj h
            · exact HBD.out
          case measure => simp [intOf]; omega
        | false =>
          have HBD : Hid (D.any (bad1 x) = true) := any_true hil (by rw [← HX.out]; unfold bad1; rw [HB.out, HB2.out]; rfl)
          go_wp2
          go_ret
          exact ⟨by rw [HJ1.out HBD.out]; rfl, Ext.trans HB1.out HEW3.out⟩
    · have HD1 : Hid (D.any (bad1 x) = false) := any_false fun j hj => HPR.out j hj (by have := HLD.out; omega)
      have c0 : wr.cell? ⟨w.heap.size, 0, none⟩ = some (.slice ho m hc) := (Below.cell hE (cell_lt (B1.out.cell 0))).trans (B1.out.cell 0)
      have c1 : wr.cell? ⟨w.heap.size, 1, none⟩ = some (.slice ao n c) := (Below.cell hE (cell_lt (B1.out.cell 1))).trans (B1.out.cell 1)
      have q0 := cellX (W0 := wr.drew) c0
      have q1 := cellX (W0 := wr.drew) c1
      obtain ⟨w3, hw3⟩ : ∃ w3, w3 = wr.drew.alloc (.cells #[.slice ho m hc, .slice ao at_ c] 35) := ⟨_, rfl⟩
      have HE3 : Hid (Ext wr.drew w3) := by rw [hw3]; exact ext_one _
      have HB3 : Hid (Blk w3 wr.heap.size #[.slice ho m hc, .slice ao at_ c] 35) := by rw [hw3]; exact Blk.new _ _ _
      have hEw : Ext w w3 := Ext.trans HB1.out (Ext.trans (Below.drew hE) HE3.out)
      have HCC : Hid (Calls _ _ _ _ _) := concatW_any ⟨wr.heap.size, 0, none⟩ 2 [has, T] w3 (fun i l hi => by
        match i, hi with
        | 0, hi =>
          simp at hi
          subst hi
          refine ⟨ho, m, hc, by rw [add0]; exact HB3.out.cell 0, ?_⟩
          have := HH0.out.below hEw
          rw [HLH.out] at this
          exact this
        | 1, hi =>
          simp at hi
          subst hi
          refine ⟨ao, at_, c, by rw [add0]; exact HB3.out.cell 1, ao, c, by rw [HLT.out], by rw [HLT.out]; omega, by unfold maxLen; omega, HZ.out, ?_⟩
          exact HT.out.below (Ext.trans (Below.drew hE) HE3.out)
        | i + 2, hi => simp at hi) (by simp) (by simp [HLT.out, HLH.out]; omega)
      have hfl : [has, T].flatten = has ++ T := by simp
      rw [hfl] at HCC
      clear hfl hEw hin c0 c1
      haveI n1 := cls_ext wr.drew
      go_wp2_with fail
      have hdd : decide (i < n - at_) = false := by simp; omega
      rw [hdd]
      clear hlt hdd
      refine wp_region_ext (by kernel_rfl) ?_
      refine wpAnyH_seg (by kernel_rfl) (fun _ _ _ h => h) [0, 1, 2, 3, 4, 5, 9] 3 _ _ _ (Ext.refl _) (by kernel_rfl) ?_
      simp only [opsAt, List.getElem?_toArray, List.getElem?_cons_zero, List.getElem?_cons_succ, List.cons_append, List.nil_append]
      repeat (go_big_quiet_step (fail))
      refine wpQuiet_nil ?_
      clear q0 q1 n1 hsl2
      refine wpAnyH_all (rs := [6]) (fuel := 2) (by kernel_rfl) (by simp) fun j hj => ?_
      obtain rfl : j = 6 := by simpa using hj
      clear hj
      refine wpOp_value 39 rfl (by kernel_rfl) rfl (exec_buildR rfl rfl rfl) ?_
      rw [← hw3, show wr.drew.heap.size = wr.heap.size from rfl]
      refine ⟨HE3.out, ?_⟩
      simp only [Act.put, List.setIfInBounds_toArray, List.set_cons_succ, List.set_cons_zero]
      refine wpAnyH_callE (i := 7) (fuel := 1) 40 rfl (by kernel_rfl) rfl HE3.out (by kernel_rfl) (f := 46) (args := #[.slice (some ⟨wr.heap.size, 0, none⟩) 2 2]) (by kernel_rfl) HCC.out ?_
      rintro e w4 ⟨v4, rfl, ho4, hE4⟩
      refine ⟨_, rfl, hE4, ?_⟩
      have HE4 : Hid (Ext w0 w4) := Ext.trans (Ext.trans (Below.drew hE) HE3.out) hE4
      have HR4 : Hid (RowW w4 v4 (has ++ T)) := ho4.row
      clear hw3 HCC ho4 hE4 HB3 HE3 hE HE
      obtain ⟨C, hC⟩ : ∃ C, has ++ T = C := ⟨_, rfl⟩
      have HLC : Hid (C.length = m + at_) := by show _ = _; rw [← hC, List.length_append, HLT.out, HLH.out]
      rw [hC] at HR4 HJ2 HJ3
      clear hC
      obtain ⟨a4, c4, hv4, r1, r2, _, r3⟩ := HR4.out
      rw [HLC.out] at hv4 r1
      subst hv4
      have HR5 : Hid (RowAt w4 a4 C) := r3
      obtain ⟨M, hM⟩ : ∃ M, M = m + at_ := ⟨_, rfl⟩
      rw [← hM] at r1 HLC
      have HM : Hid (M = m + at_) := hM
      have hMl : M ≤ 200000 := by omega
      rw [← hM]
      unfold maxLen at r2
      clear r3 HR4 hM
      haveI n2 := cls_ext w4
      simp only [Act.put, List.setIfInBounds_toArray, List.set_cons_succ, List.set_cons_zero]
      refine wpAnyH_seg (by kernel_rfl) (fun _ _ _ h => h) [8] 0 _ _ _ (Ext.refl _) (by kernel_rfl) ?_
      simp only [opsAt, List.getElem?_toArray, List.getElem?_cons_zero, List.getElem?_cons_succ, List.cons_append, List.nil_append]
      repeat (go_big_quiet_step (fail))
      refine wpQuiet_nil ?_
      refine wpAnyH_done (by kernel_rfl) (NoPanic.normal ?_) 0
      clear n2
      go_wp2_with fail
      go_loopw [9, 42] (fun va vi wr => ∃ (i : Nat) (a : Int), vi = .int .i64 (i : Int) ∧ va = .int .i64 a ∧ i ≤ M ∧ a = ansN x (C.take i) ∧ (∀ j (hj : j < C.length), j < i → bad2 x C[j] = false) ∧ Ext w4 wr) (fun _ vi _ => M - (intOf vi).toNat)
      case atStart => exact ⟨0, 1, rfl, rfl, Nat.zero_le _, by simp [ansN], fun j hj h => by omega, Ext.refl _⟩
      case round =>
        obtain ⟨i, a, rfl, rfl, hin, ha, hpr, hE⟩ := hrel
        have HPR2 : Hid (∀ j (hj : j < C.length), j < i → bad2 x C[j] = false) := hpr
        have HA : Hid (a = ansN x (C.take i)) := ha
        clear hpr ha
        by_cases hlt : i < M
        · have hil : i < C.length := by rw [HLC.out]; exact hlt
          obtain ⟨a0, ha0⟩ := HR5.out.ad hil
          subst ha0
          obtain ⟨k0, k1, k2⟩ := (HR5.out.below hE).2 a0 rfl i hil
          obtain ⟨y, hy⟩ : ∃ y, y = C[i] := ⟨_, rfl⟩
          rw [← hy] at k0 k1 k2
          have HX : Hid (y = C[i]) := hy
          clear hy
          obtain ⟨w1, hw1⟩ : ∃ w1, w1 = wr.alloc (.cells #[.int .u64 y.num, .int .i64 y.node, .int .i64 y.mode] 55) := ⟨_, rfl⟩
          have hE1 : Ext wr w1 := by rw [hw1]; exact ext_one _
          have d0 : w1.cell? ⟨wr.heap.size, 0, none⟩ = some (.int .u64 y.num) := by rw [hw1]; exact (Blk.new _ _ _).cell 0
          have d1 : w1.cell? ⟨wr.heap.size, 1, none⟩ = some (.int .i64 y.node) := by rw [hw1]; exact (Blk.new _ _ _).cell 1
          have d2 : w1.cell? ⟨wr.heap.size, 2, none⟩ = some (.int .i64 y.mode) := by rw [hw1]; exact (Blk.new _ _ _).cell 2
          have hE01 : Ext w0 w1 := Ext.trans (Ext.trans HE4.out hE) hE1
          have e0 : w1.cell? ⟨w.heap.size + 1, 0, none⟩ = some (.int .u64 x.num) := (Below.cell hE01 (cell_lt (B2.out.cell 0))).trans (B2.out.cell 0)
          have e1 : w1.cell? ⟨w.heap.size + 1, 1, none⟩ = some (.int .i64 x.node) := (Below.cell hE01 (cell_lt (B2.out.cell 1))).trans (B2.out.cell 1)
          have e2 : w1.cell? ⟨w.heap.size + 1, 2, none⟩ = some (.int .i64 x.mode) := (Below.cell hE01 (cell_lt (B2.out.cell 2))).trans (B2.out.cell 2)
          have HD0 : Hid (w1.cell? ⟨wr.heap.size, 0, none⟩ = some (.int .u64 y.num)) := d0
          have HD01 : Hid (w1.cell? ⟨wr.heap.size, 1, none⟩ = some (.int .i64 y.node)) := d1
          have HE0 : Hid (w1.cell? ⟨w.heap.size + 1, 0, none⟩ = some (.int .u64 x.num)) := e0
          have HE1 : Hid (w1.cell? ⟨w.heap.size + 1, 1, none⟩ = some (.int .i64 x.node)) := e1
          have HAG : Hid (Calls _ _ _ _ _) := against_any x y w1
          have HEW : Hid (Ext w4 w1) := Ext.trans hE hE1
          clear hE hE1 hE01
          go_upto_region 11 with fail
          rw [← hw1]
          clear hw1
          go_wp2_with fail
          refine HAG.out.mono ?_
          rintro e w2 ⟨rfl, hE2⟩
          have d0 := (Below.cell hE2 (cell_lt HD0.out)).trans HD0.out
          have d1 := (Below.cell hE2 (cell_lt HD01.out)).trans HD01.out
          have e0 := (Below.cell hE2 (cell_lt HE0.out)).trans HE0.out
          have e1 := (Below.cell hE2 (cell_lt HE1.out)).trans HE1.out
          have HEW2 : Hid (Ext w4 w2) := Ext.trans HEW.out hE2
          clear hE2 HAG HEW HD0 HD01 HE0 HE1 k0 k1 k2
          obtain ⟨b, hb⟩ : ∃ b, agB x y = b := ⟨_, rfl⟩
          rw [hb]
          have HB : Hid (agB x y = b) := hb
          clear hb
          have HAT : Hid (ansN x (C.take (i + 1)) = if agB x C[i] then 2 else ansN x (C.take i)) := ansN_take hil
          cases b with
          | false =>
            have HBD : Hid (bad2 x C[i] = false) := by show _ = _; rw [← HX.out]; unfold bad2; rw [HB.out]; rfl
            have HAN : Hid (a = ansN x (C.take (i + 1))) := by show _ = _; rw [HAT.out, ← HX.out, HB.out]; exact HA.out
            go_wp2
            go_roundw
            case rel =>
              refine ⟨i + 1, a, by go_num, rfl, hlt, HAN.out, fun j hj hji => ?_, HEW2.out⟩
              rcases (show j < i ∨ j = i by omega) with h | rfl
              · exact HPR2.out j hj h
              · exact HBD.out
            case measure => simp [intOf]; omega
          | true =>
            have HEL : Hid (Calls _ _ _ _ _) := elder_any x.num x.node y.num y.node w2
            go_wp2_with fail
            refine HEL.out.mono ?_
            rintro e w3 ⟨rfl, hE3⟩
            have HEW3 : Hid (Ext w4 w3) := Ext.trans HEW2.out hE3
            clear hE3 HEL d0 d1 e0 e1
            obtain ⟨b2, hb2⟩ : ∃ b2, elderB x.num x.node y.num y.node = b2 := ⟨_, rfl⟩
            rw [hb2]
            have HB2 : Hid (eldT x.t y.t = b2) := hb2
            clear hb2
            cases b2 with
            | true =>
              have HBD : Hid (bad2 x C[i] = false) := by show _ = _; rw [← HX.out]; unfold bad2; rw [HB.out, HB2.out]; rfl
              have HAN : Hid (2 = ansN x (C.take (i + 1))) := by show _ = _; rw [HAT.out, ← HX.out, HB.out]; rfl
              go_wp2
              go_roundw
              case rel =>
                refine ⟨i + 1, 2, by go_num, rfl, hlt, HAN.out, fun j hj hji => ?_, HEW3.out⟩
                rcases (show j < i ∨ j = i by omega) with h | rfl
                · exact HPR2.out j hj h
                · exact HBD.out
              case measure => simp [intOf]; omega
            | false =>
              have HBD : Hid (C.any (bad2 x) = true) := any_true hil (by rw [← HX.out]; unfold bad2; rw [HB.out, HB2.out]; rfl)
              go_wp2
              go_ret
              exact ⟨by rw [HJ2.out HD1.out HBD.out]; rfl, Ext.trans HB1.out (Ext.trans HE4.out HEW3.out)⟩
        · have hiM : i = M := by omega
          have HF : Hid (C.any (bad2 x) = false) := any_false fun j hj => HPR2.out j hj (by have := HLC.out; omega)
          have HAA : Hid (a = ansN x C) := by show _ = _; rw [HA.out, List.take_of_length_le (by rw [HLC.out]; omega)]
          have HEE : Hid (Ext w wr) := Ext.trans HB1.out (Ext.trans HE4.out hE)
          clear hiM hE hin
          go_wp2
          go_ret
          exact ⟨by rw [HJ3.out HD1.out HF.out, HAA.out]; rfl, HEE.out⟩
end Go.Proofs.Ytkgecljoodofeaa
