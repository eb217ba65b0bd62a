/- DueRuns: rounds of the law's loop: Next. Own lemmas, no statement. -/
import Derived.Test.YtgoejoiomjmfaaaRunsL
namespace Go.Proofs.Ytgoejoiomjmfaaa
open Go.ChangeShapes Go.WideShapes Go.ChangeAt Go.RowKit

set_option maxRecDepth 100000 in
set_option maxHeartbeats 8000000 in
theorem run_next (w0 : World) (B : Nat) (x0 : Addr) (no co g k : Nat) (hk : k < no) (hk2 : k < 60) (T : Nat → Value) (x : Addr) (cap : Nat) (l : List Ent) (Tb : Key → Option Int) (wx : World) (Q : Exit → Act → World → Prop) (o : OpE) (hop0 : OpAt w0 x0 k o) (hR : RunsAt w0 B wx g k x cap l Tb) (hlk : l.length ≤ k) (h0 : o.k = 3) :
    Code.wp Try.prog (bodyOf Try.f3) (Exit.then (fun a' w' => RI w0 B (some x0) no co g a' w' ∧ Rmu a' w' < 60 - k) Q) ⟨fr T (.slice (some x0) no co) (.bool false) (.pointer (some ⟨g, 0, none⟩)) (.slice (some x) l.length cap) (.int .i64 (k : Int)), []⟩ wx := by
  have hd1 : decide ((k : Int) < (no : Int)) = true := decide_eq_true (by omega)
  have hd2 : decide ((k : Int) < 60) = true := decide_eq_true (by omega)
  have hop := hop0.below hR.bel
  have e0 : wx.cell? (x0.add (k * 5)) = some (.int .i64 o.k) := hop.c0
  have e1 : wx.cell? ⟨(x0.add (k * 5)).block, (x0.add (k * 5)).off + 1, none⟩ = some (.int .i64 o.e.kind) := cell_on (by omega) hop.c1
  have e2 : wx.cell? ⟨(x0.add (k * 5)).block, (x0.add (k * 5)).off + 2, none⟩ = some (.int .u64 o.e.num) := cell_on (by omega) hop.c2
  have e3 : wx.cell? ⟨(x0.add (k * 5)).block, (x0.add (k * 5)).off + 3, none⟩ = some (.int .i64 o.e.node) := cell_on (by omega) hop.c3
  have e4 : wx.cell? ⟨(x0.add (k * 5)).block, (x0.add (k * 5)).off + 4, none⟩ = some (.int .i64 o.e.at_) := cell_on (by omega) hop.c4
  have HOP : Hid (OpAt w0 x0 k o) := hop0
  have hbeL : Below wx.heap.size wx (wx.alloc (.cells #[.int .i64 o.k, .int .i64 o.e.kind, .int .u64 o.e.num, .int .i64 o.e.node, .int .i64 o.e.at_] 31)) := (Below.refl _ _).alloc (Nat.le_refl _) _
  have HR1 : Hid (RunsAt w0 B (wx.alloc (.cells #[.int .i64 o.k, .int .i64 o.e.kind, .int .u64 o.e.num, .int .i64 o.e.node, .int .i64 o.e.at_] 31)) g k x cap l Tb) := hR.below hbeL
  have HL1 : Hid (Blk (wx.alloc (.cells #[.int .i64 o.k, .int .i64 o.e.kind, .int .u64 o.e.num, .int .i64 o.e.node, .int .i64 o.e.at_] 31)) wx.heap.size (oC o) 31) := Blk.new wx _ _
  have hlen64 : (l.length : Int) ≤ 9223372036854775807 := by omega
  clear hop hop0 hR hbeL
  have q0 : (o.k == 0) = false := by rw [h0]; rfl
  have q1 : (o.k == 1) = false := by rw [h0]; rfl
  have q2 : (o.k == 2) = false := by rw [h0]; rfl
  have q3 : (o.k == 3) = true := by rw [h0]; rfl
  clear h0
  unfold fr
  conv => arg 2; whnf
  go_wp2_with fail
  refine wp_loop (FI (wx.alloc (.cells #[.int .i64 o.k, .int .i64 o.e.kind, .int .u64 o.e.num, .int .i64 o.e.node, .int .i64 o.e.at_] 31)) (.slice (some x0) no co) (.pointer (some ⟨g, 0, none⟩)) (.slice (some x) l.length cap) (.int .i64 (k : Int)) (.pointer (some ⟨wx.heap.size, 0, none⟩)) (.slice (some x) l.length cap) (.int .i64 (l.length : Int)) l o.e.key) (Fmu l.length) ?_ ?_
  · exact ⟨0, -1, ⟨rfl, rfl, rfl, rfl, rfl, rfl, rfl, rfl, rfl, rfl, rfl, rfl⟩, by omega, Found.start _ _, Below.refl _ _⟩
  · clear e0 e1 e2 e3 e4
    rintro a wz ⟨j, at_, hsl, hj, hF, hb⟩
    have hmu : Fmu l.length a wz = l.length - j := by unfold Fmu; rw [hsl.2.2.2.2.2.2.2.2.2.2.2]; simp [intOf]
    rw [hmu]
    have hlit := hsl.lit
    generalize (fun i => a.tmps.getD i undef) = T2 at hlit
    subst hlit
    clear hsl hmu
    by_cases hlt : j < l.length
    · exact find_round (wx.alloc (.cells #[.int .i64 o.k, .int .i64 o.e.kind, .int .u64 o.e.num, .int .i64 o.e.node, .int .i64 o.e.at_] 31)) B (.slice (some x0) no co) (.pointer (some ⟨g, 0, none⟩)) (.int .i64 (k : Int)) x cap l wx.heap.size o T2 j at_ wz _ HR1.out.r HL1.out hlt hF hb
    · obtain rfl : j = l.length := by omega
      have hd3 : decide ((l.length : Int) < (l.length : Int)) = false := decide_eq_false (by omega)
      have HZ : Hid (AftAt w0 B wz g k l.length Tb x cap l wx.heap.size o) := (HR1.out.aft HL1.out).below hb
      have HTab : Hid (Tab Tb l) := HR1.out.t
      have HF : Hid (Found l o.e.key l.length at_) := hF
      have c0 : wz.cell? ⟨wx.heap.size, 0, none⟩ = some (.int .i64 o.k) := HZ.out.bo.cell 0
      have c1 : wz.cell? ⟨wx.heap.size, 1, none⟩ = some (.int .i64 o.e.kind) := HZ.out.bo.cell 1
      have c2 : wz.cell? ⟨wx.heap.size, 2, none⟩ = some (.int .u64 o.e.num) := HZ.out.bo.cell 2
      have c3 : wz.cell? ⟨wx.heap.size, 3, none⟩ = some (.int .i64 o.e.node) := HZ.out.bo.cell 3
      have c4 : wz.cell? ⟨wx.heap.size, 4, none⟩ = some (.int .i64 o.e.at_) := HZ.out.bo.cell 4
      clear hb hF hj hlt HR1 HL1
      generalize wx.heap.size = bo at *
      unfold frF
      clear HF
      go_wp2_with fail
      refine wp_loop (BI wz (.slice (some x0) no co) (.pointer (some ⟨g, 0, none⟩)) (.slice (some x) l.length cap) (.int .i64 (k : Int)) (.pointer (some ⟨bo, 0, none⟩)) (.int .i64 at_) (.int .i64 o.k) (.slice (some x) l.length cap) (.int .i64 (l.length : Int)) l o.e.at_) (Bmu l.length) ?_ ?_
      · exact ⟨0, -1, ⟨rfl, rfl, rfl, rfl, rfl, rfl, rfl, rfl, rfl, rfl, rfl, rfl, rfl, rfl⟩, by omega, Best.start _ _, Below.refl _ _⟩
      · clear c0 c1 c2 c3 c4 q0 q1 q2 q3 hd1 hd2
        rintro a wy ⟨j, b, hsl, hj, hF, hb⟩
        have hmu : Bmu l.length a wy = l.length - j := by unfold Bmu; rw [hsl.2.2.2.2.2.2.2.2.2.2.2.2.2]; simp [intOf]
        rw [hmu]
        have hlit := hsl.lit
        generalize (fun i => a.tmps.getD i undef) = T3 at hlit
        subst hlit
        clear hsl hmu
        by_cases hlt : j < l.length
        · exact best_round wz B (.slice (some x0) no co) (.pointer (some ⟨g, 0, none⟩)) (.int .i64 (k : Int)) (.int .i64 at_) (.int .i64 o.k) x cap l bo o T3 j b wy _ HZ.out.r HZ.out.bo hlt hF hb
        · obtain rfl : j = l.length := by omega
          have HY : Hid (AftAt w0 B wy g k l.length Tb x cap l bo o) := HZ.out.below hb
          have HF : Hid (Best l o.e.at_ l.length b) := hF
          have c4 : wy.cell? ⟨bo, 4, none⟩ = some (.int .i64 o.e.at_) := HY.out.bo.cell 4
          have HX : Hid (Calls _ _ _ _ _) := aft_next HY.out o.e.at_ (by omega)
          clear hb hF hj hlt HZ
          unfold iptr at *
          unfold frB
          go_wp2_with fail
          refine Calls.mono HX.out ?_
          rintro r w4 hN
          clear HX HY c4
          rcases hN with ⟨hr, hTn, hA⟩ | ⟨e, m, hr, hn, ht, ha, hm, hA⟩
          · skip
            subst hr
            obtain rfl : b = -1 := HF.out.nothing HTab.out hTn
            have hbA : Below w4.heap.size w4 (w4.alloc (.cells #[.int .i64 0, .int .i64 0, .int .u64 0, .int .i64 0] 34)).drew := ((Below.refl _ _).alloc (Nat.le_refl _) _).drew
            have HA : Hid (AftAt w0 B (w4.alloc (.cells #[.int .i64 0, .int .i64 0, .int .u64 0, .int .i64 0] 34)).drew g k l.length Tb x cap l bo o) := hA.below hbA
            have HE : Hid (RunsAt w0 B (w4.alloc (.cells #[.int .i64 0, .int .i64 0, .int .u64 0, .int .i64 0] 34)).drew g (k + 1) x cap l Tb) := (HA.out.same HTab.out).more
            have HLen : Hid (Calls _ _ _ _ _) := aft_len HA.out
            have r0 : (w4.alloc (.cells #[.int .i64 0, .int .i64 0, .int .u64 0, .int .i64 0] 34)).drew.cell? ⟨w4.heap.size, 0, none⟩ = some (.int .i64 0) := (Blk.new w4 _ _).cell 0
            have r1 : (w4.alloc (.cells #[.int .i64 0, .int .i64 0, .int .u64 0, .int .i64 0] 34)).drew.cell? ⟨w4.heap.size, 1, none⟩ = some (.int .i64 0) := (Blk.new w4 _ _).cell 1
            have r2 : (w4.alloc (.cells #[.int .i64 0, .int .i64 0, .int .u64 0, .int .i64 0] 34)).drew.cell? ⟨w4.heap.size, 2, none⟩ = some (.int .u64 0) := (Blk.new w4 _ _).cell 2
            have r3 : (w4.alloc (.cells #[.int .i64 0, .int .i64 0, .int .u64 0, .int .i64 0] 34)).drew.cell? ⟨w4.heap.size, 3, none⟩ = some (.int .i64 0) := (Blk.new w4 _ _).cell 3
            clear hTn hA hbA HA HF HTab
            unfold iptr at *
            go_wp2_with fail
            have l0 := cellW r0
            have l1 := cellW r1
            have l2 := cellW r2
            have l3 := cellW r3
            haveI nA := cls_one (w4.alloc (.cells #[.int .i64 0, .int .i64 0, .int .u64 0, .int .i64 0] 34)).drew
            refine wp_region_seg (fun x => x = (w4.alloc (.cells #[.int .i64 0, .int .i64 0, .int .u64 0, .int .i64 0] 34)).drew) (by kernel_rfl) ?_
            refine wpAnyH_seg (by kernel_rfl) (fun _ _ _ h => h) [0, 1, 2, 3, 4, 5, 6, 7, 8, 9, 10, 11, 12, 13, 14, 15, 16, 17, 18, 19, 20, 21, 22, 23] 0 _ _ _ rfl (by kernel_rfl) ?_
            simp only [opsAt, List.getElem?_toArray, List.getElem?_cons_zero, List.getElem?_cons_succ, List.cons_append, List.nil_append]
            repeat (go_big_quiet_step (fail))
            refine wpQuiet_nil ?_
            clear l0 l1 l2 l3 nA r0 r1 r2 r3
            refine wpAnyH_done (by kernel_rfl) (NoPanic.normal ?_) 0
            go_wp2_with fail
            refine Calls.mono HLen.out ?_
            rintro e w' ⟨rfl, hw⟩; rw [hw]; clear hw w' HLen
            go_wp2_with fail
            refine ⟨⟨k + 1, cap, x, l, Tb, ⟨rfl, rfl, rfl, rfl, rfl, rfl, by go_num⟩, by omega, by omega, by omega, HE.out⟩, ?_⟩
            simp [Rmu, intOf]; omega
          · skip
            subst hr
            obtain ⟨i, rfl, hie⟩ := HF.out.taken HTab.out ht ha hm
            have hi : i < l.length := (List.getElem?_eq_some_iff.1 hie).1
            have hlen2 : (l.eraseIdx i).length = l.length - 1 := by rw [List.length_eraseIdx, if_pos hi]
            have HT2 : Hid (Tab (delT Tb e.key) (l.eraseIdx i)) := HTab.out.erase hie
            have hbA : Below w4.heap.size w4 (w4.alloc (.cells #[.int .i64 e.at_, .int .i64 e.kind, .int .u64 e.num, .int .i64 e.node] 34)).drew := ((Below.refl _ _).alloc (Nat.le_refl _) _).drew
            have HA : Hid (AftAt w0 B (w4.alloc (.cells #[.int .i64 e.at_, .int .i64 e.kind, .int .u64 e.num, .int .i64 e.node] 34)).drew g k (l.eraseIdx i).length (delT Tb e.key) x cap l bo o) := by
              rw [hlen2, show l.length - 1 = m by omega]
              exact hA.below hbA
            obtain ⟨u0, u1, u2, u3⟩ := HA.out.r.at hie
            have r0 : (w4.alloc (.cells #[.int .i64 e.at_, .int .i64 e.kind, .int .u64 e.num, .int .i64 e.node] 34)).drew.cell? ⟨w4.heap.size, 0, none⟩ = some (.int .i64 e.at_) := (Blk.new w4 _ _).cell 0
            have r1 : (w4.alloc (.cells #[.int .i64 e.at_, .int .i64 e.kind, .int .u64 e.num, .int .i64 e.node] 34)).drew.cell? ⟨w4.heap.size, 1, none⟩ = some (.int .i64 e.kind) := (Blk.new w4 _ _).cell 1
            have r2 : (w4.alloc (.cells #[.int .i64 e.at_, .int .i64 e.kind, .int .u64 e.num, .int .i64 e.node] 34)).drew.cell? ⟨w4.heap.size, 2, none⟩ = some (.int .u64 e.num) := (Blk.new w4 _ _).cell 2
            have r3 : (w4.alloc (.cells #[.int .i64 e.at_, .int .i64 e.kind, .int .u64 e.num, .int .i64 e.node] 34)).drew.cell? ⟨w4.heap.size, 3, none⟩ = some (.int .i64 e.node) := (Blk.new w4 _ _).cell 3
            have hil : (i : Int) < (l.length : Int) := by omega
            have hi0 : decide (0 ≤ (i : Int)) = true := decide_eq_true (by omega)
            obtain ⟨y1, d1, w5, y2, d2, w6, k1, k2, hr6, hb6⟩ := HA.out.r.erase hie HA.out.size (by omega) 26
            have HR1 : Hid (_ = _) := k1
            have HR2 : Hid (_ = _) := k2
            have hE : RunsAt w0 B w6 g k y2 d2 (l.eraseIdx i) (delT Tb e.key) := HA.out.new HT2.out hb6 hr6
            have HE : Hid (RunsAt w0 B w6 g (k + 1) y2 d2 (l.eraseIdx i) (delT Tb e.key)) := hE.more
            have HLen : Hid (Calls _ _ _ _ _) := qs_len hE.q
            have hcap := HA.out.r.le
            have hlen3 : (l.eraseIdx i).length ≤ k := by omega
            have hi1 : ((i : Int) + 1) ≤ (l.length : Int) := by omega
            clear ht ha hm hn hA hbA HF HTab hie k1 k2 hr6 hb6 hE hlen2
            unfold iptr at *
            go_wp2_with fail
            have l0 := cellW r0
            have l1 := cellW r1
            have l2 := cellW r2
            have l3 := cellW r3
            have m0 := cellW u0
            have m1 := cellW u1
            have m2 := cellW u2
            have m3 := cellW u3
            haveI nA := cls_one (w4.alloc (.cells #[.int .i64 e.at_, .int .i64 e.kind, .int .u64 e.num, .int .i64 e.node] 34)).drew
            refine wp_region_seg (fun x => x = (w4.alloc (.cells #[.int .i64 e.at_, .int .i64 e.kind, .int .u64 e.num, .int .i64 e.node] 34)).drew) (by kernel_rfl) ?_
            refine wpAnyH_seg (by kernel_rfl) (fun _ _ _ h => h) [0, 1, 2, 3, 4, 5, 6, 7, 8, 9, 10, 11, 12, 13, 14, 15, 16, 17, 18, 19, 20, 21, 22, 23] 0 _ _ _ rfl (by kernel_rfl) ?_
            simp only [opsAt, List.getElem?_toArray, List.getElem?_cons_zero, List.getElem?_cons_succ, List.cons_append, List.nil_append]
            repeat (go_big_quiet_step (fail))
            refine wpQuiet_nil ?_
            clear l0 l1 l2 l3 m0 m1 m2 m3 nA r0 r1 r2 r3 u0 u1 u2 u3
            refine wpAnyH_done (by kernel_rfl) (NoPanic.normal ?_) 0
            by_cases hc : cap = i + 1
            · subst hc
              rw [show cutAt x (i + 1) i = x from if_pos rfl, Nat.sub_self, show l.length - (i + 1) = 0 by omega] at HR2
              haveI nA := cls_any w4
              go_wp2_with fail
              refine wp_region_seg (fun _ => True) (by kernel_rfl) ?_
              refine wpAnyH_seg (by kernel_rfl) (fun _ _ _ h => h) [1, 2, 3, 5, 6, 7, 8] 4 _ _ _ trivial (by kernel_rfl) ?_
              simp only [opsAt, List.getElem?_toArray, List.getElem?_cons_zero, List.getElem?_cons_succ, List.cons_append, List.nil_append]
              repeat (go_big_quiet_step (fail))
              refine wpQuiet_nil ?_
              clear nA
              refine wpAnyH_all (rs := [0]) (fuel := 3) (by kernel_rfl) (by simp) fun j hj => ?_
              obtain rfl : j = 0 := by simpa using hj
              refine wpOp_value 205 rfl (by kernel_rfl) rfl (exec_build0 rfl) ?_
              refine ⟨trivial, ?_⟩
              simp only [Act.put, List.setIfInBounds_toArray, List.set_cons_succ, List.set_cons_zero]
              refine wpAnyH_all (rs := [4]) (fuel := 2) (by kernel_rfl) (by simp) fun j hj => ?_
              obtain rfl : j = 4 := by simpa using hj
              refine wpOp_value 209 rfl (by kernel_rfl) rfl (exec_append rfl rfl rfl HR1.out) ?_
              refine ⟨trivial, ?_⟩
              simp only [Act.put, List.setIfInBounds_toArray, List.set_cons_succ, List.set_cons_zero]
              refine wpAnyH_all (rs := [9]) (fuel := 1) (by kernel_rfl) (by simp) fun j hj => ?_
              obtain rfl : j = 9 := by simpa using hj
              refine wpOp_value 214 rfl (by kernel_rfl) rfl (exec_append rfl rfl rfl HR2.out) ?_
              refine ⟨trivial, ?_⟩
              simp only [Act.put, List.setIfInBounds_toArray, List.set_cons_succ, List.set_cons_zero]
              haveI nB := cls_any w4
              refine wpAnyH_seg (by kernel_rfl) (fun _ _ _ h => h) [10] 0 _ _ _ trivial (by kernel_rfl) ?_
              simp only [opsAt, List.getElem?_toArray, List.getElem?_cons_zero, List.getElem?_cons_succ, List.cons_append, List.nil_append]
              repeat (go_big_quiet_step (fail))
              refine wpQuiet_nil ?_
              refine wpAnyH_done (by kernel_rfl) (NoPanic.normal ?_) 0
              go_wp2_with fail
              refine Calls.mono HLen.out ?_
              rintro e w' ⟨rfl, hw⟩; rw [hw]; clear hw w' HLen
              go_wp2_with fail
              refine ⟨⟨k + 1, d2, y2, l.eraseIdx i, _, ⟨rfl, rfl, rfl, rfl, rfl, rfl, by go_num⟩, by omega, by omega, by omega, HE.out⟩, ?_⟩
              simp [Rmu, intOf]; omega
            · rw [show cutAt x cap i = x.add ((i + 1) * 4) from if_neg hc] at HR2
              haveI nA := cls_any w4
              go_wp2_with fail
              refine wp_region_seg (fun _ => True) (by kernel_rfl) ?_
              refine wpAnyH_seg (by kernel_rfl) (fun _ _ _ h => h) [1, 2, 3, 5, 6, 7, 8] 4 _ _ _ trivial (by kernel_rfl) ?_
              simp only [opsAt, List.getElem?_toArray, List.getElem?_cons_zero, List.getElem?_cons_succ, List.cons_append, List.nil_append]
              repeat (go_big_quiet_step (fail))
              refine wpQuiet_nil ?_
              clear nA
              refine wpAnyH_all (rs := [0]) (fuel := 3) (by kernel_rfl) (by simp) fun j hj => ?_
              obtain rfl : j = 0 := by simpa using hj
              refine wpOp_value 205 rfl (by kernel_rfl) rfl (exec_build0 rfl) ?_
              refine ⟨trivial, ?_⟩
              simp only [Act.put, List.setIfInBounds_toArray, List.set_cons_succ, List.set_cons_zero]
              refine wpAnyH_all (rs := [4]) (fuel := 2) (by kernel_rfl) (by simp) fun j hj => ?_
              obtain rfl : j = 4 := by simpa using hj
              refine wpOp_value 209 rfl (by kernel_rfl) rfl (exec_append rfl rfl rfl HR1.out) ?_
              refine ⟨trivial, ?_⟩
              simp only [Act.put, List.setIfInBounds_toArray, List.set_cons_succ, List.set_cons_zero]
              refine wpAnyH_all (rs := [9]) (fuel := 1) (by kernel_rfl) (by simp) fun j hj => ?_
              obtain rfl : j = 9 := by simpa using hj
              refine wpOp_value 214 rfl (by kernel_rfl) rfl (exec_append rfl rfl rfl HR2.out) ?_
              refine ⟨trivial, ?_⟩
              simp only [Act.put, List.setIfInBounds_toArray, List.set_cons_succ, List.set_cons_zero]
              haveI nB := cls_any w4
              refine wpAnyH_seg (by kernel_rfl) (fun _ _ _ h => h) [10] 0 _ _ _ trivial (by kernel_rfl) ?_
              simp only [opsAt, List.getElem?_toArray, List.getElem?_cons_zero, List.getElem?_cons_succ, List.cons_append, List.nil_append]
              repeat (go_big_quiet_step (fail))
              refine wpQuiet_nil ?_
              refine wpAnyH_done (by kernel_rfl) (NoPanic.normal ?_) 0
              go_wp2_with fail
              refine Calls.mono HLen.out ?_
              rintro e w' ⟨rfl, hw⟩; rw [hw]; clear hw w' HLen
              go_wp2_with fail
              refine ⟨⟨k + 1, d2, y2, l.eraseIdx i, _, ⟨rfl, rfl, rfl, rfl, rfl, rfl, by go_num⟩, by omega, by omega, by omega, HE.out⟩, ?_⟩
              simp [Rmu, intOf]; omega

end Go.Proofs.Ytgoejoiomjmfaaa
