/- DueRuns: rounds of the law's loop: Drop. Own lemmas, no statement. -/
import Derived.Test.YtgoejoiomjmfaaaRunsI
namespace Go.Proofs.Ytgoejoiomjmfaaa
open Go.ChangeShapes Go.WideShapes Go.ChangeAt Go.RowKit

set_option maxRecDepth 100000 in
set_option maxHeartbeats 8000000 in
theorem run_drop (w0 : World) (B : Nat) (x0 : Addr) (no co g k : Nat) (hk : k < no) (hk2 : k < 60) (T : Nat → Value) (x : Addr) (cap : Nat) (l : List Ent) (Tb : Key → Option Int) (wx : World) (Q : Exit → Act → World → Prop) (o : OpE) (hop0 : OpAt w0 x0 k o) (hR : RunsAt w0 B wx g k x cap l Tb) (hlk : l.length ≤ k) (h0 : o.k = 1) :
    Code.wp Try.prog (bodyOf Try.f3) (Exit.then (fun a' w' => RI w0 B (some x0) no co g a' w' ∧ Rmu a' w' < 60 - k) Q) ⟨fr T (.slice (some x0) no co) (.bool false) (.pointer (some ⟨g, 0, none⟩)) (.slice (some x) l.length cap) (.int .i64 (k : Int)), []⟩ wx := by
  have hd1 : decide ((k : Int) < (no : Int)) = true := decide_eq_true (by omega)
  have hd2 : decide ((k : Int) < 60) = true := decide_eq_true (by omega)
  have hop := hop0.below hR.bel
  have e0 : wx.cell? (x0.add (k * 5)) = some (.int .i64 o.k) := hop.c0
  have e1 : wx.cell? ⟨(x0.add (k * 5)).block, (x0.add (k * 5)).off + 1, none⟩ = some (.int .i64 o.e.kind) := cell_on (by omega) hop.c1
  have e2 : wx.cell? ⟨(x0.add (k * 5)).block, (x0.add (k * 5)).off + 2, none⟩ = some (.int .u64 o.e.num) := cell_on (by omega) hop.c2
  have e3 : wx.cell? ⟨(x0.add (k * 5)).block, (x0.add (k * 5)).off + 3, none⟩ = some (.int .i64 o.e.node) := cell_on (by omega) hop.c3
  have e4 : wx.cell? ⟨(x0.add (k * 5)).block, (x0.add (k * 5)).off + 4, none⟩ = some (.int .i64 o.e.at_) := cell_on (by omega) hop.c4
  have HOP : Hid (OpAt w0 x0 k o) := hop0
  have hbeL : Below wx.heap.size wx (wx.alloc (.cells #[.int .i64 o.k, .int .i64 o.e.kind, .int .u64 o.e.num, .int .i64 o.e.node, .int .i64 o.e.at_] 31)) := (Below.refl _ _).alloc (Nat.le_refl _) _
  have HR1 : Hid (RunsAt w0 B (wx.alloc (.cells #[.int .i64 o.k, .int .i64 o.e.kind, .int .u64 o.e.num, .int .i64 o.e.node, .int .i64 o.e.at_] 31)) g k x cap l Tb) := hR.below hbeL
  have HL1 : Hid (Blk (wx.alloc (.cells #[.int .i64 o.k, .int .i64 o.e.kind, .int .u64 o.e.num, .int .i64 o.e.node, .int .i64 o.e.at_] 31)) wx.heap.size (oC o) 31) := Blk.new wx _ _
  have hlen64 : (l.length : Int) ≤ 9223372036854775807 := by omega
  clear hop hop0 hR hbeL
  have q0 : (o.k == 0) = false := by rw [h0]; rfl
  have q1 : (o.k == 1) = true := by rw [h0]; rfl
  clear h0
  unfold fr
  conv => arg 2; whnf
  go_wp2_with fail
  refine wp_loop (FI (wx.alloc (.cells #[.int .i64 o.k, .int .i64 o.e.kind, .int .u64 o.e.num, .int .i64 o.e.node, .int .i64 o.e.at_] 31)) (.slice (some x0) no co) (.pointer (some ⟨g, 0, none⟩)) (.slice (some x) l.length cap) (.int .i64 (k : Int)) (.pointer (some ⟨wx.heap.size, 0, none⟩)) (.slice (some x) l.length cap) (.int .i64 (l.length : Int)) l o.e.key) (Fmu l.length) ?_ ?_
  · exact ⟨0, -1, ⟨rfl, rfl, rfl, rfl, rfl, rfl, rfl, rfl, rfl, rfl, rfl, rfl⟩, by omega, Found.start _ _, Below.refl _ _⟩
  · clear e0 e1 e2 e3 e4
    rintro a wz ⟨j, at_, hsl, hj, hF, hb⟩
    have hmu : Fmu l.length a wz = l.length - j := by unfold Fmu; rw [hsl.2.2.2.2.2.2.2.2.2.2.2]; simp [intOf]
    rw [hmu]
    have hlit := hsl.lit
    generalize (fun i => a.tmps.getD i undef) = T2 at hlit
    subst hlit
    clear hsl hmu
    by_cases hlt : j < l.length
    · exact find_round (wx.alloc (.cells #[.int .i64 o.k, .int .i64 o.e.kind, .int .u64 o.e.num, .int .i64 o.e.node, .int .i64 o.e.at_] 31)) B (.slice (some x0) no co) (.pointer (some ⟨g, 0, none⟩)) (.int .i64 (k : Int)) x cap l wx.heap.size o T2 j at_ wz _ HR1.out.r HL1.out hlt hF hb
    · obtain rfl : j = l.length := by omega
      have hd3 : decide ((l.length : Int) < (l.length : Int)) = false := decide_eq_false (by omega)
      have HZ : Hid (AftAt w0 B wz g k l.length Tb x cap l wx.heap.size o) := (HR1.out.aft HL1.out).below hb
      have HTab : Hid (Tab Tb l) := HR1.out.t
      have HF : Hid (Found l o.e.key l.length at_) := hF
      have c0 : wz.cell? ⟨wx.heap.size, 0, none⟩ = some (.int .i64 o.k) := HZ.out.bo.cell 0
      have c1 : wz.cell? ⟨wx.heap.size, 1, none⟩ = some (.int .i64 o.e.kind) := HZ.out.bo.cell 1
      have c2 : wz.cell? ⟨wx.heap.size, 2, none⟩ = some (.int .u64 o.e.num) := HZ.out.bo.cell 2
      have c3 : wz.cell? ⟨wx.heap.size, 3, none⟩ = some (.int .i64 o.e.node) := HZ.out.bo.cell 3
      have c4 : wz.cell? ⟨wx.heap.size, 4, none⟩ = some (.int .i64 o.e.at_) := HZ.out.bo.cell 4
      clear hb hF hj hlt HR1 HL1
      generalize wx.heap.size = bo at *
      unfold frF
      have HS : Hid (Calls _ _ _ _ _) := aft_drop HZ.out o.e.key HOP.out.wk (by omega)
      unfold iptr at *
      rcases HF.out with ⟨ha, hno⟩ | ⟨i, e, hi, ha, he, hke⟩
      · subst ha
        have hTn : Tb o.e.key = none := Found.none_T HTab.out hno
        have hdel : delT Tb o.e.key = Tb := by
          funext q
          unfold delT
          split
          · rename_i hq; rw [hq, hTn]
          · rfl
        rw [hTn, hdel] at HS
        have HS2 : Hid (Calls _ _ _ _ _) := HS.out
        clear hno hTn HS HF hdel
        go_wp2_with fail
        refine Calls.mono HS2.out ?_
        rintro r w2 ⟨rfl, hA0⟩
        rw [Option.isSome_none]
        have hA : AftAt w0 B w2 g k l.length Tb x cap l bo o := hA0
        have HE : Hid (RunsAt w0 B w2 g (k + 1) x cap l Tb) := (hA.same HTab.out).more
        have HLen : Hid (Calls _ _ _ _ _) := aft_len hA
        clear hA hA0 HS2 HZ c0 c1 c2 c3 c4 HTab
        unfold iptr at *
        go_wp2_with fail
        refine Calls.mono HLen.out ?_
        rintro e w' ⟨rfl, hw⟩; rw [hw]; clear hw w' HLen
        go_wp2_with fail
        refine ⟨⟨k + 1, cap, x, l, Tb, ⟨rfl, rfl, rfl, rfl, rfl, rfl, by go_num⟩, by omega, by omega, by omega, HE.out⟩, ?_⟩
        simp [Rmu, intOf]; omega
      · subst ha
        have hTs : Tb o.e.key = some e.at_ := by rw [← hke]; exact HTab.out.at he
        have HT2 : Hid (Tab (delT Tb o.e.key) (l.eraseIdx i)) := by rw [← hke]; exact HTab.out.erase he
        rw [hTs] at HS
        have HS2 : Hid (Calls _ _ _ _ _) := HS.out
        have HI : Hid (l[i]? = some e) := he
        have hil : (i : Int) < (l.length : Int) := by omega
        have hi0 : decide (0 ≤ (i : Int)) = true := decide_eq_true (by omega)
        clear he hke hTs HS HF HTab
        go_wp2_with fail
        refine Calls.mono HS2.out ?_
        rintro r w2 ⟨rfl, hA⟩
        rw [Option.isSome_some] at *
        have hlen2 : (l.eraseIdx i).length = l.length - 1 := by rw [List.length_eraseIdx, if_pos hi]
        have HA : Hid (AftAt w0 B w2 g k (l.eraseIdx i).length (delT Tb o.e.key) x cap l bo o) := by rw [hlen2]; exact hA
        clear hA HS2 HZ c0 c1 c2 c3 c4
        obtain ⟨y1, d1, w3, y2, d2, w4, r1, r2, hr4, hb4⟩ := HA.out.r.erase HI.out HA.out.size (by omega) 26
        have HR1 : Hid (_ = _) := r1
        have HR2 : Hid (_ = _) := r2
        have hE : RunsAt w0 B w4 g k y2 d2 (l.eraseIdx i) (delT Tb o.e.key) := HA.out.new HT2.out hb4 hr4
        have HE : Hid (RunsAt w0 B w4 g (k + 1) y2 d2 (l.eraseIdx i) (delT Tb o.e.key)) := hE.more
        have HLen : Hid (Calls _ _ _ _ _) := qs_len hE.q
        have hcap := HA.out.r.le
        have hlen3 : (l.eraseIdx i).length ≤ k := by omega
        have hi1 : ((i : Int) + 1) ≤ (l.length : Int) := by omega
        clear r1 r2 hr4 hb4 hE hlen2
        unfold iptr at *
        by_cases hc : cap = i + 1
        · subst hc
          rw [show cutAt x (i + 1) i = x from if_pos rfl, Nat.sub_self, show l.length - (i + 1) = 0 by omega] at HR2
          haveI nA := cls_any w2
          go_wp2_with fail
          refine wp_region_seg (fun _ => True) (by kernel_rfl) ?_
          refine wpAnyH_seg (by kernel_rfl) (fun _ _ _ h => h) [1, 2, 3, 5, 6, 7, 8] 4 _ _ _ trivial (by kernel_rfl) ?_
          simp only [opsAt, List.getElem?_toArray, List.getElem?_cons_zero, List.getElem?_cons_succ, List.cons_append, List.nil_append]
          repeat (go_big_quiet_step (fail))
          refine wpQuiet_nil ?_
          clear nA
          refine wpAnyH_all (rs := [0]) (fuel := 3) (by kernel_rfl) (by simp) fun j hj => ?_
          obtain rfl : j = 0 := by simpa using hj
          refine wpOp_value 99 rfl (by kernel_rfl) rfl (exec_build0 rfl) ?_
          refine ⟨trivial, ?_⟩
          simp only [Act.put, List.setIfInBounds_toArray, List.set_cons_succ, List.set_cons_zero]
          refine wpAnyH_all (rs := [4]) (fuel := 2) (by kernel_rfl) (by simp) fun j hj => ?_
          obtain rfl : j = 4 := by simpa using hj
          refine wpOp_value 103 rfl (by kernel_rfl) rfl (exec_append rfl rfl rfl HR1.out) ?_
          refine ⟨trivial, ?_⟩
          simp only [Act.put, List.setIfInBounds_toArray, List.set_cons_succ, List.set_cons_zero]
          refine wpAnyH_all (rs := [9]) (fuel := 1) (by kernel_rfl) (by simp) fun j hj => ?_
          obtain rfl : j = 9 := by simpa using hj
          refine wpOp_value 108 rfl (by kernel_rfl) rfl (exec_append rfl rfl rfl HR2.out) ?_
          refine ⟨trivial, ?_⟩
          simp only [Act.put, List.setIfInBounds_toArray, List.set_cons_succ, List.set_cons_zero]
          haveI nB := cls_any w2
          refine wpAnyH_seg (by kernel_rfl) (fun _ _ _ h => h) [10] 0 _ _ _ trivial (by kernel_rfl) ?_
          simp only [opsAt, List.getElem?_toArray, List.getElem?_cons_zero, List.getElem?_cons_succ, List.cons_append, List.nil_append]
          repeat (go_big_quiet_step (fail))
          refine wpQuiet_nil ?_
          refine wpAnyH_done (by kernel_rfl) (NoPanic.normal ?_) 0
          go_wp2_with fail
          refine Calls.mono HLen.out ?_
          rintro e w' ⟨rfl, hw⟩; rw [hw]; clear hw w' HLen
          go_wp2_with fail
          refine ⟨⟨k + 1, d2, y2, l.eraseIdx i, _, ⟨rfl, rfl, rfl, rfl, rfl, rfl, by go_num⟩, by omega, by omega, by omega, HE.out⟩, ?_⟩
          simp [Rmu, intOf]; omega
        · rw [show cutAt x cap i = x.add ((i + 1) * 4) from if_neg hc] at HR2
          haveI nA := cls_any w2
          go_wp2_with fail
          refine wp_region_seg (fun _ => True) (by kernel_rfl) ?_
          refine wpAnyH_seg (by kernel_rfl) (fun _ _ _ h => h) [1, 2, 3, 5, 6, 7, 8] 4 _ _ _ trivial (by kernel_rfl) ?_
          simp only [opsAt, List.getElem?_toArray, List.getElem?_cons_zero, List.getElem?_cons_succ, List.cons_append, List.nil_append]
          repeat (go_big_quiet_step (fail))
          refine wpQuiet_nil ?_
          clear nA
          refine wpAnyH_all (rs := [0]) (fuel := 3) (by kernel_rfl) (by simp) fun j hj => ?_
          obtain rfl : j = 0 := by simpa using hj
          refine wpOp_value 99 rfl (by kernel_rfl) rfl (exec_build0 rfl) ?_
          refine ⟨trivial, ?_⟩
          simp only [Act.put, List.setIfInBounds_toArray, List.set_cons_succ, List.set_cons_zero]
          refine wpAnyH_all (rs := [4]) (fuel := 2) (by kernel_rfl) (by simp) fun j hj => ?_
          obtain rfl : j = 4 := by simpa using hj
          refine wpOp_value 103 rfl (by kernel_rfl) rfl (exec_append rfl rfl rfl HR1.out) ?_
          refine ⟨trivial, ?_⟩
          simp only [Act.put, List.setIfInBounds_toArray, List.set_cons_succ, List.set_cons_zero]
          refine wpAnyH_all (rs := [9]) (fuel := 1) (by kernel_rfl) (by simp) fun j hj => ?_
          obtain rfl : j = 9 := by simpa using hj
          refine wpOp_value 108 rfl (by kernel_rfl) rfl (exec_append rfl rfl rfl HR2.out) ?_
          refine ⟨trivial, ?_⟩
          simp only [Act.put, List.setIfInBounds_toArray, List.set_cons_succ, List.set_cons_zero]
          haveI nB := cls_any w2
          refine wpAnyH_seg (by kernel_rfl) (fun _ _ _ h => h) [10] 0 _ _ _ trivial (by kernel_rfl) ?_
          simp only [opsAt, List.getElem?_toArray, List.getElem?_cons_zero, List.getElem?_cons_succ, List.cons_append, List.nil_append]
          repeat (go_big_quiet_step (fail))
          refine wpQuiet_nil ?_
          refine wpAnyH_done (by kernel_rfl) (NoPanic.normal ?_) 0
          go_wp2_with fail
          refine Calls.mono HLen.out ?_
          rintro e w' ⟨rfl, hw⟩; rw [hw]; clear hw w' HLen
          go_wp2_with fail
          refine ⟨⟨k + 1, d2, y2, l.eraseIdx i, _, ⟨rfl, rfl, rfl, rfl, rfl, rfl, by go_num⟩, by omega, by omega, by omega, HE.out⟩, ?_⟩
          simp [Rmu, intOf]; omega

end Go.Proofs.Ytgoejoiomjmfaaa
