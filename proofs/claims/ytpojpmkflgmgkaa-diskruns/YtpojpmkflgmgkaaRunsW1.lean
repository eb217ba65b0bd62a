/- DiskRuns: rounds of the law's loop: a Write that is done. Own lemmas, no statement. -/
import Derived.Test.YtpojpmkflgmgkaaRuns5
namespace Go.Proofs.Ytpojpmkflgmgkaa
open Go.ChangeShapes Go.WideShapes Go.ChangeAt Go.RowKit

set_option maxRecDepth 100000 in
set_option maxHeartbeats 8000000 in
theorem run_write_fuse (w0 : World) (n : Nat) (_hn : n ≤ 15) (x : Addr) (no co g k : Nat) (hk : k < no) (hk2 : k < 50) (T : Nat → Value) (b6 c6 b7 c7 : Nat) (a8 : Option Addr) (n8 c8 : Nat) (lnow lsafe : List LSec) (lw : List OpV) (lf : Nat) (ld : Bool) (ls : Nat) (f : Foot) (st : DSt) (wx : World) (Q : Exit → Act → World → Prop)
    (at_ : Int) (bo : Option Addr) (bn bc : Nat) (bl : List UInt8) (ko : Option Addr) (kn kc : Nat) (kl : List Bool) (tr : Int) (hop0 : OpAt w0 x k ⟨0, at_, bo, bn, bc, bl, ko, kn, kc, kl, tr⟩)
    (hM : Mem w0 wx g n b6 c6 b7 c7 a8 n8 c8 ⟨lnow, lsafe, lw, lf, ld, ls⟩ f st) (hS : Sim n ⟨lnow, lsafe, lw, lf, ld, ls⟩ st) (_hwk : lw.length ≤ k) (_hsk : ls ≤ k) (hbn : bn ≤ 600) (hkn : kn ≤ 60) (i : Nat) (hia : at_ = (i : Int)) (hi : i < n) (hb5 : bn ≤ 512) (hld : ld = false) (hlf : lf = 1) :
    Code.wp Try.prog (bodyOf Try.f3) (Exit.then (fun a' w' => RI w0 n (some x) no co g a' w' ∧ Rmu a' w' < 50 - k) Q) ⟨fr T (.int .i64 (n : Int)) (.slice (some x) no co) (.bool false) (dptr g) (.slice (some ⟨b6, 0, none⟩) n c6) (.slice (some ⟨b7, 0, none⟩) n c7) (.slice a8 n8 c8) (.int .i64 (lf : Int)) (.bool ld) (.int .i64 (ls : Int)) (.int .i64 (k : Int)), []⟩ wx := by
  have hd1 : decide ((k : Int) < (no : Int)) = true := decide_eq_true (by omega)
  have hd2 : decide ((k : Int) < 50) = true := decide_eq_true (by omega)
  have hop := hop0.below hM.dk.bel
  have e0 : wx.cell? (x.add (k * 5)) = some (.int .i64 0) := hop.c0
  have e1 : wx.cell? ⟨(x.add (k * 5)).block, (x.add (k * 5)).off + 1, none⟩ = some (.int .i64 at_) := cell_onR (by omega) hop.c1
  have e2 : wx.cell? ⟨(x.add (k * 5)).block, (x.add (k * 5)).off + 2, none⟩ = some (.slice bo bn bc) := cell_onR (by omega) hop.c2
  have e3 : wx.cell? ⟨(x.add (k * 5)).block, (x.add (k * 5)).off + 3, none⟩ = some (.slice ko kn kc) := cell_onR (by omega) hop.c3
  have e4 : wx.cell? ⟨(x.add (k * 5)).block, (x.add (k * 5)).off + 4, none⟩ = some (.int .i64 tr) := cell_onR (by omega) hop.c4
  have HOP : Hid (OpAt w0 x k ⟨0, at_, bo, bn, bc, bl, ko, kn, kc, kl, tr⟩) := hop0
  have hat64 : -9223372036854775808 ≤ at_ ∧ at_ ≤ 9223372036854775807 := by have := bounds_i64 hop0.w1; simp only at this; omega
  have hbeL : Below wx.heap.size wx (wx.alloc (.cells #[.int .i64 0, .int .i64 at_, .slice bo bn bc, .slice ko kn kc, .int .i64 tr] 30)) := (Below.refl _ _).alloc (Nat.le_refl _) _
  have HM1 : Hid (Mem w0 (wx.alloc (.cells #[.int .i64 0, .int .i64 at_, .slice bo bn bc, .slice ko kn kc, .int .i64 tr] 30)) g n b6 c6 b7 c7 a8 n8 c8 ⟨lnow, lsafe, lw, lf, ld, ls⟩ f st) := hM.below hbeL
  have HL1 : Hid (Blk (wx.alloc (.cells #[.int .i64 0, .int .i64 at_, .slice bo bn bc, .slice ko kn kc, .int .i64 tr] 30)) wx.heap.size #[.int .i64 0, .int .i64 at_, .slice bo bn bc, .slice ko kn kc, .int .i64 tr] 30) := Blk.new wx _ _
  have HML : Hid (Mine1 w0.heap.size f wx.heap.size) := hM.new (Nat.le_refl _)
  have HS : Hid (Sim n ⟨lnow, lsafe, lw, lf, ld, ls⟩ st) := hS
  have HM : Hid (Mem w0 wx g n b6 c6 b7 c7 a8 n8 c8 ⟨lnow, lsafe, lw, lf, ld, ls⟩ f st) := hM
  clear hop hop0 hM hS hbeL
  subst hld
  subst hia
  have q1 : decide ((i : Int) < (n : Int)) = true := decide_eq_true (by omega)
  have q2 : decide (512 < (bn : Int)) = false := decide_eq_false (by omega)
  subst hlf
  have hd3 : decide (600 < (bn : Int)) = false := decide_eq_false (by omega)
  have hd4 : decide (60 < (kn : Int)) = false := decide_eq_false (by omega)
  unfold fr
  conv => arg 2; whnf
  have j1 : (convert 27 9 (.slice bo bn bc)).run Try.prog (wx.alloc (.cells #[.int .i64 0, .int .i64 (i : Int), .slice bo bn bc, .slice ko kn kc, .int .i64 tr] 30)) = .ok (.string ⟨bl.toArray⟩) (wx.alloc (.cells #[.int .i64 0, .int .i64 (i : Int), .slice bo bn bc, .slice ko kn kc, .int .i64 tr] 30)) := (HOP.out.src.below HM1.out.dk.bel).str
  generalize hsv : (⟨bl.toArray⟩ : ByteArray) = sv at *
  have HSV : Hid ((⟨bl.toArray⟩ : ByteArray) = sv) := hsv
  clear hsv
  go_wp2_with fail
  refine (lput_any b6 n c6 lnow i sv false _ HM1.out.nw hi _hn).mono ?_
  rintro e w6 ⟨b6', c6', rfl, hL6, hb6⟩
  have HM6 : Hid (Mem w0 w6 g n b6 c6 b7 c7 a8 n8 c8 ⟨lnow, lsafe, lw, 1, false, ls⟩ f st) := HM1.out.below hb6
  have HL6 : Hid (LSecs w6 (Mine1 w0.heap.size f) b6' n c6' (lnow.set i (sv, false))) := hL6.mono (HM1.out.new hL6.mine)
  have HLo6 : Hid (Blk w6 wx.heap.size #[.int .i64 0, .int .i64 (i : Int), .slice bo bn bc, .slice ko kn kc, .int .i64 tr] 30) := HL1.out.of (hb6.block _ HL1.out.lt)
  have HNW : Hid (lw.length = n8) := HM6.out.wt.len
  have hn8 : n8 ≤ 50 := by have := HNW.out; omega
  clear hL6 hb6 j1
  have k0 := cellX (W0 := w6.drew) (HLo6.out.cell 0)
  have k1 := cellX (W0 := w6.drew) (HLo6.out.cell 1)
  have k2 := cellX (W0 := w6.drew) (HLo6.out.cell 2)
  have k3 := cellX (W0 := w6.drew) (HLo6.out.cell 3)
  have k4 := cellX (W0 := w6.drew) (HLo6.out.cell 4)
  go_wp2_with fail
  refine wp_mono (Q := fun e a' w' => e = .normal ∧ (fun a' w' => ∃ (a8' : Option Addr) (c8' : Nat), Slots2 a' (.int .i64 (n : Int)) (.slice (some x) no co) (dptr g) (.slice (some ⟨b6', 0, none⟩) n c6') (.slice (some ⟨b7, 0, none⟩) n c7) (.slice a8' (n8 + 1) c8') (.int .i64 0) (.bool true) (.int .i64 (ls : Int)) (.int .i64 (k : Int)) (.pointer (some ⟨wx.heap.size, 0, none⟩)) (.int .i64 8) ∧ LOps w' (fun b => w6.heap.size ≤ b) a8' (n8 + 1) c8' (lw ++ [⟨0, (i : Int), bo, bn, bc, bl, ko, kn, kc, kl, tr⟩]) ∧ Below w6.heap.size w6 w') a' w') ?_ ?_
  · refine wp_region_ext (by kernel_rfl) ?_
    haveI nE := cls_ext w6.drew
    refine wpAnyH_seg (by kernel_rfl) (fun _ _ _ h => h) [1, 3] 5 _ _ _ (Ext.refl _) (by kernel_rfl) ?_
    simp only [opsAt, List.getElem?_toArray, List.getElem?_cons_zero, List.getElem?_cons_succ, List.cons_append, List.nil_append]
    repeat (go_big_quiet_step (fail))
    refine wpQuiet_nil ?_
    clear k0 k1 k2 k3 k4 nE
    refine wpAnyH_all (rs := [0, 4]) (fuel := 4) (by kernel_rfl) (by simp) fun j hj => ?_
    have hj2 : j = 0 ∨ j = 4 := by simpa using hj
    rcases hj2 with rfl | rfl
    · refine wpOp_value 145 rfl (by kernel_rfl) rfl (exec_build0 rfl) ?_
      refine ⟨(Below.refl _ _).alloc (Nat.le_refl _) _, ?_⟩
      simp only [Act.put, List.setIfInBounds_toArray, List.set_cons_succ, List.set_cons_zero]
      refine wpAnyH_all (rs := [2, 4]) (fuel := 3) (by kernel_rfl) (by simp) fun j hj => ?_
      have hj2 : j = 2 ∨ j = 4 := by simpa using hj
      rcases hj2 with rfl | rfl
      · have HB1 : Hid (Blk (w6.drew.alloc (.cells #[] 30)) w6.heap.size #[] 30) := Blk.new w6.drew _ _
        have HEw : Hid (Ext w6.drew (w6.drew.alloc (.cells #[] 30))) := (Below.refl _ _).alloc (Nat.le_refl _) _
        have hsz1 : (w6.drew.alloc (.cells #[] 30)).heap.size = w6.heap.size + 1 := by simp
        obtain ⟨ga, capa, wa, hra, howna, hcha, hga⟩ := run_app1 (w := w6.drew.alloc (.cells #[] 30)) (b1 := w6.heap.size) 22 HB1.out (HM6.out.wt.below (w' := w6.drew.alloc (.cells #[] 30)) (Ext.un HEw.out)) (by omega)
        refine wpOp_value 147 rfl (by kernel_rfl) rfl (exec_append rfl rfl rfl hra) ?_
        have hEa : Ext w6.drew wa := Below.trans HEw.out (hcha.below (by rw [hsz1]; show w6.heap.size ≤ _; omega) (fun q e => by subst e; exact Nat.le_refl _))
        refine ⟨hEa, ?_⟩
        simp only [Act.put, List.setIfInBounds_toArray, List.set_cons_succ, List.set_cons_zero]
        have hgw : w6.heap.size ≤ ga := by rcases hga with e | e; omega; rw [e, hsz1]; omega
        refine wpAnyH_all (rs := [4]) (fuel := 2) (by kernel_rfl) (by simp) fun j hj => ?_
        obtain rfl : j = 4 := by simpa using hj
        refine wpOp_value 149 rfl (by kernel_rfl) rfl (exec_build1 (q := ⟨0, (i : Int), bo, bn, bc, bl, ko, kn, kc, kl, tr⟩) rfl rfl) ?_
        have hEc : Ext w6.drew (wa.alloc (.cells (opv ⟨0, (i : Int), bo, bn, bc, bl, ko, kn, kc, kl, tr⟩).toArray 30)) := Below.alloc hEa (Below.size hEa) _
        refine ⟨hEc, ?_⟩
        simp only [Act.put, List.setIfInBounds_toArray, List.set_cons_succ, List.set_cons_zero]
        obtain ⟨gb, capb, wb, hrb, hchb, hLb⟩ := run_app2 (w := wa.alloc (.cells (opv ⟨0, (i : Int), bo, bn, bc, bl, ko, kn, kc, kl, tr⟩).toArray 30)) (b2 := wa.heap.size) (q := ⟨0, (i : Int), bo, bn, bc, bl, ko, kn, kc, kl, tr⟩) 22 (howna.alloc _) (Blk.new wa _ _) (by omega) HNW.out
        refine wpAnyH_all (rs := [5]) (fuel := 1) (by kernel_rfl) (by simp) fun j hj => ?_
        obtain rfl : j = 5 := by simpa using hj
        refine wpOp_value 150 rfl (by kernel_rfl) rfl (exec_append rfl rfl rfl hrb) ?_
        have hEb : Ext w6.drew wb := Below.trans hEc (hchb.below (Below.size hEc) (fun q e => by subst e; exact hgw))
        refine ⟨hEb, ?_⟩
        simp only [Act.put, List.setIfInBounds_toArray, List.set_cons_succ, List.set_cons_zero]
        haveI nF := cls_ext w6.drew
        refine wpAnyH_seg (by kernel_rfl) (fun _ _ _ h => h) [6] 0 _ _ _ hEb (by kernel_rfl) ?_
        simp only [opsAt, List.getElem?_toArray, List.getElem?_cons_zero, List.getElem?_cons_succ, List.cons_append, List.nil_append]
        repeat (go_big_quiet_step (fail))
        refine wpQuiet_nil ?_
        refine wpAnyH_done (by kernel_rfl) (NoPanic.normal ?_) 0
        exact ⟨rfl, some ⟨gb, 0, none⟩, capb, ⟨⟨rfl, rfl, rfl, rfl, rfl, rfl, rfl, rfl, rfl, rfl, rfl, rfl, rfl⟩, rfl, rfl⟩, (hLb _ hgw (Ext.un hEc).size), Ext.un hEb⟩
      · refine wpOp_value 149 rfl (by kernel_rfl) rfl (exec_build1 (q := ⟨0, (i : Int), bo, bn, bc, bl, ko, kn, kc, kl, tr⟩) rfl rfl) ?_
        have hsz1 : (w6.drew.alloc (.cells #[] 30)).heap.size = w6.heap.size + 1 := by simp
        have hE2 : Ext w6.drew ((w6.drew.alloc (.cells #[] 30)).alloc (.cells (opv ⟨0, (i : Int), bo, bn, bc, bl, ko, kn, kc, kl, tr⟩).toArray 30)) := ((Below.refl _ _).alloc (Nat.le_refl _) _).alloc (by simp) _
        have HB1 : Hid (Blk ((w6.drew.alloc (.cells #[] 30)).alloc (.cells (opv ⟨0, (i : Int), bo, bn, bc, bl, ko, kn, kc, kl, tr⟩).toArray 30)) w6.heap.size #[] 30) := (Blk.new w6.drew _ _).alloc _
        have HB2 : Hid (Blk ((w6.drew.alloc (.cells #[] 30)).alloc (.cells (opv ⟨0, (i : Int), bo, bn, bc, bl, ko, kn, kc, kl, tr⟩).toArray 30)) (w6.heap.size + 1) (opv ⟨0, (i : Int), bo, bn, bc, bl, ko, kn, kc, kl, tr⟩).toArray 30) := by have := Blk.new (w6.drew.alloc (.cells #[] 30)) (opv ⟨0, (i : Int), bo, bn, bc, bl, ko, kn, kc, kl, tr⟩).toArray 30; rw [hsz1] at this; exact this
        have HEw : Hid (Ext w6.drew _) := hE2
        have HG1 : Hid (w6.heap.size ≤ w6.heap.size) := Nat.le_refl _
        refine ⟨hE2, ?_⟩
        simp only [Act.put, List.setIfInBounds_toArray, List.set_cons_succ, List.set_cons_zero, hsz1]
        generalize (w6.drew.alloc (.cells #[] 30)).alloc (.cells (opv ⟨0, (i : Int), bo, bn, bc, bl, ko, kn, kc, kl, tr⟩).toArray 30) = wz at *
        obtain ⟨ga, capa, wa, hra, howna, hcha, hga⟩ := run_app1 (w := wz) (b1 := w6.heap.size) 22 HB1.out (HM6.out.wt.below (w' := wz) (Ext.un HEw.out)) (by omega)
        refine wpAnyH_all (rs := [2]) (fuel := 2) (by kernel_rfl) (by simp) fun j hj => ?_
        obtain rfl : j = 2 := by simpa using hj
        refine wpOp_value 147 rfl (by kernel_rfl) rfl (exec_append rfl rfl rfl hra) ?_
        have hEa : Ext w6.drew wa := Below.trans HEw.out (hcha.below (Nat.le_trans (Nat.le_refl _) (Below.size HEw.out)) (fun q e => by subst e; exact HG1.out))
        refine ⟨hEa, ?_⟩
        simp only [Act.put, List.setIfInBounds_toArray, List.set_cons_succ, List.set_cons_zero]
        obtain ⟨gb, capb, wb, hrb, hchb, hLb⟩ := run_app2 (w := wa) (b2 := (w6.heap.size + 1)) (q := ⟨0, (i : Int), bo, bn, bc, bl, ko, kn, kc, kl, tr⟩) 22 howna (HB2.out.chg hcha (by omega)) (by omega) HNW.out
        refine wpAnyH_all (rs := [5]) (fuel := 1) (by kernel_rfl) (by simp) fun j hj => ?_
        obtain rfl : j = 5 := by simpa using hj
        refine wpOp_value 150 rfl (by kernel_rfl) rfl (exec_append rfl rfl rfl hrb) ?_
        have hgw : w6.heap.size ≤ ga := by rcases hga with e | e; rw [e]; exact HG1.out; rw [e]; exact (Ext.un HEw.out).size
        have hEb : Ext w6.drew wb := Below.trans hEa (hchb.below (Below.size hEa) (fun q e => by subst e; exact hgw))
        refine ⟨hEb, ?_⟩
        simp only [Act.put, List.setIfInBounds_toArray, List.set_cons_succ, List.set_cons_zero]
        haveI nF := cls_ext w6.drew
        refine wpAnyH_seg (by kernel_rfl) (fun _ _ _ h => h) [6] 0 _ _ _ hEb (by kernel_rfl) ?_
        simp only [opsAt, List.getElem?_toArray, List.getElem?_cons_zero, List.getElem?_cons_succ, List.cons_append, List.nil_append]
        repeat (go_big_quiet_step (fail))
        refine wpQuiet_nil ?_
        refine wpAnyH_done (by kernel_rfl) (NoPanic.normal ?_) 0
        exact ⟨rfl, some ⟨gb, 0, none⟩, capb, ⟨⟨rfl, rfl, rfl, rfl, rfl, rfl, rfl, rfl, rfl, rfl, rfl, rfl, rfl⟩, rfl, rfl⟩, (hLb _ hgw (Ext.un hEa).size), Ext.un hEb⟩
    · refine wpOp_value 149 rfl (by kernel_rfl) rfl (exec_build1 (q := ⟨0, (i : Int), bo, bn, bc, bl, ko, kn, kc, kl, tr⟩) rfl rfl) ?_
      refine ⟨(Below.refl _ _).alloc (Nat.le_refl _) _, ?_⟩
      simp only [Act.put, List.setIfInBounds_toArray, List.set_cons_succ, List.set_cons_zero]
      refine wpAnyH_all (rs := [0]) (fuel := 3) (by kernel_rfl) (by simp) fun j hj => ?_
      obtain rfl : j = 0 := by simpa using hj
      refine wpOp_value 145 rfl (by kernel_rfl) rfl (exec_build0 rfl) ?_
      have hsz1 : (w6.drew.alloc (.cells (opv ⟨0, (i : Int), bo, bn, bc, bl, ko, kn, kc, kl, tr⟩).toArray 30)).heap.size = w6.heap.size + 1 := by simp
      have hE2 : Ext w6.drew ((w6.drew.alloc (.cells (opv ⟨0, (i : Int), bo, bn, bc, bl, ko, kn, kc, kl, tr⟩).toArray 30)).alloc (.cells #[] 30)) := ((Below.refl _ _).alloc (Nat.le_refl _) _).alloc (by simp) _
      have HB2 : Hid (Blk ((w6.drew.alloc (.cells (opv ⟨0, (i : Int), bo, bn, bc, bl, ko, kn, kc, kl, tr⟩).toArray 30)).alloc (.cells #[] 30)) w6.heap.size (opv ⟨0, (i : Int), bo, bn, bc, bl, ko, kn, kc, kl, tr⟩).toArray 30) := (Blk.new w6.drew _ _).alloc _
      have HB1 : Hid (Blk ((w6.drew.alloc (.cells (opv ⟨0, (i : Int), bo, bn, bc, bl, ko, kn, kc, kl, tr⟩).toArray 30)).alloc (.cells #[] 30)) (w6.heap.size + 1) #[] 30) := by have := Blk.new (w6.drew.alloc (.cells (opv ⟨0, (i : Int), bo, bn, bc, bl, ko, kn, kc, kl, tr⟩).toArray 30)) #[] 30; rw [hsz1] at this; exact this
      have HEw : Hid (Ext w6.drew _) := hE2
      have HG1 : Hid (w6.heap.size ≤ w6.heap.size + 1) := Nat.le_succ _
      refine ⟨hE2, ?_⟩
      simp only [Act.put, List.setIfInBounds_toArray, List.set_cons_succ, List.set_cons_zero, hsz1]
      generalize (w6.drew.alloc (.cells (opv ⟨0, (i : Int), bo, bn, bc, bl, ko, kn, kc, kl, tr⟩).toArray 30)).alloc (.cells #[] 30) = wz at *
      obtain ⟨ga, capa, wa, hra, howna, hcha, hga⟩ := run_app1 (w := wz) (b1 := (w6.heap.size + 1)) 22 HB1.out (HM6.out.wt.below (w' := wz) (Ext.un HEw.out)) (by omega)
      refine wpAnyH_all (rs := [2]) (fuel := 2) (by kernel_rfl) (by simp) fun j hj => ?_
      obtain rfl : j = 2 := by simpa using hj
      refine wpOp_value 147 rfl (by kernel_rfl) rfl (exec_append rfl rfl rfl hra) ?_
      have hEa : Ext w6.drew wa := Below.trans HEw.out (hcha.below (Nat.le_trans (Nat.le_refl _) (Below.size HEw.out)) (fun q e => by subst e; exact HG1.out))
      refine ⟨hEa, ?_⟩
      simp only [Act.put, List.setIfInBounds_toArray, List.set_cons_succ, List.set_cons_zero]
      obtain ⟨gb, capb, wb, hrb, hchb, hLb⟩ := run_app2 (w := wa) (b2 := w6.heap.size) (q := ⟨0, (i : Int), bo, bn, bc, bl, ko, kn, kc, kl, tr⟩) 22 howna (HB2.out.chg hcha (by omega)) (by omega) HNW.out
      refine wpAnyH_all (rs := [5]) (fuel := 1) (by kernel_rfl) (by simp) fun j hj => ?_
      obtain rfl : j = 5 := by simpa using hj
      refine wpOp_value 150 rfl (by kernel_rfl) rfl (exec_append rfl rfl rfl hrb) ?_
      have hgw : w6.heap.size ≤ ga := by rcases hga with e | e; rw [e]; exact HG1.out; rw [e]; exact (Ext.un HEw.out).size
      have hEb : Ext w6.drew wb := Below.trans hEa (hchb.below (Below.size hEa) (fun q e => by subst e; exact hgw))
      refine ⟨hEb, ?_⟩
      simp only [Act.put, List.setIfInBounds_toArray, List.set_cons_succ, List.set_cons_zero]
      haveI nF := cls_ext w6.drew
      refine wpAnyH_seg (by kernel_rfl) (fun _ _ _ h => h) [6] 0 _ _ _ hEb (by kernel_rfl) ?_
      simp only [opsAt, List.getElem?_toArray, List.getElem?_cons_zero, List.getElem?_cons_succ, List.cons_append, List.nil_append]
      repeat (go_big_quiet_step (fail))
      refine wpQuiet_nil ?_
      refine wpAnyH_done (by kernel_rfl) (NoPanic.normal ?_) 0
      exact ⟨rfl, some ⟨gb, 0, none⟩, capb, ⟨⟨rfl, rfl, rfl, rfl, rfl, rfl, rfl, rfl, rfl, rfl, rfl, rfl, rfl⟩, rfl, rfl⟩, (hLb _ hgw (Ext.un hEa).size), Ext.un hEb⟩
  · rintro e a' w7 ⟨rfl, a8', c8', hsl, hLO, hE7⟩
    have hlit := hsl.lit
    generalize (fun i => a'.tmps.getD i undef) = T' at hlit
    subst hlit
    clear hsl k0 k1 k2 k3 k4
    have HM7 : Hid (Mem w0 w7 g n b6' c6' b7 c7 a8' (n8 + 1) c8' ⟨lnow.set i (sv, false), lsafe, lw ++ [⟨0, (i : Int), bo, bn, bc, bl, ko, kn, kc, kl, tr⟩], 1, false, ls⟩ f st) := by
      have h := HM6.out.below hE7
      exact ⟨h.dk, HL6.out.below hE7, h.sf, hLO.mono (fun b _ hb => HM6.out.new hb), fun o ho => by
        rcases List.mem_append.1 ho with h' | h'
        · exact h.src o h'
        · simp at h'; subst h'; exact HOP.out.src⟩
    have HLb : Hid (Blk w7 wx.heap.size #[.int .i64 0, .int .i64 (i : Int), .slice bo bn bc, .slice ko kn kc, .int .i64 tr] 30) := HLo6.out.of (hE7.block _ HLo6.out.lt)
    clear hLO hE7 HLo6 HL6 HM6
    unfold fr2
    have y0 : w7.cell? ⟨wx.heap.size, 0, none⟩ = some (.int .i64 0) := HLb.out.cell 0
    have hlen0 : bl.length = bn := HOP.out.len
    have HBL : Hid (bl.length = bn) := hlen0
    have hbeA : Below w7.heap.size w7 (w7.alloc (.cells #[] 5)) := (Below.refl _ _).alloc (Nat.le_refl _) _
    have hOw : Own (w7.alloc (.cells #[] 5)) w7.heap.size (.slice (some ⟨w7.heap.size, 0, none⟩) 0 0) [] := World.ownsRow_made w7 #[] 0 (Nat.le_refl _) (Nat.zero_le _) rfl
    have hOw' : Hid (Own (w7.alloc (.cells #[] 5)) w7.heap.size (.slice (some ⟨w7.heap.size, 0, none⟩) 0 0) []) := hOw
    have HSr : Hid (Src (w7.alloc (.cells #[] 5)) (.slice bo bn bc) bl) := HOP.out.src.below (HM7.out.dk.below hbeA).bel
    have HBA : Hid (Below w7.heap.size w7 (w7.alloc (.cells #[] 5))) := hbeA
    have y2 : (w7.alloc (.cells #[] 5)).cell? ⟨wx.heap.size, 2, none⟩ = some (.slice bo bn bc) := (HLb.out.alloc _).cell 2
    have hWz : wx.heap.size < w7.heap.size := HLb.out.lt
    clear hOw hbeA hlen0
    go_wp2_with (first | (at_builtin; refine wpList_join _ rfl _ _ rfl w7.heap.size _ [] bl hOw'.out ?_ (.slice bo bn bc) HSr.out rfl ?_ ?_ ?_))
    · first | rfl | (simp; rfl)
    · rw [HBL.out]; simp; omega
    · simp
    intro v8 w8 hown8 hg8 hnn8
    obtain ⟨mb, cm, hv8, hmb, curm, hBm, hcurm⟩ : ∃ mb cm, v8 = .slice (some ⟨mb, 0, none⟩) bn cm ∧ w7.heap.size ≤ mb ∧ ∃ cur, Blk w8 mb cur 5 ∧ ∀ i, i < bn → ∃ z : Int, cur[i]? = some (.int .u8 z) := own_bytes hown8 (fun h => by have := hnn8 h; simp at this) HBL.out
    subst hv8
    have hmb' : w7.heap.size ≤ mb := by simpa using hmb
    have HE8 : Hid (Below w7.heap.size w7 w8) := HBA.out.trans (((Chg.refl (fun k => k = w7.heap.size) _).grown hg8 (fun k e _ => by have : some w7.heap.size = some k := e; exact (Option.some.inj this).symm)).below (by simp) (fun i e => by first | omega | (simp; omega)))
    have HM8 : Hid (Mem w0 w8 g n b6' c6' b7 c7 a8' (n8 + 1) c8' ⟨lnow.set i (sv, false), lsafe, lw ++ [⟨0, (i : Int), bo, bn, bc, bl, ko, kn, kc, kl, tr⟩], 1, false, ls⟩ f st) := HM7.out.below HE8.out
    have HSv : Hid (Src w8 (.slice (some ⟨mb, 0, none⟩) bn cm) bl) := hown8.src
    have HBm8 : Hid (Blk w8 mb curm 5) := hBm
    have HCm : Hid (∀ i, i < bn → ∃ z : Int, curm[i]? = some (.int .u8 z)) := hcurm
    have HMm8 : Hid (Mine1 w0.heap.size f mb) := HM7.out.new hmb'
    have HL8 : Hid (Blk w8 wx.heap.size #[.int .i64 0, .int .i64 (i : Int), .slice bo bn bc, .slice ko kn kc, .int .i64 tr] 30) := HLb.out.of (HE8.out.block _ HLb.out.lt)
    have y1 : w8.cell? ⟨wx.heap.size, 1, none⟩ = some (.int .i64 (i : Int)) := HL8.out.cell 1
    clear hown8 hg8 hnn8 hBm hcurm hOw' HSr HBA y2
    go_wp2_with fail
    refine (write_is HM8.out.dk i (some ⟨mb, 0, none⟩) bn cm bl (by rw [← HS.out.nows.1, HS.out.len]; exact hi) HSv.out (by have := HBL.out; omega) HS.out.down.symm (by have := HS.out.steps; simp only at this; omega) (by have := HS.out.ws.1; simp only at this; omega) 8 (by have := HS.out.fuse HS.out.down.symm; simp only at this; unfold DSt.stepErr; rw [if_pos (by omega)])).mono ?_
    rintro e w9 ⟨rfl, f9, hD9, hT9⟩
    have HM9 : Hid (Mem w0 w9 g n b6' c6' b7 c7 a8' (n8 + 1) c8' ⟨lnow.set i (sv, false), lsafe, lw ++ [⟨0, (i : Int), bo, bn, bc, bl, ko, kn, kc, kl, tr⟩], 0, true, ls⟩ f9 (st.written i (pad bl)).stepped) := by
      have h := HM8.out.turn hT9 hD9
      exact ⟨h.dk, h.nw, h.sf, h.wt, h.src⟩
    have HBm9 : Hid (Blk w9 mb curm 5) := HBm8.out.chg hT9.chg HMm8.out.2
    have HMm9 : Hid (Mine1 w0.heap.size f9 mb) := ⟨HMm8.out.1, hT9.not HBm8.out.lt HMm8.out.2⟩
    have HS9 : Hid (Sim n ⟨lnow.set i (sv, false), lsafe, lw ++ [⟨0, (i : Int), bo, bn, bc, bl, ko, kn, kc, kl, tr⟩], 0, true, ls⟩ (st.written i (pad bl)).stepped) := by
      have h := HS.out
      have e1 : 1 = st.fuse := h.fuse h.down.symm
      have e2 : ls = st.steps := h.steps
      have hbl2 : bl.length ≤ 512 := by have := HBL.out; omega
      have hsec : SecRel (sv, false) (pad bl, false) := by
        have hsv := HSV.out
        subst hsv
        exact ⟨rfl, by show bl.toArray.size ≤ 512; simpa using hbl2, fun _ => by simp⟩
      have e3 : (st.written i (pad bl)).stepped = { st.written i (pad bl) with down := true } := by unfold DSt.stepped; exact if_pos (show st.fuse = 1 from e1.symm)
      rw [e3]
      exact ⟨by show (lnow.set i _).length = n; rw [List.length_set]; exact h.len, h.lens, h.nows.set i _ _ hsec, h.safes, h.ws.push _ _ ⟨rfl, hbl2, rfl⟩, rfl, h.steps, fun e => (by cases e), by show (0 : Nat) < _; omega⟩
    clear hD9 hT9 HM8 HBm8 HMm8 HL8 y0
    clear y1
    go_wp2_with fail
    go_loopw [171] (fun vi w2 => ∃ (j : Nat) (cur : Array Value), vi = .int .i64 (j : Int) ∧ j ≤ bn ∧ Blk w2 mb cur 5 ∧ (∀ i, i < bn → ∃ z : Int, cur[i]? = some (.int .u8 z)) ∧ Chg (fun i => i = mb) w9 w2) (fun vi _ => bn - (intOf vi).toNat)
    case atStart => exact ⟨0, curm, rfl, Nat.zero_le _, HBm9.out, HCm.out, Chg.refl _ _⟩
    case round =>
      obtain ⟨j, cur, rfl, hj, hB, hC, hch⟩ := hrel
      have HBj : Hid (Blk wr mb cur 5) := hB
      have HCj : Hid (∀ i, i < bn → ∃ z : Int, cur[i]? = some (.int .u8 z)) := hC
      have HHj : Hid (Chg (fun i => i = mb) w9 wr) := hch
      clear hB hC hch
      by_cases hlt : j < bn
      · obtain ⟨z, hz⟩ := HCj.out j hlt
        have cj : wr.cell? ⟨mb, j, none⟩ = some (.int .u8 z) := (HBj.out.cell j).trans hz
        have fj : wr.frozen? ⟨mb, j, none⟩ = false := HBj.out.frozen j
        have HJ : Hid (j < cur.size) := (Array.getElem?_eq_some_iff.1 hz).1
        clear hz
        go_wp2_with fail
        go_roundw
        case rel => exact ⟨j + 1, _, by go_num, by omega, HBj.out.set j _, flip_ints HCj.out HJ.out, chgG HHj.out j _⟩
        case measure => simp [intOf]; omega
      · have HMx : Hid (Mem w0 wr g n b6' c6' b7 c7 a8' (n8 + 1) c8' ⟨lnow.set i (sv, false), lsafe, lw ++ [⟨0, (i : Int), bo, bn, bc, bl, ko, kn, kc, kl, tr⟩], 0, true, ls⟩ f9 (st.written i (pad bl)).stepped) := HM9.out.flip HBm9.out HMm9.out HHj.out
        go_wp2_with fail
        refine (down_is HMx.out.dk true HS9.out.down.symm).mono ?_
        rintro e w' ⟨rfl, hw⟩; rw [hw]; clear hw w'
        go_wp2_with fail
        refine (steps_is HMx.out.dk ls HS9.out.steps.symm).mono ?_
        rintro e w' ⟨rfl, hw⟩; rw [hw]; clear hw w'
        go_wp2_with fail
        refine (waits_is HMx.out.dk (n8 + 1) (by rw [← HS9.out.ws.1]; exact HMx.out.wt.len)).mono ?_
        rintro e w' ⟨rfl, hw⟩; rw [hw]; clear hw w'
        go_wp2_with fail
        refine (len_is HMx.out.dk n (by rw [← HS9.out.nows.1]; exact HS9.out.len)).mono ?_
        rintro e w' ⟨rfl, hw⟩; rw [hw]; clear hw w'
        go_wp2_with fail
        refine ⟨⟨k + 1, b6', c6', b7, c7, a8', (n8 + 1), c8', ⟨lnow.set i (sv, false), lsafe, lw ++ [⟨0, (i : Int), bo, bn, bc, bl, ko, kn, kc, kl, tr⟩], 0, true, ls⟩, f9, (st.written i (pad bl)).stepped, ⟨rfl, rfl, rfl, rfl, rfl, rfl, rfl, rfl, rfl, by rfl, rfl, by rfl, by rfl⟩, by omega, by omega, HMx.out, HS9.out, by show (lw ++ _).length ≤ k + 1; simp; omega, by show ls ≤ k + 1; omega⟩, ?_⟩
        simp [Rmu, intOf]; omega
end Go.Proofs.Ytpojpmkflgmgkaa
