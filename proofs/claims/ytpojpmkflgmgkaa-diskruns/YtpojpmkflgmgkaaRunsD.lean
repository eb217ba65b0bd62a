/- DiskRuns: rounds of the law's loop: nothing, Fuse, Off. Own lemmas, no statement. -/
import Derived.Test.YtpojpmkflgmgkaaRuns3
namespace Go.Proofs.Ytpojpmkflgmgkaa
open Go.ChangeShapes Go.WideShapes Go.ChangeAt Go.RowKit

set_option maxRecDepth 100000 in
set_option maxHeartbeats 8000000 in
theorem run_long1 (w0 : World) (n : Nat) (_hn : n ≤ 15) (x : Addr) (no co g k : Nat) (hk : k < no) (hk2 : k < 50) (T : Nat → Value) (b6 c6 b7 c7 : Nat) (a8 : Option Addr) (n8 c8 : Nat) (lnow lsafe : List LSec) (lw : List OpV) (lf : Nat) (ld : Bool) (ls : Nat) (f : Foot) (st : DSt) (wx : World) (Q : Exit → Act → World → Prop)
    (kk at_ : Int) (bo : Option Addr) (bn bc : Nat) (bl : List UInt8) (ko : Option Addr) (kn kc : Nat) (kl : List Bool) (tr : Int) (hop0 : OpAt w0 x k ⟨kk, at_, bo, bn, bc, bl, ko, kn, kc, kl, tr⟩)
    (hM : Mem w0 wx g n b6 c6 b7 c7 a8 n8 c8 ⟨lnow, lsafe, lw, lf, ld, ls⟩ f st) (hS : Sim n ⟨lnow, lsafe, lw, lf, ld, ls⟩ st) (_hwk : lw.length ≤ k) (_hsk : ls ≤ k) (hbn : 600 < bn) :
    Code.wp Try.prog (bodyOf Try.f3) (Exit.then (fun a' w' => RI w0 n (some x) no co g a' w' ∧ Rmu a' w' < 50 - k) Q) ⟨fr T (.int .i64 (n : Int)) (.slice (some x) no co) (.bool false) (dptr g) (.slice (some ⟨b6, 0, none⟩) n c6) (.slice (some ⟨b7, 0, none⟩) n c7) (.slice a8 n8 c8) (.int .i64 (lf : Int)) (.bool ld) (.int .i64 (ls : Int)) (.int .i64 (k : Int)), []⟩ wx := by
  have hd1 : decide ((k : Int) < (no : Int)) = true := decide_eq_true (by omega)
  have hd2 : decide ((k : Int) < 50) = true := decide_eq_true (by omega)
  have hop := hop0.below hM.dk.bel
  have e0 : wx.cell? (x.add (k * 5)) = some (.int .i64 kk) := hop.c0
  have e1 : wx.cell? ⟨(x.add (k * 5)).block, (x.add (k * 5)).off + 1, none⟩ = some (.int .i64 at_) := cell_onR (by omega) hop.c1
  have e2 : wx.cell? ⟨(x.add (k * 5)).block, (x.add (k * 5)).off + 2, none⟩ = some (.slice bo bn bc) := cell_onR (by omega) hop.c2
  have e3 : wx.cell? ⟨(x.add (k * 5)).block, (x.add (k * 5)).off + 3, none⟩ = some (.slice ko kn kc) := cell_onR (by omega) hop.c3
  have e4 : wx.cell? ⟨(x.add (k * 5)).block, (x.add (k * 5)).off + 4, none⟩ = some (.int .i64 tr) := cell_onR (by omega) hop.c4
  have HOP : Hid (OpAt w0 x k ⟨kk, at_, bo, bn, bc, bl, ko, kn, kc, kl, tr⟩) := hop0
  have hat64 : -9223372036854775808 ≤ at_ ∧ at_ ≤ 9223372036854775807 := by have := bounds_i64 hop0.w1; simp only at this; omega
  have hbeL : Below wx.heap.size wx (wx.alloc (.cells #[.int .i64 kk, .int .i64 at_, .slice bo bn bc, .slice ko kn kc, .int .i64 tr] 30)) := (Below.refl _ _).alloc (Nat.le_refl _) _
  have HM1 : Hid (Mem w0 (wx.alloc (.cells #[.int .i64 kk, .int .i64 at_, .slice bo bn bc, .slice ko kn kc, .int .i64 tr] 30)) g n b6 c6 b7 c7 a8 n8 c8 ⟨lnow, lsafe, lw, lf, ld, ls⟩ f st) := hM.below hbeL
  have HL1 : Hid (Blk (wx.alloc (.cells #[.int .i64 kk, .int .i64 at_, .slice bo bn bc, .slice ko kn kc, .int .i64 tr] 30)) wx.heap.size #[.int .i64 kk, .int .i64 at_, .slice bo bn bc, .slice ko kn kc, .int .i64 tr] 30) := Blk.new wx _ _
  have HML : Hid (Mine1 w0.heap.size f wx.heap.size) := hM.new (Nat.le_refl _)
  have HS : Hid (Sim n ⟨lnow, lsafe, lw, lf, ld, ls⟩ st) := hS
  have HM : Hid (Mem w0 wx g n b6 c6 b7 c7 a8 n8 c8 ⟨lnow, lsafe, lw, lf, ld, ls⟩ f st) := hM
  clear hop hop0 hM hS hbeL
  have hd3 : decide (600 < (bn : Int)) = true := decide_eq_true (by omega)
  unfold fr
  conv => arg 2; whnf
  go_wp2_with fail
  refine ⟨⟨k + 1, b6, c6, b7, c7, a8, n8, c8, ⟨lnow, lsafe, lw, lf, ld, ls⟩, f, st, ⟨rfl, rfl, rfl, rfl, rfl, rfl, rfl, rfl, rfl, rfl, rfl, rfl, by rfl⟩, by omega, by omega, HM1.out, HS.out, by show lw.length ≤ k + 1; omega, by show ls ≤ k + 1; omega⟩, ?_⟩
  simp [Rmu, intOf]; omega

set_option maxRecDepth 100000 in
set_option maxHeartbeats 8000000 in
theorem run_long2 (w0 : World) (n : Nat) (_hn : n ≤ 15) (x : Addr) (no co g k : Nat) (hk : k < no) (hk2 : k < 50) (T : Nat → Value) (b6 c6 b7 c7 : Nat) (a8 : Option Addr) (n8 c8 : Nat) (lnow lsafe : List LSec) (lw : List OpV) (lf : Nat) (ld : Bool) (ls : Nat) (f : Foot) (st : DSt) (wx : World) (Q : Exit → Act → World → Prop)
    (kk at_ : Int) (bo : Option Addr) (bn bc : Nat) (bl : List UInt8) (ko : Option Addr) (kn kc : Nat) (kl : List Bool) (tr : Int) (hop0 : OpAt w0 x k ⟨kk, at_, bo, bn, bc, bl, ko, kn, kc, kl, tr⟩)
    (hM : Mem w0 wx g n b6 c6 b7 c7 a8 n8 c8 ⟨lnow, lsafe, lw, lf, ld, ls⟩ f st) (hS : Sim n ⟨lnow, lsafe, lw, lf, ld, ls⟩ st) (_hwk : lw.length ≤ k) (_hsk : ls ≤ k) (hbn : bn ≤ 600) (hkn : 60 < kn) :
    Code.wp Try.prog (bodyOf Try.f3) (Exit.then (fun a' w' => RI w0 n (some x) no co g a' w' ∧ Rmu a' w' < 50 - k) Q) ⟨fr T (.int .i64 (n : Int)) (.slice (some x) no co) (.bool false) (dptr g) (.slice (some ⟨b6, 0, none⟩) n c6) (.slice (some ⟨b7, 0, none⟩) n c7) (.slice a8 n8 c8) (.int .i64 (lf : Int)) (.bool ld) (.int .i64 (ls : Int)) (.int .i64 (k : Int)), []⟩ wx := by
  have hd1 : decide ((k : Int) < (no : Int)) = true := decide_eq_true (by omega)
  have hd2 : decide ((k : Int) < 50) = true := decide_eq_true (by omega)
  have hop := hop0.below hM.dk.bel
  have e0 : wx.cell? (x.add (k * 5)) = some (.int .i64 kk) := hop.c0
  have e1 : wx.cell? ⟨(x.add (k * 5)).block, (x.add (k * 5)).off + 1, none⟩ = some (.int .i64 at_) := cell_onR (by omega) hop.c1
  have e2 : wx.cell? ⟨(x.add (k * 5)).block, (x.add (k * 5)).off + 2, none⟩ = some (.slice bo bn bc) := cell_onR (by omega) hop.c2
  have e3 : wx.cell? ⟨(x.add (k * 5)).block, (x.add (k * 5)).off + 3, none⟩ = some (.slice ko kn kc) := cell_onR (by omega) hop.c3
  have e4 : wx.cell? ⟨(x.add (k * 5)).block, (x.add (k * 5)).off + 4, none⟩ = some (.int .i64 tr) := cell_onR (by omega) hop.c4
  have HOP : Hid (OpAt w0 x k ⟨kk, at_, bo, bn, bc, bl, ko, kn, kc, kl, tr⟩) := hop0
  have hat64 : -9223372036854775808 ≤ at_ ∧ at_ ≤ 9223372036854775807 := by have := bounds_i64 hop0.w1; simp only at this; omega
  have hbeL : Below wx.heap.size wx (wx.alloc (.cells #[.int .i64 kk, .int .i64 at_, .slice bo bn bc, .slice ko kn kc, .int .i64 tr] 30)) := (Below.refl _ _).alloc (Nat.le_refl _) _
  have HM1 : Hid (Mem w0 (wx.alloc (.cells #[.int .i64 kk, .int .i64 at_, .slice bo bn bc, .slice ko kn kc, .int .i64 tr] 30)) g n b6 c6 b7 c7 a8 n8 c8 ⟨lnow, lsafe, lw, lf, ld, ls⟩ f st) := hM.below hbeL
  have HL1 : Hid (Blk (wx.alloc (.cells #[.int .i64 kk, .int .i64 at_, .slice bo bn bc, .slice ko kn kc, .int .i64 tr] 30)) wx.heap.size #[.int .i64 kk, .int .i64 at_, .slice bo bn bc, .slice ko kn kc, .int .i64 tr] 30) := Blk.new wx _ _
  have HML : Hid (Mine1 w0.heap.size f wx.heap.size) := hM.new (Nat.le_refl _)
  have HS : Hid (Sim n ⟨lnow, lsafe, lw, lf, ld, ls⟩ st) := hS
  have HM : Hid (Mem w0 wx g n b6 c6 b7 c7 a8 n8 c8 ⟨lnow, lsafe, lw, lf, ld, ls⟩ f st) := hM
  clear hop hop0 hM hS hbeL
  have hd3 : decide (600 < (bn : Int)) = false := decide_eq_false (by omega)
  have hd4 : decide (60 < (kn : Int)) = true := decide_eq_true (by omega)
  unfold fr
  conv => arg 2; whnf
  go_wp2_with fail
  refine ⟨⟨k + 1, b6, c6, b7, c7, a8, n8, c8, ⟨lnow, lsafe, lw, lf, ld, ls⟩, f, st, ⟨rfl, rfl, rfl, rfl, rfl, rfl, rfl, rfl, rfl, rfl, rfl, rfl, by rfl⟩, by omega, by omega, HM1.out, HS.out, by show lw.length ≤ k + 1; omega, by show ls ≤ k + 1; omega⟩, ?_⟩
  simp [Rmu, intOf]; omega

set_option maxRecDepth 100000 in
set_option maxHeartbeats 8000000 in
theorem run_none1 (w0 : World) (n : Nat) (_hn : n ≤ 15) (x : Addr) (no co g k : Nat) (hk : k < no) (hk2 : k < 50) (T : Nat → Value) (b6 c6 b7 c7 : Nat) (a8 : Option Addr) (n8 c8 : Nat) (lnow lsafe : List LSec) (lw : List OpV) (lf : Nat) (ld : Bool) (ls : Nat) (f : Foot) (st : DSt) (wx : World) (Q : Exit → Act → World → Prop)
    (kk at_ : Int) (bo : Option Addr) (bn bc : Nat) (bl : List UInt8) (ko : Option Addr) (kn kc : Nat) (kl : List Bool) (tr : Int) (hop0 : OpAt w0 x k ⟨kk, at_, bo, bn, bc, bl, ko, kn, kc, kl, tr⟩)
    (hM : Mem w0 wx g n b6 c6 b7 c7 a8 n8 c8 ⟨lnow, lsafe, lw, lf, ld, ls⟩ f st) (hS : Sim n ⟨lnow, lsafe, lw, lf, ld, ls⟩ st) (_hwk : lw.length ≤ k) (_hsk : ls ≤ k) (hbn : bn ≤ 600) (hkn : kn ≤ 60) (hkk : kk < 0) :
    Code.wp Try.prog (bodyOf Try.f3) (Exit.then (fun a' w' => RI w0 n (some x) no co g a' w' ∧ Rmu a' w' < 50 - k) Q) ⟨fr T (.int .i64 (n : Int)) (.slice (some x) no co) (.bool false) (dptr g) (.slice (some ⟨b6, 0, none⟩) n c6) (.slice (some ⟨b7, 0, none⟩) n c7) (.slice a8 n8 c8) (.int .i64 (lf : Int)) (.bool ld) (.int .i64 (ls : Int)) (.int .i64 (k : Int)), []⟩ wx := by
  have hd1 : decide ((k : Int) < (no : Int)) = true := decide_eq_true (by omega)
  have hd2 : decide ((k : Int) < 50) = true := decide_eq_true (by omega)
  have hop := hop0.below hM.dk.bel
  have e0 : wx.cell? (x.add (k * 5)) = some (.int .i64 kk) := hop.c0
  have e1 : wx.cell? ⟨(x.add (k * 5)).block, (x.add (k * 5)).off + 1, none⟩ = some (.int .i64 at_) := cell_onR (by omega) hop.c1
  have e2 : wx.cell? ⟨(x.add (k * 5)).block, (x.add (k * 5)).off + 2, none⟩ = some (.slice bo bn bc) := cell_onR (by omega) hop.c2
  have e3 : wx.cell? ⟨(x.add (k * 5)).block, (x.add (k * 5)).off + 3, none⟩ = some (.slice ko kn kc) := cell_onR (by omega) hop.c3
  have e4 : wx.cell? ⟨(x.add (k * 5)).block, (x.add (k * 5)).off + 4, none⟩ = some (.int .i64 tr) := cell_onR (by omega) hop.c4
  have HOP : Hid (OpAt w0 x k ⟨kk, at_, bo, bn, bc, bl, ko, kn, kc, kl, tr⟩) := hop0
  have hat64 : -9223372036854775808 ≤ at_ ∧ at_ ≤ 9223372036854775807 := by have := bounds_i64 hop0.w1; simp only at this; omega
  have hbeL : Below wx.heap.size wx (wx.alloc (.cells #[.int .i64 kk, .int .i64 at_, .slice bo bn bc, .slice ko kn kc, .int .i64 tr] 30)) := (Below.refl _ _).alloc (Nat.le_refl _) _
  have HM1 : Hid (Mem w0 (wx.alloc (.cells #[.int .i64 kk, .int .i64 at_, .slice bo bn bc, .slice ko kn kc, .int .i64 tr] 30)) g n b6 c6 b7 c7 a8 n8 c8 ⟨lnow, lsafe, lw, lf, ld, ls⟩ f st) := hM.below hbeL
  have HL1 : Hid (Blk (wx.alloc (.cells #[.int .i64 kk, .int .i64 at_, .slice bo bn bc, .slice ko kn kc, .int .i64 tr] 30)) wx.heap.size #[.int .i64 kk, .int .i64 at_, .slice bo bn bc, .slice ko kn kc, .int .i64 tr] 30) := Blk.new wx _ _
  have HML : Hid (Mine1 w0.heap.size f wx.heap.size) := hM.new (Nat.le_refl _)
  have HS : Hid (Sim n ⟨lnow, lsafe, lw, lf, ld, ls⟩ st) := hS
  have HM : Hid (Mem w0 wx g n b6 c6 b7 c7 a8 n8 c8 ⟨lnow, lsafe, lw, lf, ld, ls⟩ f st) := hM
  clear hop hop0 hM hS hbeL
  have hd3 : decide (600 < (bn : Int)) = false := decide_eq_false (by omega)
  have hd4 : decide (60 < (kn : Int)) = false := decide_eq_false (by omega)
  have z0 : (kk == 0) = false := beq_eq_false_iff_ne.2 (by omega)
  have z1 : (kk == 1) = false := beq_eq_false_iff_ne.2 (by omega)
  have z2 : (kk == 2) = false := beq_eq_false_iff_ne.2 (by omega)
  have z3 : (kk == 3) = false := beq_eq_false_iff_ne.2 (by omega)
  have z4 : (kk == 4) = false := beq_eq_false_iff_ne.2 (by omega)
  have z5 : (kk == 5) = false := beq_eq_false_iff_ne.2 (by omega)
  have z6 : decide (0 ≤ kk) = false := decide_eq_false (by omega)
  unfold fr
  conv => arg 2; whnf
  rcases in3 at_ n with q | ⟨q, q'⟩ | ⟨q, q'⟩
  all_goals
    go_wp2_with fail
    refine (down_is HM1.out.dk ld HS.out.down.symm).mono ?_
    rintro e w' ⟨rfl, hw⟩; rw [hw]; clear hw w'
    go_wp2_with fail
    refine (steps_is HM1.out.dk ls HS.out.steps.symm).mono ?_
    rintro e w' ⟨rfl, hw⟩; rw [hw]; clear hw w'
    go_wp2_with fail
    refine (waits_is HM1.out.dk n8 (by rw [← HS.out.ws.1]; exact HM1.out.wt.len)).mono ?_
    rintro e w' ⟨rfl, hw⟩; rw [hw]; clear hw w'
    go_wp2_with fail
    refine (len_is HM1.out.dk n (by rw [← HS.out.nows.1]; exact HS.out.len)).mono ?_
    rintro e w' ⟨rfl, hw⟩; rw [hw]; clear hw w'
    go_wp2_with fail
    refine ⟨⟨k + 1, b6, c6, b7, c7, a8, n8, c8, ⟨lnow, lsafe, lw, lf, ld, ls⟩, f, st, ⟨rfl, rfl, rfl, rfl, rfl, rfl, rfl, rfl, rfl, by rfl, rfl, by rfl, by rfl⟩, by omega, by omega, HM1.out, HS.out, by show lw.length ≤ k + 1; omega, by show ls ≤ k + 1; omega⟩, ?_⟩
    simp [Rmu, intOf]; omega

set_option maxRecDepth 100000 in
set_option maxHeartbeats 8000000 in
theorem run_none2 (w0 : World) (n : Nat) (_hn : n ≤ 15) (x : Addr) (no co g k : Nat) (hk : k < no) (hk2 : k < 50) (T : Nat → Value) (b6 c6 b7 c7 : Nat) (a8 : Option Addr) (n8 c8 : Nat) (lnow lsafe : List LSec) (lw : List OpV) (lf : Nat) (ld : Bool) (ls : Nat) (f : Foot) (st : DSt) (wx : World) (Q : Exit → Act → World → Prop)
    (kk at_ : Int) (bo : Option Addr) (bn bc : Nat) (bl : List UInt8) (ko : Option Addr) (kn kc : Nat) (kl : List Bool) (tr : Int) (hop0 : OpAt w0 x k ⟨kk, at_, bo, bn, bc, bl, ko, kn, kc, kl, tr⟩)
    (hM : Mem w0 wx g n b6 c6 b7 c7 a8 n8 c8 ⟨lnow, lsafe, lw, lf, ld, ls⟩ f st) (hS : Sim n ⟨lnow, lsafe, lw, lf, ld, ls⟩ st) (_hwk : lw.length ≤ k) (_hsk : ls ≤ k) (hbn : bn ≤ 600) (hkn : kn ≤ 60) (hkk : 5 < kk) :
    Code.wp Try.prog (bodyOf Try.f3) (Exit.then (fun a' w' => RI w0 n (some x) no co g a' w' ∧ Rmu a' w' < 50 - k) Q) ⟨fr T (.int .i64 (n : Int)) (.slice (some x) no co) (.bool false) (dptr g) (.slice (some ⟨b6, 0, none⟩) n c6) (.slice (some ⟨b7, 0, none⟩) n c7) (.slice a8 n8 c8) (.int .i64 (lf : Int)) (.bool ld) (.int .i64 (ls : Int)) (.int .i64 (k : Int)), []⟩ wx := by
  have hd1 : decide ((k : Int) < (no : Int)) = true := decide_eq_true (by omega)
  have hd2 : decide ((k : Int) < 50) = true := decide_eq_true (by omega)
  have hop := hop0.below hM.dk.bel
  have e0 : wx.cell? (x.add (k * 5)) = some (.int .i64 kk) := hop.c0
  have e1 : wx.cell? ⟨(x.add (k * 5)).block, (x.add (k * 5)).off + 1, none⟩ = some (.int .i64 at_) := cell_onR (by omega) hop.c1
  have e2 : wx.cell? ⟨(x.add (k * 5)).block, (x.add (k * 5)).off + 2, none⟩ = some (.slice bo bn bc) := cell_onR (by omega) hop.c2
  have e3 : wx.cell? ⟨(x.add (k * 5)).block, (x.add (k * 5)).off + 3, none⟩ = some (.slice ko kn kc) := cell_onR (by omega) hop.c3
  have e4 : wx.cell? ⟨(x.add (k * 5)).block, (x.add (k * 5)).off + 4, none⟩ = some (.int .i64 tr) := cell_onR (by omega) hop.c4
  have HOP : Hid (OpAt w0 x k ⟨kk, at_, bo, bn, bc, bl, ko, kn, kc, kl, tr⟩) := hop0
  have hat64 : -9223372036854775808 ≤ at_ ∧ at_ ≤ 9223372036854775807 := by have := bounds_i64 hop0.w1; simp only at this; omega
  have hbeL : Below wx.heap.size wx (wx.alloc (.cells #[.int .i64 kk, .int .i64 at_, .slice bo bn bc, .slice ko kn kc, .int .i64 tr] 30)) := (Below.refl _ _).alloc (Nat.le_refl _) _
  have HM1 : Hid (Mem w0 (wx.alloc (.cells #[.int .i64 kk, .int .i64 at_, .slice bo bn bc, .slice ko kn kc, .int .i64 tr] 30)) g n b6 c6 b7 c7 a8 n8 c8 ⟨lnow, lsafe, lw, lf, ld, ls⟩ f st) := hM.below hbeL
  have HL1 : Hid (Blk (wx.alloc (.cells #[.int .i64 kk, .int .i64 at_, .slice bo bn bc, .slice ko kn kc, .int .i64 tr] 30)) wx.heap.size #[.int .i64 kk, .int .i64 at_, .slice bo bn bc, .slice ko kn kc, .int .i64 tr] 30) := Blk.new wx _ _
  have HML : Hid (Mine1 w0.heap.size f wx.heap.size) := hM.new (Nat.le_refl _)
  have HS : Hid (Sim n ⟨lnow, lsafe, lw, lf, ld, ls⟩ st) := hS
  have HM : Hid (Mem w0 wx g n b6 c6 b7 c7 a8 n8 c8 ⟨lnow, lsafe, lw, lf, ld, ls⟩ f st) := hM
  clear hop hop0 hM hS hbeL
  have hd3 : decide (600 < (bn : Int)) = false := decide_eq_false (by omega)
  have hd4 : decide (60 < (kn : Int)) = false := decide_eq_false (by omega)
  have z0 : (kk == 0) = false := beq_eq_false_iff_ne.2 (by omega)
  have z1 : (kk == 1) = false := beq_eq_false_iff_ne.2 (by omega)
  have z2 : (kk == 2) = false := beq_eq_false_iff_ne.2 (by omega)
  have z3 : (kk == 3) = false := beq_eq_false_iff_ne.2 (by omega)
  have z4 : (kk == 4) = false := beq_eq_false_iff_ne.2 (by omega)
  have z5 : (kk == 5) = false := beq_eq_false_iff_ne.2 (by omega)
  have z6 : decide (0 ≤ kk) = true := decide_eq_true (by omega)
  have z7 : decide (kk ≤ 2) = false := decide_eq_false (by omega)
  unfold fr
  conv => arg 2; whnf
  rcases in3 at_ n with q | ⟨q, q'⟩ | ⟨q, q'⟩
  all_goals
    go_wp2_with fail
    refine (down_is HM1.out.dk ld HS.out.down.symm).mono ?_
    rintro e w' ⟨rfl, hw⟩; rw [hw]; clear hw w'
    go_wp2_with fail
    refine (steps_is HM1.out.dk ls HS.out.steps.symm).mono ?_
    rintro e w' ⟨rfl, hw⟩; rw [hw]; clear hw w'
    go_wp2_with fail
    refine (waits_is HM1.out.dk n8 (by rw [← HS.out.ws.1]; exact HM1.out.wt.len)).mono ?_
    rintro e w' ⟨rfl, hw⟩; rw [hw]; clear hw w'
    go_wp2_with fail
    refine (len_is HM1.out.dk n (by rw [← HS.out.nows.1]; exact HS.out.len)).mono ?_
    rintro e w' ⟨rfl, hw⟩; rw [hw]; clear hw w'
    go_wp2_with fail
    refine ⟨⟨k + 1, b6, c6, b7, c7, a8, n8, c8, ⟨lnow, lsafe, lw, lf, ld, ls⟩, f, st, ⟨rfl, rfl, rfl, rfl, rfl, rfl, rfl, rfl, rfl, by rfl, rfl, by rfl, by rfl⟩, by omega, by omega, HM1.out, HS.out, by show lw.length ≤ k + 1; omega, by show ls ≤ k + 1; omega⟩, ?_⟩
    simp [Rmu, intOf]; omega

set_option maxRecDepth 100000 in
set_option maxHeartbeats 8000000 in
theorem run_off (w0 : World) (n : Nat) (_hn : n ≤ 15) (x : Addr) (no co g k : Nat) (hk : k < no) (hk2 : k < 50) (T : Nat → Value) (b6 c6 b7 c7 : Nat) (a8 : Option Addr) (n8 c8 : Nat) (lnow lsafe : List LSec) (lw : List OpV) (lf : Nat) (ld : Bool) (ls : Nat) (f : Foot) (st : DSt) (wx : World) (Q : Exit → Act → World → Prop)
    (at_ : Int) (bo : Option Addr) (bn bc : Nat) (bl : List UInt8) (ko : Option Addr) (kn kc : Nat) (kl : List Bool) (tr : Int) (hop0 : OpAt w0 x k ⟨5, at_, bo, bn, bc, bl, ko, kn, kc, kl, tr⟩)
    (hM : Mem w0 wx g n b6 c6 b7 c7 a8 n8 c8 ⟨lnow, lsafe, lw, lf, ld, ls⟩ f st) (hS : Sim n ⟨lnow, lsafe, lw, lf, ld, ls⟩ st) (_hwk : lw.length ≤ k) (_hsk : ls ≤ k) (hbn : bn ≤ 600) (hkn : kn ≤ 60) :
    Code.wp Try.prog (bodyOf Try.f3) (Exit.then (fun a' w' => RI w0 n (some x) no co g a' w' ∧ Rmu a' w' < 50 - k) Q) ⟨fr T (.int .i64 (n : Int)) (.slice (some x) no co) (.bool false) (dptr g) (.slice (some ⟨b6, 0, none⟩) n c6) (.slice (some ⟨b7, 0, none⟩) n c7) (.slice a8 n8 c8) (.int .i64 (lf : Int)) (.bool ld) (.int .i64 (ls : Int)) (.int .i64 (k : Int)), []⟩ wx := by
  have hd1 : decide ((k : Int) < (no : Int)) = true := decide_eq_true (by omega)
  have hd2 : decide ((k : Int) < 50) = true := decide_eq_true (by omega)
  have hop := hop0.below hM.dk.bel
  have e0 : wx.cell? (x.add (k * 5)) = some (.int .i64 5) := hop.c0
  have e1 : wx.cell? ⟨(x.add (k * 5)).block, (x.add (k * 5)).off + 1, none⟩ = some (.int .i64 at_) := cell_onR (by omega) hop.c1
  have e2 : wx.cell? ⟨(x.add (k * 5)).block, (x.add (k * 5)).off + 2, none⟩ = some (.slice bo bn bc) := cell_onR (by omega) hop.c2
  have e3 : wx.cell? ⟨(x.add (k * 5)).block, (x.add (k * 5)).off + 3, none⟩ = some (.slice ko kn kc) := cell_onR (by omega) hop.c3
  have e4 : wx.cell? ⟨(x.add (k * 5)).block, (x.add (k * 5)).off + 4, none⟩ = some (.int .i64 tr) := cell_onR (by omega) hop.c4
  have HOP : Hid (OpAt w0 x k ⟨5, at_, bo, bn, bc, bl, ko, kn, kc, kl, tr⟩) := hop0
  have hat64 : -9223372036854775808 ≤ at_ ∧ at_ ≤ 9223372036854775807 := by have := bounds_i64 hop0.w1; simp only at this; omega
  have hbeL : Below wx.heap.size wx (wx.alloc (.cells #[.int .i64 5, .int .i64 at_, .slice bo bn bc, .slice ko kn kc, .int .i64 tr] 30)) := (Below.refl _ _).alloc (Nat.le_refl _) _
  have HM1 : Hid (Mem w0 (wx.alloc (.cells #[.int .i64 5, .int .i64 at_, .slice bo bn bc, .slice ko kn kc, .int .i64 tr] 30)) g n b6 c6 b7 c7 a8 n8 c8 ⟨lnow, lsafe, lw, lf, ld, ls⟩ f st) := hM.below hbeL
  have HL1 : Hid (Blk (wx.alloc (.cells #[.int .i64 5, .int .i64 at_, .slice bo bn bc, .slice ko kn kc, .int .i64 tr] 30)) wx.heap.size #[.int .i64 5, .int .i64 at_, .slice bo bn bc, .slice ko kn kc, .int .i64 tr] 30) := Blk.new wx _ _
  have HML : Hid (Mine1 w0.heap.size f wx.heap.size) := hM.new (Nat.le_refl _)
  have HS : Hid (Sim n ⟨lnow, lsafe, lw, lf, ld, ls⟩ st) := hS
  have HM : Hid (Mem w0 wx g n b6 c6 b7 c7 a8 n8 c8 ⟨lnow, lsafe, lw, lf, ld, ls⟩ f st) := hM
  clear hop hop0 hM hS hbeL
  have hd3 : decide (600 < (bn : Int)) = false := decide_eq_false (by omega)
  have hd4 : decide (60 < (kn : Int)) = false := decide_eq_false (by omega)
  unfold fr
  conv => arg 2; whnf
  rcases in3 at_ n with q | ⟨q, q'⟩ | ⟨q, q'⟩
  all_goals
    go_wp2_with fail
    refine (off_is HM1.out.dk).mono ?_
    rintro e w6 ⟨rfl, hD6, hT6⟩
    have HM6 : Hid (Mem w0 w6 g n b6 c6 b7 c7 a8 n8 c8 ⟨lnow, lsafe, lw, lf, true, ls⟩ f { st with down := true }) := by
      have h := HM1.out.turn hT6 hD6
      exact ⟨h.dk, h.nw, h.sf, h.wt, h.src⟩
    have HS6 : Hid (Sim n ⟨lnow, lsafe, lw, lf, true, ls⟩ { st with down := true }) := by
      have h := HS.out
      exact ⟨h.len, h.lens, h.nows, h.safes, h.ws, rfl, h.steps, fun e => (by cases e), h.fb⟩
    clear hD6 hT6
    go_wp2_with fail
    refine (down_is HM6.out.dk true HS6.out.down.symm).mono ?_
    rintro e w' ⟨rfl, hw⟩; rw [hw]; clear hw w'
    go_wp2_with fail
    refine (steps_is HM6.out.dk ls HS6.out.steps.symm).mono ?_
    rintro e w' ⟨rfl, hw⟩; rw [hw]; clear hw w'
    go_wp2_with fail
    refine (waits_is HM6.out.dk n8 (by rw [← HS6.out.ws.1]; exact HM6.out.wt.len)).mono ?_
    rintro e w' ⟨rfl, hw⟩; rw [hw]; clear hw w'
    go_wp2_with fail
    refine (len_is HM6.out.dk n (by rw [← HS6.out.nows.1]; exact HS6.out.len)).mono ?_
    rintro e w' ⟨rfl, hw⟩; rw [hw]; clear hw w'
    go_wp2_with fail
    refine ⟨⟨k + 1, b6, c6, b7, c7, a8, n8, c8, ⟨lnow, lsafe, lw, lf, true, ls⟩, f, { st with down := true }, ⟨rfl, rfl, rfl, rfl, rfl, rfl, rfl, rfl, rfl, by rfl, rfl, by rfl, by rfl⟩, by omega, by omega, HM6.out, HS6.out, by show lw.length ≤ k + 1; omega, by show ls ≤ k + 1; omega⟩, ?_⟩
    simp [Rmu, intOf]; omega

set_option maxRecDepth 100000 in
set_option maxHeartbeats 8000000 in
theorem run_fuse_down (w0 : World) (n : Nat) (_hn : n ≤ 15) (x : Addr) (no co g k : Nat) (hk : k < no) (hk2 : k < 50) (T : Nat → Value) (b6 c6 b7 c7 : Nat) (a8 : Option Addr) (n8 c8 : Nat) (lnow lsafe : List LSec) (lw : List OpV) (lf : Nat) (ld : Bool) (ls : Nat) (f : Foot) (st : DSt) (wx : World) (Q : Exit → Act → World → Prop)
    (at_ : Int) (bo : Option Addr) (bn bc : Nat) (bl : List UInt8) (ko : Option Addr) (kn kc : Nat) (kl : List Bool) (tr : Int) (hop0 : OpAt w0 x k ⟨3, at_, bo, bn, bc, bl, ko, kn, kc, kl, tr⟩)
    (hM : Mem w0 wx g n b6 c6 b7 c7 a8 n8 c8 ⟨lnow, lsafe, lw, lf, ld, ls⟩ f st) (hS : Sim n ⟨lnow, lsafe, lw, lf, ld, ls⟩ st) (_hwk : lw.length ≤ k) (_hsk : ls ≤ k) (hbn : bn ≤ 600) (hkn : kn ≤ 60) (hld : ld = true) :
    Code.wp Try.prog (bodyOf Try.f3) (Exit.then (fun a' w' => RI w0 n (some x) no co g a' w' ∧ Rmu a' w' < 50 - k) Q) ⟨fr T (.int .i64 (n : Int)) (.slice (some x) no co) (.bool false) (dptr g) (.slice (some ⟨b6, 0, none⟩) n c6) (.slice (some ⟨b7, 0, none⟩) n c7) (.slice a8 n8 c8) (.int .i64 (lf : Int)) (.bool ld) (.int .i64 (ls : Int)) (.int .i64 (k : Int)), []⟩ wx := by
  have hd1 : decide ((k : Int) < (no : Int)) = true := decide_eq_true (by omega)
  have hd2 : decide ((k : Int) < 50) = true := decide_eq_true (by omega)
  have hop := hop0.below hM.dk.bel
  have e0 : wx.cell? (x.add (k * 5)) = some (.int .i64 3) := hop.c0
  have e1 : wx.cell? ⟨(x.add (k * 5)).block, (x.add (k * 5)).off + 1, none⟩ = some (.int .i64 at_) := cell_onR (by omega) hop.c1
  have e2 : wx.cell? ⟨(x.add (k * 5)).block, (x.add (k * 5)).off + 2, none⟩ = some (.slice bo bn bc) := cell_onR (by omega) hop.c2
  have e3 : wx.cell? ⟨(x.add (k * 5)).block, (x.add (k * 5)).off + 3, none⟩ = some (.slice ko kn kc) := cell_onR (by omega) hop.c3
  have e4 : wx.cell? ⟨(x.add (k * 5)).block, (x.add (k * 5)).off + 4, none⟩ = some (.int .i64 tr) := cell_onR (by omega) hop.c4
  have HOP : Hid (OpAt w0 x k ⟨3, at_, bo, bn, bc, bl, ko, kn, kc, kl, tr⟩) := hop0
  have hat64 : -9223372036854775808 ≤ at_ ∧ at_ ≤ 9223372036854775807 := by have := bounds_i64 hop0.w1; simp only at this; omega
  have hbeL : Below wx.heap.size wx (wx.alloc (.cells #[.int .i64 3, .int .i64 at_, .slice bo bn bc, .slice ko kn kc, .int .i64 tr] 30)) := (Below.refl _ _).alloc (Nat.le_refl _) _
  have HM1 : Hid (Mem w0 (wx.alloc (.cells #[.int .i64 3, .int .i64 at_, .slice bo bn bc, .slice ko kn kc, .int .i64 tr] 30)) g n b6 c6 b7 c7 a8 n8 c8 ⟨lnow, lsafe, lw, lf, ld, ls⟩ f st) := hM.below hbeL
  have HL1 : Hid (Blk (wx.alloc (.cells #[.int .i64 3, .int .i64 at_, .slice bo bn bc, .slice ko kn kc, .int .i64 tr] 30)) wx.heap.size #[.int .i64 3, .int .i64 at_, .slice bo bn bc, .slice ko kn kc, .int .i64 tr] 30) := Blk.new wx _ _
  have HML : Hid (Mine1 w0.heap.size f wx.heap.size) := hM.new (Nat.le_refl _)
  have HS : Hid (Sim n ⟨lnow, lsafe, lw, lf, ld, ls⟩ st) := hS
  have HM : Hid (Mem w0 wx g n b6 c6 b7 c7 a8 n8 c8 ⟨lnow, lsafe, lw, lf, ld, ls⟩ f st) := hM
  clear hop hop0 hM hS hbeL
  subst hld
  have hd3 : decide (600 < (bn : Int)) = false := decide_eq_false (by omega)
  have hd4 : decide (60 < (kn : Int)) = false := decide_eq_false (by omega)
  unfold fr
  conv => arg 2; whnf
  rcases in3 at_ n with q | ⟨q, q'⟩ | ⟨q, q'⟩
  all_goals
    go_wp2_with fail
    refine (fuse_down_is HM1.out.dk at_ HS.out.down.symm).mono ?_
    rintro e w' ⟨rfl, hw⟩; rw [hw]; clear hw w'
    go_wp2_with fail
    refine (down_is HM1.out.dk true HS.out.down.symm).mono ?_
    rintro e w' ⟨rfl, hw⟩; rw [hw]; clear hw w'
    go_wp2_with fail
    refine (steps_is HM1.out.dk ls HS.out.steps.symm).mono ?_
    rintro e w' ⟨rfl, hw⟩; rw [hw]; clear hw w'
    go_wp2_with fail
    refine (waits_is HM1.out.dk n8 (by rw [← HS.out.ws.1]; exact HM1.out.wt.len)).mono ?_
    rintro e w' ⟨rfl, hw⟩; rw [hw]; clear hw w'
    go_wp2_with fail
    refine (len_is HM1.out.dk n (by rw [← HS.out.nows.1]; exact HS.out.len)).mono ?_
    rintro e w' ⟨rfl, hw⟩; rw [hw]; clear hw w'
    go_wp2_with fail
    refine ⟨⟨k + 1, b6, c6, b7, c7, a8, n8, c8, ⟨lnow, lsafe, lw, lf, true, ls⟩, f, st, ⟨rfl, rfl, rfl, rfl, rfl, rfl, rfl, rfl, rfl, by rfl, rfl, by rfl, by rfl⟩, by omega, by omega, HM1.out, HS.out, by show lw.length ≤ k + 1; omega, by show ls ≤ k + 1; omega⟩, ?_⟩
    simp [Rmu, intOf]; omega

set_option maxRecDepth 100000 in
set_option maxHeartbeats 8000000 in
theorem run_fuse_neg (w0 : World) (n : Nat) (_hn : n ≤ 15) (x : Addr) (no co g k : Nat) (hk : k < no) (hk2 : k < 50) (T : Nat → Value) (b6 c6 b7 c7 : Nat) (a8 : Option Addr) (n8 c8 : Nat) (lnow lsafe : List LSec) (lw : List OpV) (lf : Nat) (ld : Bool) (ls : Nat) (f : Foot) (st : DSt) (wx : World) (Q : Exit → Act → World → Prop)
    (at_ : Int) (bo : Option Addr) (bn bc : Nat) (bl : List UInt8) (ko : Option Addr) (kn kc : Nat) (kl : List Bool) (tr : Int) (hop0 : OpAt w0 x k ⟨3, at_, bo, bn, bc, bl, ko, kn, kc, kl, tr⟩)
    (hM : Mem w0 wx g n b6 c6 b7 c7 a8 n8 c8 ⟨lnow, lsafe, lw, lf, ld, ls⟩ f st) (hS : Sim n ⟨lnow, lsafe, lw, lf, ld, ls⟩ st) (_hwk : lw.length ≤ k) (_hsk : ls ≤ k) (hbn : bn ≤ 600) (hkn : kn ≤ 60) (hld : ld = false) (hneg : at_ < 0) :
    Code.wp Try.prog (bodyOf Try.f3) (Exit.then (fun a' w' => RI w0 n (some x) no co g a' w' ∧ Rmu a' w' < 50 - k) Q) ⟨fr T (.int .i64 (n : Int)) (.slice (some x) no co) (.bool false) (dptr g) (.slice (some ⟨b6, 0, none⟩) n c6) (.slice (some ⟨b7, 0, none⟩) n c7) (.slice a8 n8 c8) (.int .i64 (lf : Int)) (.bool ld) (.int .i64 (ls : Int)) (.int .i64 (k : Int)), []⟩ wx := by
  have hd1 : decide ((k : Int) < (no : Int)) = true := decide_eq_true (by omega)
  have hd2 : decide ((k : Int) < 50) = true := decide_eq_true (by omega)
  have hop := hop0.below hM.dk.bel
  have e0 : wx.cell? (x.add (k * 5)) = some (.int .i64 3) := hop.c0
  have e1 : wx.cell? ⟨(x.add (k * 5)).block, (x.add (k * 5)).off + 1, none⟩ = some (.int .i64 at_) := cell_onR (by omega) hop.c1
  have e2 : wx.cell? ⟨(x.add (k * 5)).block, (x.add (k * 5)).off + 2, none⟩ = some (.slice bo bn bc) := cell_onR (by omega) hop.c2
  have e3 : wx.cell? ⟨(x.add (k * 5)).block, (x.add (k * 5)).off + 3, none⟩ = some (.slice ko kn kc) := cell_onR (by omega) hop.c3
  have e4 : wx.cell? ⟨(x.add (k * 5)).block, (x.add (k * 5)).off + 4, none⟩ = some (.int .i64 tr) := cell_onR (by omega) hop.c4
  have HOP : Hid (OpAt w0 x k ⟨3, at_, bo, bn, bc, bl, ko, kn, kc, kl, tr⟩) := hop0
  have hat64 : -9223372036854775808 ≤ at_ ∧ at_ ≤ 9223372036854775807 := by have := bounds_i64 hop0.w1; simp only at this; omega
  have hbeL : Below wx.heap.size wx (wx.alloc (.cells #[.int .i64 3, .int .i64 at_, .slice bo bn bc, .slice ko kn kc, .int .i64 tr] 30)) := (Below.refl _ _).alloc (Nat.le_refl _) _
  have HM1 : Hid (Mem w0 (wx.alloc (.cells #[.int .i64 3, .int .i64 at_, .slice bo bn bc, .slice ko kn kc, .int .i64 tr] 30)) g n b6 c6 b7 c7 a8 n8 c8 ⟨lnow, lsafe, lw, lf, ld, ls⟩ f st) := hM.below hbeL
  have HL1 : Hid (Blk (wx.alloc (.cells #[.int .i64 3, .int .i64 at_, .slice bo bn bc, .slice ko kn kc, .int .i64 tr] 30)) wx.heap.size #[.int .i64 3, .int .i64 at_, .slice bo bn bc, .slice ko kn kc, .int .i64 tr] 30) := Blk.new wx _ _
  have HML : Hid (Mine1 w0.heap.size f wx.heap.size) := hM.new (Nat.le_refl _)
  have HS : Hid (Sim n ⟨lnow, lsafe, lw, lf, ld, ls⟩ st) := hS
  have HM : Hid (Mem w0 wx g n b6 c6 b7 c7 a8 n8 c8 ⟨lnow, lsafe, lw, lf, ld, ls⟩ f st) := hM
  clear hop hop0 hM hS hbeL
  subst hld
  have q : decide (0 ≤ at_) = false := decide_eq_false (by omega)
  have hng : ¬ 0 ≤ at_ := by omega
  have hd3 : decide (600 < (bn : Int)) = false := decide_eq_false (by omega)
  have hd4 : decide (60 < (kn : Int)) = false := decide_eq_false (by omega)
  unfold fr
  conv => arg 2; whnf
  go_wp2_with fail
  refine (fuse_up_is HM1.out.dk at_ at_.toNat rfl HS.out.down.symm (by omega)).mono ?_
  rintro e w6 ⟨rfl, hD6, hT6⟩
  have HM6 : Hid (Mem w0 w6 g n b6 c6 b7 c7 a8 n8 c8 ⟨lnow, lsafe, lw, at_.toNat, false, ls⟩ f { st with fuse := at_.toNat }) := by
    have h := HM1.out.turn hT6 hD6
    exact ⟨h.dk, h.nw, h.sf, h.wt, h.src⟩
  have HS6 : Hid (Sim n ⟨lnow, lsafe, lw, at_.toNat, false, ls⟩ { st with fuse := at_.toNat }) := by
    have h := HS.out
    exact ⟨h.len, h.lens, h.nows, h.safes, h.ws, h.down, h.steps, fun _ => rfl, by show at_.toNat < _; omega⟩
  have l1 : w6.cell? ⟨wx.heap.size, 1, none⟩ = some (.int .i64 at_) := (HL1.out.chg hT6.chg HML.out.2).cell 1
  clear hD6 hT6
  have HT0 : Hid (at_.toNat = 0) := by show at_.toNat = 0; omega
  have HM7 : Hid (Mem w0 w6 g n b6 c6 b7 c7 a8 n8 c8 ⟨lnow, lsafe, lw, 0, false, ls⟩ f { st with fuse := 0 }) := by have h := HM6.out; rw [HT0.out] at h; exact h
  have HS7 : Hid (Sim n ⟨lnow, lsafe, lw, 0, false, ls⟩ { st with fuse := 0 }) := by have h := HS6.out; rw [HT0.out] at h; exact h
  go_wp2_with fail
  refine (down_is HM7.out.dk false HS7.out.down.symm).mono ?_
  rintro e w' ⟨rfl, hw⟩; rw [hw]; clear hw w'
  go_wp2_with fail
  refine (steps_is HM7.out.dk ls HS7.out.steps.symm).mono ?_
  rintro e w' ⟨rfl, hw⟩; rw [hw]; clear hw w'
  go_wp2_with fail
  refine (waits_is HM7.out.dk n8 (by rw [← HS7.out.ws.1]; exact HM7.out.wt.len)).mono ?_
  rintro e w' ⟨rfl, hw⟩; rw [hw]; clear hw w'
  go_wp2_with fail
  refine (len_is HM7.out.dk n (by rw [← HS7.out.nows.1]; exact HS7.out.len)).mono ?_
  rintro e w' ⟨rfl, hw⟩; rw [hw]; clear hw w'
  go_wp2_with fail
  refine ⟨⟨k + 1, b6, c6, b7, c7, a8, n8, c8, ⟨lnow, lsafe, lw, 0, false, ls⟩, f, { st with fuse := 0 }, ⟨rfl, rfl, rfl, rfl, rfl, rfl, rfl, rfl, rfl, by rfl, rfl, by rfl, by rfl⟩, by omega, by omega, HM7.out, HS7.out, by show lw.length ≤ k + 1; omega, by show ls ≤ k + 1; omega⟩, ?_⟩
  simp [Rmu, intOf]; omega

set_option maxRecDepth 100000 in
set_option maxHeartbeats 8000000 in
theorem run_fuse_pos (w0 : World) (n : Nat) (_hn : n ≤ 15) (x : Addr) (no co g k : Nat) (hk : k < no) (hk2 : k < 50) (T : Nat → Value) (b6 c6 b7 c7 : Nat) (a8 : Option Addr) (n8 c8 : Nat) (lnow lsafe : List LSec) (lw : List OpV) (lf : Nat) (ld : Bool) (ls : Nat) (f : Foot) (st : DSt) (wx : World) (Q : Exit → Act → World → Prop)
    (at_ : Int) (bo : Option Addr) (bn bc : Nat) (bl : List UInt8) (ko : Option Addr) (kn kc : Nat) (kl : List Bool) (tr : Int) (hop0 : OpAt w0 x k ⟨3, at_, bo, bn, bc, bl, ko, kn, kc, kl, tr⟩)
    (hM : Mem w0 wx g n b6 c6 b7 c7 a8 n8 c8 ⟨lnow, lsafe, lw, lf, ld, ls⟩ f st) (hS : Sim n ⟨lnow, lsafe, lw, lf, ld, ls⟩ st) (_hwk : lw.length ≤ k) (_hsk : ls ≤ k) (hbn : bn ≤ 600) (hkn : kn ≤ 60) (hld : ld = false) (qq : Nat) (hqq : at_ = (qq : Int)) :
    Code.wp Try.prog (bodyOf Try.f3) (Exit.then (fun a' w' => RI w0 n (some x) no co g a' w' ∧ Rmu a' w' < 50 - k) Q) ⟨fr T (.int .i64 (n : Int)) (.slice (some x) no co) (.bool false) (dptr g) (.slice (some ⟨b6, 0, none⟩) n c6) (.slice (some ⟨b7, 0, none⟩) n c7) (.slice a8 n8 c8) (.int .i64 (lf : Int)) (.bool ld) (.int .i64 (ls : Int)) (.int .i64 (k : Int)), []⟩ wx := by
  have hd1 : decide ((k : Int) < (no : Int)) = true := decide_eq_true (by omega)
  have hd2 : decide ((k : Int) < 50) = true := decide_eq_true (by omega)
  have hop := hop0.below hM.dk.bel
  have e0 : wx.cell? (x.add (k * 5)) = some (.int .i64 3) := hop.c0
  have e1 : wx.cell? ⟨(x.add (k * 5)).block, (x.add (k * 5)).off + 1, none⟩ = some (.int .i64 at_) := cell_onR (by omega) hop.c1
  have e2 : wx.cell? ⟨(x.add (k * 5)).block, (x.add (k * 5)).off + 2, none⟩ = some (.slice bo bn bc) := cell_onR (by omega) hop.c2
  have e3 : wx.cell? ⟨(x.add (k * 5)).block, (x.add (k * 5)).off + 3, none⟩ = some (.slice ko kn kc) := cell_onR (by omega) hop.c3
  have e4 : wx.cell? ⟨(x.add (k * 5)).block, (x.add (k * 5)).off + 4, none⟩ = some (.int .i64 tr) := cell_onR (by omega) hop.c4
  have HOP : Hid (OpAt w0 x k ⟨3, at_, bo, bn, bc, bl, ko, kn, kc, kl, tr⟩) := hop0
  have hat64 : -9223372036854775808 ≤ at_ ∧ at_ ≤ 9223372036854775807 := by have := bounds_i64 hop0.w1; simp only at this; omega
  have hbeL : Below wx.heap.size wx (wx.alloc (.cells #[.int .i64 3, .int .i64 at_, .slice bo bn bc, .slice ko kn kc, .int .i64 tr] 30)) := (Below.refl _ _).alloc (Nat.le_refl _) _
  have HM1 : Hid (Mem w0 (wx.alloc (.cells #[.int .i64 3, .int .i64 at_, .slice bo bn bc, .slice ko kn kc, .int .i64 tr] 30)) g n b6 c6 b7 c7 a8 n8 c8 ⟨lnow, lsafe, lw, lf, ld, ls⟩ f st) := hM.below hbeL
  have HL1 : Hid (Blk (wx.alloc (.cells #[.int .i64 3, .int .i64 at_, .slice bo bn bc, .slice ko kn kc, .int .i64 tr] 30)) wx.heap.size #[.int .i64 3, .int .i64 at_, .slice bo bn bc, .slice ko kn kc, .int .i64 tr] 30) := Blk.new wx _ _
  have HML : Hid (Mine1 w0.heap.size f wx.heap.size) := hM.new (Nat.le_refl _)
  have HS : Hid (Sim n ⟨lnow, lsafe, lw, lf, ld, ls⟩ st) := hS
  have HM : Hid (Mem w0 wx g n b6 c6 b7 c7 a8 n8 c8 ⟨lnow, lsafe, lw, lf, ld, ls⟩ f st) := hM
  clear hop hop0 hM hS hbeL
  subst hld
  subst hqq
  have hng : ¬ (qq : Int) < 0 := by omega
  have hd3 : decide (600 < (bn : Int)) = false := decide_eq_false (by omega)
  have hd4 : decide (60 < (kn : Int)) = false := decide_eq_false (by omega)
  unfold fr
  conv => arg 2; whnf
  rcases in3 (qq : Int) n with q | ⟨q, q'⟩ | ⟨q, q'⟩
  · simp at q
  all_goals
    go_wp2_with fail
    refine (fuse_up_is HM1.out.dk (qq : Int) qq (Int.toNat_natCast qq) HS.out.down.symm (by omega)).mono ?_
    rintro e w6 ⟨rfl, hD6, hT6⟩
    have HM6 : Hid (Mem w0 w6 g n b6 c6 b7 c7 a8 n8 c8 ⟨lnow, lsafe, lw, qq, false, ls⟩ f { st with fuse := qq }) := by
      have h := HM1.out.turn hT6 hD6
      exact ⟨h.dk, h.nw, h.sf, h.wt, h.src⟩
    have HS6 : Hid (Sim n ⟨lnow, lsafe, lw, qq, false, ls⟩ { st with fuse := qq }) := by
      have h := HS.out
      exact ⟨h.len, h.lens, h.nows, h.safes, h.ws, h.down, h.steps, fun _ => rfl, by show qq < _; omega⟩
    have l1 : w6.cell? ⟨wx.heap.size, 1, none⟩ = some (.int .i64 (qq : Int)) := (HL1.out.chg hT6.chg HML.out.2).cell 1
    clear hD6 hT6
    go_wp2_with fail
    refine (down_is HM6.out.dk false HS6.out.down.symm).mono ?_
    rintro e w' ⟨rfl, hw⟩; rw [hw]; clear hw w'
    go_wp2_with fail
    refine (steps_is HM6.out.dk ls HS6.out.steps.symm).mono ?_
    rintro e w' ⟨rfl, hw⟩; rw [hw]; clear hw w'
    go_wp2_with fail
    refine (waits_is HM6.out.dk n8 (by rw [← HS6.out.ws.1]; exact HM6.out.wt.len)).mono ?_
    rintro e w' ⟨rfl, hw⟩; rw [hw]; clear hw w'
    go_wp2_with fail
    refine (len_is HM6.out.dk n (by rw [← HS6.out.nows.1]; exact HS6.out.len)).mono ?_
    rintro e w' ⟨rfl, hw⟩; rw [hw]; clear hw w'
    go_wp2_with fail
    refine ⟨⟨k + 1, b6, c6, b7, c7, a8, n8, c8, ⟨lnow, lsafe, lw, qq, false, ls⟩, f, { st with fuse := qq }, ⟨rfl, rfl, rfl, rfl, rfl, rfl, rfl, rfl, rfl, by rfl, rfl, by rfl, by rfl⟩, by omega, by omega, HM6.out, HS6.out, by show lw.length ≤ k + 1; omega, by show ls ≤ k + 1; omega⟩, ?_⟩
    simp [Rmu, intOf]; omega
end Go.Proofs.Ytpojpmkflgmgkaa
