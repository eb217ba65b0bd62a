/- DiskRuns: rounds of the law's loop: Read. Own lemmas, no statement. -/
import Derived.Test.YtpojpmkflgmgkaaRuns4
namespace Go.Proofs.Ytpojpmkflgmgkaa
open Go.ChangeShapes Go.WideShapes Go.ChangeAt Go.RowKit

set_option maxRecDepth 100000 in
set_option maxHeartbeats 8000000 in
theorem run_read_low (w0 : World) (n : Nat) (_hn : n ≤ 15) (x : Addr) (no co g k : Nat) (hk : k < no) (hk2 : k < 50) (T : Nat → Value) (b6 c6 b7 c7 : Nat) (a8 : Option Addr) (n8 c8 : Nat) (lnow lsafe : List LSec) (lw : List OpV) (lf : Nat) (ld : Bool) (ls : Nat) (f : Foot) (st : DSt) (wx : World) (Q : Exit → Act → World → Prop)
    (at_ : Int) (bo : Option Addr) (bn bc : Nat) (bl : List UInt8) (ko : Option Addr) (kn kc : Nat) (kl : List Bool) (tr : Int) (hop0 : OpAt w0 x k ⟨1, at_, bo, bn, bc, bl, ko, kn, kc, kl, tr⟩)
    (hM : Mem w0 wx g n b6 c6 b7 c7 a8 n8 c8 ⟨lnow, lsafe, lw, lf, ld, ls⟩ f st) (hS : Sim n ⟨lnow, lsafe, lw, lf, ld, ls⟩ st) (_hwk : lw.length ≤ k) (_hsk : ls ≤ k) (hbn : bn ≤ 600) (hkn : kn ≤ 60) (hi : at_ < 0) :
    Code.wp Try.prog (bodyOf Try.f3) (Exit.then (fun a' w' => RI w0 n (some x) no co g a' w' ∧ Rmu a' w' < 50 - k) Q) ⟨fr T (.int .i64 (n : Int)) (.slice (some x) no co) (.bool false) (dptr g) (.slice (some ⟨b6, 0, none⟩) n c6) (.slice (some ⟨b7, 0, none⟩) n c7) (.slice a8 n8 c8) (.int .i64 (lf : Int)) (.bool ld) (.int .i64 (ls : Int)) (.int .i64 (k : Int)), []⟩ wx := by
  have hd1 : decide ((k : Int) < (no : Int)) = true := decide_eq_true (by omega)
  have hd2 : decide ((k : Int) < 50) = true := decide_eq_true (by omega)
  have hop := hop0.below hM.dk.bel
  have e0 : wx.cell? (x.add (k * 5)) = some (.int .i64 1) := hop.c0
  have e1 : wx.cell? ⟨(x.add (k * 5)).block, (x.add (k * 5)).off + 1, none⟩ = some (.int .i64 at_) := cell_onR (by omega) hop.c1
  have e2 : wx.cell? ⟨(x.add (k * 5)).block, (x.add (k * 5)).off + 2, none⟩ = some (.slice bo bn bc) := cell_onR (by omega) hop.c2
  have e3 : wx.cell? ⟨(x.add (k * 5)).block, (x.add (k * 5)).off + 3, none⟩ = some (.slice ko kn kc) := cell_onR (by omega) hop.c3
  have e4 : wx.cell? ⟨(x.add (k * 5)).block, (x.add (k * 5)).off + 4, none⟩ = some (.int .i64 tr) := cell_onR (by omega) hop.c4
  have HOP : Hid (OpAt w0 x k ⟨1, at_, bo, bn, bc, bl, ko, kn, kc, kl, tr⟩) := hop0
  have hat64 : -9223372036854775808 ≤ at_ ∧ at_ ≤ 9223372036854775807 := by have := bounds_i64 hop0.w1; simp only at this; omega
  have hbeL : Below wx.heap.size wx (wx.alloc (.cells #[.int .i64 1, .int .i64 at_, .slice bo bn bc, .slice ko kn kc, .int .i64 tr] 30)) := (Below.refl _ _).alloc (Nat.le_refl _) _
  have HM1 : Hid (Mem w0 (wx.alloc (.cells #[.int .i64 1, .int .i64 at_, .slice bo bn bc, .slice ko kn kc, .int .i64 tr] 30)) g n b6 c6 b7 c7 a8 n8 c8 ⟨lnow, lsafe, lw, lf, ld, ls⟩ f st) := hM.below hbeL
  have HL1 : Hid (Blk (wx.alloc (.cells #[.int .i64 1, .int .i64 at_, .slice bo bn bc, .slice ko kn kc, .int .i64 tr] 30)) wx.heap.size #[.int .i64 1, .int .i64 at_, .slice bo bn bc, .slice ko kn kc, .int .i64 tr] 30) := Blk.new wx _ _
  have HML : Hid (Mine1 w0.heap.size f wx.heap.size) := hM.new (Nat.le_refl _)
  have HS : Hid (Sim n ⟨lnow, lsafe, lw, lf, ld, ls⟩ st) := hS
  have HM : Hid (Mem w0 wx g n b6 c6 b7 c7 a8 n8 c8 ⟨lnow, lsafe, lw, lf, ld, ls⟩ f st) := hM
  clear hop hop0 hM hS hbeL
  have q : decide (0 ≤ at_) = false := decide_eq_false (by omega)
  have hd3 : decide (600 < (bn : Int)) = false := decide_eq_false (by omega)
  have hd4 : decide (60 < (kn : Int)) = false := decide_eq_false (by omega)
  unfold fr
  conv => arg 2; whnf
  go_wp2_with fail
  refine (read_arg_is HM1.out.dk at_ (fun h => by omega)).mono ?_
  rintro e w' ⟨rfl, hw⟩; rw [hw]; clear hw w'
  go_wp2_with fail
  refine (down_is HM1.out.dk ld HS.out.down.symm).mono ?_
  rintro e w' ⟨rfl, hw⟩; rw [hw]; clear hw w'
  go_wp2_with fail
  refine (steps_is HM1.out.dk ls HS.out.steps.symm).mono ?_
  rintro e w' ⟨rfl, hw⟩; rw [hw]; clear hw w'
  go_wp2_with fail
  refine (waits_is HM1.out.dk n8 (by rw [← HS.out.ws.1]; exact HM1.out.wt.len)).mono ?_
  rintro e w' ⟨rfl, hw⟩; rw [hw]; clear hw w'
  go_wp2_with fail
  refine (len_is HM1.out.dk n (by rw [← HS.out.nows.1]; exact HS.out.len)).mono ?_
  rintro e w' ⟨rfl, hw⟩; rw [hw]; clear hw w'
  go_wp2_with fail
  refine ⟨⟨k + 1, b6, c6, b7, c7, a8, n8, c8, ⟨lnow, lsafe, lw, lf, ld, ls⟩, f, st, ⟨rfl, rfl, rfl, rfl, rfl, rfl, rfl, rfl, rfl, by rfl, rfl, by rfl, by rfl⟩, by omega, by omega, HM1.out, HS.out, by show lw.length ≤ k + 1; omega, by show ls ≤ k + 1; omega⟩, ?_⟩
  simp [Rmu, intOf]; omega

set_option maxRecDepth 100000 in
set_option maxHeartbeats 8000000 in
theorem run_read_high (w0 : World) (n : Nat) (_hn : n ≤ 15) (x : Addr) (no co g k : Nat) (hk : k < no) (hk2 : k < 50) (T : Nat → Value) (b6 c6 b7 c7 : Nat) (a8 : Option Addr) (n8 c8 : Nat) (lnow lsafe : List LSec) (lw : List OpV) (lf : Nat) (ld : Bool) (ls : Nat) (f : Foot) (st : DSt) (wx : World) (Q : Exit → Act → World → Prop)
    (at_ : Int) (bo : Option Addr) (bn bc : Nat) (bl : List UInt8) (ko : Option Addr) (kn kc : Nat) (kl : List Bool) (tr : Int) (hop0 : OpAt w0 x k ⟨1, at_, bo, bn, bc, bl, ko, kn, kc, kl, tr⟩)
    (hM : Mem w0 wx g n b6 c6 b7 c7 a8 n8 c8 ⟨lnow, lsafe, lw, lf, ld, ls⟩ f st) (hS : Sim n ⟨lnow, lsafe, lw, lf, ld, ls⟩ st) (_hwk : lw.length ≤ k) (_hsk : ls ≤ k) (hbn : bn ≤ 600) (hkn : kn ≤ 60) (hi : (n : Int) ≤ at_) :
    Code.wp Try.prog (bodyOf Try.f3) (Exit.then (fun a' w' => RI w0 n (some x) no co g a' w' ∧ Rmu a' w' < 50 - k) Q) ⟨fr T (.int .i64 (n : Int)) (.slice (some x) no co) (.bool false) (dptr g) (.slice (some ⟨b6, 0, none⟩) n c6) (.slice (some ⟨b7, 0, none⟩) n c7) (.slice a8 n8 c8) (.int .i64 (lf : Int)) (.bool ld) (.int .i64 (ls : Int)) (.int .i64 (k : Int)), []⟩ wx := by
  have hd1 : decide ((k : Int) < (no : Int)) = true := decide_eq_true (by omega)
  have hd2 : decide ((k : Int) < 50) = true := decide_eq_true (by omega)
  have hop := hop0.below hM.dk.bel
  have e0 : wx.cell? (x.add (k * 5)) = some (.int .i64 1) := hop.c0
  have e1 : wx.cell? ⟨(x.add (k * 5)).block, (x.add (k * 5)).off + 1, none⟩ = some (.int .i64 at_) := cell_onR (by omega) hop.c1
  have e2 : wx.cell? ⟨(x.add (k * 5)).block, (x.add (k * 5)).off + 2, none⟩ = some (.slice bo bn bc) := cell_onR (by omega) hop.c2
  have e3 : wx.cell? ⟨(x.add (k * 5)).block, (x.add (k * 5)).off + 3, none⟩ = some (.slice ko kn kc) := cell_onR (by omega) hop.c3
  have e4 : wx.cell? ⟨(x.add (k * 5)).block, (x.add (k * 5)).off + 4, none⟩ = some (.int .i64 tr) := cell_onR (by omega) hop.c4
  have HOP : Hid (OpAt w0 x k ⟨1, at_, bo, bn, bc, bl, ko, kn, kc, kl, tr⟩) := hop0
  have hat64 : -9223372036854775808 ≤ at_ ∧ at_ ≤ 9223372036854775807 := by have := bounds_i64 hop0.w1; simp only at this; omega
  have hbeL : Below wx.heap.size wx (wx.alloc (.cells #[.int .i64 1, .int .i64 at_, .slice bo bn bc, .slice ko kn kc, .int .i64 tr] 30)) := (Below.refl _ _).alloc (Nat.le_refl _) _
  have HM1 : Hid (Mem w0 (wx.alloc (.cells #[.int .i64 1, .int .i64 at_, .slice bo bn bc, .slice ko kn kc, .int .i64 tr] 30)) g n b6 c6 b7 c7 a8 n8 c8 ⟨lnow, lsafe, lw, lf, ld, ls⟩ f st) := hM.below hbeL
  have HL1 : Hid (Blk (wx.alloc (.cells #[.int .i64 1, .int .i64 at_, .slice bo bn bc, .slice ko kn kc, .int .i64 tr] 30)) wx.heap.size #[.int .i64 1, .int .i64 at_, .slice bo bn bc, .slice ko kn kc, .int .i64 tr] 30) := Blk.new wx _ _
  have HML : Hid (Mine1 w0.heap.size f wx.heap.size) := hM.new (Nat.le_refl _)
  have HS : Hid (Sim n ⟨lnow, lsafe, lw, lf, ld, ls⟩ st) := hS
  have HM : Hid (Mem w0 wx g n b6 c6 b7 c7 a8 n8 c8 ⟨lnow, lsafe, lw, lf, ld, ls⟩ f st) := hM
  clear hop hop0 hM hS hbeL
  have q : decide (0 ≤ at_) = true := decide_eq_true (by omega)
  have q1 : decide (at_ < (n : Int)) = false := decide_eq_false (by omega)
  have hd3 : decide (600 < (bn : Int)) = false := decide_eq_false (by omega)
  have hd4 : decide (60 < (kn : Int)) = false := decide_eq_false (by omega)
  unfold fr
  conv => arg 2; whnf
  go_wp2_with fail
  refine (read_arg_is HM1.out.dk at_ (fun h => by have h2 := HS.out.nows.1; rw [HS.out.len] at h2; omega)).mono ?_
  rintro e w' ⟨rfl, hw⟩; rw [hw]; clear hw w'
  go_wp2_with fail
  refine (down_is HM1.out.dk ld HS.out.down.symm).mono ?_
  rintro e w' ⟨rfl, hw⟩; rw [hw]; clear hw w'
  go_wp2_with fail
  refine (steps_is HM1.out.dk ls HS.out.steps.symm).mono ?_
  rintro e w' ⟨rfl, hw⟩; rw [hw]; clear hw w'
  go_wp2_with fail
  refine (waits_is HM1.out.dk n8 (by rw [← HS.out.ws.1]; exact HM1.out.wt.len)).mono ?_
  rintro e w' ⟨rfl, hw⟩; rw [hw]; clear hw w'
  go_wp2_with fail
  refine (len_is HM1.out.dk n (by rw [← HS.out.nows.1]; exact HS.out.len)).mono ?_
  rintro e w' ⟨rfl, hw⟩; rw [hw]; clear hw w'
  go_wp2_with fail
  refine ⟨⟨k + 1, b6, c6, b7, c7, a8, n8, c8, ⟨lnow, lsafe, lw, lf, ld, ls⟩, f, st, ⟨rfl, rfl, rfl, rfl, rfl, rfl, rfl, rfl, rfl, by rfl, rfl, by rfl, by rfl⟩, by omega, by omega, HM1.out, HS.out, by show lw.length ≤ k + 1; omega, by show ls ≤ k + 1; omega⟩, ?_⟩
  simp [Rmu, intOf]; omega

set_option maxRecDepth 100000 in
set_option maxHeartbeats 8000000 in
theorem run_read_down (w0 : World) (n : Nat) (_hn : n ≤ 15) (x : Addr) (no co g k : Nat) (hk : k < no) (hk2 : k < 50) (T : Nat → Value) (b6 c6 b7 c7 : Nat) (a8 : Option Addr) (n8 c8 : Nat) (lnow lsafe : List LSec) (lw : List OpV) (lf : Nat) (ld : Bool) (ls : Nat) (f : Foot) (st : DSt) (wx : World) (Q : Exit → Act → World → Prop)
    (at_ : Int) (bo : Option Addr) (bn bc : Nat) (bl : List UInt8) (ko : Option Addr) (kn kc : Nat) (kl : List Bool) (tr : Int) (hop0 : OpAt w0 x k ⟨1, at_, bo, bn, bc, bl, ko, kn, kc, kl, tr⟩)
    (hM : Mem w0 wx g n b6 c6 b7 c7 a8 n8 c8 ⟨lnow, lsafe, lw, lf, ld, ls⟩ f st) (hS : Sim n ⟨lnow, lsafe, lw, lf, ld, ls⟩ st) (_hwk : lw.length ≤ k) (_hsk : ls ≤ k) (hbn : bn ≤ 600) (hkn : kn ≤ 60) (i : Nat) (hia : at_ = (i : Int)) (hi : i < n) (hld : ld = true) :
    Code.wp Try.prog (bodyOf Try.f3) (Exit.then (fun a' w' => RI w0 n (some x) no co g a' w' ∧ Rmu a' w' < 50 - k) Q) ⟨fr T (.int .i64 (n : Int)) (.slice (some x) no co) (.bool false) (dptr g) (.slice (some ⟨b6, 0, none⟩) n c6) (.slice (some ⟨b7, 0, none⟩) n c7) (.slice a8 n8 c8) (.int .i64 (lf : Int)) (.bool ld) (.int .i64 (ls : Int)) (.int .i64 (k : Int)), []⟩ wx := by
  have hd1 : decide ((k : Int) < (no : Int)) = true := decide_eq_true (by omega)
  have hd2 : decide ((k : Int) < 50) = true := decide_eq_true (by omega)
  have hop := hop0.below hM.dk.bel
  have e0 : wx.cell? (x.add (k * 5)) = some (.int .i64 1) := hop.c0
  have e1 : wx.cell? ⟨(x.add (k * 5)).block, (x.add (k * 5)).off + 1, none⟩ = some (.int .i64 at_) := cell_onR (by omega) hop.c1
  have e2 : wx.cell? ⟨(x.add (k * 5)).block, (x.add (k * 5)).off + 2, none⟩ = some (.slice bo bn bc) := cell_onR (by omega) hop.c2
  have e3 : wx.cell? ⟨(x.add (k * 5)).block, (x.add (k * 5)).off + 3, none⟩ = some (.slice ko kn kc) := cell_onR (by omega) hop.c3
  have e4 : wx.cell? ⟨(x.add (k * 5)).block, (x.add (k * 5)).off + 4, none⟩ = some (.int .i64 tr) := cell_onR (by omega) hop.c4
  have HOP : Hid (OpAt w0 x k ⟨1, at_, bo, bn, bc, bl, ko, kn, kc, kl, tr⟩) := hop0
  have hat64 : -9223372036854775808 ≤ at_ ∧ at_ ≤ 9223372036854775807 := by have := bounds_i64 hop0.w1; simp only at this; omega
  have hbeL : Below wx.heap.size wx (wx.alloc (.cells #[.int .i64 1, .int .i64 at_, .slice bo bn bc, .slice ko kn kc, .int .i64 tr] 30)) := (Below.refl _ _).alloc (Nat.le_refl _) _
  have HM1 : Hid (Mem w0 (wx.alloc (.cells #[.int .i64 1, .int .i64 at_, .slice bo bn bc, .slice ko kn kc, .int .i64 tr] 30)) g n b6 c6 b7 c7 a8 n8 c8 ⟨lnow, lsafe, lw, lf, ld, ls⟩ f st) := hM.below hbeL
  have HL1 : Hid (Blk (wx.alloc (.cells #[.int .i64 1, .int .i64 at_, .slice bo bn bc, .slice ko kn kc, .int .i64 tr] 30)) wx.heap.size #[.int .i64 1, .int .i64 at_, .slice bo bn bc, .slice ko kn kc, .int .i64 tr] 30) := Blk.new wx _ _
  have HML : Hid (Mine1 w0.heap.size f wx.heap.size) := hM.new (Nat.le_refl _)
  have HS : Hid (Sim n ⟨lnow, lsafe, lw, lf, ld, ls⟩ st) := hS
  have HM : Hid (Mem w0 wx g n b6 c6 b7 c7 a8 n8 c8 ⟨lnow, lsafe, lw, lf, ld, ls⟩ f st) := hM
  clear hop hop0 hM hS hbeL
  subst hld
  subst hia
  have q1 : decide ((i : Int) < (n : Int)) = true := decide_eq_true (by omega)
  have hd3 : decide (600 < (bn : Int)) = false := decide_eq_false (by omega)
  have hd4 : decide (60 < (kn : Int)) = false := decide_eq_false (by omega)
  unfold fr
  conv => arg 2; whnf
  go_wp2_with fail
  refine (read_down_is HM1.out.dk i (by rw [← HS.out.nows.1, HS.out.len]; exact hi) HS.out.down.symm).mono ?_
  rintro e w' ⟨rfl, hw⟩; rw [hw]; clear hw w'
  go_wp2_with fail
  refine (down_is HM1.out.dk true HS.out.down.symm).mono ?_
  rintro e w' ⟨rfl, hw⟩; rw [hw]; clear hw w'
  go_wp2_with fail
  refine (steps_is HM1.out.dk ls HS.out.steps.symm).mono ?_
  rintro e w' ⟨rfl, hw⟩; rw [hw]; clear hw w'
  go_wp2_with fail
  refine (waits_is HM1.out.dk n8 (by rw [← HS.out.ws.1]; exact HM1.out.wt.len)).mono ?_
  rintro e w' ⟨rfl, hw⟩; rw [hw]; clear hw w'
  go_wp2_with fail
  refine (len_is HM1.out.dk n (by rw [← HS.out.nows.1]; exact HS.out.len)).mono ?_
  rintro e w' ⟨rfl, hw⟩; rw [hw]; clear hw w'
  go_wp2_with fail
  refine ⟨⟨k + 1, b6, c6, b7, c7, a8, n8, c8, ⟨lnow, lsafe, lw, lf, true, ls⟩, f, st, ⟨rfl, rfl, rfl, rfl, rfl, rfl, rfl, rfl, rfl, by rfl, rfl, by rfl, by rfl⟩, by omega, by omega, HM1.out, HS.out, by show lw.length ≤ k + 1; omega, by show ls ≤ k + 1; omega⟩, ?_⟩
  simp [Rmu, intOf]; omega

set_option maxRecDepth 100000 in
set_option maxHeartbeats 8000000 in
theorem run_read_torn (w0 : World) (n : Nat) (_hn : n ≤ 15) (x : Addr) (no co g k : Nat) (hk : k < no) (hk2 : k < 50) (T : Nat → Value) (b6 c6 b7 c7 : Nat) (a8 : Option Addr) (n8 c8 : Nat) (lnow lsafe : List LSec) (lw : List OpV) (lf : Nat) (ld : Bool) (ls : Nat) (f : Foot) (st : DSt) (wx : World) (Q : Exit → Act → World → Prop)
    (at_ : Int) (bo : Option Addr) (bn bc : Nat) (bl : List UInt8) (ko : Option Addr) (kn kc : Nat) (kl : List Bool) (tr : Int) (hop0 : OpAt w0 x k ⟨1, at_, bo, bn, bc, bl, ko, kn, kc, kl, tr⟩)
    (hM : Mem w0 wx g n b6 c6 b7 c7 a8 n8 c8 ⟨lnow, lsafe, lw, lf, ld, ls⟩ f st) (hS : Sim n ⟨lnow, lsafe, lw, lf, ld, ls⟩ st) (_hwk : lw.length ≤ k) (_hsk : ls ≤ k) (hbn : bn ≤ 600) (hkn : kn ≤ 60) (i : Nat) (hia : at_ = (i : Int)) (hi : i < n) (hld : ld = false) (htn : (lnow[i]?).map (·.2) = some true) :
    Code.wp Try.prog (bodyOf Try.f3) (Exit.then (fun a' w' => RI w0 n (some x) no co g a' w' ∧ Rmu a' w' < 50 - k) Q) ⟨fr T (.int .i64 (n : Int)) (.slice (some x) no co) (.bool false) (dptr g) (.slice (some ⟨b6, 0, none⟩) n c6) (.slice (some ⟨b7, 0, none⟩) n c7) (.slice a8 n8 c8) (.int .i64 (lf : Int)) (.bool ld) (.int .i64 (ls : Int)) (.int .i64 (k : Int)), []⟩ wx := by
  have hd1 : decide ((k : Int) < (no : Int)) = true := decide_eq_true (by omega)
  have hd2 : decide ((k : Int) < 50) = true := decide_eq_true (by omega)
  have hop := hop0.below hM.dk.bel
  have e0 : wx.cell? (x.add (k * 5)) = some (.int .i64 1) := hop.c0
  have e1 : wx.cell? ⟨(x.add (k * 5)).block, (x.add (k * 5)).off + 1, none⟩ = some (.int .i64 at_) := cell_onR (by omega) hop.c1
  have e2 : wx.cell? ⟨(x.add (k * 5)).block, (x.add (k * 5)).off + 2, none⟩ = some (.slice bo bn bc) := cell_onR (by omega) hop.c2
  have e3 : wx.cell? ⟨(x.add (k * 5)).block, (x.add (k * 5)).off + 3, none⟩ = some (.slice ko kn kc) := cell_onR (by omega) hop.c3
  have e4 : wx.cell? ⟨(x.add (k * 5)).block, (x.add (k * 5)).off + 4, none⟩ = some (.int .i64 tr) := cell_onR (by omega) hop.c4
  have HOP : Hid (OpAt w0 x k ⟨1, at_, bo, bn, bc, bl, ko, kn, kc, kl, tr⟩) := hop0
  have hat64 : -9223372036854775808 ≤ at_ ∧ at_ ≤ 9223372036854775807 := by have := bounds_i64 hop0.w1; simp only at this; omega
  have hbeL : Below wx.heap.size wx (wx.alloc (.cells #[.int .i64 1, .int .i64 at_, .slice bo bn bc, .slice ko kn kc, .int .i64 tr] 30)) := (Below.refl _ _).alloc (Nat.le_refl _) _
  have HM1 : Hid (Mem w0 (wx.alloc (.cells #[.int .i64 1, .int .i64 at_, .slice bo bn bc, .slice ko kn kc, .int .i64 tr] 30)) g n b6 c6 b7 c7 a8 n8 c8 ⟨lnow, lsafe, lw, lf, ld, ls⟩ f st) := hM.below hbeL
  have HL1 : Hid (Blk (wx.alloc (.cells #[.int .i64 1, .int .i64 at_, .slice bo bn bc, .slice ko kn kc, .int .i64 tr] 30)) wx.heap.size #[.int .i64 1, .int .i64 at_, .slice bo bn bc, .slice ko kn kc, .int .i64 tr] 30) := Blk.new wx _ _
  have HML : Hid (Mine1 w0.heap.size f wx.heap.size) := hM.new (Nat.le_refl _)
  have HS : Hid (Sim n ⟨lnow, lsafe, lw, lf, ld, ls⟩ st) := hS
  have HM : Hid (Mem w0 wx g n b6 c6 b7 c7 a8 n8 c8 ⟨lnow, lsafe, lw, lf, ld, ls⟩ f st) := hM
  clear hop hop0 hM hS hbeL
  subst hld
  subst hia
  have q1 : decide ((i : Int) < (n : Int)) = true := decide_eq_true (by omega)
  have hd3 : decide (600 < (bn : Int)) = false := decide_eq_false (by omega)
  have hd4 : decide (60 < (kn : Int)) = false := decide_eq_false (by omega)
  unfold fr
  conv => arg 2; whnf
  have hil : i < lnow.length := by have := HS.out.len; simp only at this; omega
  have hil2 : i < st.now.length := by have := HS.out.nows.1; simp only at this; omega
  obtain ⟨sv, tv, hgi⟩ : ∃ sv tv, lnow[i]? = some (sv, tv) := ⟨lnow[i].1, lnow[i].2, List.getElem?_eq_getElem hil⟩
  obtain ⟨cv, tv', hgs⟩ : ∃ cv tv', st.now[i]? = some (cv, tv') := ⟨st.now[i].1, st.now[i].2, List.getElem?_eq_getElem hil2⟩
  obtain ⟨hr1, hr2, hr3⟩ : SecRel (sv, tv) (cv, tv') := HS.out.nows.2 i _ _ hgi hgs
  obtain ⟨g1, g2⟩ := HM1.out.nw.get hgi
  have g2' : (wx.alloc (.cells #[.int .i64 1, .int .i64 (i : Int), .slice bo bn bc, .slice ko kn kc, .int .i64 tr] 30)).cell? ⟨b6, i * 2 + 1, none⟩ = some (.bool tv) := g2
  have ht : tv = true := by have := htn; rw [hgi] at this; simpa using this
  have hi' : (i : Int) < (n : Int) := by omega
  simp only at hr1 hr2 hr3
  subst ht
  subst hr1
  have HGS : Hid (st.now[i]? = some (cv, true)) := hgs
  clear hgi hgs g2 hr3 g1 htn
  go_wp2_with fail
  refine (read_torn_is HM1.out.dk i cv HGS.out HS.out.down.symm).mono ?_
  rintro e w' ⟨rfl, hw⟩; rw [hw]; clear hw w'
  go_wp2_with fail
  refine (down_is HM1.out.dk false HS.out.down.symm).mono ?_
  rintro e w' ⟨rfl, hw⟩; rw [hw]; clear hw w'
  go_wp2_with fail
  refine (steps_is HM1.out.dk ls HS.out.steps.symm).mono ?_
  rintro e w' ⟨rfl, hw⟩; rw [hw]; clear hw w'
  go_wp2_with fail
  refine (waits_is HM1.out.dk n8 (by rw [← HS.out.ws.1]; exact HM1.out.wt.len)).mono ?_
  rintro e w' ⟨rfl, hw⟩; rw [hw]; clear hw w'
  go_wp2_with fail
  refine (len_is HM1.out.dk n (by rw [← HS.out.nows.1]; exact HS.out.len)).mono ?_
  rintro e w' ⟨rfl, hw⟩; rw [hw]; clear hw w'
  go_wp2_with fail
  refine ⟨⟨k + 1, b6, c6, b7, c7, a8, n8, c8, ⟨lnow, lsafe, lw, lf, false, ls⟩, f, st, ⟨rfl, rfl, rfl, rfl, rfl, rfl, rfl, rfl, rfl, by rfl, rfl, by rfl, by rfl⟩, by omega, by omega, HM1.out, HS.out, by show lw.length ≤ k + 1; omega, by show ls ≤ k + 1; omega⟩, ?_⟩
  simp [Rmu, intOf]; omega
end Go.Proofs.Ytpojpmkflgmgkaa
