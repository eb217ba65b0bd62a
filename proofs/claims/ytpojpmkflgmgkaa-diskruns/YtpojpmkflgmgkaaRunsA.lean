/- DiskRuns: rounds of the law's loop: a Write that is refused. Own lemmas, no statement. -/
import Derived.Test.YtpojpmkflgmgkaaRuns4
namespace Go.Proofs.Ytpojpmkflgmgkaa
open Go.ChangeShapes Go.WideShapes Go.ChangeAt Go.RowKit

set_option maxRecDepth 100000 in
set_option maxHeartbeats 8000000 in
theorem run_write_low (w0 : World) (n : Nat) (_hn : n ≤ 15) (x : Addr) (no co g k : Nat) (hk : k < no) (hk2 : k < 50) (T : Nat → Value) (b6 c6 b7 c7 : Nat) (a8 : Option Addr) (n8 c8 : Nat) (lnow lsafe : List LSec) (lw : List OpV) (lf : Nat) (ld : Bool) (ls : Nat) (f : Foot) (st : DSt) (wx : World) (Q : Exit → Act → World → Prop)
    (at_ : Int) (bo : Option Addr) (bn bc : Nat) (bl : List UInt8) (ko : Option Addr) (kn kc : Nat) (kl : List Bool) (tr : Int) (hop0 : OpAt w0 x k ⟨0, at_, bo, bn, bc, bl, ko, kn, kc, kl, tr⟩)
    (hM : Mem w0 wx g n b6 c6 b7 c7 a8 n8 c8 ⟨lnow, lsafe, lw, lf, ld, ls⟩ f st) (hS : Sim n ⟨lnow, lsafe, lw, lf, ld, ls⟩ st) (_hwk : lw.length ≤ k) (_hsk : ls ≤ k) (hbn : bn ≤ 600) (hkn : kn ≤ 60) (hi : at_ < 0) :
    Code.wp Try.prog (bodyOf Try.f3) (Exit.then (fun a' w' => RI w0 n (some x) no co g a' w' ∧ Rmu a' w' < 50 - k) Q) ⟨fr T (.int .i64 (n : Int)) (.slice (some x) no co) (.bool false) (dptr g) (.slice (some ⟨b6, 0, none⟩) n c6) (.slice (some ⟨b7, 0, none⟩) n c7) (.slice a8 n8 c8) (.int .i64 (lf : Int)) (.bool ld) (.int .i64 (ls : Int)) (.int .i64 (k : Int)), []⟩ wx := by
  have hd1 : decide ((k : Int) < (no : Int)) = true := decide_eq_true (by omega)
  have hd2 : decide ((k : Int) < 50) = true := decide_eq_true (by omega)
  have hop := hop0.below hM.dk.bel
  have e0 : wx.cell? (x.add (k * 5)) = some (.int .i64 0) := hop.c0
  have e1 : wx.cell? ⟨(x.add (k * 5)).block, (x.add (k * 5)).off + 1, none⟩ = some (.int .i64 at_) := cell_onR (by omega) hop.c1
  have e2 : wx.cell? ⟨(x.add (k * 5)).block, (x.add (k * 5)).off + 2, none⟩ = some (.slice bo bn bc) := cell_onR (by omega) hop.c2
  have e3 : wx.cell? ⟨(x.add (k * 5)).block, (x.add (k * 5)).off + 3, none⟩ = some (.slice ko kn kc) := cell_onR (by omega) hop.c3
  have e4 : wx.cell? ⟨(x.add (k * 5)).block, (x.add (k * 5)).off + 4, none⟩ = some (.int .i64 tr) := cell_onR (by omega) hop.c4
  have HOP : Hid (OpAt w0 x k ⟨0, at_, bo, bn, bc, bl, ko, kn, kc, kl, tr⟩) := hop0
  have hat64 : -9223372036854775808 ≤ at_ ∧ at_ ≤ 9223372036854775807 := by have := bounds_i64 hop0.w1; simp only at this; omega
  have hbeL : Below wx.heap.size wx (wx.alloc (.cells #[.int .i64 0, .int .i64 at_, .slice bo bn bc, .slice ko kn kc, .int .i64 tr] 30)) := (Below.refl _ _).alloc (Nat.le_refl _) _
  have HM1 : Hid (Mem w0 (wx.alloc (.cells #[.int .i64 0, .int .i64 at_, .slice bo bn bc, .slice ko kn kc, .int .i64 tr] 30)) g n b6 c6 b7 c7 a8 n8 c8 ⟨lnow, lsafe, lw, lf, ld, ls⟩ f st) := hM.below hbeL
  have HL1 : Hid (Blk (wx.alloc (.cells #[.int .i64 0, .int .i64 at_, .slice bo bn bc, .slice ko kn kc, .int .i64 tr] 30)) wx.heap.size #[.int .i64 0, .int .i64 at_, .slice bo bn bc, .slice ko kn kc, .int .i64 tr] 30) := Blk.new wx _ _
  have HML : Hid (Mine1 w0.heap.size f wx.heap.size) := hM.new (Nat.le_refl _)
  have HS : Hid (Sim n ⟨lnow, lsafe, lw, lf, ld, ls⟩ st) := hS
  have HM : Hid (Mem w0 wx g n b6 c6 b7 c7 a8 n8 c8 ⟨lnow, lsafe, lw, lf, ld, ls⟩ f st) := hM
  clear hop hop0 hM hS hbeL
  have q : decide (0 ≤ at_) = false := decide_eq_false (by omega)
  have hd3 : decide (600 < (bn : Int)) = false := decide_eq_false (by omega)
  have hd4 : decide (60 < (kn : Int)) = false := decide_eq_false (by omega)
  have HLb : Hid (Blk (wx.alloc (.cells #[.int .i64 0, .int .i64 at_, .slice bo bn bc, .slice ko kn kc, .int .i64 tr] 30)) wx.heap.size #[.int .i64 0, .int .i64 at_, .slice bo bn bc, .slice ko kn kc, .int .i64 tr] 30) := HL1.out
  unfold fr
  conv => arg 2; whnf
  have hlen0 : bl.length = bn := HOP.out.len
  have HBL : Hid (bl.length = bn) := hlen0
  have hbeA : Below (wx.alloc (.cells #[.int .i64 0, .int .i64 at_, .slice bo bn bc, .slice ko kn kc, .int .i64 tr] 30)).heap.size (wx.alloc (.cells #[.int .i64 0, .int .i64 at_, .slice bo bn bc, .slice ko kn kc, .int .i64 tr] 30)) ((wx.alloc (.cells #[.int .i64 0, .int .i64 at_, .slice bo bn bc, .slice ko kn kc, .int .i64 tr] 30)).alloc (.cells #[] 5)) := (Below.refl _ _).alloc (Nat.le_refl _) _
  have hOw : Own ((wx.alloc (.cells #[.int .i64 0, .int .i64 at_, .slice bo bn bc, .slice ko kn kc, .int .i64 tr] 30)).alloc (.cells #[] 5)) (wx.alloc (.cells #[.int .i64 0, .int .i64 at_, .slice bo bn bc, .slice ko kn kc, .int .i64 tr] 30)).heap.size (.slice (some ⟨(wx.alloc (.cells #[.int .i64 0, .int .i64 at_, .slice bo bn bc, .slice ko kn kc, .int .i64 tr] 30)).heap.size, 0, none⟩) 0 0) [] := World.ownsRow_made (wx.alloc (.cells #[.int .i64 0, .int .i64 at_, .slice bo bn bc, .slice ko kn kc, .int .i64 tr] 30)) #[] 0 (Nat.le_refl _) (Nat.zero_le _) rfl
  have hOw' : Hid (Own ((wx.alloc (.cells #[.int .i64 0, .int .i64 at_, .slice bo bn bc, .slice ko kn kc, .int .i64 tr] 30)).alloc (.cells #[] 5)) (wx.alloc (.cells #[.int .i64 0, .int .i64 at_, .slice bo bn bc, .slice ko kn kc, .int .i64 tr] 30)).heap.size (.slice (some ⟨(wx.alloc (.cells #[.int .i64 0, .int .i64 at_, .slice bo bn bc, .slice ko kn kc, .int .i64 tr] 30)).heap.size, 0, none⟩) 0 0) []) := hOw
  have HSr : Hid (Src ((wx.alloc (.cells #[.int .i64 0, .int .i64 at_, .slice bo bn bc, .slice ko kn kc, .int .i64 tr] 30)).alloc (.cells #[] 5)) (.slice bo bn bc) bl) := HOP.out.src.below (HM1.out.dk.below hbeA).bel
  have HBA : Hid (Below (wx.alloc (.cells #[.int .i64 0, .int .i64 at_, .slice bo bn bc, .slice ko kn kc, .int .i64 tr] 30)).heap.size (wx.alloc (.cells #[.int .i64 0, .int .i64 at_, .slice bo bn bc, .slice ko kn kc, .int .i64 tr] 30)) ((wx.alloc (.cells #[.int .i64 0, .int .i64 at_, .slice bo bn bc, .slice ko kn kc, .int .i64 tr] 30)).alloc (.cells #[] 5))) := hbeA
  have y2 : ((wx.alloc (.cells #[.int .i64 0, .int .i64 at_, .slice bo bn bc, .slice ko kn kc, .int .i64 tr] 30)).alloc (.cells #[] 5)).cell? ⟨wx.heap.size, 2, none⟩ = some (.slice bo bn bc) := (HLb.out.alloc _).cell 2
  have hWz : wx.heap.size < (wx.alloc (.cells #[.int .i64 0, .int .i64 at_, .slice bo bn bc, .slice ko kn kc, .int .i64 tr] 30)).heap.size := HLb.out.lt
  clear hOw hbeA hlen0
  go_wp2_with (first | (at_builtin; refine wpList_join _ rfl _ _ rfl (wx.alloc (.cells #[.int .i64 0, .int .i64 at_, .slice bo bn bc, .slice ko kn kc, .int .i64 tr] 30)).heap.size _ [] bl hOw'.out ?_ (.slice bo bn bc) HSr.out rfl ?_ ?_ ?_))
  · first | rfl | (simp; rfl)
  · rw [HBL.out]; simp; omega
  · simp
  intro v8 w8 hown8 hg8 hnn8
  obtain ⟨mb, cm, hv8, hmb, curm, hBm, hcurm⟩ : ∃ mb cm, v8 = .slice (some ⟨mb, 0, none⟩) bn cm ∧ (wx.heap.size + 1) ≤ mb ∧ ∃ cur, Blk w8 mb cur 5 ∧ ∀ i, i < bn → ∃ z : Int, cur[i]? = some (.int .u8 z) := own_bytes hown8 (fun h => by have := hnn8 h; simp at this) HBL.out
  subst hv8
  have hmb' : (wx.alloc (.cells #[.int .i64 0, .int .i64 at_, .slice bo bn bc, .slice ko kn kc, .int .i64 tr] 30)).heap.size ≤ mb := by simpa using hmb
  have HE8 : Hid (Below (wx.alloc (.cells #[.int .i64 0, .int .i64 at_, .slice bo bn bc, .slice ko kn kc, .int .i64 tr] 30)).heap.size (wx.alloc (.cells #[.int .i64 0, .int .i64 at_, .slice bo bn bc, .slice ko kn kc, .int .i64 tr] 30)) w8) := HBA.out.trans (((Chg.refl (fun k => k = (wx.heap.size + 1)) _).grown hg8 (fun k e _ => by have : some (wx.heap.size + 1) = some k := e; exact (Option.some.inj this).symm)).below (by simp) (fun i e => by first | omega | (simp; omega)))
  have HM8 : Hid (Mem w0 w8 g n b6 c6 b7 c7 a8 n8 c8 ⟨lnow, lsafe, lw, lf, ld, ls⟩ f st) := HM1.out.below HE8.out
  have HSv : Hid (Src w8 (.slice (some ⟨mb, 0, none⟩) bn cm) bl) := hown8.src
  have HBm8 : Hid (Blk w8 mb curm 5) := hBm
  have HCm : Hid (∀ i, i < bn → ∃ z : Int, curm[i]? = some (.int .u8 z)) := hcurm
  have HMm8 : Hid (Mine1 w0.heap.size f mb) := HM1.out.new hmb'
  have HL8 : Hid (Blk w8 wx.heap.size #[.int .i64 0, .int .i64 at_, .slice bo bn bc, .slice ko kn kc, .int .i64 tr] 30) := HLb.out.of (HE8.out.block _ HLb.out.lt)
  have y1 : w8.cell? ⟨wx.heap.size, 1, none⟩ = some (.int .i64 at_) := HL8.out.cell 1
  clear hown8 hg8 hnn8 hBm hcurm hOw' HSr HBA y2
  go_wp2_with fail
  refine (write_arg_is HM8.out.dk at_ (some ⟨mb, 0, none⟩) bn cm (.inl (fun h => by omega)) (by unfold maxLen; omega)).mono ?_
  rintro e w9 ⟨rfl, hw⟩
  have HM9 : Hid (Mem w0 w9 g n b6 c6 b7 c7 a8 n8 c8 ⟨lnow, lsafe, lw, lf, ld, ls⟩ f st) := by rw [hw]; exact HM8.out
  have HBm9 : Hid (Blk w9 mb curm 5) := by rw [hw]; exact HBm8.out
  have HMm9 : Hid (Mine1 w0.heap.size f mb) := HMm8.out
  have HS9 : Hid (Sim n ⟨lnow, lsafe, lw, lf, ld, ls⟩ st) := HS.out
  clear hw HM8 HBm8 HMm8 HL8
  clear y1
  go_wp2_with fail
  go_loopw [171] (fun vi w2 => ∃ (j : Nat) (cur : Array Value), vi = .int .i64 (j : Int) ∧ j ≤ bn ∧ Blk w2 mb cur 5 ∧ (∀ i, i < bn → ∃ z : Int, cur[i]? = some (.int .u8 z)) ∧ Chg (fun i => i = mb) w9 w2) (fun vi _ => bn - (intOf vi).toNat)
  case atStart => exact ⟨0, curm, rfl, Nat.zero_le _, HBm9.out, HCm.out, Chg.refl _ _⟩
  case round =>
    obtain ⟨j, cur, rfl, hj, hB, hC, hch⟩ := hrel
    have HBj : Hid (Blk wr mb cur 5) := hB
    have HCj : Hid (∀ i, i < bn → ∃ z : Int, cur[i]? = some (.int .u8 z)) := hC
    have HHj : Hid (Chg (fun i => i = mb) w9 wr) := hch
    clear hB hC hch
    by_cases hlt : j < bn
    · obtain ⟨z, hz⟩ := HCj.out j hlt
      have cj : wr.cell? ⟨mb, j, none⟩ = some (.int .u8 z) := (HBj.out.cell j).trans hz
      have fj : wr.frozen? ⟨mb, j, none⟩ = false := HBj.out.frozen j
      have HJ : Hid (j < cur.size) := (Array.getElem?_eq_some_iff.1 hz).1
      clear hz
      go_wp2_with fail
      go_roundw
      case rel => exact ⟨j + 1, _, by go_num, by omega, HBj.out.set j _, flip_ints HCj.out HJ.out, chgG HHj.out j _⟩
      case measure => simp [intOf]; omega
    · have HMx : Hid (Mem w0 wr g n b6 c6 b7 c7 a8 n8 c8 ⟨lnow, lsafe, lw, lf, ld, ls⟩ f st) := HM9.out.flip HBm9.out HMm9.out HHj.out
      go_wp2_with fail
      refine (down_is HMx.out.dk ld HS9.out.down.symm).mono ?_
      rintro e w' ⟨rfl, hw⟩; rw [hw]; clear hw w'
      go_wp2_with fail
      refine (steps_is HMx.out.dk ls HS9.out.steps.symm).mono ?_
      rintro e w' ⟨rfl, hw⟩; rw [hw]; clear hw w'
      go_wp2_with fail
      refine (waits_is HMx.out.dk n8 (by rw [← HS9.out.ws.1]; exact HMx.out.wt.len)).mono ?_
      rintro e w' ⟨rfl, hw⟩; rw [hw]; clear hw w'
      go_wp2_with fail
      refine (len_is HMx.out.dk n (by rw [← HS9.out.nows.1]; exact HS9.out.len)).mono ?_
      rintro e w' ⟨rfl, hw⟩; rw [hw]; clear hw w'
      go_wp2_with fail
      refine ⟨⟨k + 1, b6, c6, b7, c7, a8, n8, c8, ⟨lnow, lsafe, lw, lf, ld, ls⟩, f, st, ⟨rfl, rfl, rfl, rfl, rfl, rfl, rfl, rfl, rfl, by rfl, rfl, by rfl, by rfl⟩, by omega, by omega, HMx.out, HS9.out, by show lw.length ≤ k + 1; omega, by show ls ≤ k + 1; omega⟩, ?_⟩
      simp [Rmu, intOf]; omega

set_option maxRecDepth 100000 in
set_option maxHeartbeats 8000000 in
theorem run_write_high (w0 : World) (n : Nat) (_hn : n ≤ 15) (x : Addr) (no co g k : Nat) (hk : k < no) (hk2 : k < 50) (T : Nat → Value) (b6 c6 b7 c7 : Nat) (a8 : Option Addr) (n8 c8 : Nat) (lnow lsafe : List LSec) (lw : List OpV) (lf : Nat) (ld : Bool) (ls : Nat) (f : Foot) (st : DSt) (wx : World) (Q : Exit → Act → World → Prop)
    (at_ : Int) (bo : Option Addr) (bn bc : Nat) (bl : List UInt8) (ko : Option Addr) (kn kc : Nat) (kl : List Bool) (tr : Int) (hop0 : OpAt w0 x k ⟨0, at_, bo, bn, bc, bl, ko, kn, kc, kl, tr⟩)
    (hM : Mem w0 wx g n b6 c6 b7 c7 a8 n8 c8 ⟨lnow, lsafe, lw, lf, ld, ls⟩ f st) (hS : Sim n ⟨lnow, lsafe, lw, lf, ld, ls⟩ st) (_hwk : lw.length ≤ k) (_hsk : ls ≤ k) (hbn : bn ≤ 600) (hkn : kn ≤ 60) (hi : (n : Int) ≤ at_) :
    Code.wp Try.prog (bodyOf Try.f3) (Exit.then (fun a' w' => RI w0 n (some x) no co g a' w' ∧ Rmu a' w' < 50 - k) Q) ⟨fr T (.int .i64 (n : Int)) (.slice (some x) no co) (.bool false) (dptr g) (.slice (some ⟨b6, 0, none⟩) n c6) (.slice (some ⟨b7, 0, none⟩) n c7) (.slice a8 n8 c8) (.int .i64 (lf : Int)) (.bool ld) (.int .i64 (ls : Int)) (.int .i64 (k : Int)), []⟩ wx := by
  have hd1 : decide ((k : Int) < (no : Int)) = true := decide_eq_true (by omega)
  have hd2 : decide ((k : Int) < 50) = true := decide_eq_true (by omega)
  have hop := hop0.below hM.dk.bel
  have e0 : wx.cell? (x.add (k * 5)) = some (.int .i64 0) := hop.c0
  have e1 : wx.cell? ⟨(x.add (k * 5)).block, (x.add (k * 5)).off + 1, none⟩ = some (.int .i64 at_) := cell_onR (by omega) hop.c1
  have e2 : wx.cell? ⟨(x.add (k * 5)).block, (x.add (k * 5)).off + 2, none⟩ = some (.slice bo bn bc) := cell_onR (by omega) hop.c2
  have e3 : wx.cell? ⟨(x.add (k * 5)).block, (x.add (k * 5)).off + 3, none⟩ = some (.slice ko kn kc) := cell_onR (by omega) hop.c3
  have e4 : wx.cell? ⟨(x.add (k * 5)).block, (x.add (k * 5)).off + 4, none⟩ = some (.int .i64 tr) := cell_onR (by omega) hop.c4
  have HOP : Hid (OpAt w0 x k ⟨0, at_, bo, bn, bc, bl, ko, kn, kc, kl, tr⟩) := hop0
  have hat64 : -9223372036854775808 ≤ at_ ∧ at_ ≤ 9223372036854775807 := by have := bounds_i64 hop0.w1; simp only at this; omega
  have hbeL : Below wx.heap.size wx (wx.alloc (.cells #[.int .i64 0, .int .i64 at_, .slice bo bn bc, .slice ko kn kc, .int .i64 tr] 30)) := (Below.refl _ _).alloc (Nat.le_refl _) _
  have HM1 : Hid (Mem w0 (wx.alloc (.cells #[.int .i64 0, .int .i64 at_, .slice bo bn bc, .slice ko kn kc, .int .i64 tr] 30)) g n b6 c6 b7 c7 a8 n8 c8 ⟨lnow, lsafe, lw, lf, ld, ls⟩ f st) := hM.below hbeL
  have HL1 : Hid (Blk (wx.alloc (.cells #[.int .i64 0, .int .i64 at_, .slice bo bn bc, .slice ko kn kc, .int .i64 tr] 30)) wx.heap.size #[.int .i64 0, .int .i64 at_, .slice bo bn bc, .slice ko kn kc, .int .i64 tr] 30) := Blk.new wx _ _
  have HML : Hid (Mine1 w0.heap.size f wx.heap.size) := hM.new (Nat.le_refl _)
  have HS : Hid (Sim n ⟨lnow, lsafe, lw, lf, ld, ls⟩ st) := hS
  have HM : Hid (Mem w0 wx g n b6 c6 b7 c7 a8 n8 c8 ⟨lnow, lsafe, lw, lf, ld, ls⟩ f st) := hM
  clear hop hop0 hM hS hbeL
  have q : decide (0 ≤ at_) = true := decide_eq_true (by omega)
  have q1 : decide (at_ < (n : Int)) = false := decide_eq_false (by omega)
  have hd3 : decide (600 < (bn : Int)) = false := decide_eq_false (by omega)
  have hd4 : decide (60 < (kn : Int)) = false := decide_eq_false (by omega)
  have HLb : Hid (Blk (wx.alloc (.cells #[.int .i64 0, .int .i64 at_, .slice bo bn bc, .slice ko kn kc, .int .i64 tr] 30)) wx.heap.size #[.int .i64 0, .int .i64 at_, .slice bo bn bc, .slice ko kn kc, .int .i64 tr] 30) := HL1.out
  unfold fr
  conv => arg 2; whnf
  have hlen0 : bl.length = bn := HOP.out.len
  have HBL : Hid (bl.length = bn) := hlen0
  have hbeA : Below (wx.alloc (.cells #[.int .i64 0, .int .i64 at_, .slice bo bn bc, .slice ko kn kc, .int .i64 tr] 30)).heap.size (wx.alloc (.cells #[.int .i64 0, .int .i64 at_, .slice bo bn bc, .slice ko kn kc, .int .i64 tr] 30)) ((wx.alloc (.cells #[.int .i64 0, .int .i64 at_, .slice bo bn bc, .slice ko kn kc, .int .i64 tr] 30)).alloc (.cells #[] 5)) := (Below.refl _ _).alloc (Nat.le_refl _) _
  have hOw : Own ((wx.alloc (.cells #[.int .i64 0, .int .i64 at_, .slice bo bn bc, .slice ko kn kc, .int .i64 tr] 30)).alloc (.cells #[] 5)) (wx.alloc (.cells #[.int .i64 0, .int .i64 at_, .slice bo bn bc, .slice ko kn kc, .int .i64 tr] 30)).heap.size (.slice (some ⟨(wx.alloc (.cells #[.int .i64 0, .int .i64 at_, .slice bo bn bc, .slice ko kn kc, .int .i64 tr] 30)).heap.size, 0, none⟩) 0 0) [] := World.ownsRow_made (wx.alloc (.cells #[.int .i64 0, .int .i64 at_, .slice bo bn bc, .slice ko kn kc, .int .i64 tr] 30)) #[] 0 (Nat.le_refl _) (Nat.zero_le _) rfl
  have hOw' : Hid (Own ((wx.alloc (.cells #[.int .i64 0, .int .i64 at_, .slice bo bn bc, .slice ko kn kc, .int .i64 tr] 30)).alloc (.cells #[] 5)) (wx.alloc (.cells #[.int .i64 0, .int .i64 at_, .slice bo bn bc, .slice ko kn kc, .int .i64 tr] 30)).heap.size (.slice (some ⟨(wx.alloc (.cells #[.int .i64 0, .int .i64 at_, .slice bo bn bc, .slice ko kn kc, .int .i64 tr] 30)).heap.size, 0, none⟩) 0 0) []) := hOw
  have HSr : Hid (Src ((wx.alloc (.cells #[.int .i64 0, .int .i64 at_, .slice bo bn bc, .slice ko kn kc, .int .i64 tr] 30)).alloc (.cells #[] 5)) (.slice bo bn bc) bl) := HOP.out.src.below (HM1.out.dk.below hbeA).bel
  have HBA : Hid (Below (wx.alloc (.cells #[.int .i64 0, .int .i64 at_, .slice bo bn bc, .slice ko kn kc, .int .i64 tr] 30)).heap.size (wx.alloc (.cells #[.int .i64 0, .int .i64 at_, .slice bo bn bc, .slice ko kn kc, .int .i64 tr] 30)) ((wx.alloc (.cells #[.int .i64 0, .int .i64 at_, .slice bo bn bc, .slice ko kn kc, .int .i64 tr] 30)).alloc (.cells #[] 5))) := hbeA
  have y2 : ((wx.alloc (.cells #[.int .i64 0, .int .i64 at_, .slice bo bn bc, .slice ko kn kc, .int .i64 tr] 30)).alloc (.cells #[] 5)).cell? ⟨wx.heap.size, 2, none⟩ = some (.slice bo bn bc) := (HLb.out.alloc _).cell 2
  have hWz : wx.heap.size < (wx.alloc (.cells #[.int .i64 0, .int .i64 at_, .slice bo bn bc, .slice ko kn kc, .int .i64 tr] 30)).heap.size := HLb.out.lt
  clear hOw hbeA hlen0
  go_wp2_with (first | (at_builtin; refine wpList_join _ rfl _ _ rfl (wx.alloc (.cells #[.int .i64 0, .int .i64 at_, .slice bo bn bc, .slice ko kn kc, .int .i64 tr] 30)).heap.size _ [] bl hOw'.out ?_ (.slice bo bn bc) HSr.out rfl ?_ ?_ ?_))
  · first | rfl | (simp; rfl)
  · rw [HBL.out]; simp; omega
  · simp
  intro v8 w8 hown8 hg8 hnn8
  obtain ⟨mb, cm, hv8, hmb, curm, hBm, hcurm⟩ : ∃ mb cm, v8 = .slice (some ⟨mb, 0, none⟩) bn cm ∧ (wx.heap.size + 1) ≤ mb ∧ ∃ cur, Blk w8 mb cur 5 ∧ ∀ i, i < bn → ∃ z : Int, cur[i]? = some (.int .u8 z) := own_bytes hown8 (fun h => by have := hnn8 h; simp at this) HBL.out
  subst hv8
  have hmb' : (wx.alloc (.cells #[.int .i64 0, .int .i64 at_, .slice bo bn bc, .slice ko kn kc, .int .i64 tr] 30)).heap.size ≤ mb := by simpa using hmb
  have HE8 : Hid (Below (wx.alloc (.cells #[.int .i64 0, .int .i64 at_, .slice bo bn bc, .slice ko kn kc, .int .i64 tr] 30)).heap.size (wx.alloc (.cells #[.int .i64 0, .int .i64 at_, .slice bo bn bc, .slice ko kn kc, .int .i64 tr] 30)) w8) := HBA.out.trans (((Chg.refl (fun k => k = (wx.heap.size + 1)) _).grown hg8 (fun k e _ => by have : some (wx.heap.size + 1) = some k := e; exact (Option.some.inj this).symm)).below (by simp) (fun i e => by first | omega | (simp; omega)))
  have HM8 : Hid (Mem w0 w8 g n b6 c6 b7 c7 a8 n8 c8 ⟨lnow, lsafe, lw, lf, ld, ls⟩ f st) := HM1.out.below HE8.out
  have HSv : Hid (Src w8 (.slice (some ⟨mb, 0, none⟩) bn cm) bl) := hown8.src
  have HBm8 : Hid (Blk w8 mb curm 5) := hBm
  have HCm : Hid (∀ i, i < bn → ∃ z : Int, curm[i]? = some (.int .u8 z)) := hcurm
  have HMm8 : Hid (Mine1 w0.heap.size f mb) := HM1.out.new hmb'
  have HL8 : Hid (Blk w8 wx.heap.size #[.int .i64 0, .int .i64 at_, .slice bo bn bc, .slice ko kn kc, .int .i64 tr] 30) := HLb.out.of (HE8.out.block _ HLb.out.lt)
  have y1 : w8.cell? ⟨wx.heap.size, 1, none⟩ = some (.int .i64 at_) := HL8.out.cell 1
  clear hown8 hg8 hnn8 hBm hcurm hOw' HSr HBA y2
  go_wp2_with fail
  refine (write_arg_is HM8.out.dk at_ (some ⟨mb, 0, none⟩) bn cm (.inl (fun h => by have h2 := HS.out.nows.1; rw [HS.out.len] at h2; omega)) (by unfold maxLen; omega)).mono ?_
  rintro e w9 ⟨rfl, hw⟩
  have HM9 : Hid (Mem w0 w9 g n b6 c6 b7 c7 a8 n8 c8 ⟨lnow, lsafe, lw, lf, ld, ls⟩ f st) := by rw [hw]; exact HM8.out
  have HBm9 : Hid (Blk w9 mb curm 5) := by rw [hw]; exact HBm8.out
  have HMm9 : Hid (Mine1 w0.heap.size f mb) := HMm8.out
  have HS9 : Hid (Sim n ⟨lnow, lsafe, lw, lf, ld, ls⟩ st) := HS.out
  clear hw HM8 HBm8 HMm8 HL8
  clear y1
  go_wp2_with fail
  go_loopw [171] (fun vi w2 => ∃ (j : Nat) (cur : Array Value), vi = .int .i64 (j : Int) ∧ j ≤ bn ∧ Blk w2 mb cur 5 ∧ (∀ i, i < bn → ∃ z : Int, cur[i]? = some (.int .u8 z)) ∧ Chg (fun i => i = mb) w9 w2) (fun vi _ => bn - (intOf vi).toNat)
  case atStart => exact ⟨0, curm, rfl, Nat.zero_le _, HBm9.out, HCm.out, Chg.refl _ _⟩
  case round =>
    obtain ⟨j, cur, rfl, hj, hB, hC, hch⟩ := hrel
    have HBj : Hid (Blk wr mb cur 5) := hB
    have HCj : Hid (∀ i, i < bn → ∃ z : Int, cur[i]? = some (.int .u8 z)) := hC
    have HHj : Hid (Chg (fun i => i = mb) w9 wr) := hch
    clear hB hC hch
    by_cases hlt : j < bn
    · obtain ⟨z, hz⟩ := HCj.out j hlt
      have cj : wr.cell? ⟨mb, j, none⟩ = some (.int .u8 z) := (HBj.out.cell j).trans hz
      have fj : wr.frozen? ⟨mb, j, none⟩ = false := HBj.out.frozen j
      have HJ : Hid (j < cur.size) := (Array.getElem?_eq_some_iff.1 hz).1
      clear hz
      go_wp2_with fail
      go_roundw
      case rel => exact ⟨j + 1, _, by go_num, by omega, HBj.out.set j _, flip_ints HCj.out HJ.out, chgG HHj.out j _⟩
      case measure => simp [intOf]; omega
    · have HMx : Hid (Mem w0 wr g n b6 c6 b7 c7 a8 n8 c8 ⟨lnow, lsafe, lw, lf, ld, ls⟩ f st) := HM9.out.flip HBm9.out HMm9.out HHj.out
      go_wp2_with fail
      refine (down_is HMx.out.dk ld HS9.out.down.symm).mono ?_
      rintro e w' ⟨rfl, hw⟩; rw [hw]; clear hw w'
      go_wp2_with fail
      refine (steps_is HMx.out.dk ls HS9.out.steps.symm).mono ?_
      rintro e w' ⟨rfl, hw⟩; rw [hw]; clear hw w'
      go_wp2_with fail
      refine (waits_is HMx.out.dk n8 (by rw [← HS9.out.ws.1]; exact HMx.out.wt.len)).mono ?_
      rintro e w' ⟨rfl, hw⟩; rw [hw]; clear hw w'
      go_wp2_with fail
      refine (len_is HMx.out.dk n (by rw [← HS9.out.nows.1]; exact HS9.out.len)).mono ?_
      rintro e w' ⟨rfl, hw⟩; rw [hw]; clear hw w'
      go_wp2_with fail
      refine ⟨⟨k + 1, b6, c6, b7, c7, a8, n8, c8, ⟨lnow, lsafe, lw, lf, ld, ls⟩, f, st, ⟨rfl, rfl, rfl, rfl, rfl, rfl, rfl, rfl, rfl, by rfl, rfl, by rfl, by rfl⟩, by omega, by omega, HMx.out, HS9.out, by show lw.length ≤ k + 1; omega, by show ls ≤ k + 1; omega⟩, ?_⟩
      simp [Rmu, intOf]; omega

set_option maxRecDepth 100000 in
set_option maxHeartbeats 8000000 in
theorem run_write_big (w0 : World) (n : Nat) (_hn : n ≤ 15) (x : Addr) (no co g k : Nat) (hk : k < no) (hk2 : k < 50) (T : Nat → Value) (b6 c6 b7 c7 : Nat) (a8 : Option Addr) (n8 c8 : Nat) (lnow lsafe : List LSec) (lw : List OpV) (lf : Nat) (ld : Bool) (ls : Nat) (f : Foot) (st : DSt) (wx : World) (Q : Exit → Act → World → Prop)
    (at_ : Int) (bo : Option Addr) (bn bc : Nat) (bl : List UInt8) (ko : Option Addr) (kn kc : Nat) (kl : List Bool) (tr : Int) (hop0 : OpAt w0 x k ⟨0, at_, bo, bn, bc, bl, ko, kn, kc, kl, tr⟩)
    (hM : Mem w0 wx g n b6 c6 b7 c7 a8 n8 c8 ⟨lnow, lsafe, lw, lf, ld, ls⟩ f st) (hS : Sim n ⟨lnow, lsafe, lw, lf, ld, ls⟩ st) (_hwk : lw.length ≤ k) (_hsk : ls ≤ k) (hbn : bn ≤ 600) (hkn : kn ≤ 60) (hi : 0 ≤ at_ ∧ at_ < (n : Int)) (hbig : 512 < bn) :
    Code.wp Try.prog (bodyOf Try.f3) (Exit.then (fun a' w' => RI w0 n (some x) no co g a' w' ∧ Rmu a' w' < 50 - k) Q) ⟨fr T (.int .i64 (n : Int)) (.slice (some x) no co) (.bool false) (dptr g) (.slice (some ⟨b6, 0, none⟩) n c6) (.slice (some ⟨b7, 0, none⟩) n c7) (.slice a8 n8 c8) (.int .i64 (lf : Int)) (.bool ld) (.int .i64 (ls : Int)) (.int .i64 (k : Int)), []⟩ wx := by
  have hd1 : decide ((k : Int) < (no : Int)) = true := decide_eq_true (by omega)
  have hd2 : decide ((k : Int) < 50) = true := decide_eq_true (by omega)
  have hop := hop0.below hM.dk.bel
  have e0 : wx.cell? (x.add (k * 5)) = some (.int .i64 0) := hop.c0
  have e1 : wx.cell? ⟨(x.add (k * 5)).block, (x.add (k * 5)).off + 1, none⟩ = some (.int .i64 at_) := cell_onR (by omega) hop.c1
  have e2 : wx.cell? ⟨(x.add (k * 5)).block, (x.add (k * 5)).off + 2, none⟩ = some (.slice bo bn bc) := cell_onR (by omega) hop.c2
  have e3 : wx.cell? ⟨(x.add (k * 5)).block, (x.add (k * 5)).off + 3, none⟩ = some (.slice ko kn kc) := cell_onR (by omega) hop.c3
  have e4 : wx.cell? ⟨(x.add (k * 5)).block, (x.add (k * 5)).off + 4, none⟩ = some (.int .i64 tr) := cell_onR (by omega) hop.c4
  have HOP : Hid (OpAt w0 x k ⟨0, at_, bo, bn, bc, bl, ko, kn, kc, kl, tr⟩) := hop0
  have hat64 : -9223372036854775808 ≤ at_ ∧ at_ ≤ 9223372036854775807 := by have := bounds_i64 hop0.w1; simp only at this; omega
  have hbeL : Below wx.heap.size wx (wx.alloc (.cells #[.int .i64 0, .int .i64 at_, .slice bo bn bc, .slice ko kn kc, .int .i64 tr] 30)) := (Below.refl _ _).alloc (Nat.le_refl _) _
  have HM1 : Hid (Mem w0 (wx.alloc (.cells #[.int .i64 0, .int .i64 at_, .slice bo bn bc, .slice ko kn kc, .int .i64 tr] 30)) g n b6 c6 b7 c7 a8 n8 c8 ⟨lnow, lsafe, lw, lf, ld, ls⟩ f st) := hM.below hbeL
  have HL1 : Hid (Blk (wx.alloc (.cells #[.int .i64 0, .int .i64 at_, .slice bo bn bc, .slice ko kn kc, .int .i64 tr] 30)) wx.heap.size #[.int .i64 0, .int .i64 at_, .slice bo bn bc, .slice ko kn kc, .int .i64 tr] 30) := Blk.new wx _ _
  have HML : Hid (Mine1 w0.heap.size f wx.heap.size) := hM.new (Nat.le_refl _)
  have HS : Hid (Sim n ⟨lnow, lsafe, lw, lf, ld, ls⟩ st) := hS
  have HM : Hid (Mem w0 wx g n b6 c6 b7 c7 a8 n8 c8 ⟨lnow, lsafe, lw, lf, ld, ls⟩ f st) := hM
  clear hop hop0 hM hS hbeL
  have q : decide (0 ≤ at_) = true := decide_eq_true (by omega)
  have q1 : decide (at_ < (n : Int)) = true := decide_eq_true (by omega)
  have q2 : decide (512 < (bn : Int)) = true := decide_eq_true (by omega)
  have hd3 : decide (600 < (bn : Int)) = false := decide_eq_false (by omega)
  have hd4 : decide (60 < (kn : Int)) = false := decide_eq_false (by omega)
  have HLb : Hid (Blk (wx.alloc (.cells #[.int .i64 0, .int .i64 at_, .slice bo bn bc, .slice ko kn kc, .int .i64 tr] 30)) wx.heap.size #[.int .i64 0, .int .i64 at_, .slice bo bn bc, .slice ko kn kc, .int .i64 tr] 30) := HL1.out
  unfold fr
  conv => arg 2; whnf
  have hlen0 : bl.length = bn := HOP.out.len
  have HBL : Hid (bl.length = bn) := hlen0
  have hbeA : Below (wx.alloc (.cells #[.int .i64 0, .int .i64 at_, .slice bo bn bc, .slice ko kn kc, .int .i64 tr] 30)).heap.size (wx.alloc (.cells #[.int .i64 0, .int .i64 at_, .slice bo bn bc, .slice ko kn kc, .int .i64 tr] 30)) ((wx.alloc (.cells #[.int .i64 0, .int .i64 at_, .slice bo bn bc, .slice ko kn kc, .int .i64 tr] 30)).alloc (.cells #[] 5)) := (Below.refl _ _).alloc (Nat.le_refl _) _
  have hOw : Own ((wx.alloc (.cells #[.int .i64 0, .int .i64 at_, .slice bo bn bc, .slice ko kn kc, .int .i64 tr] 30)).alloc (.cells #[] 5)) (wx.alloc (.cells #[.int .i64 0, .int .i64 at_, .slice bo bn bc, .slice ko kn kc, .int .i64 tr] 30)).heap.size (.slice (some ⟨(wx.alloc (.cells #[.int .i64 0, .int .i64 at_, .slice bo bn bc, .slice ko kn kc, .int .i64 tr] 30)).heap.size, 0, none⟩) 0 0) [] := World.ownsRow_made (wx.alloc (.cells #[.int .i64 0, .int .i64 at_, .slice bo bn bc, .slice ko kn kc, .int .i64 tr] 30)) #[] 0 (Nat.le_refl _) (Nat.zero_le _) rfl
  have hOw' : Hid (Own ((wx.alloc (.cells #[.int .i64 0, .int .i64 at_, .slice bo bn bc, .slice ko kn kc, .int .i64 tr] 30)).alloc (.cells #[] 5)) (wx.alloc (.cells #[.int .i64 0, .int .i64 at_, .slice bo bn bc, .slice ko kn kc, .int .i64 tr] 30)).heap.size (.slice (some ⟨(wx.alloc (.cells #[.int .i64 0, .int .i64 at_, .slice bo bn bc, .slice ko kn kc, .int .i64 tr] 30)).heap.size, 0, none⟩) 0 0) []) := hOw
  have HSr : Hid (Src ((wx.alloc (.cells #[.int .i64 0, .int .i64 at_, .slice bo bn bc, .slice ko kn kc, .int .i64 tr] 30)).alloc (.cells #[] 5)) (.slice bo bn bc) bl) := HOP.out.src.below (HM1.out.dk.below hbeA).bel
  have HBA : Hid (Below (wx.alloc (.cells #[.int .i64 0, .int .i64 at_, .slice bo bn bc, .slice ko kn kc, .int .i64 tr] 30)).heap.size (wx.alloc (.cells #[.int .i64 0, .int .i64 at_, .slice bo bn bc, .slice ko kn kc, .int .i64 tr] 30)) ((wx.alloc (.cells #[.int .i64 0, .int .i64 at_, .slice bo bn bc, .slice ko kn kc, .int .i64 tr] 30)).alloc (.cells #[] 5))) := hbeA
  have y2 : ((wx.alloc (.cells #[.int .i64 0, .int .i64 at_, .slice bo bn bc, .slice ko kn kc, .int .i64 tr] 30)).alloc (.cells #[] 5)).cell? ⟨wx.heap.size, 2, none⟩ = some (.slice bo bn bc) := (HLb.out.alloc _).cell 2
  have hWz : wx.heap.size < (wx.alloc (.cells #[.int .i64 0, .int .i64 at_, .slice bo bn bc, .slice ko kn kc, .int .i64 tr] 30)).heap.size := HLb.out.lt
  clear hOw hbeA hlen0
  go_wp2_with (first | (at_builtin; refine wpList_join _ rfl _ _ rfl (wx.alloc (.cells #[.int .i64 0, .int .i64 at_, .slice bo bn bc, .slice ko kn kc, .int .i64 tr] 30)).heap.size _ [] bl hOw'.out ?_ (.slice bo bn bc) HSr.out rfl ?_ ?_ ?_))
  · first | rfl | (simp; rfl)
  · rw [HBL.out]; simp; omega
  · simp
  intro v8 w8 hown8 hg8 hnn8
  obtain ⟨mb, cm, hv8, hmb, curm, hBm, hcurm⟩ : ∃ mb cm, v8 = .slice (some ⟨mb, 0, none⟩) bn cm ∧ (wx.heap.size + 1) ≤ mb ∧ ∃ cur, Blk w8 mb cur 5 ∧ ∀ i, i < bn → ∃ z : Int, cur[i]? = some (.int .u8 z) := own_bytes hown8 (fun h => by have := hnn8 h; simp at this) HBL.out
  subst hv8
  have hmb' : (wx.alloc (.cells #[.int .i64 0, .int .i64 at_, .slice bo bn bc, .slice ko kn kc, .int .i64 tr] 30)).heap.size ≤ mb := by simpa using hmb
  have HE8 : Hid (Below (wx.alloc (.cells #[.int .i64 0, .int .i64 at_, .slice bo bn bc, .slice ko kn kc, .int .i64 tr] 30)).heap.size (wx.alloc (.cells #[.int .i64 0, .int .i64 at_, .slice bo bn bc, .slice ko kn kc, .int .i64 tr] 30)) w8) := HBA.out.trans (((Chg.refl (fun k => k = (wx.heap.size + 1)) _).grown hg8 (fun k e _ => by have : some (wx.heap.size + 1) = some k := e; exact (Option.some.inj this).symm)).below (by simp) (fun i e => by first | omega | (simp; omega)))
  have HM8 : Hid (Mem w0 w8 g n b6 c6 b7 c7 a8 n8 c8 ⟨lnow, lsafe, lw, lf, ld, ls⟩ f st) := HM1.out.below HE8.out
  have HSv : Hid (Src w8 (.slice (some ⟨mb, 0, none⟩) bn cm) bl) := hown8.src
  have HBm8 : Hid (Blk w8 mb curm 5) := hBm
  have HCm : Hid (∀ i, i < bn → ∃ z : Int, curm[i]? = some (.int .u8 z)) := hcurm
  have HMm8 : Hid (Mine1 w0.heap.size f mb) := HM1.out.new hmb'
  have HL8 : Hid (Blk w8 wx.heap.size #[.int .i64 0, .int .i64 at_, .slice bo bn bc, .slice ko kn kc, .int .i64 tr] 30) := HLb.out.of (HE8.out.block _ HLb.out.lt)
  have y1 : w8.cell? ⟨wx.heap.size, 1, none⟩ = some (.int .i64 at_) := HL8.out.cell 1
  clear hown8 hg8 hnn8 hBm hcurm hOw' HSr HBA y2
  go_wp2_with fail
  refine (write_arg_is HM8.out.dk at_ (some ⟨mb, 0, none⟩) bn cm (.inr (by omega)) (by unfold maxLen; omega)).mono ?_
  rintro e w9 ⟨rfl, hw⟩
  have HM9 : Hid (Mem w0 w9 g n b6 c6 b7 c7 a8 n8 c8 ⟨lnow, lsafe, lw, lf, ld, ls⟩ f st) := by rw [hw]; exact HM8.out
  have HBm9 : Hid (Blk w9 mb curm 5) := by rw [hw]; exact HBm8.out
  have HMm9 : Hid (Mine1 w0.heap.size f mb) := HMm8.out
  have HS9 : Hid (Sim n ⟨lnow, lsafe, lw, lf, ld, ls⟩ st) := HS.out
  clear hw HM8 HBm8 HMm8 HL8
  clear y1
  go_wp2_with fail
  go_loopw [171] (fun vi w2 => ∃ (j : Nat) (cur : Array Value), vi = .int .i64 (j : Int) ∧ j ≤ bn ∧ Blk w2 mb cur 5 ∧ (∀ i, i < bn → ∃ z : Int, cur[i]? = some (.int .u8 z)) ∧ Chg (fun i => i = mb) w9 w2) (fun vi _ => bn - (intOf vi).toNat)
  case atStart => exact ⟨0, curm, rfl, Nat.zero_le _, HBm9.out, HCm.out, Chg.refl _ _⟩
  case round =>
    obtain ⟨j, cur, rfl, hj, hB, hC, hch⟩ := hrel
    have HBj : Hid (Blk wr mb cur 5) := hB
    have HCj : Hid (∀ i, i < bn → ∃ z : Int, cur[i]? = some (.int .u8 z)) := hC
    have HHj : Hid (Chg (fun i => i = mb) w9 wr) := hch
    clear hB hC hch
    by_cases hlt : j < bn
    · obtain ⟨z, hz⟩ := HCj.out j hlt
      have cj : wr.cell? ⟨mb, j, none⟩ = some (.int .u8 z) := (HBj.out.cell j).trans hz
      have fj : wr.frozen? ⟨mb, j, none⟩ = false := HBj.out.frozen j
      have HJ : Hid (j < cur.size) := (Array.getElem?_eq_some_iff.1 hz).1
      clear hz
      go_wp2_with fail
      go_roundw
      case rel => exact ⟨j + 1, _, by go_num, by omega, HBj.out.set j _, flip_ints HCj.out HJ.out, chgG HHj.out j _⟩
      case measure => simp [intOf]; omega
    · have HMx : Hid (Mem w0 wr g n b6 c6 b7 c7 a8 n8 c8 ⟨lnow, lsafe, lw, lf, ld, ls⟩ f st) := HM9.out.flip HBm9.out HMm9.out HHj.out
      go_wp2_with fail
      refine (down_is HMx.out.dk ld HS9.out.down.symm).mono ?_
      rintro e w' ⟨rfl, hw⟩; rw [hw]; clear hw w'
      go_wp2_with fail
      refine (steps_is HMx.out.dk ls HS9.out.steps.symm).mono ?_
      rintro e w' ⟨rfl, hw⟩; rw [hw]; clear hw w'
      go_wp2_with fail
      refine (waits_is HMx.out.dk n8 (by rw [← HS9.out.ws.1]; exact HMx.out.wt.len)).mono ?_
      rintro e w' ⟨rfl, hw⟩; rw [hw]; clear hw w'
      go_wp2_with fail
      refine (len_is HMx.out.dk n (by rw [← HS9.out.nows.1]; exact HS9.out.len)).mono ?_
      rintro e w' ⟨rfl, hw⟩; rw [hw]; clear hw w'
      go_wp2_with fail
      refine ⟨⟨k + 1, b6, c6, b7, c7, a8, n8, c8, ⟨lnow, lsafe, lw, lf, ld, ls⟩, f, st, ⟨rfl, rfl, rfl, rfl, rfl, rfl, rfl, rfl, rfl, by rfl, rfl, by rfl, by rfl⟩, by omega, by omega, HMx.out, HS9.out, by show lw.length ≤ k + 1; omega, by show ls ≤ k + 1; omega⟩, ?_⟩
      simp [Rmu, intOf]; omega

set_option maxRecDepth 100000 in
set_option maxHeartbeats 8000000 in
theorem run_write_down (w0 : World) (n : Nat) (_hn : n ≤ 15) (x : Addr) (no co g k : Nat) (hk : k < no) (hk2 : k < 50) (T : Nat → Value) (b6 c6 b7 c7 : Nat) (a8 : Option Addr) (n8 c8 : Nat) (lnow lsafe : List LSec) (lw : List OpV) (lf : Nat) (ld : Bool) (ls : Nat) (f : Foot) (st : DSt) (wx : World) (Q : Exit → Act → World → Prop)
    (at_ : Int) (bo : Option Addr) (bn bc : Nat) (bl : List UInt8) (ko : Option Addr) (kn kc : Nat) (kl : List Bool) (tr : Int) (hop0 : OpAt w0 x k ⟨0, at_, bo, bn, bc, bl, ko, kn, kc, kl, tr⟩)
    (hM : Mem w0 wx g n b6 c6 b7 c7 a8 n8 c8 ⟨lnow, lsafe, lw, lf, ld, ls⟩ f st) (hS : Sim n ⟨lnow, lsafe, lw, lf, ld, ls⟩ st) (_hwk : lw.length ≤ k) (_hsk : ls ≤ k) (hbn : bn ≤ 600) (hkn : kn ≤ 60) (i : Nat) (hia : at_ = (i : Int)) (hi : i < n) (hb5 : bn ≤ 512) (hld : ld = true) :
    Code.wp Try.prog (bodyOf Try.f3) (Exit.then (fun a' w' => RI w0 n (some x) no co g a' w' ∧ Rmu a' w' < 50 - k) Q) ⟨fr T (.int .i64 (n : Int)) (.slice (some x) no co) (.bool false) (dptr g) (.slice (some ⟨b6, 0, none⟩) n c6) (.slice (some ⟨b7, 0, none⟩) n c7) (.slice a8 n8 c8) (.int .i64 (lf : Int)) (.bool ld) (.int .i64 (ls : Int)) (.int .i64 (k : Int)), []⟩ wx := by
  have hd1 : decide ((k : Int) < (no : Int)) = true := decide_eq_true (by omega)
  have hd2 : decide ((k : Int) < 50) = true := decide_eq_true (by omega)
  have hop := hop0.below hM.dk.bel
  have e0 : wx.cell? (x.add (k * 5)) = some (.int .i64 0) := hop.c0
  have e1 : wx.cell? ⟨(x.add (k * 5)).block, (x.add (k * 5)).off + 1, none⟩ = some (.int .i64 at_) := cell_onR (by omega) hop.c1
  have e2 : wx.cell? ⟨(x.add (k * 5)).block, (x.add (k * 5)).off + 2, none⟩ = some (.slice bo bn bc) := cell_onR (by omega) hop.c2
  have e3 : wx.cell? ⟨(x.add (k * 5)).block, (x.add (k * 5)).off + 3, none⟩ = some (.slice ko kn kc) := cell_onR (by omega) hop.c3
  have e4 : wx.cell? ⟨(x.add (k * 5)).block, (x.add (k * 5)).off + 4, none⟩ = some (.int .i64 tr) := cell_onR (by omega) hop.c4
  have HOP : Hid (OpAt w0 x k ⟨0, at_, bo, bn, bc, bl, ko, kn, kc, kl, tr⟩) := hop0
  have hat64 : -9223372036854775808 ≤ at_ ∧ at_ ≤ 9223372036854775807 := by have := bounds_i64 hop0.w1; simp only at this; omega
  have hbeL : Below wx.heap.size wx (wx.alloc (.cells #[.int .i64 0, .int .i64 at_, .slice bo bn bc, .slice ko kn kc, .int .i64 tr] 30)) := (Below.refl _ _).alloc (Nat.le_refl _) _
  have HM1 : Hid (Mem w0 (wx.alloc (.cells #[.int .i64 0, .int .i64 at_, .slice bo bn bc, .slice ko kn kc, .int .i64 tr] 30)) g n b6 c6 b7 c7 a8 n8 c8 ⟨lnow, lsafe, lw, lf, ld, ls⟩ f st) := hM.below hbeL
  have HL1 : Hid (Blk (wx.alloc (.cells #[.int .i64 0, .int .i64 at_, .slice bo bn bc, .slice ko kn kc, .int .i64 tr] 30)) wx.heap.size #[.int .i64 0, .int .i64 at_, .slice bo bn bc, .slice ko kn kc, .int .i64 tr] 30) := Blk.new wx _ _
  have HML : Hid (Mine1 w0.heap.size f wx.heap.size) := hM.new (Nat.le_refl _)
  have HS : Hid (Sim n ⟨lnow, lsafe, lw, lf, ld, ls⟩ st) := hS
  have HM : Hid (Mem w0 wx g n b6 c6 b7 c7 a8 n8 c8 ⟨lnow, lsafe, lw, lf, ld, ls⟩ f st) := hM
  clear hop hop0 hM hS hbeL
  subst hld
  subst hia
  have q1 : decide ((i : Int) < (n : Int)) = true := decide_eq_true (by omega)
  have q2 : decide (512 < (bn : Int)) = false := decide_eq_false (by omega)
  have hd3 : decide (600 < (bn : Int)) = false := decide_eq_false (by omega)
  have hd4 : decide (60 < (kn : Int)) = false := decide_eq_false (by omega)
  have HLb : Hid (Blk (wx.alloc (.cells #[.int .i64 0, .int .i64 (i : Int), .slice bo bn bc, .slice ko kn kc, .int .i64 tr] 30)) wx.heap.size #[.int .i64 0, .int .i64 (i : Int), .slice bo bn bc, .slice ko kn kc, .int .i64 tr] 30) := HL1.out
  unfold fr
  conv => arg 2; whnf
  have hlen0 : bl.length = bn := HOP.out.len
  have HBL : Hid (bl.length = bn) := hlen0
  have hbeA : Below (wx.alloc (.cells #[.int .i64 0, .int .i64 (i : Int), .slice bo bn bc, .slice ko kn kc, .int .i64 tr] 30)).heap.size (wx.alloc (.cells #[.int .i64 0, .int .i64 (i : Int), .slice bo bn bc, .slice ko kn kc, .int .i64 tr] 30)) ((wx.alloc (.cells #[.int .i64 0, .int .i64 (i : Int), .slice bo bn bc, .slice ko kn kc, .int .i64 tr] 30)).alloc (.cells #[] 5)) := (Below.refl _ _).alloc (Nat.le_refl _) _
  have hOw : Own ((wx.alloc (.cells #[.int .i64 0, .int .i64 (i : Int), .slice bo bn bc, .slice ko kn kc, .int .i64 tr] 30)).alloc (.cells #[] 5)) (wx.alloc (.cells #[.int .i64 0, .int .i64 (i : Int), .slice bo bn bc, .slice ko kn kc, .int .i64 tr] 30)).heap.size (.slice (some ⟨(wx.alloc (.cells #[.int .i64 0, .int .i64 (i : Int), .slice bo bn bc, .slice ko kn kc, .int .i64 tr] 30)).heap.size, 0, none⟩) 0 0) [] := World.ownsRow_made (wx.alloc (.cells #[.int .i64 0, .int .i64 (i : Int), .slice bo bn bc, .slice ko kn kc, .int .i64 tr] 30)) #[] 0 (Nat.le_refl _) (Nat.zero_le _) rfl
  have hOw' : Hid (Own ((wx.alloc (.cells #[.int .i64 0, .int .i64 (i : Int), .slice bo bn bc, .slice ko kn kc, .int .i64 tr] 30)).alloc (.cells #[] 5)) (wx.alloc (.cells #[.int .i64 0, .int .i64 (i : Int), .slice bo bn bc, .slice ko kn kc, .int .i64 tr] 30)).heap.size (.slice (some ⟨(wx.alloc (.cells #[.int .i64 0, .int .i64 (i : Int), .slice bo bn bc, .slice ko kn kc, .int .i64 tr] 30)).heap.size, 0, none⟩) 0 0) []) := hOw
  have HSr : Hid (Src ((wx.alloc (.cells #[.int .i64 0, .int .i64 (i : Int), .slice bo bn bc, .slice ko kn kc, .int .i64 tr] 30)).alloc (.cells #[] 5)) (.slice bo bn bc) bl) := HOP.out.src.below (HM1.out.dk.below hbeA).bel
  have HBA : Hid (Below (wx.alloc (.cells #[.int .i64 0, .int .i64 (i : Int), .slice bo bn bc, .slice ko kn kc, .int .i64 tr] 30)).heap.size (wx.alloc (.cells #[.int .i64 0, .int .i64 (i : Int), .slice bo bn bc, .slice ko kn kc, .int .i64 tr] 30)) ((wx.alloc (.cells #[.int .i64 0, .int .i64 (i : Int), .slice bo bn bc, .slice ko kn kc, .int .i64 tr] 30)).alloc (.cells #[] 5))) := hbeA
  have y2 : ((wx.alloc (.cells #[.int .i64 0, .int .i64 (i : Int), .slice bo bn bc, .slice ko kn kc, .int .i64 tr] 30)).alloc (.cells #[] 5)).cell? ⟨wx.heap.size, 2, none⟩ = some (.slice bo bn bc) := (HLb.out.alloc _).cell 2
  have hWz : wx.heap.size < (wx.alloc (.cells #[.int .i64 0, .int .i64 (i : Int), .slice bo bn bc, .slice ko kn kc, .int .i64 tr] 30)).heap.size := HLb.out.lt
  clear hOw hbeA hlen0
  go_wp2_with (first | (at_builtin; refine wpList_join _ rfl _ _ rfl (wx.alloc (.cells #[.int .i64 0, .int .i64 (i : Int), .slice bo bn bc, .slice ko kn kc, .int .i64 tr] 30)).heap.size _ [] bl hOw'.out ?_ (.slice bo bn bc) HSr.out rfl ?_ ?_ ?_))
  · first | rfl | (simp; rfl)
  · rw [HBL.out]; simp; omega
  · simp
  intro v8 w8 hown8 hg8 hnn8
  obtain ⟨mb, cm, hv8, hmb, curm, hBm, hcurm⟩ : ∃ mb cm, v8 = .slice (some ⟨mb, 0, none⟩) bn cm ∧ (wx.heap.size + 1) ≤ mb ∧ ∃ cur, Blk w8 mb cur 5 ∧ ∀ i, i < bn → ∃ z : Int, cur[i]? = some (.int .u8 z) := own_bytes hown8 (fun h => by have := hnn8 h; simp at this) HBL.out
  subst hv8
  have hmb' : (wx.alloc (.cells #[.int .i64 0, .int .i64 (i : Int), .slice bo bn bc, .slice ko kn kc, .int .i64 tr] 30)).heap.size ≤ mb := by simpa using hmb
  have HE8 : Hid (Below (wx.alloc (.cells #[.int .i64 0, .int .i64 (i : Int), .slice bo bn bc, .slice ko kn kc, .int .i64 tr] 30)).heap.size (wx.alloc (.cells #[.int .i64 0, .int .i64 (i : Int), .slice bo bn bc, .slice ko kn kc, .int .i64 tr] 30)) w8) := HBA.out.trans (((Chg.refl (fun k => k = (wx.heap.size + 1)) _).grown hg8 (fun k e _ => by have : some (wx.heap.size + 1) = some k := e; exact (Option.some.inj this).symm)).below (by simp) (fun i e => by first | omega | (simp; omega)))
  have HM8 : Hid (Mem w0 w8 g n b6 c6 b7 c7 a8 n8 c8 ⟨lnow, lsafe, lw, lf, true, ls⟩ f st) := HM1.out.below HE8.out
  have HSv : Hid (Src w8 (.slice (some ⟨mb, 0, none⟩) bn cm) bl) := hown8.src
  have HBm8 : Hid (Blk w8 mb curm 5) := hBm
  have HCm : Hid (∀ i, i < bn → ∃ z : Int, curm[i]? = some (.int .u8 z)) := hcurm
  have HMm8 : Hid (Mine1 w0.heap.size f mb) := HM1.out.new hmb'
  have HL8 : Hid (Blk w8 wx.heap.size #[.int .i64 0, .int .i64 (i : Int), .slice bo bn bc, .slice ko kn kc, .int .i64 tr] 30) := HLb.out.of (HE8.out.block _ HLb.out.lt)
  have y1 : w8.cell? ⟨wx.heap.size, 1, none⟩ = some (.int .i64 (i : Int)) := HL8.out.cell 1
  clear hown8 hg8 hnn8 hBm hcurm hOw' HSr HBA y2
  go_wp2_with fail
  refine (write_down_is HM8.out.dk i (some ⟨mb, 0, none⟩) bn cm (by rw [← HS.out.nows.1, HS.out.len]; omega) (by omega) HS.out.down.symm).mono ?_
  rintro e w9 ⟨rfl, hw⟩
  have HM9 : Hid (Mem w0 w9 g n b6 c6 b7 c7 a8 n8 c8 ⟨lnow, lsafe, lw, lf, true, ls⟩ f st) := by rw [hw]; exact HM8.out
  have HBm9 : Hid (Blk w9 mb curm 5) := by rw [hw]; exact HBm8.out
  have HMm9 : Hid (Mine1 w0.heap.size f mb) := HMm8.out
  have HS9 : Hid (Sim n ⟨lnow, lsafe, lw, lf, true, ls⟩ st) := HS.out
  clear hw HM8 HBm8 HMm8 HL8
  clear y1
  go_wp2_with fail
  go_loopw [171] (fun vi w2 => ∃ (j : Nat) (cur : Array Value), vi = .int .i64 (j : Int) ∧ j ≤ bn ∧ Blk w2 mb cur 5 ∧ (∀ i, i < bn → ∃ z : Int, cur[i]? = some (.int .u8 z)) ∧ Chg (fun i => i = mb) w9 w2) (fun vi _ => bn - (intOf vi).toNat)
  case atStart => exact ⟨0, curm, rfl, Nat.zero_le _, HBm9.out, HCm.out, Chg.refl _ _⟩
  case round =>
    obtain ⟨j, cur, rfl, hj, hB, hC, hch⟩ := hrel
    have HBj : Hid (Blk wr mb cur 5) := hB
    have HCj : Hid (∀ i, i < bn → ∃ z : Int, cur[i]? = some (.int .u8 z)) := hC
    have HHj : Hid (Chg (fun i => i = mb) w9 wr) := hch
    clear hB hC hch
    by_cases hlt : j < bn
    · obtain ⟨z, hz⟩ := HCj.out j hlt
      have cj : wr.cell? ⟨mb, j, none⟩ = some (.int .u8 z) := (HBj.out.cell j).trans hz
      have fj : wr.frozen? ⟨mb, j, none⟩ = false := HBj.out.frozen j
      have HJ : Hid (j < cur.size) := (Array.getElem?_eq_some_iff.1 hz).1
      clear hz
      go_wp2_with fail
      go_roundw
      case rel => exact ⟨j + 1, _, by go_num, by omega, HBj.out.set j _, flip_ints HCj.out HJ.out, chgG HHj.out j _⟩
      case measure => simp [intOf]; omega
    · have HMx : Hid (Mem w0 wr g n b6 c6 b7 c7 a8 n8 c8 ⟨lnow, lsafe, lw, lf, true, ls⟩ f st) := HM9.out.flip HBm9.out HMm9.out HHj.out
      go_wp2_with fail
      refine (down_is HMx.out.dk true HS9.out.down.symm).mono ?_
      rintro e w' ⟨rfl, hw⟩; rw [hw]; clear hw w'
      go_wp2_with fail
      refine (steps_is HMx.out.dk ls HS9.out.steps.symm).mono ?_
      rintro e w' ⟨rfl, hw⟩; rw [hw]; clear hw w'
      go_wp2_with fail
      refine (waits_is HMx.out.dk n8 (by rw [← HS9.out.ws.1]; exact HMx.out.wt.len)).mono ?_
      rintro e w' ⟨rfl, hw⟩; rw [hw]; clear hw w'
      go_wp2_with fail
      refine (len_is HMx.out.dk n (by rw [← HS9.out.nows.1]; exact HS9.out.len)).mono ?_
      rintro e w' ⟨rfl, hw⟩; rw [hw]; clear hw w'
      go_wp2_with fail
      refine ⟨⟨k + 1, b6, c6, b7, c7, a8, n8, c8, ⟨lnow, lsafe, lw, lf, true, ls⟩, f, st, ⟨rfl, rfl, rfl, rfl, rfl, rfl, rfl, rfl, rfl, by rfl, rfl, by rfl, by rfl⟩, by omega, by omega, HMx.out, HS9.out, by show lw.length ≤ k + 1; omega, by show ls ≤ k + 1; omega⟩, ?_⟩
      simp [Rmu, intOf]; omega
end Go.Proofs.Ytpojpmkflgmgkaa
