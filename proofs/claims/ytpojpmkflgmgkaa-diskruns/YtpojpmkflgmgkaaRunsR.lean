/- DiskRuns: rounds of the law's loop: a Read that answers. Own lemmas, no statement. -/
import Derived.Test.YtpojpmkflgmgkaaRuns4
namespace Go.Proofs.Ytpojpmkflgmgkaa
open Go.ChangeShapes Go.WideShapes Go.ChangeAt Go.RowKit

set_option maxRecDepth 100000 in
set_option maxHeartbeats 8000000 in
theorem run_read_ok (w0 : World) (n : Nat) (_hn : n ≤ 15) (x : Addr) (no co g k : Nat) (hk : k < no) (hk2 : k < 50) (T : Nat → Value) (b6 c6 b7 c7 : Nat) (a8 : Option Addr) (n8 c8 : Nat) (lnow lsafe : List LSec) (lw : List OpV) (lf : Nat) (ld : Bool) (ls : Nat) (f : Foot) (st : DSt) (wx : World) (Q : Exit → Act → World → Prop)
    (at_ : Int) (bo : Option Addr) (bn bc : Nat) (bl : List UInt8) (ko : Option Addr) (kn kc : Nat) (kl : List Bool) (tr : Int) (hop0 : OpAt w0 x k ⟨1, at_, bo, bn, bc, bl, ko, kn, kc, kl, tr⟩)
    (hM : Mem w0 wx g n b6 c6 b7 c7 a8 n8 c8 ⟨lnow, lsafe, lw, lf, ld, ls⟩ f st) (hS : Sim n ⟨lnow, lsafe, lw, lf, ld, ls⟩ st) (_hwk : lw.length ≤ k) (_hsk : ls ≤ k) (hbn : bn ≤ 600) (hkn : kn ≤ 60) (i : Nat) (hia : at_ = (i : Int)) (hi : i < n) (hld : ld = false) (htn : (lnow[i]?).map (·.2) = some false) :
    Code.wp Try.prog (bodyOf Try.f3) (Exit.then (fun a' w' => RI w0 n (some x) no co g a' w' ∧ Rmu a' w' < 50 - k) Q) ⟨fr T (.int .i64 (n : Int)) (.slice (some x) no co) (.bool false) (dptr g) (.slice (some ⟨b6, 0, none⟩) n c6) (.slice (some ⟨b7, 0, none⟩) n c7) (.slice a8 n8 c8) (.int .i64 (lf : Int)) (.bool ld) (.int .i64 (ls : Int)) (.int .i64 (k : Int)), []⟩ wx := by
  have hd1 : decide ((k : Int) < (no : Int)) = true := decide_eq_true (by omega)
  have hd2 : decide ((k : Int) < 50) = true := decide_eq_true (by omega)
  have hop := hop0.below hM.dk.bel
  have e0 : wx.cell? (x.add (k * 5)) = some (.int .i64 1) := hop.c0
  have e1 : wx.cell? ⟨(x.add (k * 5)).block, (x.add (k * 5)).off + 1, none⟩ = some (.int .i64 at_) := cell_onR (by omega) hop.c1
  have e2 : wx.cell? ⟨(x.add (k * 5)).block, (x.add (k * 5)).off + 2, none⟩ = some (.slice bo bn bc) := cell_onR (by omega) hop.c2
  have e3 : wx.cell? ⟨(x.add (k * 5)).block, (x.add (k * 5)).off + 3, none⟩ = some (.slice ko kn kc) := cell_onR (by omega) hop.c3
  have e4 : wx.cell? ⟨(x.add (k * 5)).block, (x.add (k * 5)).off + 4, none⟩ = some (.int .i64 tr) := cell_onR (by omega) hop.c4
  have HOP : Hid (OpAt w0 x k ⟨1, at_, bo, bn, bc, bl, ko, kn, kc, kl, tr⟩) := hop0
  have hat64 : -9223372036854775808 ≤ at_ ∧ at_ ≤ 9223372036854775807 := by have := bounds_i64 hop0.w1; simp only at this; omega
  have hbeL : Below wx.heap.size wx (wx.alloc (.cells #[.int .i64 1, .int .i64 at_, .slice bo bn bc, .slice ko kn kc, .int .i64 tr] 30)) := (Below.refl _ _).alloc (Nat.le_refl _) _
  have HM1 : Hid (Mem w0 (wx.alloc (.cells #[.int .i64 1, .int .i64 at_, .slice bo bn bc, .slice ko kn kc, .int .i64 tr] 30)) g n b6 c6 b7 c7 a8 n8 c8 ⟨lnow, lsafe, lw, lf, ld, ls⟩ f st) := hM.below hbeL
  have HL1 : Hid (Blk (wx.alloc (.cells #[.int .i64 1, .int .i64 at_, .slice bo bn bc, .slice ko kn kc, .int .i64 tr] 30)) wx.heap.size #[.int .i64 1, .int .i64 at_, .slice bo bn bc, .slice ko kn kc, .int .i64 tr] 30) := Blk.new wx _ _
  have HML : Hid (Mine1 w0.heap.size f wx.heap.size) := hM.new (Nat.le_refl _)
  have HS : Hid (Sim n ⟨lnow, lsafe, lw, lf, ld, ls⟩ st) := hS
  have HM : Hid (Mem w0 wx g n b6 c6 b7 c7 a8 n8 c8 ⟨lnow, lsafe, lw, lf, ld, ls⟩ f st) := hM
  clear hop hop0 hM hS hbeL
  subst hld
  subst hia
  have q1 : decide ((i : Int) < (n : Int)) = true := decide_eq_true (by omega)
  have hd3 : decide (600 < (bn : Int)) = false := decide_eq_false (by omega)
  have hd4 : decide (60 < (kn : Int)) = false := decide_eq_false (by omega)
  unfold fr
  conv => arg 2; whnf
  have hil : i < lnow.length := by have := HS.out.len; simp only at this; omega
  have hil2 : i < st.now.length := by have := HS.out.nows.1; simp only at this; omega
  obtain ⟨sv, tv, hgi⟩ : ∃ sv tv, lnow[i]? = some (sv, tv) := ⟨lnow[i].1, lnow[i].2, List.getElem?_eq_getElem hil⟩
  obtain ⟨cv, tv', hgs⟩ : ∃ cv tv', st.now[i]? = some (cv, tv') := ⟨st.now[i].1, st.now[i].2, List.getElem?_eq_getElem hil2⟩
  obtain ⟨hr1, hr2, hr3⟩ : SecRel (sv, tv) (cv, tv') := HS.out.nows.2 i _ _ hgi hgs
  obtain ⟨g1, g2⟩ := HM1.out.nw.get hgi
  have g2' : (wx.alloc (.cells #[.int .i64 1, .int .i64 (i : Int), .slice bo bn bc, .slice ko kn kc, .int .i64 tr] 30)).cell? ⟨b6, i * 2 + 1, none⟩ = some (.bool tv) := g2
  have ht : tv = false := by have := htn; rw [hgi] at this; simpa using this
  have hi' : (i : Int) < (n : Int) := by omega
  simp only at hr1 hr2 hr3
  subst ht
  subst hr1
  have hpad : pad sv.data.toList = cv := hr3 rfl
  have HGS : Hid (st.now[i]? = some (cv, false)) := hgs
  have HGI : Hid (lnow[i]? = some (sv, false)) := hgi
  have HPD : Hid (pad sv.data.toList = cv) := hpad
  have hszl : sv.data.toList.length = sv.size := by rw [Array.length_toList]; rfl
  have HSZ : Hid (sv.data.toList.length = sv.size) := hszl
  clear hgi hgs g2 hr3 g1 htn hpad hszl
  go_wp2_with fail
  refine (read_is HM1.out.dk i cv HGS.out HS.out.down.symm).mono ?_
  rintro e w6 ⟨rfl, hB6, hb6⟩
  have hW1s : (wx.alloc (.cells #[.int .i64 1, .int .i64 (i : Int), .slice bo bn bc, .slice ko kn kc, .int .i64 tr] 30)).heap.size = wx.heap.size + 1 := by simp
  rw [hW1s] at hB6
  have HB6 : Hid (Blk w6 (wx.heap.size + 1) (bv cv).toArray 5) := hB6
  have HM6 : Hid (Mem w0 w6 g n b6 c6 b7 c7 a8 n8 c8 ⟨lnow, lsafe, lw, lf, false, ls⟩ f st) := HM1.out.below hb6
  have HLo6 : Hid (Blk w6 wx.heap.size #[.int .i64 1, .int .i64 (i : Int), .slice bo bn bc, .slice ko kn kc, .int .i64 tr] 30) := HL1.out.of (hb6.block _ HL1.out.lt)
  have HMm : Hid (Mine1 w0.heap.size f (wx.heap.size + 1)) := HM1.out.new (by rw [hW1s]; exact Nat.le_refl _)
  have l1 : w6.cell? ⟨wx.heap.size, 1, none⟩ = some (.int .i64 (i : Int)) := HLo6.out.cell 1
  have n1 : w6.cell? ⟨b6, i * 2, none⟩ = some (.string sv) := (HM6.out.nw.get HGI.out).1
  have hcl : cv.length = 512 := HM6.out.dk.at_.inv.nows _ (List.mem_of_getElem? HGS.out)
  have HCL : Hid (cv.length = 512) := hcl
  have j1 := (Blk.src (w := w6) (k := sv.size) (c := 512) hB6 (by omega) hr2 (by unfold maxLen; omega)).str
  have htk : cv.take sv.size = sv.data.toList := by rw [← HPD.out]; unfold pad; rw [← HSZ.out]; exact List.take_left
  rw [htk] at j1
  have j1' : (convert 27 9 (.slice (some ⟨wx.heap.size + 1, 0, none⟩) sv.size 512)).run Try.prog w6 = .ok (.string sv) w6 := j1
  have hs3 : (sv.size : Int) ≤ 512 := by omega
  clear hB6 hb6 htk j1 hcl hW1s g2'
  go_wp2_with fail
  go_loop [4, 21] (fun v4 vi => ∃ j : Nat, v4 = .bool false ∧ vi = .int .i64 (j : Int) ∧ sv.size ≤ j ∧ j ≤ 512) (fun _ vi => 512 - (intOf vi).toNat)
  case atStart => exact ⟨sv.size, rfl, rfl, Nat.le_refl _, hr2⟩
  case round =>
    obtain ⟨j, rfl, rfl, hj1, hj2⟩ := hrel
    by_cases hlt : j < 512
    · have hz0 : cv[j]? = some 0 := by rw [← HPD.out]; exact pad_out (by rw [HSZ.out]; exact hj1) hlt
      have cj : w6.cell? ⟨wx.heap.size + 1, j, none⟩ = some (.int .u8 0) := (HB6.out.cell j).trans (bv_at hz0)
      clear hz0
      go_wp2_with fail
      go_round
      case rel => exact ⟨j + 1, rfl, by go_num, by omega, by omega⟩
      case measure => simp [intOf]; omega
    · have HC6 : Hid (∀ i, i < 512 → ∃ z : Int, (bv cv).toArray[i]? = some (.int .u8 z)) := fun i hi => ⟨_, bv_at (List.getElem?_eq_getElem (by rw [HCL.out]; exact hi))⟩
      clear l1 n1 j1'
      go_wp2_with fail
      go_loopw [235] (fun vi w2 => ∃ (j : Nat) (cur : Array Value), vi = .int .i64 (j : Int) ∧ j ≤ 512 ∧ Blk w2 (wx.heap.size + 1) cur 5 ∧ (∀ i, i < 512 → ∃ z : Int, cur[i]? = some (.int .u8 z)) ∧ Chg (fun i => i = wx.heap.size + 1) w6 w2) (fun vi _ => 512 - (intOf vi).toNat)
      case atStart => exact ⟨0, _, rfl, Nat.zero_le _, HB6.out, HC6.out, Chg.refl _ _⟩
      case round =>
        obtain ⟨j, cur, rfl, hj, hB, hC, hch⟩ := hrel
        have HBj : Hid (Blk wr (wx.heap.size + 1) cur 5) := hB
        have HCj : Hid (∀ i, i < 512 → ∃ z : Int, cur[i]? = some (.int .u8 z)) := hC
        have HHj : Hid (Chg (fun i => i = wx.heap.size + 1) w6 wr) := hch
        clear hB hC hch
        by_cases hlt2 : j < 512
        · obtain ⟨z, hz⟩ := HCj.out j hlt2
          have cj : wr.cell? ⟨wx.heap.size + 1, j, none⟩ = some (.int .u8 z) := (HBj.out.cell j).trans hz
          have fj : wr.frozen? ⟨wx.heap.size + 1, j, none⟩ = false := HBj.out.frozen j
          have HJ : Hid (j < cur.size) := (Array.getElem?_eq_some_iff.1 hz).1
          clear hz
          go_wp2_with fail
          go_roundw
          case rel => exact ⟨j + 1, _, by go_num, by omega, HBj.out.set j _, flip_ints HCj.out HJ.out, chgG HHj.out j _⟩
          case measure => simp [intOf]; omega
        · have HMx : Hid (Mem w0 wr g n b6 c6 b7 c7 a8 n8 c8 ⟨lnow, lsafe, lw, lf, false, ls⟩ f st) := HM6.out.flip HB6.out HMm.out HHj.out
          go_wp2_with fail
          refine (down_is HMx.out.dk false HS.out.down.symm).mono ?_
          rintro e w' ⟨rfl, hw⟩; rw [hw]; clear hw w'
          go_wp2_with fail
          refine (steps_is HMx.out.dk ls HS.out.steps.symm).mono ?_
          rintro e w' ⟨rfl, hw⟩; rw [hw]; clear hw w'
          go_wp2_with fail
          refine (waits_is HMx.out.dk n8 (by rw [← HS.out.ws.1]; exact HMx.out.wt.len)).mono ?_
          rintro e w' ⟨rfl, hw⟩; rw [hw]; clear hw w'
          go_wp2_with fail
          refine (len_is HMx.out.dk n (by rw [← HS.out.nows.1]; exact HS.out.len)).mono ?_
          rintro e w' ⟨rfl, hw⟩; rw [hw]; clear hw w'
          go_wp2_with fail
          refine ⟨⟨k + 1, b6, c6, b7, c7, a8, n8, c8, ⟨lnow, lsafe, lw, lf, false, ls⟩, f, st, ⟨rfl, rfl, rfl, rfl, rfl, rfl, rfl, rfl, rfl, by rfl, rfl, by rfl, by rfl⟩, by omega, by omega, HMx.out, HS.out, by show lw.length ≤ k + 1; omega, by show ls ≤ k + 1; omega⟩, ?_⟩
          simp [Rmu, intOf]; omega
end Go.Proofs.Ytpojpmkflgmgkaa
