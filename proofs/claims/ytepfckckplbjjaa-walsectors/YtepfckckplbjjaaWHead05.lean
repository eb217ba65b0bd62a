/- The law's head: the document's example of a log. Own lemmas, no statement. -/
import Derived.Test.YtepfckckplbjjaaWalS
namespace Go.Proofs.Ytepfckckplbjjaa
open Go.ChangeShapes Go.WideShapes Go.ChangeAt Go.RowKit

theorem func_nil (f : FuncId) (a b : Value) (w : World) : (binOp .eql 60 (.func (.func f) #[] #[a, b]) .nilFunc).run Try.prog w = .ok (.bool false) w := by kernel_rfl

set_option maxRecDepth 100000 in
set_option maxHeartbeats 4000000 in
theorem head5_any (w : World) : Calls Try.prog 12 #[] w fun e w' => e = .returned (.bool true) ∧ Below w.heap.size w w' := by
  have H1 : Hid (Calls _ _ _ _ _) := new_new 20 20 (nSec_of (n := 20) (by omega)) w w.heap.size w (Below.refl _ _) (Nat.le_refl _)
  have kc := fun (w : World) (C : Array Value) (n c : Nat) => Lib.run_convert_bytes_const (P := Try.prog) w 41 5 C n c Try.underlying41 Try.underlying5
  go_enter Try.func12, Try.ntmps12
  go_wp2_with fail
  refine Calls.mono H1.out ?_
  rintro e w1 ⟨gd, f1, rfl, hD, hfl, hb⟩
  have HBw : Hid (w.heap.size ≤ w1.heap.size) := hb.size
  have H2 : Hid (Calls Try.prog 16 #[dptr gd, .int .i64 2, .int .i64 10] w1 _) := ws_fresh (from_ := 2) (room := 8) hD (by omega) (by omega) (by omega)
  clear hD hfl hb H1
  unfold dptr at *
  go_wp2_with fail
  refine Calls.mono H2.out ?_
  rintro e w2 ⟨g, f2, st1, lf1, rfl, hgl, hW2, hg2, hF2⟩
  have HW2 : Hid (WS w w.heap.size w2 g f2 (s10 2 8) st1) := hW2
  have HF2 : Hid (Fresh1 2 8 20 st1 lf1) := hF2
  have HG2 : Hid (f2.g = gd) := hg2
  have HL1 : Hid (Calls Try.prog 28 #[lptr g] w2 fun e w' => e = .returned (.int .u64 1) ∧ w' = w2) := life_any hW2.wl.l
  clear hW2 hF2 hgl H2 hg2
  unfold lptr at *
  go_wp2_with fail
  refine Calls.mono HL1.out ?_
  rintro e w' ⟨rfl, hw⟩; rw [hw]; clear hw w'
  go_wp2_with fail
  have hbe : Below w2.heap.size w2 (w2.alloc (.cells #[.int .u8 97] 5 (1, 2))) := (Below.refl _ _).alloc (Nat.le_refl _) _
  have hst1 := HF2.out.steps
  have hwt1 : st1.waits.length = 0 := by rw [HF2.out.waits]; rfl
  have HA1 : Hid (Calls _ _ _ _ _) := ws_append (n1 := w2.heap.size) (HW2.out.below hbe) HF2.out.l (Src.one w2 97) ⟨HW2.out.wl.lt.2, HW2.out.wl.lt.1⟩ (fun ad e _ => by cases e; exact .inr (Nat.le_refl _)) (by simp) (by decide) (by decide) (by decide) (by omega) (by omega)
  have hL2 : LW ⟨2, 8, 1, 1, 0, 1, 1, 0⟩ (apTo (s10 2 8) [97] (needN [(97 : UInt8)].length) st1 (needN [(97 : UInt8)].length)).2 [(0, [97])] 1 := (HF2.out.l.append [97] (by decide) (by decide) (by decide)).2
  obtain ⟨q1, q2, q3⟩ := apTo_len (s10 2 8) [97] (needN [(97 : UInt8)].length) st1 (needN [(97 : UInt8)].length)
  rw [hst1] at q2
  rw [hwt1] at q3
  generalize (apTo (s10 2 8) [97] (needN [(97 : UInt8)].length) st1 (needN [(97 : UInt8)].length)).2 = st2 at *
  have hn1 : needN [(97 : UInt8)].length = 1 := rfl
  rw [hn1] at q2 q3
  have HL2 : Hid (LW ⟨2, 8, 1, 1, 0, 1, 1, 0⟩ st2 [(0, [97])] 1) := hL2
  clear hbe hL2 q1 hn1 hst1 hwt1 HL1 HW2
  unfold lptr at HA1
  refine Calls.mono HA1.out ?_
  rintro e w3 ⟨f3, rfl, hW3, hg3⟩
  have HW3 : Hid (WS w w.heap.size w3 g f3 ⟨2, 8, 1, 1, 0, 1, 1, 0⟩ st2) := hW3
  have HG3 : Hid (f3.g = gd) := hg3.trans HG2.out
  have HFO : Hid (Calls _ _ _ _ _) := ws_force HW3.out HL2.out (by omega)
  clear hW3 hg3 HA1
  unfold lptr at HFO
  go_wp2_with fail
  refine Calls.mono HFO.out ?_
  rintro e w4 ⟨f4, rfl, hW4, hg4⟩
  obtain ⟨-, h2, h3, h4, h5, h6⟩ := HL2.out.force
  obtain ⟨h7, h8⟩ := h4 (by decide)
  rw [h2] at h3
  generalize (forceS ⟨2, 8, 1, 1, 0, 1, 1, 0⟩ st2).2.2 = st3 at *
  have HW4 : Hid (WS w w.heap.size w4 g f4 ⟨2, 8, 1, 1, 0, 1, 1, 1⟩ st3) := hW4
  have HL3 : Hid (LW ⟨2, 8, 1, 1, 0, 1, 1, 1⟩ st3 [(0, [97])] 1) := h3
  have HG4 : Hid (f4.g = gd) := hg4.trans HG3.out
  have hsf : Hid (st3.safe = st3.now) := h7.trans h5.symm
  have hst3 : st3.steps < 100 := by omega
  have hwt3 : st3.waits.length < 100 := by rw [h8]; decide
  clear hW4 h2 h3 h4 h5 h6 h7 h8 HFO HW3 HL2 q2 q3 hg4
  go_wp2_with fail
  have hbe : Below w4.heap.size w4 (w4.alloc (.cells #[.int .u8 98] 5 (1, 2))) := (Below.refl _ _).alloc (Nat.le_refl _) _
  have HA2 : Hid (Calls _ _ _ _ _) := ws_append (n1 := w4.heap.size) (HW4.out.below hbe) HL3.out (Src.one w4 98) ⟨HW4.out.wl.lt.2, HW4.out.wl.lt.1⟩ (fun ad e _ => by cases e; exact .inr (Nat.le_refl _)) (by simp) (by decide) (by decide) (by decide) (by omega) (by omega)
  obtain ⟨-, r2, r3, -, -, -, -, r8⟩ := apTo_calm (s := ⟨2, 8, 1, 1, 0, 1, 1, 1⟩) (l := [98]) HL3.out.calm (by decide) (need := needN [(98 : UInt8)].length) (by decide) HL3.out.fit (needN [(98 : UInt8)].length) (Nat.le_refl _)
  generalize (apTo ⟨2, 8, 1, 1, 0, 1, 1, 1⟩ [98] (needN [(98 : UInt8)].length) st3 (needN [(98 : UInt8)].length)).2 = st4 at *
  have hst4 : st4.steps < 200 := by rw [r8, show needN [(98 : UInt8)].length = 1 from rfl]; omega
  have hsf4 : st4.safe = st3.now := r3.trans hsf.out
  clear hbe r2 r3 r8 hst3 hwt3 HW4
  unfold lptr at HA2
  refine Calls.mono HA2.out ?_
  rintro e w5 ⟨f5, rfl, hW5, hg5⟩
  have hg5' : f5.g = gd := hg5.trans HG4.out
  have HON : Hid (Calls _ _ _ _ _) := ws_on hW5
  rw [hg5'] at HON
  clear hW5 hg5 hg5' HA2
  unfold dptr at HON
  go_wp2_with fail
  refine Calls.mono HON.out ?_
  rintro e w6 ⟨rfl, hN6⟩
  have hF6 : Finds 2 8 ⟨st4.safe, st4.safe, [], 0, false, st4.steps⟩ ⟨1, 1, 0, 1⟩ [(0, [97])] 1 1 := HL3.out.finds ⟨rfl, rfl⟩ hsf4 (by decide) (by decide)
  obtain ⟨lf6, hL6⟩ := hF6.well
  have HOP : Hid (Calls Try.prog 16 #[dptr gd, .int .i64 2, .int .i64 10] w6 _) := ws_open (from_ := 2) (room := 8) hN6 hF6 (by show st4.steps < _; omega) (by show (0 : Nat) < _; omega)
  generalize opD 2 ⟨1, 1, 0, 1⟩ 1 ⟨st4.safe, st4.safe, [], 0, false, st4.steps⟩ = st6 at *
  have HL6 : Hid (LW ⟨2, 8, 2, 2, 0, 1, 1, 1⟩ st6 [(0, [97])] lf6) := hL6
  clear hN6 hF6 hL6 HON hst4 hsf4 hsf HL3
  unfold dptr at HOP
  go_wp2_with fail
  refine Calls.mono HOP.out ?_
  rintro e w7 ⟨m, f7, rfl, hm7, hW7, hg7⟩
  have HW7 : Hid (WS w w.heap.size w7 m f7 ⟨2, 8, 2, 2, 0, 1, 1, 1⟩ st6) := hW7
  have HAL : Hid (Calls Try.prog 36 #[lptr m, .int .u64 0] w7 _) := all_any m 0 w7
  clear hW7 hm7 hg7 HOP
  unfold lptr at *
  go_wp2_with fail
  refine Calls.mono HAL.out ?_
  rintro e w8 ⟨rfl, hw8⟩
  have hb8 : Below w7.heap.size w7 w8 := by rw [hw8]; exact ((Below.refl _ _).alloc (Nat.le_refl _) _).alloc (by simp) _
  have HW8 : Hid (WS w w.heap.size w8 m f7 ⟨2, 8, 2, 2, 0, 1, 1, 1⟩ st6) := HW7.out.below hb8
  have HFD : Hid (Calls _ _ _ _ _) := ws_found HW8.out HL6.out (by decide) (by decide)
  have hfn := func_nil 53 (.pointer (some ⟨w7.heap.size, 0, none⟩)) (.pointer (some ⟨w7.heap.size + 1, 0, none⟩)) w8
  clear hw8 hb8 HW7 HAL
  unfold lptr at HFD
  go_wp2_with fail
  refine Calls.mono HFD.out ?_
  rintro e w9 ⟨vo, va, rfl, ho, ha, hb9⟩
  obtain ⟨go, co, rfl⟩ := ownsRow_succ ho
  obtain ⟨ga, ca, rfl⟩ := ownsRow_succ ha
  have HW9 : Hid (WS w w.heap.size w9 m f7 ⟨2, 8, 2, 2, 0, 1, 1, 1⟩ st6) := HW8.out.below hb9
  have z1 : w9.cell? ⟨go, 0, none⟩ = some (.string ⟨#[97]⟩) := by
    have := World.ownsRow.cells ho rfl 0 (.string ⟨#[97]⟩) rfl
    simpa [Addr.add] using this
  have z2 : w9.cell? ⟨ga, 0, none⟩ = some (.int .u64 0) := by
    have := World.ownsRow.cells ha rfl 0 (.int .u64 0) rfl
    simpa [Addr.add] using this
  have HLF : Hid (Calls Try.prog 28 #[lptr m] w9 fun e w' => e = .returned (.int .u64 2) ∧ w' = w9) := life_any HW9.out.wl.l
  clear ho ha hb9 HW8 HFD HL6
  unfold lptr at HLF
  go_wp2_with fail
  refine Calls.mono HLF.out ?_
  rintro e w' ⟨rfl, hw⟩; rw [hw]; clear hw w'
  go_wp2_with fail
  go_ret
  exact ⟨rfl, HW9.out.bel⟩
end Go.Proofs.Ytepfckckplbjjaa
