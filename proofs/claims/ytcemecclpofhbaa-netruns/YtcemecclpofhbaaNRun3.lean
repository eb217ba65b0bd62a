/- NetRuns: a round that does nothing. Own lemmas, no statement. -/
import Derived.Test.YtcemecclpofhbaaNRun2
set_option linter.unusedSimpArgs false
set_option linter.unusedVariables false
namespace Go.Proofs.Ytcemecclpofhbaa
open Go.ChangeShapes Go.WideShapes Go.ChangeAt Go.RowKit

set_option maxRecDepth 100000 in
set_option maxHeartbeats 8000000 in
theorem run_else (w : World) (p : Nat) (ad : Addr) (len cap k n : Nat) (hlt1 : k < len) (hlt2 : k < 60) (T : Nat → Value) (v : Value) (ua : Option Addr) (uc : Nat) (ls us : List LetV) (wr : World) (Q : Exit → Act → World → Prop) (o : OpN) (hl63 : len ≤ 9223372036854775807) (hnk : n ≤ k) (hwp : w.heap.size ≤ p) (hop : OpNAt w ad k o) (hra : RunA w p n v ua uc ls us wr) (h0 : o.k ≠ 0) (h1 : o.k ≠ 1) (h2 : o.k ≠ 2) (h3 : o.k ≠ 3) (h4 : o.k ≠ 4) : Goal w p ad len cap k n ua uc T Q wr := by
  have huc := hra.uc
  have hn60 : n ≤ 60 := by omega
  have HWP : Hid (w.heap.size ≤ p) := hwp
  have HOP0 : Hid (OpNAt w ad k o) := hop
  have HOP : Hid (OpNAt wr ad k o) := hop.below hra.below
  have HRA : Hid (RunA w p n v ua uc ls us wr) := hra
  have hd1 : decide ((k : Int) < (len : Int)) = true := decide_eq_true (by omega)
  have hd2 : decide ((k : Int) < 60) = true := decide_eq_true (by omega)
  have e0 : wr.cell? (ad.add (k * 5)) = some (.int .i64 o.k) := HOP.out.c0
  have e1 : wr.cell? ⟨(ad.add (k * 5)).block, (ad.add (k * 5)).off + 1, none⟩ = some (.int .i64 o.at_) := cell_on16 (by omega) HOP.out.c1
  have e2 : wr.cell? ⟨(ad.add (k * 5)).block, (ad.add (k * 5)).off + 2, none⟩ = some (.int .i64 o.i) := cell_on16 (by omega) HOP.out.c2
  have e3 : wr.cell? ⟨(ad.add (k * 5)).block, (ad.add (k * 5)).off + 3, none⟩ = some (.slice o.bo o.bn o.bc) := cell_on16 (by omega) HOP.out.c3
  have e4 : wr.cell? ⟨(ad.add (k * 5)).block, (ad.add (k * 5)).off + 4, none⟩ = some (.int .u8 (o.bt.toNat : Int)) := cell_on16 (by omega) HOP.out.c4
  obtain ⟨w3, hw3⟩ : ∃ w3, w3 = wr.alloc (.cells #[.int .i64 o.k, .int .i64 o.at_, .int .i64 o.i, .slice o.bo o.bn o.bc, .int .u8 (o.bt.toNat : Int)] 30) := ⟨_, rfl⟩
  have HB3 : Hid (Blk w3 wr.heap.size #[.int .i64 o.k, .int .i64 o.at_, .int .i64 o.i, .slice o.bo o.bn o.bc, .int .u8 (o.bt.toNat : Int)] 30) := by rw [hw3]; exact Blk.new _ _ _
  have HE3 : Hid (Below wr.heap.size wr w3) := by rw [hw3]; exact below_allocR _
  have ho63 : o.bn ≤ 9223372036854775807 := by have := HOP.out.src.at; unfold maxLen at this; omega
  clear hop hra hwp
  unfold Goal fr
  conv => arg 2; whnf
  go_upto_region 9 with fail
  rw [← hw3]
  clear hw3 e0 e1 e2 e3 e4 hd1 hd2
  have HR3 : Hid (RunA w p n v ua uc ls us w3) := HRA.out.go HE3.out
  have HS3 : Hid (Src w3 (.slice o.bo o.bn o.bc) o.bl ∧ o.bn = o.bl.length) := ⟨HOP.out.src.below HE3.out, HOP.out.src.at.1⟩
  have HWF : Hid ((Lit.int .i64 o.at_).wf = true ∧ (Lit.int .i64 o.i).wf = true) := ⟨HOP.out.w1, HOP.out.w2⟩
  have HQP : Hid (p < wr.heap.size ∧ (∀ i, FP p v ls i → i < wr.heap.size) ∧ ∀ i, FL (.slice ua n uc) us i → i < wr.heap.size) := ⟨HRA.out.x.net.blk.lt, fun i hi => (HRA.out.x.net.fp_lt hi).2, fun i hi => (HRA.out.x.own.lt hi).2⟩
  clear HRA HOP HE3
  generalize wr.heap.size = q at *
  have c0 : w3.cell? ⟨q, 0, none⟩ = some (.int .i64 o.k) := HB3.out.cell 0
  have c1 : w3.cell? ⟨q, 1, none⟩ = some (.int .i64 o.at_) := HB3.out.cell 1
  have c2 : w3.cell? ⟨q, 2, none⟩ = some (.int .i64 o.i) := HB3.out.cell 2
  have c3 : w3.cell? ⟨q, 3, none⟩ = some (.slice o.bo o.bn o.bc) := HB3.out.cell 3
  have c4 : w3.cell? ⟨q, 4, none⟩ = some (.int .u8 (o.bt.toNat : Int)) := HB3.out.cell 4
  by_cases g3 : 300 < o.bn
  · go_wp2_with fail
    refine ⟨⟨k + 1, n, v, ua, uc, ls, us, ⟨rfl, rfl, rfl, rfl, rfl, rfl, by go_num⟩, by omega, by omega, by omega, HWP.out, HR3.out⟩, ?_⟩
    simp [Rmu, intOf]; omega
  rcases in3 o.at_ n with h | ⟨ha, h⟩ | ⟨ha, h⟩
  · have HX : Hid (Calls _ _ _ _ _) := len_any p p v ls w3 HR3.out.x.net
    rw [HR3.out.ln] at HX
    go_wp2_with fail
    refine HX.out.mono ?_
    rintro e wz ⟨rfl, hw⟩
    rw [hw]
    clear hw wz HX
    go_wp2_with fail
    refine ⟨⟨k + 1, n, v, ua, uc, ls, us, ⟨rfl, rfl, rfl, rfl, rfl, rfl, by go_num⟩, by omega, by omega, by omega, HWP.out, HR3.out⟩, ?_⟩
    simp [Rmu, intOf]; omega
  · have HX : Hid (Calls _ _ _ _ _) := len_any p p v ls w3 HR3.out.x.net
    rw [HR3.out.ln] at HX
    go_wp2_with fail
    refine HX.out.mono ?_
    rintro e wz ⟨rfl, hw⟩
    rw [hw]
    clear hw wz HX
    go_wp2_with fail
    refine ⟨⟨k + 1, n, v, ua, uc, ls, us, ⟨rfl, rfl, rfl, rfl, rfl, rfl, by go_num⟩, by omega, by omega, by omega, HWP.out, HR3.out⟩, ?_⟩
    simp [Rmu, intOf]; omega
  · have HX : Hid (Calls _ _ _ _ _) := len_any p p v ls w3 HR3.out.x.net
    rw [HR3.out.ln] at HX
    go_wp2_with fail
    refine HX.out.mono ?_
    rintro e wz ⟨rfl, hw⟩
    rw [hw]
    clear hw wz HX
    go_wp2_with fail
    refine ⟨⟨k + 1, n, v, ua, uc, ls, us, ⟨rfl, rfl, rfl, rfl, rfl, rfl, by go_num⟩, by omega, by omega, by omega, HWP.out, HR3.out⟩, ?_⟩
    simp [Rmu, intOf]; omega
end Go.Proofs.Ytcemecclpofhbaa
