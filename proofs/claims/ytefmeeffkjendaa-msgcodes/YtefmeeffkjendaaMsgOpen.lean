/- What the walks are told of a message that came in. Own lemmas, no statement. -/
import Derived.Test.YtefmeeffkjendaaMsgQ
import Derived.Test.YtefmeeffkjendaaBase
import Derived.WalkKit
import Derived.WalkLawsBesides
import Derived.ProofKit
import Derived.OpenShut
set_option linter.unusedSimpArgs false
set_option linter.unusedVariables false
namespace Go.Proofs.Ytefmeeffkjendaa
open Go.ChangeShapes Go.WideShapes Go.ChangeAt Go.RowKit

section
variable {H : Type} {enc : TypeId × Value → H} {W : World}
set_option maxRecDepth 100000 in
set_option maxHeartbeats 1000000 in
theorem tid_of_trodM {fuel : Nat} {cs : List Value} {x : DataW H × List MemPlace} (hl : cs.length = 2) (h : DataW.trod enc Try.prog W 0 (fun _ => true) true fuel 24 cs = some x) :
    ∃ a b : Int, cs = [.int .u64 a, .int .i64 b] ∧ (0 ≤ a ∧ a < 18446744073709551616) ∧ (-9223372036854775808 ≤ b ∧ b < 9223372036854775808) := by
  have hs := Try.underlying24
  have cU : Try.prog.cellsOf 22 = 1 := by kernel_rfl
  have cI : Try.prog.cellsOf 3 = 1 := by kernel_rfl
  obtain ⟨xs, n', _, _, _, hxl, hfs⟩ := DataW.trod_struct hs h
  match cs, hl, xs, hxl with
  | [v0, v1], _, [y0, y1], _ =>
    have t0 := hfs 0 _ rfl
    have t1 := hfs 1 _ rfl
    simp [cU, cI] at t0 t1
    obtain ⟨s0, e0, _, w0⟩ := DataW.trod_int Try.underlying22 t0
    obtain ⟨s1, e1, _, w1⟩ := DataW.trod_int Try.underlying3 t1
    simp at e0 e1
    subst e0 e1
    have b0 := bounds_u64 w0
    have b1 := bounds_i64 w1
    exact ⟨s0, s1, rfl, by omega, by omega⟩
set_option maxRecDepth 100000 in
set_option maxHeartbeats 1000000 in
theorem msg_of {r : Reach} {b0 : Nat} {v : Value} {d : DataW H} {p : List MemPlace}
    (hv : Value.okWide Try.prog W r b0 27 v) (h : DataW.Trod enc Try.prog W 0 (fun _ => true) true 27 v d p) : ∃ x : MsgQ, v = .agg #[.int .i64 x.kind, .int .i64 x.frm, .int .i64 x.dst, .int .u64 x.num, .int .i64 x.node, .int .u64 x.life, .int .i64 x.n, .int .i64 x.op, .string x.key, .string x.val, .bool x.has, .int .i64 x.code] ∧ x.Wf := by
  have hs := Try.underlying27
  obtain ⟨cs, rfl, hsz⟩ := okWide_struct hs hv
  have hC : Try.prog.cellsOf 27 = 12 := by kernel_rfl
  obtain ⟨fuel, hf⟩ := h
  obtain ⟨xs, n, _, hx, _, hxl, hfs⟩ := DataW.trod_struct hs hf
  have hsz8 : cs.size = 12 := hsz.trans hC
  obtain ⟨l⟩ := cs
  match l, hsz8, xs, hxl, hfs with
  | [v0, v1, v2, v3, v4, v5, v6, v7, v8, v9, v10, v11], _, [y0, y1, y2, y3, y4, y5, y6, y7, y8, y9, y10], _, hfs =>
    have cI : Try.prog.cellsOf 3 = 1 := by kernel_rfl
    have cU : Try.prog.cellsOf 22 = 1 := by kernel_rfl
    have cB : Try.prog.cellsOf 4 = 1 := by kernel_rfl
    have cT : Try.prog.cellsOf 9 = 1 := by kernel_rfl
    have cD : Try.prog.cellsOf 24 = 2 := by kernel_rfl
    have cE : Try.prog.cellsOf 25 = 1 := by kernel_rfl
    have t0 := hfs 0 _ rfl
    have t1 := hfs 1 _ rfl
    have t2 := hfs 2 _ rfl
    have t3 := hfs 3 _ rfl
    have t4 := hfs 4 _ rfl
    have t5 := hfs 5 _ rfl
    have t6 := hfs 6 _ rfl
    have t7 := hfs 7 _ rfl
    have t8 := hfs 8 _ rfl
    have t9 := hfs 9 _ rfl
    have t10 := hfs 10 _ rfl
    simp [Value.cells, cI, cU, cB, cT, cD, cE] at t0 t1 t2 t3 t4 t5 t6 t7 t8 t9 t10
    obtain ⟨s0, e0, _, w0⟩ := DataW.trod_int Try.underlying3 t0
    obtain ⟨s1, e1, _, w1⟩ := DataW.trod_int Try.underlying3 t1
    obtain ⟨s2, e2, _, w2⟩ := DataW.trod_int Try.underlying3 t2
    obtain ⟨s3, s4, e3, w3, w4⟩ := tid_of_trodM rfl t3
    obtain ⟨s5, e5, _, w5⟩ := DataW.trod_int Try.underlying22 t4
    obtain ⟨s6, e6, _, w6⟩ := DataW.trod_int Try.underlying3 t5
    obtain ⟨s7, e7, _, w7⟩ := DataW.trod_int Try.underlying3 t6
    obtain ⟨s8, e8, _, w8⟩ := DataW.trod_string Try.underlying9 t7
    obtain ⟨s9, e9, _, w9⟩ := DataW.trod_string Try.underlying9 t8
    obtain ⟨s10, e10, _⟩ := DataW.trod_bool Try.underlying4 t9
    obtain ⟨s11, e11, _, w11⟩ := DataW.trod_int Try.underlying25 t10
    simp at e0 e1 e2 e3 e5 e6 e7 e8 e9 e10 e11
    obtain ⟨rfl, rfl⟩ := e3
    subst e0 e1 e2 e5 e6 e7 e8 e9 e10 e11
    have b0 := bounds_i64 w0
    have b1 := bounds_i64 w1
    have b2 := bounds_i64 w2
    have b5 := bounds_u64 w5
    have b6 := bounds_i64 w6
    have b7 := bounds_i64 w7
    have b11 := bounds_i64 w11
    unfold maxLen at w8 w9
    exact ⟨⟨s0, s1, s2, s3, s4, s5, s6, s7, s8, s9, s10, s11⟩, rfl, by simp only; omega, by simp only; omega, by simp only; omega, w3, w4, by simp only; omega, by simp only; omega, by simp only; omega, by simp only; omega, by simp only; omega, by simp only; omega⟩
end
end Go.Proofs.Ytefmeeffkjendaa
