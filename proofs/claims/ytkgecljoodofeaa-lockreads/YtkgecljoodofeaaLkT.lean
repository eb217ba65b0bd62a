/- lock: the law's head. Own lemmas, no statement. -/
import Derived.Test.YtkgecljoodofeaaLkS
set_option linter.unusedSimpArgs false
set_option linter.unusedVariables false
namespace Go.Proofs.Ytkgecljoodofeaa
open Go.ChangeShapes Go.WideShapes Go.ChangeAt Go.RowKit

theorem say_has (S : Say) (t : Td) (m : Int) (k : ByteArray) : (S.ask t m k).has k = (askL t m (S.has k) (S.waits k)).has := by unfold Say.ask; simp
theorem say_waits (S : Say) (t : Td) (m : Int) (k : ByteArray) : (S.ask t m k).waits k = (askL t m (S.has k) (S.waits k)).waits := by unfold Say.ask; simp
def kA : ByteArray := ⟨#[97]⟩
theorem hd1 : ansM ⟨2, 0⟩ 2 say0 kA = 1 := rfl
theorem hd2 : ansM ⟨1, 0⟩ 2 (say0.askM ⟨2, 0⟩ 2 kA) kA = 2 := by
  have h : (say0.askM ⟨2, 0⟩ 2 kA).has kA = [⟨2, 0, 2⟩] ∧ (say0.askM ⟨2, 0⟩ 2 kA).waits kA = [] := by
    unfold Say.askM
    rw [if_pos (.inr rfl)]
    rw [say_has, say_waits]
    exact ⟨rfl, rfl⟩
  unfold ansM
  rw [h.1, h.2]
  rfl
theorem hd3 : ansM ⟨1, 0⟩ 2 say0 kA = 1 := rfl
theorem hd4 : ansM ⟨2, 0⟩ 1 (say0.askM ⟨1, 0⟩ 2 kA) kA = 3 := by
  have h : (say0.askM ⟨1, 0⟩ 2 kA).has kA = [⟨1, 0, 2⟩] ∧ (say0.askM ⟨1, 0⟩ 2 kA).waits kA = [] := by
    unfold Say.askM
    rw [if_pos (.inr rfl)]
    rw [say_has, say_waits]
    exact ⟨rfl, rfl⟩
  unfold ansM
  rw [h.1, h.2]
  rfl
theorem twf (n : Int) (h : (Lit.int .u64 n).wf = true) : (⟨n, 0⟩ : Td).wf := ⟨h, by show (Lit.int .i64 0).wf = true; decide⟩
set_option maxRecDepth 100000 in
set_option maxHeartbeats 4000000 in
theorem head12_any (w : World) : Calls Try.prog 10 #[] w fun e w' => e = .returned (.bool true) ∧ Ext w w' := by
  obtain ⟨w1, hw1⟩ : ∃ w1, w1 = w.alloc (.cells #[.int .u64 1, .int .i64 0] 29) := ⟨_, rfl⟩
  obtain ⟨w2, hw2⟩ : ∃ w2, w2 = w1.alloc (.cells #[.int .u64 2, .int .i64 0] 29) := ⟨_, rfl⟩
  have hz : w1.heap.size = w.heap.size + 1 := by rw [hw1]; simp
  have HE2 : Hid (Ext w w2) := by rw [hw2, hw1]; exact ext_two _ _
  have HB1 : Hid (Blk w2 w.heap.size #[.int .u64 1, .int .i64 0] 29) := by rw [hw2, hw1]; exact (Blk.new _ _ _).alloc _
  have HB2 : Hid (Blk w2 (w.heap.size + 1) #[.int .u64 2, .int .i64 0] 29) := by rw [hw2, ← hz]; exact Blk.new _ _ _
  rw [hw1] at hw2
  clear hw1 hz
  go_enter Try.func10, Try.ntmps10
  go_upto_region 3 with fail
  rw [← hw2]
  clear hw2
  go_wp2_with fail
  refine (newT_any w2).mono ?_
  rintro e w3 ⟨g, T, rfl, hT, hx3⟩
  have HT : Hid (TT w2.heap.size w3 g 0 say0 T) := hT
  have HX3 : Hid (Ext w2 w3) := hx3
  clear hT hx3
  go_wp2_with fail
  refine (newT_any w3).mono ?_
  rintro e w4 ⟨h, U, rfl, hU, hx4⟩
  have HU : Hid (TT w3.heap.size w4 h 0 say0 U) := hU
  have HX4 : Hid (Ext w3 w4) := hx4
  clear hU hx4
  have HT4 : Hid (TT w2.heap.size w4 g 0 say0 T) := HT.out.below HX4.out
  have HAP : Hid (∀ i, FT U none_ i → ¬ FT T none_ i) := fun i hi e => by
    have h1 := (HU.out.ge hi).1
    have h2 := (HT.out.ge e).2
    omega
  have HC1 : Hid (Blk w4 w.heap.size #[.int .u64 1, .int .i64 0] 29) := (HB1.out.below_ HX3.out).below_ HX4.out
  have HC2 : Hid (Blk w4 (w.heap.size + 1) #[.int .u64 2, .int .i64 0] 29) := (HB2.out.below_ HX3.out).below_ HX4.out
  have HN1 : Hid (w.heap.size + 1 < w2.heap.size) := HB2.out.lt
  have HNT : Hid (∀ i, i < w2.heap.size → ¬ FT T none_ i ∧ ¬ FT U none_ i) := fun i hi => ⟨fun e => by have := (HT.out.ge e).1; omega, fun e => by have h1 := (HU.out.ge e).1; have h2 := HX3.out.size; omega⟩
  have HW3 : Hid (w.heap.size ≤ w3.heap.size) := (Ext.trans HE2.out HX3.out).size
  have HE4 : Hid (Ext w w4) := Ext.trans HE2.out (Ext.trans HX3.out HX4.out)
  clear HB1 HB2 HX3 HX4 HT HE2
  have c0 : w4.cell? ⟨w.heap.size + 1, 0, none⟩ = some (.int .u64 2) := HC2.out.cell 0
  have c1 : w4.cell? ⟨w.heap.size + 1, 1, none⟩ = some (.int .i64 0) := HC2.out.cell 1
  go_wp2_with fail
  refine (askT_any HT4.out ⟨2, 0⟩ 2 kA (twf _ (by decide)) (by decide) (by omega)).mono ?_
  rintro e w5 ⟨rfl, T5, hT5, s5⟩
  rw [hd1]
  have HT5 : Hid (TT w2.heap.size w5 g 1 (say0.askM ⟨2, 0⟩ 2 kA) T5) := hT5
  have HS5 : Hid (StepT w4 T w5 T5) := s5
  clear hT5 s5 c0 c1
  obtain ⟨k1, n1⟩ := HS5.out.blk HC1.out (HNT.out _ (by have := HN1.out; omega)).1
  obtain ⟨k2, n2⟩ := HS5.out.blk HC2.out (HNT.out _ HN1.out).1
  obtain ⟨u5, a5⟩ := HS5.out.other HU.out HAP.out
  have HD1 : Hid (Blk w5 w.heap.size #[.int .u64 1, .int .i64 0] 29 ∧ ¬ FT T5 none_ w.heap.size) := ⟨k1, n1⟩
  have HD2 : Hid (Blk w5 (w.heap.size + 1) #[.int .u64 2, .int .i64 0] 29 ∧ ¬ FT T5 none_ (w.heap.size + 1)) := ⟨k2, n2⟩
  have HU5 : Hid (TT w3.heap.size w5 h 0 say0 U) := u5
  have HA5 : Hid (∀ i, FT U none_ i → ¬ FT T5 none_ i) := a5
  clear k1 n1 k2 n2 u5 a5
  have c0 : w5.cell? ⟨w.heap.size, 0, none⟩ = some (.int .u64 1) := HD1.out.1.cell 0
  have c1 : w5.cell? ⟨w.heap.size, 1, none⟩ = some (.int .i64 0) := HD1.out.1.cell 1
  go_wp2_with fail
  refine (askT_any HT5.out ⟨1, 0⟩ 2 kA (twf _ (by decide)) (by decide) (by omega)).mono ?_
  rintro e w6 ⟨rfl, T6, hT6, s6⟩
  rw [hd2]
  have HS6 : Hid (StepT w5 T5 w6 T6) := s6
  clear hT6 s6 c0 c1
  obtain ⟨k1, n1⟩ := HS6.out.blk HD1.out.1 HD1.out.2
  obtain ⟨k2, n2⟩ := HS6.out.blk HD2.out.1 HD2.out.2
  obtain ⟨u6, a6⟩ := HS6.out.other HU5.out HA5.out
  have HF1 : Hid (Blk w6 w.heap.size #[.int .u64 1, .int .i64 0] 29 ∧ ¬ FT U none_ w.heap.size) := ⟨k1, (HNT.out _ (by have := HN1.out; omega)).2⟩
  have HF2 : Hid (Blk w6 (w.heap.size + 1) #[.int .u64 2, .int .i64 0] 29 ∧ ¬ FT U none_ (w.heap.size + 1)) := ⟨k2, (HNT.out _ HN1.out).2⟩
  have HU6 : Hid (TT w3.heap.size w6 h 0 say0 U) := u6
  have HSW : Hid (Chg (fun i => w.heap.size ≤ i) w w6) := by
    have h0 : Chg (fun i => w.heap.size ≤ i) w w4 := Chg.of_below HE4.out (fun i hi hn => absurd hi (Nat.not_lt.2 hn))
    have h1 := Chg.trans h0 (StepT.trans HS5.out HS6.out).chg (fun i hi e => by have h1 := (HT4.out.ge e).1; have h2 := HN1.out; omega)
    exact h1
  clear k1 n1 k2 n2 u6 a6
  have c0 : w6.cell? ⟨w.heap.size, 0, none⟩ = some (.int .u64 1) := HF1.out.1.cell 0
  have c1 : w6.cell? ⟨w.heap.size, 1, none⟩ = some (.int .i64 0) := HF1.out.1.cell 1
  go_wp2_with fail
  refine (askT_any HU6.out ⟨1, 0⟩ 2 kA (twf _ (by decide)) (by decide) (by omega)).mono ?_
  rintro e w7 ⟨rfl, U7, hU7, s7⟩
  rw [hd3]
  have HU7 : Hid (TT w3.heap.size w7 h 1 (say0.askM ⟨1, 0⟩ 2 kA) U7) := hU7
  have HS7 : Hid (StepT w6 U w7 U7) := s7
  clear hU7 s7 c0 c1
  obtain ⟨k2, n2⟩ := HS7.out.blk HF2.out.1 HF2.out.2
  have HG2 : Hid (Blk w7 (w.heap.size + 1) #[.int .u64 2, .int .i64 0] 29 ∧ ¬ FT U7 none_ (w.heap.size + 1)) := ⟨k2, n2⟩
  clear k2 n2
  have c0 : w7.cell? ⟨w.heap.size + 1, 0, none⟩ = some (.int .u64 2) := HG2.out.1.cell 0
  have c1 : w7.cell? ⟨w.heap.size + 1, 1, none⟩ = some (.int .i64 0) := HG2.out.1.cell 1
  go_wp2_with fail
  refine (askT_any HU7.out ⟨2, 0⟩ 1 kA (twf _ (by decide)) (by decide) (by omega)).mono ?_
  rintro e w8 ⟨rfl, U8, hU8, s8⟩
  rw [hd4]
  have HS8 : Hid (StepT w7 U7 w8 U8) := s8
  clear hU8 s8 c0 c1
  have HRES : Hid (Ext w w8) := by
    have h1 := Chg.trans HSW.out (StepT.trans HS7.out HS8.out).chg (fun i hi e => by have h1 := (HU6.out.ge e).1; have h2 := HW3.out; omega)
    exact h1.below (Nat.le_refl _) (fun i hi => hi)
  go_wp2
  go_ret
  exact ⟨rfl, HRES.out⟩
end Go.Proofs.Ytkgecljoodofeaa
