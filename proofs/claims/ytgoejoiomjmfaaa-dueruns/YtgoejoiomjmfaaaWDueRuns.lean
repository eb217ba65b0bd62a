/- DueRuns: the walk of the law's Go text. -/
import Derived.Test.YtgoejoiomjmfaaaRunsJ
import Derived.Test.YtgoejoiomjmfaaaRunsK
import Derived.Test.YtgoejoiomjmfaaaRunsN
namespace Go.Proofs.Ytgoejoiomjmfaaa
open Go.ChangeShapes Go.WideShapes Go.ChangeAt Go.RowKit

theorem runs_start {w w1 w2 : World} {g : Nat} (hb1 : Below w.heap.size w w1) (hq : QS (fun k => w1.heap.size ≤ k) w2 g 0 0 (fun _ => none)) (hb2 : Below w1.heap.size w1 w2) : RunsAt w w1.heap.size (w2.alloc (.cells #[] 34)) g 0 ⟨w2.heap.size, 0, none⟩ 0 [] (fun _ => none) :=
  ⟨hq.below ((Below.refl _ _).alloc (Nat.le_refl _) _), Tab.nil, RowE.new w2 hb2.size, (bel_trans hb1 hb2).alloc (bel_trans hb1 hb2).size _, hb1.size, by have := hb2.size; simp; omega⟩

set_option maxRecDepth 100000 in
set_option maxHeartbeats 8000000 in
theorem walk_DueRuns (oa : Option Addr) (no co : Nat) (os : List OpE) (w : World) (ho : IsOpsE w oa no os) :
    Calls Try.prog 3 #[.slice oa no co] w fun e w' => e = .returned (.bool true) ∧ Below w.heap.size w w' := by
  obtain ⟨ho1, ho2, ho3, ho4⟩ := ho
  have HO1 : Hid (os.length = no) := ho1
  have HO3 : Hid (oa = none → no = 0) := ho3
  have HO4 : Hid (∀ x, oa = some x → ∀ i (h : i < os.length), OpAt w x i os[i]) := ho4
  unfold maxLen at ho2
  clear ho1 ho3 ho4
  go_enter Try.func3, Try.ntmps3
  go_wp2_with fail
  refine (head_any _).mono ?_
  rintro e w1 ⟨rfl, hb1⟩
  have HB1 : Hid (Below w.heap.size w w1) := hb1
  clear hb1
  go_wp2_with fail
  refine (qs_new w1).mono ?_
  rintro e w2 ⟨g, rfl, hq2, hb2⟩
  have HT2 : Hid (RunsAt w w1.heap.size (w2.alloc (.cells #[] 34)) g 0 ⟨w2.heap.size, 0, none⟩ 0 [] (fun _ => none)) := runs_start HB1.out hq2 hb2
  clear hq2 hb2
  unfold iptr
  go_wp2_with fail
  refine wp_loop (RI w w1.heap.size oa no co g) Rmu ?_ ?_
  · exact ⟨0, 0, ⟨w2.heap.size, 0, none⟩, [], _, ⟨rfl, rfl, rfl, rfl, rfl, rfl, rfl⟩, by omega, by omega, by simp, HT2.out⟩
  · clear HT2
    rintro a wr ⟨k, cap, x, l, Tb, hsl, hk, hkn, hlk, hR⟩
    have hmu : Rmu a wr = 60 - k := by unfold Rmu; rw [hsl.2.2.2.2.2.2]; simp [intOf]
    rw [hmu]
    have hlit := hsl.lit
    generalize (fun i => a.tmps.getD i undef) = T at hlit
    subst hlit
    clear hsl hmu
    by_cases hlt : k < no ∧ k < 60
    · obtain ⟨x0, rfl⟩ : ∃ x, oa = some x := by
        cases oa with
        | none => have := HO3.out rfl; omega
        | some x => exact ⟨x, rfl⟩
      have hop0 := HO4.out x0 rfl k (by rw [HO1.out]; exact hlt.1)
      generalize os[k]'(by rw [HO1.out]; exact hlt.1) = o at hop0
      by_cases h0 : o.k = 0
      · exact run_set w w1.heap.size x0 no co g k hlt.1 hlt.2 T x cap l Tb wr _ o hop0 hR hlk h0
      by_cases h1 : o.k = 1
      · exact run_drop w w1.heap.size x0 no co g k hlt.1 hlt.2 T x cap l Tb wr _ o hop0 hR hlk h1
      by_cases h2 : o.k = 2
      · exact run_when w w1.heap.size x0 no co g k hlt.1 hlt.2 T x cap l Tb wr _ o hop0 hR hlk h2
      by_cases h3 : o.k = 3
      · exact run_next w w1.heap.size x0 no co g k hlt.1 hlt.2 T x cap l Tb wr _ o hop0 hR hlk h3
      · exact run_else w w1.heap.size x0 no co g k hlt.1 hlt.2 T x cap l Tb wr _ o hop0 hR hlk h0 h1 h2 h3
    · have HMf : Hid (Below w.heap.size w wr) := hR.bel
      clear hR hlk
      unfold fr
      rcases (show no ≤ k ∨ (k < no ∧ 60 ≤ k) by omega) with hx | ⟨hx, hx'⟩
      · have hd1 : decide ((k : Int) < (no : Int)) = false := decide_eq_false (by omega)
        go_wp2_with fail
        go_ret
        exact ⟨rfl, HMf.out⟩
      · have hd1 : decide ((k : Int) < (no : Int)) = true := decide_eq_true (by omega)
        have hd2 : decide ((k : Int) < 60) = false := decide_eq_false (by omega)
        go_wp2_with fail
        go_ret
        exact ⟨rfl, HMf.out⟩
end Go.Proofs.Ytgoejoiomjmfaaa
