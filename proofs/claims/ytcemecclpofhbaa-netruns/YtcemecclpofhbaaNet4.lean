/- net: slices.Delete of one letter, walked. Own lemmas, no statement. -/
import Derived.Test.YtcemecclpofhbaaNet2
import Derived.Laws.OwnMore
import Derived.Deep.RegionHeld3
set_option linter.unusedSimpArgs false
set_option linter.unusedVariables false
namespace Go.Proofs.Ytcemecclpofhbaa
open Go.ChangeShapes Go.WideShapes Go.ChangeAt Go.RowKit

theorem zeroCellsL (n : Nat) : (Builtin.zeroCells (Value.agg #[.int .i64 0, .slice none 0 0]).cells n).size = n * 2 := by
  simp [Builtin.zeroCells, Value.cells]
theorem zeroCellsL_one (n : Nat) : ∀ u ∈ (Builtin.zeroCells (Value.agg #[.int .i64 0, .slice none 0 0]).cells n).toList, u.oneCell' = true := by
  intro u hu
  simp [Builtin.zeroCells, Value.cells] at hu
  obtain ⟨k, hk, rfl⟩ := hu
  rcases (show k % 2 = 0 ∨ k % 2 = 1 by omega) with h | h <;> rw [h] <;> rfl
/-- 'clear' of the one place behind a row's elements. -/
theorem run_clearL (w : World) (B g n cap c : Nat) (us : List Value) (h : w.ownsRow B 34 2 (.slice (some ⟨g, 0, none⟩) n cap) n us) (hn : n < cap) :
    ∃ w2, (∀ ty, (Builtin.clear_ #[25] ty #[.slice (some ⟨g, n * 2, none⟩) 1 c]).run Try.prog w = .ok (.tuple #[]) w2) ∧ w2.ownsRow B 34 2 (.slice (some ⟨g, 0, none⟩) n cap) n us ∧ w.grownBy w2 (some g) := by
  obtain ⟨hl, hr⟩ := h
  rcases hr with ⟨e, _⟩ | ⟨g', cap', cur, e, hB, hg, h3, h4, h5, h6⟩
  · cases e
  simp only [Value.slice.injEq, Option.some.injEq, Addr.mk.injEq, and_true, true_and] at e
  obtain ⟨rfl, rfl⟩ := e
  have hst := run_storeCells_at Try.prog g (n * 2) 34 (Builtin.zeroCells (Value.agg #[.int .i64 0, .slice none 0 0]).cells 1).toList 0 cur w hg (by rw [Array.length_toList, zeroCellsL]; omega) (zeroCellsL_one _)
  obtain ⟨row, hrow⟩ : ∃ row, row = (cur.toList.take (n * 2 + 0) ++ (Builtin.zeroCells (Value.agg #[.int .i64 0, .slice none 0 0]).cells 1).toList ++ cur.toList.drop (n * 2 + 0 + (Builtin.zeroCells (Value.agg #[.int .i64 0, .slice none 0 0]).cells 1).toList.length)).toArray := ⟨_, rfl⟩
  rw [← hrow] at hst
  have hsz : row.size = cap * 2 := by
    rw [hrow]
    simp [zeroCellsL]
    omega
  have htk : row.toList.take (n * 2) = us := by
    rw [hrow]
    simp only [Nat.add_zero, List.append_assoc]
    rw [List.take_append_of_le_length (by rw [List.length_take, Array.length_toList]; omega), List.take_take, Nat.min_self]
    exact h6
  refine ⟨w.setRow g row, fun ty => ?_, ⟨hl, .inr ⟨g, cap, row, rfl, hB, setRow_heap _ _ _ _ _ _ hg, h3, h4, hsz, htk⟩⟩, ⟨rfl, rfl, rfl, by simp [World.setRow], fun k _ hne => setRow_other w g k _ (fun e => hne (by rw [e]))⟩⟩
  simp [Builtin.clear_, run_underlying Try.underlying25, hst]
theorem flat_drop (ls : List LetV) (i : Nat) : ((ls.map LetV.cs).flatten).drop (i * 2) = ((ls.drop i).map LetV.cs).flatten := by
  induction ls generalizing i with
  | nil => simp
  | cons x t ih =>
    cases i with
    | zero => simp
    | succ i =>
      simp only [List.map_cons, List.flatten_cons, List.drop_succ_cons]
      rw [← ih i, List.drop_append, LetV.cs_len, show (i + 1) * 2 - 2 = i * 2 by omega, List.drop_eq_nil_of_le (by rw [LetV.cs_len]; omega), List.nil_append]
theorem flat_take (ls : List LetV) (i : Nat) : ((ls.map LetV.cs).flatten).take (i * 2) = ((ls.take i).map LetV.cs).flatten := by
  induction ls generalizing i with
  | nil => simp
  | cons x t ih =>
    cases i with
    | zero => simp
    | succ i =>
      simp only [List.map_cons, List.flatten_cons, List.take_succ_cons]
      rw [← ih i, List.take_append, LetV.cs_len, show (i + 1) * 2 - 2 = i * 2 by omega, List.take_of_length_le (by rw [LetV.cs_len]; omega)]
theorem flat_one (ls : List LetV) : ∀ u ∈ (ls.map LetV.cs).flatten, u.oneCell' = true := by
  intro u hu
  obtain ⟨c, hc, hu⟩ := List.mem_flatten.1 hu
  obtain ⟨x, hx, rfl⟩ := List.mem_map.1 hc
  exact cs_one x u hu
/-- The first ones of a row. -/
theorem own_take {w : World} {B g n cap i : Nat} {ls : List LetV} (h : w.ownsRow B 34 2 (.slice (some ⟨g, 0, none⟩) n cap) n (ls.map LetV.cs).flatten) (hi : i ≤ n) : w.ownsRow B 34 2 (.slice (some ⟨g, 0, none⟩) i cap) i ((ls.take i).map LetV.cs).flatten := by
  obtain ⟨hl, hr⟩ := h
  rcases hr with ⟨e, _⟩ | ⟨g', cap', cur, e, hB, hg, h3, h4, h5, h6⟩
  · cases e
  simp only [Value.slice.injEq, Option.some.injEq, Addr.mk.injEq, and_true, true_and] at e
  obtain ⟨rfl, rfl⟩ := e
  rw [flat_len] at hl
  refine ⟨by rw [flat_len, List.length_take]; omega, .inr ⟨g, cap, cur, rfl, hB, hg, by omega, h4, h5, ?_⟩⟩
  rw [← flat_take, ← h6, List.take_take, Nat.min_eq_left (by omega)]
set_option maxRecDepth 100000 in
set_option maxHeartbeats 4000000 in
theorem del_any (B g cap n i : Nat) (ls : List LetV) (w : World) (hown : w.ownsRow B 34 2 (.slice (some ⟨g, 0, none⟩) n cap) n (ls.map LetV.cs).flatten) (hi : i < n) :
    Calls Try.prog 16 #[.slice (some ⟨g, 0, none⟩) n cap, .int .i64 i, .int .i64 ((i + 1 : Nat) : Int)] w fun e w' => e = .returned (.slice (some ⟨g, 0, none⟩) (n - 1) cap) ∧ w'.ownsRow B 34 2 (.slice (some ⟨g, 0, none⟩) (n - 1) cap) (n - 1) ((ls.eraseIdx i).map LetV.cs).flatten ∧ w.grownBy w' (some g) := by
  have HO : Hid (w.ownsRow B 34 2 (.slice (some ⟨g, 0, none⟩) n cap) n (ls.map LetV.cs).flatten) := hown
  have hnc : n ≤ cap ∧ cap ≤ maxLen := by
    rcases hown.2 with ⟨e, _⟩ | ⟨g', cap', cur, e, hB, hg, h3, h4, _⟩
    · cases e
    · simp only [Value.slice.injEq] at e
      obtain ⟨_, _, rfl⟩ := e
      exact ⟨h3, h4⟩
  have HLN : Hid (ls.length = n) := by
    have := hown.1
    rw [flat_len] at this
    show _ = _
    omega
  obtain ⟨h3, h4⟩ := hnc
  unfold maxLen at h4
  clear hown
  obtain ⟨j, hj⟩ : ∃ j, j = i + 1 := ⟨_, rfl⟩
  have HJ : Hid (j = i + 1) := hj
  rw [← hj]
  have hjn : j ≤ n := by omega
  have hij : i < j := by omega
  have hne : ¬ ((i : Int) = (j : Int)) := by omega
  have hnb : ((i : Int) == (j : Int)) = false := beq_eq_false_iff_ne.2 hne
  clear hj hi
  go_enter Try.func16, Try.ntmps16
  go_upto_region 5 with fail
  refine wp_region_seg (fun _ => True) (by kernel_rfl) ?_
  haveI nA : Nonempty (Cls fun _ => True) := ⟨⟨w, trivial⟩⟩
  refine wpAnyH_seg (by kernel_rfl) (fun _ _ _ h => h) [0, 1, 2, 3, 4, 5] 2 _ _ _ trivial (by kernel_rfl) ?_
  simp only [opsAt, List.getElem?_toArray, List.getElem?_cons_zero, List.getElem?_cons_succ, List.cons_append, List.nil_append]
  repeat (go_big_quiet_step (fail))
  refine wpQuiet_nil ?_
  obtain ⟨ad, had⟩ : ∃ ad, (if cap = j then some (⟨g, 0, none⟩ : Addr) else some ⟨g, j * 2, none⟩) = some ad := by split <;> exact ⟨_, rfl⟩
  have hadj : 0 < n - j → ad = ⟨g, j * 2, none⟩ := fun hp => by
    rw [if_neg (by omega)] at had
    exact (Option.some.inj had).symm
  rw [had]
  obtain ⟨i0, hi0, hz0, hz1, hz2⟩ := info_parts infoL
  obtain ⟨w2, hr, ho2, hg2⟩ := run_append_fits (P := Try.prog) w.drew B 25 25 34 i0 2 Try.underlying25 hi0 hz1 g i cap _ (own_take HO.out (by omega)) ad (n - j) (cap - j) ((ls.drop j).map LetV.cs).flatten (by rw [flat_len, List.length_drop, HLN.out]) (fun t u hu => by
      have hpos : 0 < n - j := by
        have := (List.getElem?_eq_some_iff.1 hu).1
        rw [flat_len, List.length_drop, HLN.out] at this
        omega
      rw [hadj hpos, Addr.add_mid]
      rw [← flat_drop, List.getElem?_drop] at hu
      have h1 := HO.out.cells rfl _ _ hu
      rw [Addr.add_mid, Nat.zero_add] at h1
      exact h1) (flat_one _) (by omega)
  have him : i + (n - j) = n - 1 := by have := HJ.out; omega
  have hfl : ((ls.take i).map LetV.cs).flatten ++ ((ls.drop j).map LetV.cs).flatten = ((ls.eraseIdx i).map LetV.cs).flatten := by
    rw [← List.flatten_append, ← List.map_append, HJ.out, List.eraseIdx_eq_take_drop_succ]
  rw [him] at hr ho2
  rw [hfl] at ho2
  clear him hfl hadj had
  obtain ⟨m, hm⟩ : ∃ m, m = n - 1 := ⟨_, rfl⟩
  rw [← hm] at hr ho2
  have HM : Hid (m = n - 1) := hm
  have hmn : m < n := by omega
  have hmc : m < cap := by omega
  have hnm : n - m = 1 := by omega
  have hcm : ¬ cap = m := by omega
  have HR : Hid _ := hr
  have HO2 : Hid (w2.ownsRow B 34 2 (.slice (some ⟨g, 0, none⟩) m cap) m ((ls.eraseIdx i).map LetV.cs).flatten) := ho2
  have HG2 : Hid (w.grownBy w2 (some g)) := ⟨hg2.os, hg2.tape, hg2.output, hg2.size, hg2.block⟩
  clear hr ho2 hg2 hm hjn hij hne hnb
  have HCL : Hid _ := run_clearL w2 B g m cap (cap - m) _ HO2.out hmc
  refine wpAnyH_all (rs := [6]) (fuel := 1) (by kernel_rfl) (by simp) fun j hj => ?_
  obtain rfl : j = 6 := by simpa using hj
  clear hj
  refine wpOp_value 26 rfl (by kernel_rfl) rfl (exec_app rfl rfl rfl HR.out) ?_
  refine ⟨trivial, ?_⟩
  simp only [Act.put, List.setIfInBounds_toArray, List.set_cons_succ, List.set_cons_zero]
  refine wpAnyH_seg (by kernel_rfl) (fun _ _ _ h => h) [7] 0 _ _ _ trivial (by kernel_rfl) ?_
  simp only [opsAt, List.getElem?_toArray, List.getElem?_cons_zero, List.getElem?_cons_succ, List.cons_append, List.nil_append]
  repeat (go_big_quiet_step (fail))
  refine wpQuiet_nil ?_
  clear nA HR
  refine wpAnyH_done (by kernel_rfl) (NoPanic.normal ?_) 0
  obtain ⟨w3, hcl, ho3, hg3⟩ := HCL.out
  have HO3 : Hid (w3.ownsRow B 34 2 (.slice (some ⟨g, 0, none⟩) m cap) m ((ls.eraseIdx i).map LetV.cs).flatten) := ho3
  have HG3 : Hid (w.grownBy w3 (some g)) := by
    have h1 := HG2.out
    exact ⟨hg3.os.trans h1.os, hg3.tape.trans h1.tape, hg3.output.trans h1.output, Nat.le_trans h1.size hg3.size, fun k hk hr => (hg3.block k (Nat.lt_of_lt_of_le hk h1.size) hr).trans (h1.block k hk hr)⟩
  clear ho3 hg3 HCL HO2 HG2
  go_wp2
  go_ret
  exact ⟨by rw [← HM.out]; rfl, by rw [← HM.out]; exact HO3.out, HG3.out⟩
end Go.Proofs.Ytcemecclpofhbaa
