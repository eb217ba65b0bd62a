/- lock: slices.Insert of one want where there is no room; all ways together. Own lemmas, no statement. -/
import Derived.Test.YtkgecljoodofeaaLkI
set_option linter.unusedSimpArgs false
set_option linter.unusedVariables false
namespace Go.Proofs.Ytkgecljoodofeaa
open Go.ChangeShapes Go.WideShapes Go.ChangeAt Go.RowKit

set_option maxRecDepth 100000 in
set_option maxHeartbeats 4000000 in
theorem insGrow_any (w : World) (B vb g c i : Nat) (ls : List Wn) (x : Wn) (hown : OwnW w B (.slice (some ⟨g, 0, none⟩) ls.length c) ls) (hx : Blk w vb x.cs.toArray 55) (hi : i < ls.length) (hroom : c < ls.length + 1) (hl : ls.length ≤ 10000) (hB : B ≤ w.heap.size) :
    Calls Try.prog 29 #[.slice (some ⟨g, 0, none⟩) ls.length c, .int .i64 (i : Int), .slice (some ⟨vb, 0, none⟩) 1 1] w (InsP w B (.slice (some ⟨g, 0, none⟩) ls.length c) (ls.take i ++ x :: ls.drop i)) := by
  obtain ⟨cur, hb, hcs, ht, hBg, hcm, hnc⟩ : ∃ cur, Blk w g cur 55 ∧ cur.size = c * 3 ∧ cur.toList.take (ls.length * 3) = flatW ls ∧ B ≤ g ∧ c ≤ maxLen ∧ ls.length ≤ c := by
    rcases hown.form with ⟨e, _⟩ | ⟨g', c', e, h1, _, h3, h4, cur, h5, h6, h7⟩
    · cases e
    · simp only [Value.slice.injEq, Option.some.injEq, Addr.mk.injEq, and_true, true_and] at e
      obtain ⟨rfl, rfl⟩ := e
      exact ⟨cur, h5, h6, h7, h1, h4, h3⟩
  have hfl := flatW_len ls
  obtain ⟨n, hn⟩ : ∃ n, ls.length = n := ⟨_, rfl⟩
  have hdl : ((flatW ls).drop (i * 3)).length = (n - i) * 3 := by rw [List.length_drop, hfl, hn]; omega
  have htl : ((flatW ls).take (i * 3)).length = i * 3 := by rw [List.length_take, hfl, hn]; omega
  have hcell : ∀ j v, (flatW ls)[j]? = some v → w.cell? ⟨g, j, none⟩ = some v := fun j v hj => by
    rw [hb.cell, ← Array.getElem?_toList]
    rw [← ht, List.getElem?_take] at hj
    split at hj
    · exact hj
    · cases hj
  obtain ⟨i0, hi0, hz0, hz1, hz2⟩ := info_parts infoW
  have hold : (Builtin.firstCells i0.size i (.slice (some ⟨g, 0, none⟩) i c)).run Try.prog w.drew = .ok ((flatW ls).take (i * 3)).toArray w.drew := by
    rw [hz1]
    exact run_firstCells_some w.drew 3 i ⟨g, 0, none⟩ i c ((flatW ls).take (i * 3)) htl (fun j v hj => by
      rw [add0]
      rw [List.getElem?_take] at hj
      split at hj
      · exact hcell j v hj
      · cases hj)
  have hik : i + (n + 1 - i) = n + 1 := by omega
  have hrz : ∀ ty, (Builtin.append_ #[35, 3] ty #[.slice (some ⟨g, 0, none⟩) i c, .int .i64 ((n : Int) + 1 - (i : Int))]).run Try.prog w =
      .ok (.slice (some ⟨w.heap.size, 0, none⟩) (n + 1) (grownCap w (n + 1) c 55)) (w.drew.alloc (.cells (((flatW ls).take (i * 3)).toArray ++ Builtin.zeroCells zW.cells (n + 1 - i) ++ Builtin.zeroCells zW.cells (grownCap w (n + 1) c 55 - (n + 1))) 55)) := fun ty => by
    have h := Lib.run_append_grow_zeros w 35 3 ty 55 i0 zW .i64 .i64 Try.underlying35 Try.underlying3 hi0 hz0 (some ⟨g, 0, none⟩) i c ((flatW ls).take (i * 3)) hold (n + 1 - i) (by omega) (by omega) (by omega) (by omega) (by rw [hz2]; omega) (by rw [hz2, hik]; exact growslice_fits (by omega) (by omega))
    rw [hik] at h
    rw [show (n : Int) + 1 - (i : Int) = ((n + 1 - i : Nat) : Int) by omega]
    exact h
  have hGn := grownCap_ge w (n + 1) c 55
  have hGm : grownCap w (n + 1) c 55 ≤ maxLen := grownCap_le_maxLen w (n + 1) c 55 (by unfold maxLen; omega)
  generalize grownCap w (n + 1) c 55 = G at *
  obtain ⟨z, hz⟩ : ∃ z, z = (Builtin.zeroCells zW.cells (n + 1 - i)).toList ++ (Builtin.zeroCells zW.cells (G - (n + 1))).toList := ⟨_, rfl⟩
  obtain ⟨ROW, hROW⟩ : ∃ ROW : Array Value, ROW = ((flatW ls).take (i * 3)).toArray ++ Builtin.zeroCells zW.cells (n + 1 - i) ++ Builtin.zeroCells zW.cells (G - (n + 1)) := ⟨_, rfl⟩
  have hRL : ROW.toList = (flatW ls).take (i * 3) ++ z := by rw [hROW, hz]; simp [List.append_assoc]
  have hRs : ROW.size = G * 3 := by
    rw [hROW]
    simp only [Array.size_append, size_zeroCells, List.size_toArray, htl]
    have : zW.cells.size = 3 := rfl
    rw [this]
    omega
  rw [← hROW] at hrz
  obtain ⟨W1, hW1⟩ : ∃ W1, W1 = w.drew.alloc (.cells ROW 55) := ⟨_, rfl⟩
  rw [← hW1] at hrz
  have hb1 : Blk W1 w.heap.size ROW 55 := by rw [hW1]; exact Blk.new w.drew _ _
  have hg1 : w.grownBy W1 (some g) := by rw [hW1]; exact grown_new (grown_drew (World.grownBy.refl _ _)) _
  have hE1 : Ext w W1 := by rw [hW1]; exact Below.alloc (Below.drew (Below.refl _ _)) (Nat.le_refl _) _
  have hx1 : Blk W1 vb x.cs.toArray 55 := hx.of (hE1.block vb hx.lt)
  have hcpA : ∀ ty dc, (Builtin.copy_ #[35, 35] ty #[.slice (some ⟨w.heap.size, i * 3, none⟩) (n + 1 - i) dc, .slice (some ⟨vb, 0, none⟩) 1 1]).run Try.prog W1 = .ok (.int .i64 1) (W1.setCells w.heap.size (i * 3) x.cs) := fun ty dc =>
    run_copyW (k := 1) W1 ty w.heap.size (i * 3) (n + 1 - i) dc ⟨vb, 0, none⟩ 1 1 _ _ hb1 (by simp only [Nat.min_def]; split <;> omega) rfl (fun j v hj => by
      rw [add0, hx1.cell]
      simpa using hj) (by rw [hRs]; omega) (cs_oneW x)
  have hs1 : Blk (W1.setCells w.heap.size (i * 3) x.cs) w.heap.size _ 55 := Blk.setCells x.cs (i * 3) hb1 (by rw [hRs, Wn.cs_len]; omega)
  have hg2 : w.grownBy (W1.setCells w.heap.size (i * 3) x.cs) (some g) := grown_newset (Nat.le_refl _) _ _ hg1
  have hE2 : ∀ k, k < w.heap.size → (W1.setCells w.heap.size (i * 3) x.cs).heap[k]? = w.heap[k]? := fun k hk => by
    have h3 : w.grownBy (W1.setCells w.heap.size (i * 3) x.cs) none := grown_newset (Nat.le_refl _) _ _ (by rw [hW1]; exact grown_new (grown_drew (World.grownBy.refl _ _)) _)
    exact h3.block k hk (fun e => by cases e)
  obtain ⟨W2, hW2⟩ : ∃ W2, W2 = W1.setCells w.heap.size (i * 3) x.cs := ⟨_, rfl⟩
  rw [← hW2] at hcpA hs1 hg2 hE2
  have hb2 : Blk W2 g cur 55 := hb.of (hE2 g hb.lt)
  have hcpB : ∀ ty dc sc, (Builtin.copy_ #[35, 35] ty #[.slice (some ⟨w.heap.size, (i + 1) * 3, none⟩) (n - i) dc, .slice (some ⟨g, i * 3, none⟩) (n - i) sc]).run Try.prog W2.drew = .ok (.int .i64 ((n - i : Nat) : Int)) (W2.drew.setCells w.heap.size ((i + 1) * 3) ((flatW ls).drop (i * 3))) := fun ty dc sc =>
    run_copyW W2.drew ty w.heap.size ((i + 1) * 3) (n - i) dc ⟨g, i * 3, none⟩ (n - i) sc (n - i) _ _ hs1.drew (by simp [Nat.min_def]) hdl (fun j v hj => by
      rw [List.getElem?_drop] at hj
      have h1 := hcell _ v hj
      rw [Addr.add_lit]
      rw [hb.cell] at h1
      show W2.cell? _ = _
      rw [hb2.cell]
      exact h1) (by simp [hRs, Wn.cs_len]; omega) (fun v hv => flatW_one ls v (List.mem_of_mem_drop hv))
  have hs2 : Blk (W2.drew.setCells w.heap.size ((i + 1) * 3) ((flatW ls).drop (i * 3))) w.heap.size _ 55 := Blk.setCells _ ((i + 1) * 3) hs1.drew (by rw [hdl]; simp [hRs, Wn.cs_len]; omega)
  have hg3 : w.grownBy (W2.drew.setCells w.heap.size ((i + 1) * 3) ((flatW ls).drop (i * 3))) (some g) := grown_newset (Nat.le_refl _) _ _ (grown_drew hg2)
  have HRES : Hid (InsP w B (.slice (some ⟨g, 0, none⟩) ls.length c) (ls.take i ++ x :: ls.drop i) (.returned (.slice (some ⟨w.heap.size, 0, none⟩) (n + 1) G)) (W2.drew.setCells w.heap.size ((i + 1) * 3) ((flatW ls).drop (i * 3)))) := by
    refine ⟨_, rfl, ownW_of hs2 hB (by rw [List.length_append, List.length_cons, List.length_take, List.length_drop]; omega) hGn hGm ?_ ?_, .inr rfl, hg3⟩
    · simp [hdl, hRs, Wn.cs_len]; omega
    · have := lay_grow (us := flatW ls) (z := z) (a := x.cs) (N := n * 3) (I := i * 3) (rest := (ROW.toList.take (i * 3) ++ x.cs ++ ROW.toList.drop (i * 3 + x.cs.length)).drop ((i + 1) * 3 + ((flatW ls).drop (i * 3)).length)) (by rw [hfl, hn]) (by omega) _ rfl _ rfl
      rw [← hRL, Wn.cs_len] at this
      rw [show (n + 1) * 3 = n * 3 + 3 by omega]
      simp only [List.toList_toArray] at this ⊢
      rw [show x.cs.length = 3 from rfl, show (i + 1) * 3 = i * 3 + 3 by omega] at *
      rw [this, show ls.take i ++ x :: ls.drop i = ls.take i ++ [x] ++ ls.drop i by simp, flatW_app, flatW_app, ← flatW_take, ← flatW_drop]
      simp [flatW]
  have HA : Hid _ := hrz
  have HCA : Hid _ := hcpA
  have HCB : Hid _ := hcpB
  rw [hn] at hi hroom hl hnc HRES ⊢
  unfold maxLen at hcm hGm
  have hq2 : ((i : Int) == (n : Int)) = false := beq_eq_false_iff_ne.2 (by omega)
  have hin : i ≤ n := by omega
  have htn : ((i : Int) + 1).toNat = i + 1 := by omega
  have hq1 : (0 : Int) ≤ (i : Int) + 1 := by omega
  have hq3 : ¬ (G = i + 1) := by omega
  have hq4 : ¬ (G = i) := by omega
  have hq5 : (c : Int) < (n : Int) + 1 := by omega
  have hq6 : ¬ (c = i) := by omega
  have hq7 : (i : Int) + 1 ≤ (n : Int) + 1 := by omega
  have hq8 : (i : Int) ≤ (n : Int) + 1 := by omega
  clear hW1 hW2 hROW hRL hRs hz hrz hcpA hcpB hs1 hs2 hg1 hg2 hg3 hE1 hE2 hx1 hown hb hb1 hb2 ht hcell hfl hdl htl hn hcs hold hik
  go_enter Try.func29, Try.ntmps29
  go_upto_region 9 with fail
  have hcpA := HCA.out
  go_wp2_with (at_builtin; refine wpList_append_runW _ rfl _ _ 35 3 rfl _ _ rfl rfl (HA.out _) ?_)
  clear hcpA HA HCA
  refine wp_region_seg (fun _ => True) (by kernel_rfl) ?_
  haveI nA : Nonempty (Cls fun _ => True) := ⟨⟨w, trivial⟩⟩
  refine wpAnyH_seg (by kernel_rfl) (fun _ _ _ h => h) [0, 1, 2, 3, 4, 5, 6, 7] 1 _ _ _ trivial (by kernel_rfl) ?_
  simp only [opsAt, List.getElem?_toArray, List.getElem?_cons_zero, List.getElem?_cons_succ, List.cons_append, List.nil_append]
  repeat (go_big_quiet_step (fail))
  refine wpQuiet_nil ?_
  refine wpAnyH_all (rs := [8]) (fuel := 0) (by kernel_rfl) (by simp) fun j hj => ?_
  obtain rfl : j = 8 := by simpa using hj
  clear hj
  refine wpOp_value 54 rfl (by kernel_rfl) rfl (exec_copyW rfl rfl rfl (HCB.out _ _ _)) ?_
  refine ⟨trivial, ?_⟩
  simp only [Act.put, List.setIfInBounds_toArray, List.set_cons_succ, List.set_cons_zero]
  refine wpAnyH_done (by kernel_rfl) (NoPanic.normal ?_) 0
  clear nA HCB
  go_wp2
  go_ret
  exact HRES.out

/-- Insert of one want into a row of a call's own. -/
theorem insW_any (w : World) (B vb : Nat) (v : Value) (ls : List Wn) (x : Wn) (i : Nat) (hown : OwnW w B v ls) (hx : Blk w vb x.cs.toArray 55) (hne : v.ownBlock ≠ some vb) (hi : i ≤ ls.length) (hl : ls.length ≤ 10000) (hB : B ≤ w.heap.size) :
    Calls Try.prog 29 #[v, .int .i64 (i : Int), .slice (some ⟨vb, 0, none⟩) 1 1] w (InsP w B v (ls.take i ++ x :: ls.drop i)) := by
  by_cases he : i = ls.length
  · subst he
    have e : ls.take ls.length ++ x :: ls.drop ls.length = ls ++ [x] := by simp
    rw [e]
    exact insEnd_any w B vb v ls x hown hx hl hB
  · have hlt : i < ls.length := by omega
    rcases hown.form with ⟨_, e⟩ | ⟨g, c, e, _, _, h3, _⟩
    · subst e; simp at hlt
    · subst e
      by_cases hr : ls.length + 1 ≤ c
      · exact insRoom_any w B vb g c i ls x hown hx (fun e => hne (by rw [e]; rfl)) hlt hr
      · exact insGrow_any w B vb g c i ls x hown hx hlt (by omega) hl hB
end Go.Proofs.Ytkgecljoodofeaa
