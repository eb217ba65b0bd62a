/- lock: slices.Delete of the first wants of an own row. Own lemmas, no statement. -/
import Derived.Test.YtkgecljoodofeaaLkU
import Derived.Lib.AppendZerosOnto
import Derived.Deep.RegionHeld3
set_option linter.unusedSimpArgs false
set_option linter.unusedVariables false
namespace Go.Proofs.Ytkgecljoodofeaa
open Go.ChangeShapes Go.WideShapes Go.ChangeAt Go.RowKit

theorem exec_app {ρ : Operand → Value} {o : Oper} {w w' : World} {s x : Operand} {t : TypeId} {v vx v' : Value} (ho : o.op = .call { callee := .builtin .append, args := #[s, x], argTypes := #[t, t] }) (hs : ρ s = v) (hx : ρ x = vx) (hr : (Builtin.append_ #[t, t] o.type #[v, vx]).run Try.prog w = .ok v' w') : (execOp ρ o).run Try.prog w = .ok (.value v') w' := by
  unfold execOp
  simp only [ho, resolve, invoke, builtin, Sem.run_bind, Sem.run_pure, Result.andThen_ok, List.map_toArray, List.map_cons, List.map_nil, hs, hx, hr]
set_option maxRecDepth 100000 in
set_option maxHeartbeats 4000000 in
theorem delW_some (B g cap n m : Nat) (ls : List Wn) (w : World) (hown : OwnW w B (.slice (some ⟨g, 0, none⟩) n cap) ls) (hl : ls.length = n) (hm0 : 0 < m) (hmn : m ≤ n) (hn : n ≤ 10000) :
    Calls Try.prog 53 #[.slice (some ⟨g, 0, none⟩) n cap, .int .i64 0, .int .i64 (m : Int)] w fun e w' => e = .returned (.slice (some ⟨g, 0, none⟩) (n - m) cap) ∧ OwnW w' B (.slice (some ⟨g, 0, none⟩) (n - m) cap) (ls.drop m) ∧ w.grownBy w' (some g) := by
  have HO : Hid (OwnW w B (.slice (some ⟨g, 0, none⟩) n cap) ls) := hown
  have hnc : n ≤ cap ∧ cap ≤ maxLen := by
    rcases hown.form with ⟨e, e2⟩ | ⟨g', cc, e, _, _, h3, h4, _⟩
    · cases e
    · injection e with _ e2 e3; subst e3; rw [hl] at h3; exact ⟨h3, h4⟩
  have HLN : Hid (ls.length = n) := hl
  obtain ⟨h3, h4⟩ := hnc
  unfold maxLen at h4
  clear hown hl
  have hne : ¬ ((0 : Int) = (m : Int)) := by omega
  have hnb : ((0 : Int) == (m : Int)) = false := beq_eq_false_iff_ne.2 hne
  go_enter Try.func53, Try.ntmps53
  go_upto_region 5 with fail
  refine wp_region_seg (fun _ => True) (by kernel_rfl) ?_
  haveI nA : Nonempty (Cls fun _ => True) := ⟨⟨w, trivial⟩⟩
  refine wpAnyH_seg (by kernel_rfl) (fun _ _ _ h => h) [0, 1, 2, 3, 4, 5] 2 _ _ _ trivial (by kernel_rfl) ?_
  simp only [opsAt, List.getElem?_toArray, List.getElem?_cons_zero, List.getElem?_cons_succ, List.cons_append, List.nil_append]
  repeat (go_big_quiet_step (fail))
  refine wpQuiet_nil ?_
  obtain ⟨ad, had⟩ : ∃ ad, (if cap = m then some (⟨g, 0, none⟩ : Addr) else some ⟨g, m * 3, none⟩) = some ad := by split <;> exact ⟨_, rfl⟩
  have hadj : 0 < n - m → ad = ⟨g, m * 3, none⟩ := fun hp => by
    rw [if_neg (by omega)] at had
    exact (Option.some.inj had).symm
  rw [had]
  obtain ⟨i0, hi0, hz0, hz1, hz2⟩ := info_parts infoW
  obtain ⟨w2, hr, ho2, hg2⟩ := run_append_fits (P := Try.prog) w.drew B 35 35 55 i0 3 Try.underlying35 hi0 hz1 g 0 cap _ (own_takeW HO.out (Nat.zero_le _)) ad (n - m) (cap - m) (flatW (ls.drop m)) (by rw [flatW_len, List.length_drop, HLN.out]) (fun t u hu => by
      have hpos : 0 < n - m := by
        have := (List.getElem?_eq_some_iff.1 hu).1
        rw [flatW_len, List.length_drop, HLN.out] at this
        omega
      rw [hadj hpos, Addr.add_mid]
      rw [← flatW_drop, List.getElem?_drop] at hu
      have h1 := HO.out.cells rfl _ _ hu
      rw [Addr.add_mid, Nat.zero_add] at h1
      exact h1) (flatW_one _) (by omega)
  have him : 0 + (n - m) = n - m := by omega
  have hfl : flatW (ls.take 0) ++ flatW (ls.drop m) = flatW (ls.drop m) := by rw [List.take_zero]; rfl
  rw [him] at hr ho2
  rw [hfl] at ho2
  clear him hfl hadj had
  obtain ⟨r, hr0⟩ : ∃ r, r = n - m := ⟨_, rfl⟩
  have HLR : Hid ((ls.drop m).length = r) := by show _ = _; rw [List.length_drop, HLN.out, hr0]
  rw [← hr0] at hr ho2 ⊢
  have HM : Hid (r = n - m) := hr0
  have hmn2 : r < n := by omega
  have hmc : r < cap := by omega
  have hnm : n - r = m := by omega
  have hcm : ¬ cap = r := by omega
  have hrm : r + m ≤ cap := by omega
  have HR : Hid _ := hr
  have HO2 : Hid (OwnW w2 B (.slice (some ⟨g, 0, none⟩) r cap) (ls.drop m)) := by
    show World.ownsRow _ _ _ _ _ _ _
    rw [HLR.out]
    exact ho2
  have HG2 : Hid (w.grownBy w2 (some g)) := ⟨hg2.os, hg2.tape, hg2.output, hg2.size, hg2.block⟩
  clear hr ho2 hg2 hr0 hne hnb
  have HCL : Hid _ := run_clearW w2 B g r cap m (cap - r) _ HO2.out HLR.out hrm hm0
  refine wpAnyH_all (rs := [6]) (fuel := 1) (by kernel_rfl) (by simp) fun j hj => ?_
  obtain rfl : j = 6 := by simpa using hj
  clear hj
  refine wpOp_value 26 rfl (by kernel_rfl) rfl (exec_app rfl rfl rfl HR.out) ?_
  refine ⟨trivial, ?_⟩
  simp only [Act.put, List.setIfInBounds_toArray, List.set_cons_succ, List.set_cons_zero]
  refine wpAnyH_seg (by kernel_rfl) (fun _ _ _ h => h) [7] 0 _ _ _ trivial (by kernel_rfl) ?_
  simp only [opsAt, List.getElem?_toArray, List.getElem?_cons_zero, List.getElem?_cons_succ, List.cons_append, List.nil_append]
  repeat (go_big_quiet_step (fail))
  refine wpQuiet_nil ?_
  clear nA HR
  refine wpAnyH_done (by kernel_rfl) (NoPanic.normal ?_) 0
  obtain ⟨w3, hcl, ho3, hg3⟩ := HCL.out
  have HO3 : Hid (OwnW w3 B (.slice (some ⟨g, 0, none⟩) r cap) (ls.drop m)) := ho3
  have HG3 : Hid (w.grownBy w3 (some g)) := by
    have h1 := HG2.out
    exact ⟨hg3.os.trans h1.os, hg3.tape.trans h1.tape, hg3.output.trans h1.output, Nat.le_trans h1.size hg3.size, fun k hk hr => (hg3.block k (Nat.lt_of_lt_of_le hk h1.size) hr).trans (h1.block k hk hr)⟩
  clear ho3 hg3 HCL HO2 HG2
  go_wp2
  go_ret
  exact ⟨by rw [← HM.out]; rfl, by rw [← HM.out]; exact HO3.out, HG3.out⟩
set_option maxHeartbeats 1000000 in
/-- slices.Delete of the first m wants. -/
theorem delW_any (B m : Nat) (v : Value) (ls : List Wn) (w : World) (hown : OwnW w B v ls) (hm : m ≤ ls.length) (hl : ls.length ≤ 10000) :
    Calls Try.prog 53 #[v, .int .i64 0, .int .i64 (m : Int)] w fun e w' => ∃ v', e = .returned v' ∧ OwnW w' B v' (ls.drop m) ∧ v'.ownBlock = v.ownBlock ∧ Chg (fun i => v.ownBlock = some i) w w' := by
  by_cases h0 : m = 0
  · subst h0
    have HO : Hid (OwnW w B v ls) := hown
    obtain ⟨ao, n, c, rfl, hln, hnc⟩ : ∃ ao n c, v = .slice ao n c ∧ ls.length = n ∧ n ≤ c := by
      obtain ⟨ao, c, e, h, _⟩ := hown.row
      exact ⟨ao, _, c, e, rfl, h⟩
    have hcm : c ≤ maxLen := by
      obtain ⟨ao, c', e, _, h, _⟩ := hown.row
      injection e with _ _ e3
      rw [e3]; exact h
    have hnil : ao = none → c = 0 := by
      obtain ⟨ao, c', e, _, _, h, _⟩ := hown.row
      injection e with e1 _ e3
      rw [e1, e3]; exact h
    unfold maxLen at hcm
    rw [hln] at hl
    clear hown hln hm
    have hcut : ∀ W, (Instr.slice 35 (.slice ao n c) (some (.int .i64 0)) (some (.int .i64 0)) (some (.int .i64 (n : Int)))).run Try.prog W = .ok (.slice (if n = 0 then ao else ao) 0 n) W := fun W => by
      cases ao with
      | none =>
        have := hnil rfl
        subst this
        have : n = 0 := by omega
        subst this
        go_simp
      | some ad =>
        have a1 : (0 : Int) ≤ (n : Int) := by omega
        have a2 : (n : Int) ≤ (c : Int) := by omega
        go_simp
    go_enter Try.func53, Try.ntmps53
    go_wp2
    go_ret
    exact ⟨_, rfl, HO.out, rfl, Chg.refl _ _⟩
  · rcases hown.form with ⟨e, e2⟩ | ⟨g, c, e, _⟩
    · rw [e2] at hm; simp at hm; omega
    · subst e
      obtain ⟨n, hn⟩ : ∃ n, ls.length = n := ⟨_, rfl⟩
      rw [hn] at hown hm hl ⊢
      refine (delW_some B g c n m ls w hown hn (by omega) hm hl).mono ?_
      rintro e w' ⟨rfl, h1, h2⟩
      exact ⟨_, rfl, h1, rfl, (Chg.refl _ _).grown h2 (fun k e _ => by cases e; rfl)⟩
end Go.Proofs.Ytkgecljoodofeaa
