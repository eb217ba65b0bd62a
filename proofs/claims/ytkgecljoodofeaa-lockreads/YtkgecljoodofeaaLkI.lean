/- lock: copy of wants; slices.Insert of one want, walked. Own lemmas, no statement. -/
import Derived.Test.YtkgecljoodofeaaLkG
import Derived.Lib.Overlaps
import Derived.Laws.Externs
import Derived.Laws.IdiomCopy
set_option linter.unusedSimpArgs false
set_option linter.unusedVariables false
namespace Go.Proofs.Ytkgecljoodofeaa
open Go.ChangeShapes Go.WideShapes Go.ChangeAt Go.RowKit

/-- Cells laid one behind the other in a block. -/
theorem Blk.setCells {b : Nat} {T : TypeId} : ∀ (vs : List Value) (o : Nat) {w : World} {c : Array Value}, Blk w b c T → o + vs.length ≤ c.size → Blk (w.setCells b o vs) b (c.toList.take o ++ vs ++ c.toList.drop (o + vs.length)).toArray T
  | [], o, w, c, h, _ => by
    show Blk w b _ T
    have e : (c.toList.take o ++ [] ++ c.toList.drop (o + ([] : List Value).length)).toArray = c := by simp
    rw [e]
    exact h
  | v :: vs, o, w, c, h, hl => by
    have hl' : o + (vs.length + 1) ≤ c.size := hl
    have := Blk.setCells vs (o + 1) (h.set o v) (by simp; omega)
    show Blk ((w.setCell ⟨b, o, none⟩ v).setCells b (o + 1) vs) b _ T
    have e : ((c.setIfInBounds o v).toList.take (o + 1) ++ vs ++ (c.setIfInBounds o v).toList.drop (o + 1 + vs.length)).toArray = (c.toList.take o ++ (v :: vs) ++ c.toList.drop (o + (v :: vs).length)).toArray := by
      congr 1
      have ho : o < c.toList.length := by simp; omega
      rw [Array.toList_setIfInBounds, List.take_set, List.drop_set_of_lt (by omega)]
      rw [show o + (v :: vs).length = o + 1 + vs.length by simp; omega]
      have hm : (c.toList.take o).length = o := by rw [List.length_take]; omega
      have hset : (c.toList.take o ++ [c.toList[o]]).set o v = c.toList.take o ++ [v] := by
        rw [List.set_append, if_neg (by omega), hm, Nat.sub_self]
        rfl
      rw [List.take_succ_eq_append_getElem ho, hset]
      simp
    rw [e] at this
    exact this
theorem grown_cells {w : World} {g : Nat} : ∀ (vs : List Value) (o : Nat) {w' : World}, w.grownBy w' (some g) → w.grownBy (w'.setCells g o vs) (some g)
  | [], _, _, h => h
  | v :: vs, o, w', h => grown_cells vs (o + 1) ⟨h.os, h.tape, h.output, by have := h.size; simpa [World.setCell] using this, fun k hk hn => by rw [Below.heap_setCell _ _ _ _ (fun e => hn (by rw [e]))]; exact h.block k hk hn⟩
theorem grown_drew {w w' : World} {r : Option Nat} (h : w.grownBy w' r) : w.grownBy w'.drew r := ⟨h.os, h.tape, h.output, h.size, h.block⟩
theorem grown_new {w w' : World} {r : Option Nat} (h : w.grownBy w' r) (o : Obj) : w.grownBy (w'.alloc o) r := ⟨h.os, h.tape, h.output, by have := h.size; simp; omega, fun k hk hn => by rw [Below.heap_alloc _ _ _ (Nat.lt_of_lt_of_le hk h.size)]; exact h.block k hk hn⟩
theorem grown_newset {w : World} {r : Option Nat} {g : Nat} (hg : w.heap.size ≤ g) : ∀ (vs : List Value) (o : Nat) {w' : World}, w.grownBy w' r → w.grownBy (w'.setCells g o vs) r
  | [], _, _, h => h
  | v :: vs, o, w', h => grown_newset hg vs (o + 1) ⟨h.os, h.tape, h.output, by have := h.size; simpa [World.setCell] using this, fun k hk hn => by rw [Below.heap_setCell _ _ _ _ (by show k ≠ g; omega)]; exact h.block k hk hn⟩
section
variable {α : Type}
theorem lay_shift {cur us a rest : List α} {N I : Nat} (ht : cur.take N = us) (hn : us.length = N) (hi : I ≤ N) (hc : I + a.length ≤ cur.length) (c1 : List α) (h1 : c1 = cur.take (I + a.length) ++ us.drop I ++ rest) (c2 : List α) (h2 : c2 = c1.take I ++ a ++ c1.drop (I + a.length)) : c2.take (N + a.length) = us.take I ++ a ++ us.drop I := by
  have l0 : (cur.take (I + a.length)).length = I + a.length := by rw [List.length_take]; omega
  have e1 : c1.take I = us.take I := by
    rw [h1, List.append_assoc, List.take_append_of_le_length (by omega), List.take_take, Nat.min_eq_left (by omega), ← ht, List.take_take, Nat.min_eq_left hi]
  have e2 : c1.drop (I + a.length) = us.drop I ++ rest := by
    rw [h1, List.append_assoc, List.drop_left' l0]
  rw [h2, e1, e2, ← List.append_assoc]
  rw [List.take_left' (by simp; omega)]
theorem lay_grow {us z a rest : List α} {N I : Nat} (hn : us.length = N) (hi : I ≤ N) (c1 : List α) (h1 : c1 = (us.take I ++ z).take I ++ a ++ (us.take I ++ z).drop (I + a.length)) (c2 : List α) (h2 : c2 = c1.take (I + a.length) ++ us.drop I ++ rest) : c2.take (N + a.length) = us.take I ++ a ++ us.drop I := by
  have l0 : (us.take I).length = I := by rw [List.length_take]; omega
  have e1 : c1.take (I + a.length) = us.take I ++ a := by
    rw [h1, List.take_left' l0]
    exact List.take_left' (by simp; omega)
  rw [h2, e1, List.take_left' (by simp; omega)]
end
/-- A row in a block that is known. -/
theorem ownW_of {W : World} {B g cap : Nat} {cur : Array Value} {ls : List Wn} {n : Nat} (h : Blk W g cur 55) (hB : B ≤ g) (hn : ls.length = n) (hc : n ≤ cap) (hm : cap ≤ maxLen) (hs : cur.size = cap * 3) (ht : cur.toList.take (n * 3) = flatW ls) : OwnW W B (.slice (some ⟨g, 0, none⟩) n cap) ls := by
  subst hn
  exact ⟨flatW_len ls, .inr ⟨g, cap, cur, rfl, hB, h, hc, hm, hs, ht⟩⟩
/-- 'copy' of wants between two blocks, or in one. -/
theorem run_copyW (w : World) (ty : TypeId) (b o dLen dCap : Nat) (a : Addr) (sLen sCap k : Nat) (cs : List Value) (cur : Array Value) (hb : Blk w b cur 55)
    (hn : k = Nat.min sLen dLen) (hl : cs.length = k * 3) (hsrc : ∀ j v, cs[j]? = some v → w.cell? (a.add j) = some v) (hc : o + k * 3 ≤ cur.size) (h1 : ∀ v ∈ cs, v.oneCell' = true) :
    (Builtin.copy_ #[35, 35] ty #[.slice (some ⟨b, o, none⟩) dLen dCap, .slice (some a) sLen sCap]).run Try.prog w = .ok (.int .i64 (k : Int)) (w.setCells b o cs) := by
  have hld := run_loadCells_list (P := Try.prog) w a cs hsrc
  have hst := run_storeCells_cells (P := Try.prog) b o cs 0 w (fun j hj => by rw [hb.cell, Nat.add_zero, Array.getElem?_eq_getElem (by omega)]; rfl) (fun j hj => hb.frozen _) h1
  obtain ⟨i0, hi, hz0, hz1, hz2⟩ := info_parts infoW
  rw [hl] at hld
  simp [Builtin.copy_, run_underlying Try.underlying35, Builtin.lenOf, Builtin.firstCells, sizeOf, typeInfo, hi, hz1, ← hn, hld, hst, goInt]
theorem exec_copyW {ρ : Operand → Value} {o : Oper} {w w' : World} {s x : Operand} {t : TypeId} {v vx v' : Value} (ho : o.op = .call { callee := .builtin .copy, args := #[s, x], argTypes := #[t, t] }) (hs : ρ s = v) (hx : ρ x = vx) (hr : (Builtin.copy_ #[t, t] o.type #[v, vx]).run Try.prog w = .ok v' w') : (execOp ρ o).run Try.prog w = .ok (.value v') w' := by
  unfold execOp
  simp only [ho, resolve, invoke, builtin, Sem.run_bind, Sem.run_pure, Result.andThen_ok, List.map_toArray, List.map_cons, List.map_nil, hs, hx, hr]
theorem wpList_append_runW (w : World) {ops : Array Oper} {rest : List Oper} {o : Oper} {a : Act} {Q : Exit → Act → World → Prop} (hgd : o.guard = none) (d s : Operand) (t t' : TypeId)
    (ho : o.op = .call { callee := .builtin .append, args := #[d, s], argTypes := #[t, t'] }) (v u : Value) (hd : a.eval d = v) (hs : a.eval s = u) {v' : Value} {w' : World}
    (hr : (Builtin.append_ #[t, t'] o.type #[v, u]).run Try.prog w = .ok v' w') (h : wpList Try.prog ops Q rest (a.put o.dst v') w') : wpList Try.prog ops Q (o :: rest) a w := by
  refine wpList_plain hgd fun K hK => ?_
  unfold Oper.wp execOp
  simp only [ho, resolve, invoke, builtin, Sem.run_bind, Sem.run_pure, Result.andThen_ok, List.map_toArray, List.map_cons, List.map_nil, hd, hs, hr]
  exact hK _ _ h

/-- What Insert hands back. -/
def InsP (w : World) (B : Nat) (v : Value) (ls : List Wn) (e : Ending) (w' : World) : Prop := ∃ v', e = .returned v' ∧ OwnW w' B v' ls ∧ (v'.ownBlock = v.ownBlock ∨ v'.ownBlock = some w.heap.size) ∧ w.grownBy w' v.ownBlock

set_option maxRecDepth 100000 in
set_option maxHeartbeats 4000000 in
theorem insEnd_any (w : World) (B vb : Nat) (v : Value) (ls : List Wn) (x : Wn) (hown : OwnW w B v ls) (hx : Blk w vb x.cs.toArray 55) (hl : ls.length ≤ 10000) (hB : B ≤ w.heap.size) :
    Calls Try.prog 29 #[v, .int .i64 (ls.length : Int), .slice (some ⟨vb, 0, none⟩) 1 1] w (InsP w B v (ls ++ [x])) := by
  have HO : Hid (OwnW w B v ls) := hown
  have hxr : RowW w (.slice (some ⟨vb, 0, none⟩) 1 1) [x] := by
    refine ⟨_, 1, rfl, Nat.le_refl _, by unfold maxLen; omega, (fun e => by cases e), (fun e => by cases e), fun ad e i hi => ?_⟩
    cases e
    have : i = 0 := by simpa using hi
    subst this
    have a0 := hx.cell 0
    have a1 := hx.cell 1
    have a2 := hx.cell 2
    simp [Wn.cs] at a0 a1 a2
    simp [Addr.add]
    exact ⟨a0, a1, a2⟩
  have HXR : Hid (RowW w (.slice (some ⟨vb, 0, none⟩) 1 1) [x]) := hxr
  have hform : ∃ ao c, v = .slice ao ls.length c ∧ ls.length ≤ c ∧ (ao = none → c = 0) ∧ c ≤ maxLen := by
    obtain ⟨ao, c, e, h1, h2, hz, _⟩ := hown.row
    exact ⟨ao, c, e, h1, hz, h2⟩
  obtain ⟨ao, c, rfl, h1, h2, h3⟩ := hform
  have HL : Hid (ls.length ≤ 10000) := hl
  have hsl := fun W => sliceW_from ao ls.length c ls.length (Nat.le_refl _) h1 h2 W
  generalize (if c = ls.length then ao else ao.map (·.add (ls.length * 3))) = qa at hsl
  have hJ : Hid (∀ v' w', OwnW w' B v' (ls ++ [x]) → w.grownBy w' (Value.slice ao ls.length c).ownBlock → (v'.ownBlock = (Value.slice ao ls.length c).ownBlock ∨ v'.ownBlock = some w.heap.size) → InsP w B (.slice ao ls.length c) (ls ++ [x]) (.returned v') w') := fun v' w' a b d => ⟨v', rfl, a, d, b⟩
  obtain ⟨n, hn⟩ : ∃ n, ls.length = n := ⟨_, rfl⟩
  rw [hn] at hsl h1 hl HO hJ ⊢
  unfold maxLen at h3
  clear hown hx hxr
  have HN : Hid (ls.length = n) := hn
  clear hn
  go_enter Try.func29, Try.ntmps29
  go_wp2_with (at_builtin; refine wpList_joinW w rfl _ _ rfl B _ _ ls [x] HO.out rfl HXR.out rfl (by have := HL.out; simp; omega) hB ?_)
  intro v' w' k1 k2 k3
  have HK : Hid (InsP w B (.slice ao n c) (ls ++ [x]) (.returned v') w') := hJ.out v' w' k1 k2 k3
  clear k1 k2 k3 hJ HO HXR
  go_wp2
  go_ret
  exact HK.out
set_option maxRecDepth 100000 in
set_option maxHeartbeats 4000000 in
theorem insRoom_any (w : World) (B vb g c i : Nat) (ls : List Wn) (x : Wn) (hown : OwnW w B (.slice (some ⟨g, 0, none⟩) ls.length c) ls) (hx : Blk w vb x.cs.toArray 55) (hne : vb ≠ g) (hi : i < ls.length) (hroom : ls.length + 1 ≤ c) :
    Calls Try.prog 29 #[.slice (some ⟨g, 0, none⟩) ls.length c, .int .i64 (i : Int), .slice (some ⟨vb, 0, none⟩) 1 1] w (InsP w B (.slice (some ⟨g, 0, none⟩) ls.length c) (ls.take i ++ x :: ls.drop i)) := by
  obtain ⟨cur, hb, hcs, ht, hBg, hcm⟩ : ∃ cur, Blk w g cur 55 ∧ cur.size = c * 3 ∧ cur.toList.take (ls.length * 3) = flatW ls ∧ B ≤ g ∧ c ≤ maxLen := by
    rcases hown.form with ⟨e, _⟩ | ⟨g', c', e, h1, _, h3, h4, cur, h5, h6, h7⟩
    · cases e
    · simp only [Value.slice.injEq, Option.some.injEq, Addr.mk.injEq, and_true, true_and] at e
      obtain ⟨rfl, rfl⟩ := e
      exact ⟨cur, h5, h6, h7, h1, h4⟩
  have hfl := flatW_len ls
  obtain ⟨n, hn⟩ : ∃ n, ls.length = n := ⟨_, rfl⟩
  have hdl : ((flatW ls).drop (i * 3)).length = (n - i) * 3 := by rw [List.length_drop, hfl, hn]; omega
  have hcell : ∀ j v, (flatW ls)[j]? = some v → w.cell? ⟨g, j, none⟩ = some v := fun j v hj => by
    rw [hb.cell, ← Array.getElem?_toList]
    rw [← ht, List.getElem?_take] at hj
    split at hj
    · exact hj
    · cases hj
  have hcp1 : ∀ ty dc sc, (Builtin.copy_ #[35, 35] ty #[.slice (some ⟨g, (i + 1) * 3, none⟩) (n - i) dc, .slice (some ⟨g, i * 3, none⟩) (n + 1 - i) sc]).run Try.prog w.drew = .ok (.int .i64 ((n - i : Nat) : Int)) (w.drew.setCells g ((i + 1) * 3) ((flatW ls).drop (i * 3))) := fun ty dc sc =>
    run_copyW w.drew ty g ((i + 1) * 3) (n - i) dc ⟨g, i * 3, none⟩ (n + 1 - i) sc (n - i) _ cur hb (by simp only [Nat.min_def]; split <;> omega) hdl (fun j v hj => by
      rw [List.getElem?_drop] at hj
      have := hcell _ v hj
      rw [Addr.add_lit]
      exact this) (by omega) (fun v hv => flatW_one ls v (List.mem_of_mem_drop hv))
  have hs1 : Blk (w.drew.setCells g ((i + 1) * 3) ((flatW ls).drop (i * 3))) g _ 55 := Blk.setCells ((flatW ls).drop (i * 3)) ((i + 1) * 3) hb.drew (by rw [hdl]; omega)
  obtain ⟨W1, hW1⟩ : ∃ W1, W1 = w.drew.setCells g ((i + 1) * 3) ((flatW ls).drop (i * 3)) := ⟨_, rfl⟩
  have hg1 : w.grownBy W1 (some g) := by rw [hW1]; exact grown_cells _ _ (grown_drew (World.grownBy.refl _ _))
  rw [← hW1] at hs1 hcp1
  have hx1 : Blk W1 vb x.cs.toArray 55 := hx.of (hg1.block vb hx.lt (fun e => hne (by cases e; rfl)))
  have hcp2 : ∀ ty dc, (Builtin.copy_ #[35, 35] ty #[.slice (some ⟨g, i * 3, none⟩) (n + 1 - i) dc, .slice (some ⟨vb, 0, none⟩) 1 1]).run Try.prog W1 = .ok (.int .i64 1) (W1.setCells g (i * 3) x.cs) := fun ty dc =>
    run_copyW (k := 1) W1 ty g (i * 3) (n + 1 - i) dc ⟨vb, 0, none⟩ 1 1 _ _ hs1 (by simp only [Nat.min_def]; split <;> omega) rfl (fun j v hj => by
      rw [add0, hx1.cell]
      simpa using hj) (by simp [hdl]; omega) (cs_oneW x)
  have hs2 : Blk (W1.setCells g (i * 3) x.cs) g _ 55 := Blk.setCells x.cs (i * 3) hs1 (by simp [hdl, Wn.cs_len]; omega)
  have hg2 : w.grownBy (W1.setCells g (i * 3) x.cs) (some g) := grown_cells _ _ hg1
  have HRES : Hid (InsP w B (.slice (some ⟨g, 0, none⟩) ls.length c) (ls.take i ++ x :: ls.drop i) (.returned (.slice (some ⟨g, 0, none⟩) (n + 1) c)) (W1.setCells g (i * 3) x.cs)) := by
    refine ⟨_, rfl, ownW_of hs2 hBg (by rw [List.length_append, List.length_cons, List.length_take, List.length_drop]; omega) (by omega) hcm ?_ ?_, .inl rfl, hg2⟩
    · simp [hdl, Wn.cs_len]; omega
    · have := lay_shift (cur := cur.toList) (us := flatW ls) (a := x.cs) (rest := cur.toList.drop ((i + 1) * 3 + ((flatW ls).drop (i * 3)).length)) (N := n * 3) (I := i * 3) (by rw [← hn]; exact ht) (by rw [hfl, hn]) (by omega) (by rw [Wn.cs_len, Array.length_toList]; omega) _ (by rw [Wn.cs_len, show i * 3 + 3 = (i + 1) * 3 by omega]) _ rfl
      rw [Wn.cs_len] at this
      rw [show (n + 1) * 3 = n * 3 + 3 by omega]
      simp only [List.toList_toArray] at this ⊢
      rw [show x.cs.length = 3 from rfl]
      rw [this, show ls.take i ++ x :: ls.drop i = ls.take i ++ [x] ++ ls.drop i by simp, flatW_app, flatW_app, ← flatW_take, ← flatW_drop]
      simp [flatW]
  have hov : ∀ lb cb, (callFunc 47 #[.slice (some ⟨vb, 0, none⟩) 1 1, .slice (some ⟨g, (i + 1) * 3, none⟩) lb cb]).run Try.prog w = .ok (.value (.bool false)) w := fun lb cb => by
    rw [run_callFunc_extern Try.func47 (by kernel_rfl) (by kernel_rfl) (by kernel_rfl) (e := Extern.SlicesOverlaps.overlaps #[35, 35] #[4]) (by kernel_rfl),
      Lib.run_overlaps_apart w 35 4 55 Try.underlying35 3 (fun w => by kernel_rfl) ⟨vb, 0, none⟩ ⟨g, (i + 1) * 3, none⟩ 1 1 lb cb hne 55 55 3 (c * 3) (by unfold World.shape?; rw [hx]; rfl) (by unfold World.shape?; rw [hb]; simp [hcs]) (by omega) (hx.frozen _) (hx.frozen _)]
    rfl
  have HCP1 : Hid _ := hcp1
  have HCP2 : Hid _ := hcp2
  rw [hn] at hi hroom HRES ⊢
  have HN : Hid (ls.length = n) := hn
  unfold maxLen at hcm
  have hz2 : ((i : Int) == (n : Int)) = false := beq_eq_false_iff_ne.2 (by omega)
  have hin : i ≤ n := by omega
  have htn : ((i : Int) + 1).toNat = i + 1 := by omega
  have htn2 : ((n : Int) + 1).toNat = n + 1 := by omega
  have hb1 : (0 : Int) ≤ (i : Int) + 1 := by omega
  have hb2 : ¬ (c = i + 1) := by omega
  have hb4 : ¬ (c = i) := by omega
  have hb5 : ¬ ((c : Int) < (n : Int) + 1) := by omega
  have hb6 : (n : Int) + 1 ≤ (c : Int) := by omega
  have hb7 : (i : Int) + 1 ≤ (n : Int) + 1 := by omega
  have hb8 : (i : Int) ≤ (n : Int) + 1 := by omega
  have hcn : n ≤ c := by omega
  clear hW1 hcp1 hcp2 hs1 hs2 hg1 hg2 hx1 hown hb ht hcell hfl hdl hn hcs
  go_enter Try.func29, Try.ntmps29
  go_wp2_with (simp only [hov])
  clear hov
  refine wp_region_seg (fun _ => True) (by kernel_rfl) ?_
  haveI nA : Nonempty (Cls fun _ => True) := ⟨⟨w, trivial⟩⟩
  refine wpAnyH_seg (by kernel_rfl) (fun _ _ _ h => h) [0, 1, 2, 3, 4, 5, 6, 7] 1 _ _ _ trivial (by kernel_rfl) ?_
  simp only [opsAt, List.getElem?_toArray, List.getElem?_cons_zero, List.getElem?_cons_succ, List.cons_append, List.nil_append]
  repeat (go_big_quiet_step (fail))
  refine wpQuiet_nil ?_
  refine wpAnyH_all (rs := [8]) (fuel := 0) (by kernel_rfl) (by simp) fun j hj => ?_
  obtain rfl : j = 8 := by simpa using hj
  clear hj
  refine wpOp_value 77 rfl (by kernel_rfl) rfl (exec_copyW rfl rfl rfl (HCP1.out _ _ _)) ?_
  refine ⟨trivial, ?_⟩
  simp only [Act.put, List.setIfInBounds_toArray, List.set_cons_succ, List.set_cons_zero]
  refine wpAnyH_done (by kernel_rfl) (NoPanic.normal ?_) 0
  clear nA HCP1
  have hcp2 := HCP2.out
  go_wp2
  go_ret
  exact HRES.out
end Go.Proofs.Ytkgecljoodofeaa
