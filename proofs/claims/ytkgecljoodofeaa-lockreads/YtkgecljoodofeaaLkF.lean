/- lock: rows of wants of a call's own; slices.Grow of nil and Concat of two rows. Own lemmas, no statement. -/
import Derived.Test.YtkgecljoodofeaaLkE
import Derived.Maps.AppendAt
import Derived.Laws.OwnMore
import Derived.Lib.AppendZerosOnto
import Derived.Deep.RegionHeld3
set_option linter.unusedSimpArgs false
set_option linter.unusedVariables false
namespace Go.Proofs.Ytkgecljoodofeaa
open Go.ChangeShapes Go.WideShapes Go.ChangeAt Go.RowKit

def zW : Value := .agg #[.int .u64 0, .int .i64 0, .int .i64 0]
theorem infoW : (Try.prog.info? 55).map (fun i => (i.zero, i.size, i.bytes)) = some (some zW, 3, 24) := by kernel_rfl
def flatW (ls : List Wn) : List Value := (ls.map Wn.cs).flatten
theorem flatW_len (ls : List Wn) : (flatW ls).length = ls.length * 3 := by
  unfold flatW
  induction ls with
  | nil => rfl
  | cons x t ih => simp only [List.map_cons, List.flatten_cons, List.length_append, ih, Wn.cs_len, List.length_cons]; omega
theorem flatW_app (a b : List Wn) : flatW (a ++ b) = flatW a ++ flatW b := by unfold flatW; rw [List.map_append, List.flatten_append]
theorem flatW_drop (ls : List Wn) (i : Nat) : (flatW ls).drop (i * 3) = flatW (ls.drop i) := by
  unfold flatW
  induction ls generalizing i with
  | nil => simp
  | cons x t ih =>
    cases i with
    | zero => simp
    | succ i =>
      simp only [List.map_cons, List.flatten_cons, List.drop_succ_cons]
      rw [← ih i, List.drop_append, Wn.cs_len, show (i + 1) * 3 - 3 = i * 3 by omega, List.drop_eq_nil_of_le (by rw [Wn.cs_len]; omega), List.nil_append]
theorem flatW_take (ls : List Wn) (i : Nat) : (flatW ls).take (i * 3) = flatW (ls.take i) := by
  unfold flatW
  induction ls generalizing i with
  | nil => simp
  | cons x t ih =>
    cases i with
    | zero => simp
    | succ i =>
      simp only [List.map_cons, List.flatten_cons, List.take_succ_cons]
      rw [← ih i, List.take_append, Wn.cs_len, show (i + 1) * 3 - 3 = i * 3 by omega, List.take_of_length_le (by rw [Wn.cs_len]; omega)]
theorem cs_oneW (x : Wn) : ∀ u ∈ x.cs, u.oneCell' = true := by
  intro u hu
  simp [Wn.cs] at hu
  rcases hu with rfl | rfl | rfl <;> rfl
theorem flatW_one (ls : List Wn) : ∀ u ∈ flatW ls, u.oneCell' = true := by
  intro u hu
  obtain ⟨c, hc, hu⟩ := List.mem_flatten.1 hu
  obtain ⟨x, hx, rfl⟩ := List.mem_map.1 hc
  exact cs_oneW x u hu
theorem flatW_at : ∀ {ls : List Wn} {i : Nat} (h : i < ls.length), (flatW ls)[i * 3]? = some (.int .u64 ls[i].num) ∧ (flatW ls)[i * 3 + 1]? = some (.int .i64 ls[i].node) ∧ (flatW ls)[i * 3 + 2]? = some (.int .i64 ls[i].mode)
  | x :: t, 0, _ => by simp [flatW, Wn.cs]
  | x :: t, i + 1, h => by
    have := flatW_at (ls := t) (i := i) (by simpa using h)
    have e : flatW (x :: t) = x.cs ++ flatW t := by simp [flatW]
    rw [e]
    simp only [List.getElem_cons_succ]
    rw [List.getElem?_append_right (by rw [Wn.cs_len]; omega), List.getElem?_append_right (by rw [Wn.cs_len]; omega), List.getElem?_append_right (by rw [Wn.cs_len]; omega), Wn.cs_len, show (i + 1) * 3 - 3 = i * 3 by omega, show (i + 1) * 3 + 1 - 3 = i * 3 + 1 by omega, show (i + 1) * 3 + 2 - 3 = i * 3 + 2 by omega]
    exact this
/-- A row of wants that is a call's own. -/
def OwnW (w : World) (B : Nat) (v : Value) (ls : List Wn) : Prop := w.ownsRow B 55 3 v ls.length (flatW ls)
theorem add0 (g j : Nat) : (⟨g, 0, none⟩ : Addr).add j = ⟨g, j, none⟩ := by by_cases h0 : j = 0 <;> simp [Addr.add, h0]
theorem OwnW.nil (w : World) (B : Nat) : OwnW w B (.slice none 0 0) [] := World.ownsRow_nil w B _ 3
theorem OwnW.form {w : World} {B : Nat} {v : Value} {ls : List Wn} (h : OwnW w B v ls) : (v = .slice none 0 0 ∧ ls = []) ∨ ∃ g c, v = .slice (some ⟨g, 0, none⟩) ls.length c ∧ B ≤ g ∧ g < w.heap.size ∧ ls.length ≤ c ∧ c ≤ maxLen ∧ ∃ cur, Blk w g cur 55 ∧ cur.size = c * 3 ∧ cur.toList.take (ls.length * 3) = flatW ls := by
  rcases h.2 with ⟨rfl, h0⟩ | ⟨g, c, cur, rfl, h1, h2, h3, h4, h5, h6⟩
  · exact .inl ⟨rfl, List.eq_nil_of_length_eq_zero h0⟩
  · exact .inr ⟨g, c, rfl, h1, Blk.lt h2, h3, h4, cur, h2, h5, h6⟩
theorem OwnW.row {w : World} {B : Nat} {v : Value} {ls : List Wn} (h : OwnW w B v ls) : RowW w v ls := by
  have hc := fun (g : Nat) (hg : v.ownBlock = some g) => h.cells hg
  rcases h.form with ⟨rfl, rfl⟩ | ⟨g, c, rfl, h1, _, h3, h4, _⟩
  · exact ⟨none, 0, rfl, Nat.le_refl _, Nat.zero_le _, fun _ => rfl, fun _ => rfl, fun ad e => by cases e⟩
  · refine ⟨_, c, rfl, h3, h4, (fun e => by cases e), (fun e => by cases e), fun ad e i hi => ?_⟩
    cases e
    obtain ⟨a0, a1, a2⟩ := flatW_at hi
    have b0 := hc g rfl _ _ a0
    have b1 := hc g rfl _ _ a1
    have b2 := hc g rfl _ _ a2
    rw [add0] at b0 b1 b2 ⊢
    exact ⟨b0, b1, b2⟩
theorem OwnW.mono {w : World} {B B' : Nat} {v : Value} {ls : List Wn} (h : OwnW w B v ls) (hb : B' ≤ B) : OwnW w B' v ls := by
  refine ⟨h.1, ?_⟩
  rcases h.2 with hn | ⟨g, cap, cur, rfl, hbg, rest⟩
  · exact .inl hn
  · exact .inr ⟨g, cap, cur, rfl, Nat.le_trans hb hbg, rest⟩
theorem OwnW.kept {w w' : World} {B : Nat} {v : Value} {ls : List Wn} (h : OwnW w B v ls) (hb : ∀ g, v.ownBlock = some g → w'.heap[g]? = w.heap[g]?) : OwnW w' B v ls := by
  refine ⟨h.1, ?_⟩
  rcases h.2 with hn | ⟨g, cap, cur, rfl, hbg, hgg, rest⟩
  · exact .inl hn
  · exact .inr ⟨g, cap, cur, rfl, hbg, by rw [hb g rfl]; exact hgg, rest⟩
theorem OwnW.below {w w' : World} {B : Nat} {v : Value} {ls : List Wn} (h : OwnW w B v ls) (hb : Ext w w') : OwnW w' B v ls := h.kept fun g hg => hb.block g (World.ownsRow.lt h g hg).2
theorem RowW.form {w : World} {v : Value} {ls : List Wn} (h : RowW w v ls) : (v = .slice none 0 0 ∧ ls = []) ∨ ∃ ad c, v = .slice (some ad) ls.length c ∧ ls.length ≤ c ∧ c ≤ maxLen ∧ RowAt w (some ad) ls := by
  obtain ⟨ao, c, rfl, h1, h2, hz, h3⟩ := h
  cases ao with
  | none =>
    have h0 := h3.1 rfl
    have hc := hz rfl
    have hl := List.eq_nil_of_length_eq_zero h0
    subst hl
    subst hc
    exact .inl ⟨rfl, rfl⟩
  | some ad => exact .inr ⟨ad, c, rfl, h1, h2, h3⟩
theorem RowAt.cells {w : World} {ad : Addr} {ls : List Wn} (h : RowAt w (some ad) ls) : ∀ j u, (flatW ls)[j]? = some u → w.cell? (ad.add j) = some u := by
  intro j u hj
  have hjl : j < ls.length * 3 := by rw [← flatW_len]; exact (List.getElem?_eq_some_iff.1 hj).1
  obtain ⟨i, k, hk, rfl⟩ : ∃ i k, k < 3 ∧ j = i * 3 + k := ⟨j / 3, j % 3, Nat.mod_lt _ (by decide), by omega⟩
  have hi : i < ls.length := by omega
  obtain ⟨a0, a1, a2⟩ := flatW_at hi
  obtain ⟨b0, b1, b2⟩ := h.2 ad rfl i hi
  have e : ∀ k, 0 < k → ad.add (i * 3 + k) = ⟨(ad.add (i * 3)).block, (ad.add (i * 3)).off + k, none⟩ := fun k hk => by
    unfold Addr.add
    rw [if_neg (by omega)]
    split
    · rename_i h0; rw [h0]; simp
    · simp [Nat.add_assoc]
  rcases (show k = 0 ∨ k = 1 ∨ k = 2 by omega) with rfl | rfl | rfl
  · rw [Nat.add_zero] at hj ⊢; rw [a0] at hj; rw [b0]; exact hj
  · rw [a1] at hj; rw [e 1 (by decide), b1]; exact hj
  · rw [a2] at hj; rw [e 2 (by decide), b2]; exact hj
/-- 'append(a, b...)' of an own row and any other one. -/
theorem run_joinW (W : World) (ty : TypeId) (B : Nat) (v vx : Value) (ls xs : List Wn) (hown : OwnW W B v ls) (hx : RowW W vx xs) (hl : ls.length + xs.length ≤ 1000000) (hB : B ≤ W.heap.size) :
    ∃ v' W', (Builtin.append_ #[35, 35] ty #[v, vx]).run Try.prog W = .ok v' W' ∧ OwnW W' B v' (ls ++ xs) ∧ W.grownBy W' v.ownBlock ∧ (v'.ownBlock = v.ownBlock ∨ v'.ownBlock = some W.heap.size) := by
  obtain ⟨i0, hi, hz0, hz1, hz2⟩ := info_parts infoW
  rcases hx.form with ⟨rfl, rfl⟩ | ⟨ad, c, rfl, h1, h2, h3⟩
  · have hr := run_append_owned_none (P := Try.prog) W B 35 ty 55 i0 3 Try.underlying35 hi v ls.length (flatW ls) hown
    exact ⟨v, W, hr, by rw [List.append_nil]; exact hown, World.grownBy.refl _ _, .inl rfl⟩
  · obtain ⟨v', w', hr, k1, k2, _, k4⟩ := run_append_own_at (P := Try.prog) W B 35 ty 55 i0 zW 3 24 Try.underlying35 hi hz0 hz1 hz2 rfl (by decide) v ls.length (flatW ls) hown ad xs.length c (flatW xs) (flatW_len xs) h3.cells (flatW_one xs) (by unfold maxLen; omega) (by omega) hB
    refine ⟨v', w', hr, ?_, k2, k4⟩
    unfold OwnW
    rw [List.length_append, flatW_app]
    exact k1
theorem wpList_joinW {ops : Array Oper} {rest : List Oper} {o : Oper} {a : Act} {Q : Exit → Act → World → Prop} (w : World) (hgd : o.guard = none) (s x : Operand)
    (ho : o.op = .call { callee := .builtin .append, args := #[s, x], argTypes := #[35, 35] })
    (B : Nat) (v vx : Value) (ls xs : List Wn) (hown : OwnW w B v ls) (hs : a.eval s = v) (hsrc : RowW w vx xs) (hx : a.eval x = vx) (hl : ls.length + xs.length ≤ 1000000) (hB : B ≤ w.heap.size)
    (hK : ∀ v' w', OwnW w' B v' (ls ++ xs) → w.grownBy w' v.ownBlock → (v'.ownBlock = v.ownBlock ∨ v'.ownBlock = some w.heap.size) → wpList Try.prog ops Q rest (a.put o.dst v') w') :
    wpList Try.prog ops Q (o :: rest) a w := by
  refine wpList_plain hgd fun K hK' => ?_
  obtain ⟨v', w', hr, k1, k2, k3⟩ := run_joinW w o.type B v vx ls xs hown hsrc hl hB
  unfold Oper.wp execOp
  simp only [ho, resolve, invoke, builtin, Sem.run_bind, Sem.run_pure, Result.andThen_ok, List.map_toArray, List.map_cons, List.map_nil, hs, hx, hr]
  exact hK' _ _ (hK v' w' k1 k2 k3)
/-- 'append(nil, make([]Want, n)...)'. -/
theorem wpList_zerosW {ops : Array Oper} {rest : List Oper} {o : Oper} {a : Act} {Q : Exit → Act → World → Prop} (w : World) (hgd : o.guard = none) (s x : Operand)
    (ho : o.op = .call { callee := .builtin .append, args := #[s, x], argTypes := #[35, 3] })
    (n : Nat) (h0 : 0 < n) (hs : a.eval s = .slice none 0 0) (hx : a.eval x = .int .i64 (n : Int)) (hl : n ≤ 1000000)
    (h : ∀ c cur w', n ≤ c → c ≤ maxLen → cur.size = c * 3 → w' = w.drew.alloc (.cells cur 55) → wpList Try.prog ops Q rest (a.put o.dst (.slice (some ⟨w.heap.size, 0, none⟩) n c)) w') : wpList Try.prog ops Q (o :: rest) a w := by
  refine wpList_plain hgd fun K hK => ?_
  obtain ⟨i, hi, hz, hs1, hb1⟩ := info_parts infoW
  have hr := Lib.run_append_grow_zeros (P := Try.prog) w 35 3 o.type 55 i zW .i64 .i64 Try.underlying35 Try.underlying3 hi hz none 0 0 [] (run_firstCells_none _ _ _ _ _) n h0 (by omega) (by omega) (by omega) (by rw [hb1]; omega) (growslice_fits (by omega) (by rw [hb1]; omega))
  simp only [Nat.zero_add] at hr
  have hge := grownCap_ge w n 0 55
  have hcm2 : grownCap w n 0 55 ≤ maxLen := grownCap_le_maxLen w n 0 55 (by unfold maxLen; omega)
  unfold Oper.wp execOp
  simp only [ho, resolve, invoke, builtin, Sem.run_bind, Sem.run_pure, Result.andThen_ok, List.map_toArray, List.map_cons, List.map_nil, hs, hx, hr]
  refine hK _ _ (h _ _ _ hge hcm2 ?_ rfl)
  simp [size_zeroCells, zW, Value.cells]
  omega
set_option maxHeartbeats 1000000 in
theorem growW_any (n : Nat) (w : World) (hn : n ≤ 1000000) :
    Calls Try.prog 58 #[.slice none 0 0, .int .i64 (n : Int)] w fun e w' => ∃ v, e = .returned v ∧ OwnW w' w.heap.size v [] ∧ Ext w w' := by
  go_enter Try.func58, Try.ntmps58
  by_cases h0 : n = 0
  · subst h0
    go_wp2
    go_ret
    exact ⟨_, rfl, OwnW.nil _ _, Ext.refl _⟩
  · have hp1 : 0 < n := by omega
    have hp2 : (0 : Int) < (n : Int) := by omega
    go_wp2_with (at_builtin; refine wpList_zerosW w rfl _ _ rfl n hp1 rfl rfl hn ?_)
    intro c cur w' hc hcm hcs hw
    have HO : Hid (OwnW w' w.heap.size (.slice (some ⟨w.heap.size, 0, none⟩) 0 c) []) := by
      refine ⟨rfl, .inr ⟨w.heap.size, c, cur, rfl, Nat.le_refl _, ?_, Nat.zero_le _, hcm, hcs, rfl⟩⟩
      rw [hw]
      exact heap_alloc_new w.drew _
    have HB : Hid (Ext w w') := by rw [hw]; exact Below.alloc (Below.drew (Below.refl _ _)) (Nat.le_refl _) _
    clear hw hcs
    go_wp2
    go_ret
    exact ⟨_, rfl, HO.out, HB.out⟩
/-- A row of rows of wants. -/
def RowR (W : World) (ad : Addr) (ls : List (List Wn)) : Prop := ∀ i l, ls[i]? = some l → ∃ ao n c, W.cell? (ad.add i) = some (.slice ao n c) ∧ RowW W (.slice ao n c) l
theorem RowR.below {W W' : World} {ad : Addr} {ls : List (List Wn)} (h : RowR W ad ls) (hb : Ext W W') : RowR W' ad ls := fun i l hl => by
  obtain ⟨ao, n, c, h1, h2⟩ := h i l hl
  exact ⟨ao, n, c, (Below.cell hb (World.block_lt_of_cell? W _ h1)).trans h1, h2.below hb⟩
theorem flatL_take {ls : List (List Wn)} {k : Nat} (h : k < ls.length) : (ls.take (k + 1)).flatten = (ls.take k).flatten ++ ls[k] := by
  rw [List.take_succ_eq_append_getElem h, List.flatten_append]
  simp
theorem flatL_le {ls : List (List Wn)} (k : Nat) : (ls.take k).flatten.length ≤ ls.flatten.length := by
  have : ls.flatten = (ls.take k).flatten ++ (ls.drop k).flatten := by rw [← List.flatten_append, List.take_append_drop]
  rw [this]; simp
set_option maxHeartbeats 2000000 in
theorem concatW_any (ad : Addr) (c : Nat) (ls : List (List Wn)) (w : World) (hr : RowR w ad ls) (hl : 0 < ls.length ∧ ls.length ≤ 1000) (hf : ls.flatten.length ≤ 1000000) :
    Calls Try.prog 46 #[.slice (some ad) ls.length c] w fun e w' => ∃ v, e = .returned v ∧ OwnW w' w.heap.size v ls.flatten ∧ Ext w w' := by
  have HR : Hid (RowR w ad ls) := hr
  have HT : Hid (∀ k, (ls.take k).flatten.length ≤ 1000000) := fun k => Nat.le_trans (flatL_le k) hf
  obtain ⟨n, hn⟩ : ∃ n, ls.length = n := ⟨_, rfl⟩
  have HN : Hid (ls.length = n) := hn
  have h1000 : n ≤ 1000 := by omega
  rw [hn]
  clear hr hn hf hl
  go_enter Try.func46, Try.ntmps46
  go_wp2
  go_loopw [3, 11] (fun s i wr => ∃ k : Nat, i = .int .i64 k ∧ k ≤ n ∧ s = .int .i64 ((ls.take k).flatten.length : Int) ∧ w = wr) (fun _ i _ => n - (intOf i).toNat)
  case atStart => exact ⟨0, rfl, Nat.zero_le _, by simp, rfl⟩
  case round =>
    obtain ⟨k, rfl, hk, rfl, rfl⟩ := hrel
    by_cases hlt : k < n
    · have hkl : k < ls.length := by rw [HN.out]; exact hlt
      obtain ⟨ao, m, cc, y1, y2⟩ := HR.out k _ (List.getElem?_eq_getElem hkl)
      have hm : m = ls[k].length := by
        obtain ⟨_, _, e, _⟩ := y2
        injection e
      have HS : Hid ((ls.take (k + 1)).flatten.length = (ls.take k).flatten.length + m) := by show _ = _; rw [flatL_take hkl, hm]; simp
      have hb1 := HT.out (k + 1)
      rw [HS.out] at hb1
      have hi2 : (k : Int) < (n : Int) := by omega
      clear hm y2
      generalize (ls.take k).flatten.length = s at *
      go_wp2
      go_roundw
      case rel => exact ⟨k + 1, by go_num, hlt, by rw [HS.out]; go_num, trivial⟩
      case measure => simp [intOf]; omega
    · have hkn : k = n := by omega
      have hb1 := HT.out k
      have HG : Hid (Calls Try.prog 58 #[.slice none 0 0, .int .i64 ((ls.take k).flatten.length : Int)] w _) := growW_any _ w hb1
      clear hkn
      generalize (ls.take k).flatten.length = s at *
      go_wp2_with fail
      refine HG.out.mono ?_
      rintro e w1 ⟨v1, rfl, ho, y⟩
      have HO : Hid (OwnW w1 w.heap.size v1 []) := ho
      have HY : Hid (Ext w w1) := y
      clear ho y HG
      go_wp2
      go_loopw [6, 27] (fun v i wr => ∃ k : Nat, i = .int .i64 k ∧ k ≤ n ∧ OwnW wr w.heap.size v (ls.take k).flatten ∧ Ext w wr) (fun _ i _ => n - (intOf i).toNat)
      case atStart => exact ⟨0, rfl, Nat.zero_le _, by simpa using HO.out, HY.out⟩
      case round =>
        obtain ⟨k, rfl, hk, ho, y⟩ := hrel
        clear HO HY
        have HO : Hid (OwnW wr w.heap.size _ (ls.take k).flatten) := ho
        have HY : Hid (Ext w wr) := y
        clear ho y
        by_cases hlt : k < n
        · have hkl : k < ls.length := by rw [HN.out]; exact hlt
          obtain ⟨ao, m, cc, y1, y2⟩ := (HR.out.below HY.out) k _ (List.getElem?_eq_getElem hkl)
          have HSR : Hid (RowW wr (.slice ao m cc) ls[k]) := y2
          have HS : Hid ((ls.take (k + 1)).flatten = (ls.take k).flatten ++ ls[k]) := flatL_take hkl
          have HLB : Hid ((ls.take k).flatten.length + ls[k].length ≤ 1000000) := by
            have := HT.out (k + 1)
            rw [HS.out, List.length_append] at this
            exact this
          have hi2 : (k : Int) < (n : Int) := by omega
          have HSZ : Hid (w.heap.size ≤ wr.heap.size) := HY.out.size
          clear y2
          generalize ls[k] = l at *
          go_wp2_with (at_builtin; refine wpList_joinW wr rfl _ _ rfl w.heap.size _ _ (ls.take k).flatten l HO.out rfl HSR.out rfl HLB.out HSZ.out ?_)
          intro v' w' ho hg _
          have HO2 : Hid (OwnW w' w.heap.size v' (ls.take (k + 1)).flatten) := by rw [HS.out]; exact ho
          have HY2 : Hid (Ext w w') := Below.grown HY.out hg HSZ.out (fun g e => (World.ownsRow.lt HO.out g e).1)
          clear ho hg
          go_wp2
          go_roundw
          case rel => exact ⟨k + 1, by go_num, hlt, HO2.out, HY2.out⟩
          case measure => simp [intOf]; omega
        · have HE : Hid ((ls.take k).flatten = ls.flatten) := by show _ = _; rw [List.take_of_length_le (by rw [HN.out]; omega)]
          rw [HE.out] at HO
          clear hk
          go_wp2
          go_ret
          exact ⟨_, rfl, HO.out, HY.out⟩
end Go.Proofs.Ytkgecljoodofeaa
