/- lock: slices.DeleteFunc of wants, walked. Own lemmas, no statement. -/
import Derived.Test.YtkgecljoodofeaaLkO
import Derived.Laws.OwnMore
set_option linter.unusedSimpArgs false
set_option linter.unusedVariables false
namespace Go.Proofs.Ytkgecljoodofeaa
open Go.ChangeShapes Go.WideShapes Go.ChangeAt Go.RowKit

theorem zeroCellsW (n : Nat) : (Builtin.zeroCells zW.cells n).size = n * 3 := by
  simp [Builtin.zeroCells, Value.cells, zW]
theorem zeroCellsW_one (n : Nat) : ∀ u ∈ (Builtin.zeroCells zW.cells n).toList, u.oneCell' = true := by
  intro u hu
  simp [Builtin.zeroCells, Value.cells, zW] at hu
  obtain ⟨k, hk, rfl⟩ := hu
  rcases (show k % 3 = 0 ∨ k % 3 = 1 ∨ k % 3 = 2 by omega) with h | h | h <;> rw [h] <;> rfl
theorem own_takeW {w : World} {B g n cap i : Nat} {ls : List Wn} (h : OwnW w B (.slice (some ⟨g, 0, none⟩) n cap) ls) (hi : i ≤ ls.length) : OwnW w B (.slice (some ⟨g, 0, none⟩) i cap) (ls.take i) := by
  rcases h.form with ⟨e, _⟩ | ⟨g', c', e, h1, _, h3, h4, cur, h5, h6, h7⟩
  · cases e
  · simp only [Value.slice.injEq, Option.some.injEq, Addr.mk.injEq, and_true, true_and] at e
    obtain ⟨rfl, rfl, rfl⟩ := e
    refine ownW_of h5 h1 (by rw [List.length_take]; omega) (by omega) h4 h6 ?_
    rw [← flatW_take, ← h7, List.take_take, Nat.min_eq_left (by omega)]
/-- 'clear' of what stands behind the first i places. -/
theorem run_clearW (w : World) (B g i cap k c : Nat) (ls : List Wn) (h : OwnW w B (.slice (some ⟨g, 0, none⟩) i cap) ls) (hl : ls.length = i) (hn : i + k ≤ cap) (hk : 0 < k) :
    ∃ w2, (∀ ty, (Builtin.clear_ #[35] ty #[.slice (some ⟨g, i * 3, none⟩) k c]).run Try.prog w = .ok (.tuple #[]) w2) ∧ OwnW w2 B (.slice (some ⟨g, 0, none⟩) i cap) ls ∧ w.grownBy w2 (some g) := by
  obtain ⟨k, rfl⟩ : ∃ j, k = j + 1 := ⟨k - 1, by omega⟩
  unfold OwnW at h ⊢
  rw [hl] at h ⊢
  obtain ⟨hl2, hr⟩ := h
  rcases hr with ⟨e, _⟩ | ⟨g', cap', cur, e, hB, hg, h3, h4, h5, h6⟩
  · cases e
  simp only [Value.slice.injEq, Option.some.injEq, Addr.mk.injEq, and_true, true_and] at e
  obtain ⟨rfl, rfl⟩ := e
  have hst := run_storeCells_at Try.prog g (i * 3) 55 (Builtin.zeroCells zW.cells (k + 1)).toList 0 cur w hg (by rw [Array.length_toList, zeroCellsW]; omega) (zeroCellsW_one _)
  obtain ⟨row, hrow⟩ : ∃ row, row = (cur.toList.take (i * 3 + 0) ++ (Builtin.zeroCells zW.cells (k + 1)).toList ++ cur.toList.drop (i * 3 + 0 + (Builtin.zeroCells zW.cells (k + 1)).toList.length)).toArray := ⟨_, rfl⟩
  rw [← hrow] at hst
  have hsz : row.size = cap * 3 := by
    rw [hrow]
    simp [zeroCellsW]
    omega
  have htk : row.toList.take (i * 3) = flatW ls := by
    rw [hrow]
    simp only [Nat.add_zero, List.append_assoc]
    rw [List.take_append_of_le_length (by rw [List.length_take, Array.length_toList]; omega), List.take_take, Nat.min_self]
    exact h6
  refine ⟨w.setRow g row, fun ty => ?_, ⟨hl2, .inr ⟨g, cap, row, rfl, hB, setRow_heap _ _ _ _ _ _ hg, h3, h4, hsz, htk⟩⟩, ⟨rfl, rfl, rfl, by simp [World.setRow], fun k _ hne => setRow_other w g k _ (fun e => hne (by rw [e]))⟩⟩
  unfold zW at hst
  simp [Builtin.clear_, run_underlying Try.underlying35, hst]

/-- One place of an own row, as three stores find it. -/
theorem OwnW.spots {w : World} {B g n c i : Nat} {ls : List Wn} (h : OwnW w B (.slice (some ⟨g, 0, none⟩) n c) ls) (hi : i < ls.length) (a b : Value) :
    (∃ v, w.cell? ⟨g, i * 3, none⟩ = some v) ∧ w.frozen? ⟨g, i * 3, none⟩ = false ∧
    (∃ v, (w.setCell ⟨g, i * 3, none⟩ a).cell? ⟨g, i * 3 + 1, none⟩ = some v) ∧ (w.setCell ⟨g, i * 3, none⟩ a).frozen? ⟨g, i * 3 + 1, none⟩ = false ∧
    (∃ v, ((w.setCell ⟨g, i * 3, none⟩ a).setCell ⟨g, i * 3 + 1, none⟩ b).cell? ⟨g, i * 3 + 2, none⟩ = some v) ∧ ((w.setCell ⟨g, i * 3, none⟩ a).setCell ⟨g, i * 3 + 1, none⟩ b).frozen? ⟨g, i * 3 + 2, none⟩ = false := by
  rcases h.form with ⟨e, _⟩ | ⟨g', c', e, h1, _, h3, h4, cur, h5, h6, h7⟩
  · cases e
  · simp only [Value.slice.injEq, Option.some.injEq, Addr.mk.injEq, and_true, true_and] at e
    obtain ⟨rfl, rfl, rfl⟩ := e
    have b1 := h5.set (i * 3) a
    have b2 := b1.set (i * 3 + 1) b
    have s1 : (cur.setIfInBounds (i * 3) a).size = cur.size := by simp
    have s2 : ((cur.setIfInBounds (i * 3) a).setIfInBounds (i * 3 + 1) b).size = cur.size := by simp
    refine ⟨⟨cur[i * 3]'(by omega), ?_⟩, h5.frozen _, ⟨(cur.setIfInBounds (i * 3) a)[i * 3 + 1]'(by omega), ?_⟩, b1.frozen _, ⟨((cur.setIfInBounds (i * 3) a).setIfInBounds (i * 3 + 1) b)[i * 3 + 2]'(by omega), ?_⟩, b2.frozen _⟩
    · rw [h5.cell]; exact Array.getElem?_eq_getElem _
    · rw [b1.cell]; exact Array.getElem?_eq_getElem _
    · rw [b2.cell]; exact Array.getElem?_eq_getElem _

/-- What DeleteFunc leaves. -/
def DelP (w : World) (B : Nat) (v : Value) (ls : List Wn) (e : Ending) (w' : World) : Prop := ∃ v', e = .returned v' ∧ OwnW w' B v' ls ∧ v'.ownBlock = v.ownBlock ∧ Chg (fun i => v.ownBlock = some i) w w'
theorem filter_none {p : Wn → Bool} {ls : List Wn} (h : ∀ x ∈ ls, p x = false) : ls.filter (fun x => !p x) = ls := List.filter_eq_self.2 fun x hx => by rw [h x hx]; rfl
set_option maxRecDepth 100000 in
set_option maxHeartbeats 4000000 in
theorem delF_any (w : World) (B : Nat) (v : Value) (ls : List Wn) (c1 : Value) (p : Wn → Bool) (hown : OwnW w B v ls) (hl : ls.length ≤ 10000)
    (hf : Hid (∀ (W : World) (x : Wn), Chg (fun i => v.ownBlock = some i) w W → x ∈ ls → Calls Try.prog 51 #[.agg #[.int .u64 x.num, .int .i64 x.node, .int .i64 x.mode], c1] W fun e w' => e = .returned (.bool (p x)) ∧ Ext W w')) :
    Calls Try.prog 52 #[v, .func (.func 51) #[] #[c1]] w (DelP w B v (ls.filter fun x => !p x)) := by
  have HO : Hid (OwnW w B v ls) := hown
  have HI : Hid (Calls _ _ _ _ _) := idxF_L c1 p v ls w hown.row (by omega) (fun W x hW hx => hf.out W x (Chg.of_below hW (fun i hi hn => absurd hi (Nat.not_lt.2 hn))) hx)
  obtain ⟨ao, n, c, rfl, hln⟩ : ∃ ao n c, v = .slice ao n c ∧ ls.length = n := by
    obtain ⟨ao, c, e, _⟩ := hown.row
    exact ⟨ao, _, c, e, rfl⟩
  have HLN : Hid (ls.length = n) := hln
  rw [hln] at hl
  have HDN : Hid (∀ W, (∀ x ∈ ls, p x = false) → Ext w W → DelP w B (.slice ao n c) (ls.filter fun x => !p x) (.returned (.slice ao n c)) W) := fun W h hx => ⟨_, rfl, by rw [filter_none h]; exact hown.below hx, rfl, Chg.of_below hx (fun i hi hn => absurd hi (Nat.not_lt.2 hn))⟩
  clear hown hln
  go_enter Try.func52, Try.ntmps52
  go_wp2_with fail
  refine HI.out.mono ?_
  rintro e w1 ⟨hv, hE⟩
  have HE1 : Hid (Ext w w1) := hE
  clear hE HI
  rcases hv with ⟨i0, hi0, rfl, hp0, hpb⟩ | ⟨rfl, hp⟩
  · have HP0 : Hid (p ls[i0] = true ∧ ∀ j (hj : j < ls.length), j < i0 → p ls[j] = false) := ⟨hp0, hpb⟩
    have hin : i0 < n := by rw [← HLN.out]; exact hi0
    have hne : ((i0 : Int) == (-1)) = false := beq_eq_false_iff_ne.2 (by omega)
    obtain ⟨g, hg⟩ : ∃ g, ao = some ⟨g, 0, none⟩ := by
      rcases HO.out.form with ⟨e, e2⟩ | ⟨g, cc, e, _⟩
      · rw [e2] at hi0; simp at hi0
      · injection e with e1; exact ⟨g, e1⟩
    subst hg
    have hnc : n ≤ c ∧ c ≤ maxLen := by
      rcases HO.out.form with ⟨e, e2⟩ | ⟨g', cc, e, _, _, h3, h4, _⟩
      · cases e
      · injection e with _ e2 e3; subst e3; rw [HLN.out] at h3; exact ⟨h3, h4⟩
    obtain ⟨hnc1, hnc2⟩ := hnc
    unfold maxLen at hnc2
    have HF0 : Hid ((ls.take (i0 + 1)).filter (fun x => !p x) = ls.take i0) := by
      show _ = _
      rw [List.take_succ_eq_append_getElem hi0, List.filter_append]
      have h1 : (ls.take i0).filter (fun x => !p x) = ls.take i0 := List.filter_eq_self.2 fun x hx => by
        obtain ⟨j, hj, rfl⟩ := List.getElem_of_mem hx
        rw [List.length_take] at hj
        rw [List.getElem_take, hpb j (by omega) (by omega)]; rfl
      rw [h1]
      simp [hp0]
    clear hp0 hpb HP0 hi0 HDN
    go_wp2
    go_loopw [5, 6] (fun vi vj wr => ∃ (i j : Nat) (rs : List Wn), vi = .int .i64 (i : Int) ∧ vj = .int .i64 (j : Int) ∧ i < j ∧ j ≤ n ∧ OwnW wr B (.slice (some ⟨g, 0, none⟩) n c) rs ∧ rs.length = n ∧ rs.take i = (ls.take j).filter (fun x => !p x) ∧ rs.drop j = ls.drop j ∧ Chg (fun k => k = g) w wr) (fun _ vj _ => n - (intOf vj).toNat)
    case atStart =>
      refine ⟨i0, i0 + 1, ls, rfl, by go_num, by omega, by omega, HO.out.below HE1.out, HLN.out, HF0.out.symm, rfl, Chg.of_below HE1.out (fun i hi hn => absurd hi (Nat.not_lt.2 hn))⟩
    case round =>
      obtain ⟨i, j, rs, rfl, rfl, hij, hjn, ho, hrl, htk, hdp, hch⟩ := hrel
      have HOR : Hid (OwnW wr B (.slice (some ⟨g, 0, none⟩) n c) rs) := ho
      have HRL : Hid (rs.length = n) := hrl
      have HTK : Hid (rs.take i = (ls.take j).filter (fun x => !p x)) := htk
      have HDP : Hid (rs.drop j = ls.drop j) := hdp
      have HCH : Hid (Chg (fun k => k = g) w wr) := hch
      clear ho hrl htk hdp hch
      by_cases hlt : j < n
      · have hjl : j < rs.length := by rw [HRL.out]; exact hlt
        have hjl2 : j < ls.length := by rw [HLN.out]; exact hlt
        have hxe : rs[j] = ls[j] := by
          have h1 := congrArg (fun l => l[0]?) HDP.out
          simp only [List.getElem?_drop, Nat.add_zero] at h1
          rw [List.getElem?_eq_getElem hjl, List.getElem?_eq_getElem hjl2] at h1
          exact Option.some.inj h1
        obtain ⟨z0, z1, z2⟩ : wr.cell? ⟨g, j * 3, none⟩ = some (.int .u64 ls[j].num) ∧ wr.cell? ⟨g, j * 3 + 1, none⟩ = some (.int .i64 ls[j].node) ∧ wr.cell? ⟨g, j * 3 + 2, none⟩ = some (.int .i64 ls[j].mode) := by
          obtain ⟨ao, c', e, _, _, _, hr⟩ := HOR.out.row
          injection e with e1 e2 e3
          have := hr.2 ⟨g, 0, none⟩ e1.symm j hjl
          simp only [add0, hxe] at this
          exact this
        obtain ⟨x, hx⟩ : ∃ x, x = ls[j] := ⟨_, rfl⟩
        have HX : Hid (x = ls[j]) := hx
        have HXM : Hid (x ∈ ls) := by rw [hx]; exact List.getElem_mem _
        rw [← hx] at z0 z1 z2
        obtain ⟨w2, hw2⟩ : ∃ w2, w2 = wr.alloc (.cells #[.int .u64 x.num, .int .i64 x.node, .int .i64 x.mode] 55) := ⟨_, rfl⟩
        have HE2 : Hid (Ext wr w2) := by rw [hw2]; exact ext_one _
        have HB2 : Hid (Blk w2 wr.heap.size #[.int .u64 x.num, .int .i64 x.node, .int .i64 x.mode] 55) := by rw [hw2]; exact Blk.new _ _ _
        have HC2 : Hid (Calls _ _ _ _ _) := hf.out w2 x (Chg.mono (Chg.trans (S' := fun _ => False) HCH.out (Chg.of_below HE2.out (fun i hi hn => absurd hi (Nat.not_lt.2 hn))) (fun i _ e => e.elim)) (fun i _ e => by rw [e]; rfl)) HXM.out
        clear hx hxe
        go_upto_region 8 with fail
        rw [← hw2]
        clear hw2 z0 z1 z2
        have c0 : w2.cell? ⟨wr.heap.size, 0, none⟩ = some (.int .u64 x.num) := HB2.out.cell 0
        have c1' : w2.cell? ⟨wr.heap.size, 1, none⟩ = some (.int .i64 x.node) := HB2.out.cell 1
        have c2 : w2.cell? ⟨wr.heap.size, 2, none⟩ = some (.int .i64 x.mode) := HB2.out.cell 2
        go_wp2_with fail
        refine HC2.out.mono ?_
        rintro e w3 ⟨rfl, hE3⟩
        have HE3 : Hid (Ext wr w3) := Ext.trans HE2.out hE3
        have HB3 : Hid (Blk w3 wr.heap.size #[.int .u64 x.num, .int .i64 x.node, .int .i64 x.mode] 55) := HB2.out.below_ hE3
        clear hE3 HE2 HB2 HC2 c0 c1' c2
        have HCH3 : Hid (Chg (fun k => k = g) w w3) := Chg.trans (S' := fun _ => False) HCH.out (Chg.of_below HE3.out (fun i hi hn => absurd hi (Nat.not_lt.2 hn))) (fun i _ e => e.elim)
        cases hb : p x with
        | true =>
          have HPX : Hid (p x = true) := hb
          clear hb
          have hji : (j : Int) + 1 ≤ 20000 := by omega
          go_wp2
          go_roundw
          case rel =>
            refine ⟨i, j + 1, rs, rfl, by go_num, by omega, hlt, HOR.out.below HE3.out, HRL.out, ?_, ?_, HCH3.out⟩
            · have hjl2 : j < ls.length := by rw [HLN.out]; exact hlt
              rw [HTK.out, List.take_succ_eq_append_getElem hjl2, List.filter_append, ← HX.out]
              simp [HPX.out]
            · have := congrArg (List.drop 1) HDP.out
              simpa using this
          case measure => simp [intOf]; omega
        | false =>
          have HPX : Hid (p x = false) := hb
          clear hb
          have hin2 : i < rs.length := by rw [HRL.out]; omega
          obtain ⟨p1, p2, p3⟩ := OwnW.put (x := x) (HOR.out.below HE3.out) hin2
          have HP1 : Hid (OwnW (w3.setCells g (i * 3) x.cs) B (.slice (some ⟨g, 0, none⟩) n c) (rs.set i x)) := p1
          have HP2 : Hid (w3.grownBy (w3.setCells g (i * 3) x.cs) (some g)) := p2
          obtain ⟨⟨v0, q0⟩, f0, ⟨v1, q1⟩, f1, ⟨v2, q2⟩, f2⟩ := OwnW.spots (HOR.out.below HE3.out) hin2 (.int .u64 x.num) (.int .i64 x.node)
          have c0 : w3.cell? ⟨wr.heap.size, 0, none⟩ = some (.int .u64 x.num) := HB3.out.cell 0
          have c1' : w3.cell? ⟨wr.heap.size, 1, none⟩ = some (.int .i64 x.node) := HB3.out.cell 1
          have c2 : w3.cell? ⟨wr.heap.size, 2, none⟩ = some (.int .i64 x.mode) := HB3.out.cell 2
          have hin3 : i < n := by omega
          clear p1 p2 p3 hin2
          go_upto_region 10 with fail
          have hws : ((w3.setCell ⟨g, i * 3, none⟩ (.int .u64 x.num)).setCell ⟨g, i * 3 + 1, none⟩ (.int .i64 x.node)).setCell ⟨g, i * 3 + 2, none⟩ (.int .i64 x.mode) = w3.setCells g (i * 3) x.cs := rfl
          rw [hws]
          clear hws q0 f0 q1 f1 q2 f2 c0 c1' c2
          obtain ⟨w4, hw4⟩ : ∃ w4, w4 = w3.setCells g (i * 3) x.cs := ⟨_, rfl⟩
          rw [← hw4] at HP1 HP2 ⊢
          clear hw4
          have HCH4 : Hid (Chg (fun k => k = g) w w4) := Chg.grown HCH3.out HP2.out (fun k e _ => by cases e; rfl)
          have hii : (i : Int) + 1 ≤ 20000 := by omega
          have hji : (j : Int) + 1 ≤ 20000 := by omega
          go_wp2
          go_roundw
          case rel =>
            have hlr : rs.length = n := HRL.out
            refine ⟨i + 1, j + 1, rs.set i x, by go_num, by go_num, by omega, hlt, HP1.out, by rw [List.length_set]; exact hlr, ?_, ?_, HCH4.out⟩
            · have hjl2 : j < ls.length := by rw [HLN.out]; exact hlt
              rw [List.take_succ_eq_append_getElem hjl2, List.filter_append, ← HTK.out, ← HX.out]
              have h1 : [x].filter (fun y => !p y) = [x] := by simp [HPX.out]
              rw [h1, List.set_eq_take_append_cons_drop, if_pos (by omega)]
              rw [show rs.take i ++ x :: rs.drop (i + 1) = (rs.take i ++ [x]) ++ rs.drop (i + 1) by simp, List.take_append_of_le_length (by rw [List.length_append, List.length_take]; simp; omega), List.take_of_length_le (by rw [List.length_append, List.length_take]; simp; omega)]
            · have h1 : (rs.set i x).drop (j + 1) = rs.drop (j + 1) := by rw [List.drop_set_of_lt (by omega)]
              rw [h1]
              have := congrArg (List.drop 1) HDP.out
              simpa using this
          case measure => simp [intOf]; omega
      · have hci : ¬ c = i := by omega
        have hil : i ≤ rs.length := by rw [HRL.out]; omega
        have hjl : ls.length ≤ j := by rw [HLN.out]; omega
        have hrt : rs.take i = ls.filter (fun x => !p x) := by rw [HTK.out, List.take_of_length_le hjl]
        have hkp : 0 < n - i := by omega
        obtain ⟨w5, hcl, ho5, hg5⟩ := run_clearW wr B g i c (n - i) (c - i) (rs.take i) (own_takeW HOR.out hil) (by rw [List.length_take]; omega) (by omega) hkp
        rw [hrt] at ho5
        have HO5 : Hid (OwnW w5 B (.slice (some ⟨g, 0, none⟩) i c) (ls.filter fun x => !p x)) := ho5
        have HC5 : Hid (Chg (fun k => k = g) w w5) := Chg.grown HCH.out hg5 (fun k e _ => by cases e; rfl)
        clear ho5 hg5 hrt hjl hil
        go_wp2
        go_ret
        exact ⟨_, rfl, HO5.out, rfl, HC5.out.mono (fun k _ e => by rw [e]; rfl)⟩
  · have HRES : Hid (∀ W, Ext w W → DelP w B (.slice ao n c) (ls.filter fun x => !p x) (.returned (.slice ao n c)) W) := fun W hx => HDN.out W hp hx
    clear hp HDN
    go_wp2
    go_ret
    exact HRES.out _ HE1.out
end Go.Proofs.Ytkgecljoodofeaa
