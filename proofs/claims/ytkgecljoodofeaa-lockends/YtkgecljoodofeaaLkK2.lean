/- lock: slices.IndexFunc and DeleteFunc of texts, walked; Keys. Own lemmas, no statement. -/
import Derived.Test.YtkgecljoodofeaaLkG1
import Derived.Laws.OwnMore
set_option linter.unusedSimpArgs false
set_option linter.unusedVariables false
namespace Go.Proofs.Ytkgecljoodofeaa
open Go.ChangeShapes Go.WideShapes Go.ChangeAt Go.RowKit

def IdxPS (p : ByteArray → Bool) (ls : List ByteArray) (e : Ending) : Prop := (∃ i : Nat, ∃ h : i < ls.length, e = .returned (.int .i64 (i : Int)) ∧ p ls[i] = true ∧ ∀ j (hj : j < ls.length), j < i → p ls[j] = false) ∨ (e = .returned (.int .i64 (-1)) ∧ ∀ x ∈ ls, p x = false)
theorem OwnK.kept {w w' : World} {B : Nat} {v : Value} {ks : List ByteArray} (h : OwnK w B v ks) (hb : ∀ g, v.ownBlock = some g → w'.heap[g]? = w.heap[g]?) : OwnK w' B v ks := by
  refine ⟨h.1, ?_⟩
  rcases h.2 with hn | ⟨g, cap, cur, rfl, hbg, hgg, rest⟩
  · exact .inl hn
  · exact .inr ⟨g, cap, cur, rfl, hbg, by rw [hb g rfl]; exact hgg, rest⟩
theorem OwnK.below {w w' : World} {B : Nat} {v : Value} {ks : List ByteArray} (h : OwnK w B v ks) (hb : Ext w w') : OwnK w' B v ks := h.kept fun g hg => hb.block g (World.ownsRow.lt h g hg).2
theorem OwnK.notBlk {w : World} {B g : Nat} {v : Value} {ks : List ByteArray} {c : Array Value} {T : TypeId} (h : OwnK w B v ks) (hb : Blk w g c T) (hT : T ≠ 9) : v.ownBlock ≠ some g := fun e => by
  obtain ⟨ao, c', rfl, _, _, _, h4⟩ := h.form
  cases ao with
  | none => cases e
  | some a =>
    obtain ⟨e1, _, ⟨cur, hc⟩, _⟩ := h4 a rfl
    rw [e1] at e
    cases e
    exact hT (hb.inj hc).2
set_option maxRecDepth 100000 in
set_option maxHeartbeats 1000000 in
theorem idxS_any (c1 c2 : Value) (p : ByteArray → Bool) (v : Value) (ls : List ByteArray) (w : World) (B : Nat) (h : OwnK w B v ls) (hl : ls.length ≤ 1000000)
    (hf : Hid (∀ (W : World) (x : ByteArray), Ext w W → x ∈ ls → Calls Try.prog 40 #[.string x, c1, c2] W fun e w' => e = .returned (.bool (p x)) ∧ Ext W w')) :
    Calls Try.prog 54 #[v, .func (.func 40) #[] #[c1, c2]] w fun e w' => IdxPS p ls e ∧ Ext w w' := by
  obtain ⟨ao, c, rfl, h1, h2, h3, h4⟩ := h.form
  have HO : Hid (OwnK w B (.slice ao ls.length c) ls) := h
  have H3 : Hid (ao = none → ls.length = 0) := h3
  obtain ⟨n, hn⟩ : ∃ n, ls.length = n := ⟨_, rfl⟩
  have HN : Hid (ls.length = n) := hn
  rw [hn] at h1 hl HO ⊢
  unfold maxLen at h2
  clear h h3 h4 hn
  go_enter Try.func54, Try.ntmps54
  go_wp2
  go_loopw [8] (fun vi wr => ∃ i : Nat, vi = .int .i64 (i : Int) ∧ i ≤ n ∧ (∀ j (hj : j < ls.length), j < i → p ls[j] = false) ∧ Ext w wr) (fun vi _ => n - (intOf vi).toNat)
  case atStart => exact ⟨0, rfl, Nat.zero_le _, fun j hj h => by omega, Ext.refl _⟩
  case round =>
    obtain ⟨i, rfl, hin, hp, hE⟩ := hrel
    have HP : Hid (∀ j (hj : j < ls.length), j < i → p ls[j] = false) := hp
    have HE : Hid (Ext w wr) := hE
    clear hp hE
    by_cases hlt : i < n
    · have hil : i < ls.length := by rw [HN.out]; exact hlt
      obtain ⟨ad, had⟩ : ∃ ad, ao = some ad := by
        cases ao with
        | none => have := H3.out rfl; omega
        | some ad => exact ⟨ad, rfl⟩
      subst had
      obtain ⟨g, hg⟩ : ∃ g, ad = ⟨g, 0, none⟩ := by
        rcases HO.out.2 with ⟨e, _⟩ | ⟨g, cap, cur, e, _⟩
        · cases e
        · injection e with e1; injection e1 with e1; exact ⟨g, e1⟩
      subst hg
      obtain ⟨x, hx⟩ : ∃ x, x = ls[i] := ⟨_, rfl⟩
      have HX : Hid (x = ls[i]) := hx
      have k0 : wr.cell? ⟨g, i, none⟩ = some (.string x) := by
        have := World.ownsRow.cells (HO.out.below HE.out) rfl i (.string x) (by simp [hil, hx])
        rw [add0] at this
        exact this
      have HF : Hid (Calls _ _ _ _ _) := hf.out wr x HE.out (by rw [hx]; exact List.getElem_mem _)
      clear hx
      go_wp2_with fail
      refine HF.out.mono ?_
      rintro e w2 ⟨rfl, hE2⟩
      have HE2 : Hid (Ext w w2) := HE.out.trans hE2
      clear hE2 HE HF k0
      cases hb : p x with
      | true =>
        have HB : Hid (p x = true) := hb
        clear hb
        go_wp2
        go_ret
        exact ⟨.inl ⟨i, hil, rfl, by rw [← HX.out]; exact HB.out, HP.out⟩, HE2.out⟩
      | false =>
        have HB : Hid (p x = false) := hb
        clear hb
        go_wp2
        go_roundw
        case rel =>
          refine ⟨i + 1, by go_num, hlt, fun j hj hji => ?_, HE2.out⟩
          rcases (show j < i ∨ j = i by omega) with h | rfl
          · exact HP.out j hj h
          · rw [← HX.out]; exact HB.out
        case measure => simp [intOf]; omega
    · have hni : i = n := by omega
      clear hin
      go_wp2
      go_ret
      refine ⟨.inr ⟨rfl, fun x hx => ?_⟩, HE.out⟩
      obtain ⟨j, hj, rfl⟩ := List.getElem_of_mem hx
      exact HP.out j hj (by have := HN.out; omega)
/-- An own row of texts, written out. -/
theorem OwnK.row {w : World} {B g n c : Nat} {ls : List ByteArray} (h : OwnK w B (.slice (some ⟨g, 0, none⟩) n c) ls) : ls.length = n ∧ n ≤ c ∧ c ≤ maxLen ∧ B ≤ g ∧ ∃ cur, Blk w g cur 9 ∧ cur.size = c ∧ cur.toList.take n = ls.map Value.string := by
  rcases h.2 with ⟨e, _⟩ | ⟨g', c', cur, e, h1, h2, h3, h4, h5, h6⟩
  · cases e
  · simp only [Value.slice.injEq, Option.some.injEq, Addr.mk.injEq, and_true, true_and] at e
    obtain ⟨rfl, rfl, rfl⟩ := e
    exact ⟨rfl, h3, h4, h1, cur, h2, by rw [h5]; omega, by simpa using h6⟩
theorem ownK_of {w : World} {B g n c : Nat} {ls : List ByteArray} {cur : Array Value} (hb : Blk w g cur 9) (hB : B ≤ g) (hl : ls.length = n) (h3 : n ≤ c) (h4 : c ≤ maxLen) (h5 : cur.size = c) (h6 : cur.toList.take n = ls.map Value.string) : OwnK w B (.slice (some ⟨g, 0, none⟩) n c) ls := by
  subst hl
  exact ⟨by simp, .inr ⟨g, c, cur, rfl, hB, hb, h3, h4, by rw [h5]; omega, by simpa using h6⟩⟩
theorem own_takeK {w : World} {B g n cap i : Nat} {ls : List ByteArray} (h : OwnK w B (.slice (some ⟨g, 0, none⟩) n cap) ls) (hi : i ≤ ls.length) : OwnK w B (.slice (some ⟨g, 0, none⟩) i cap) (ls.take i) := by
  obtain ⟨h1, h2, h3, h4, cur, h5, h6, h7⟩ := h.row
  refine ownK_of h5 h4 (by rw [List.length_take]; omega) (by omega) h3 h6 ?_
  rw [List.map_take, ← h7, List.take_take, Nat.min_eq_left (by omega)]
theorem OwnK.put {w : World} {B g n c i : Nat} {ls : List ByteArray} {x : ByteArray} (h : OwnK w B (.slice (some ⟨g, 0, none⟩) n c) ls) (hi : i < ls.length) : OwnK (w.setCell ⟨g, i, none⟩ (.string x)) B (.slice (some ⟨g, 0, none⟩) n c) (ls.set i x) := by
  obtain ⟨h1, h2, h3, h4, cur, h5, h6, h7⟩ := h.row
  refine ownK_of (h5.set i (.string x)) h4 (by rw [List.length_set]; exact h1) h2 h3 (by simpa using h6) ?_
  rw [Array.toList_setIfInBounds, List.take_set, h7, List.map_set]
theorem OwnK.spot {w : World} {B g n c i : Nat} {ls : List ByteArray} (h : OwnK w B (.slice (some ⟨g, 0, none⟩) n c) ls) (hi : i < ls.length) : w.cell? ⟨g, i, none⟩ = some (.string ls[i]) ∧ w.frozen? ⟨g, i, none⟩ = false := by
  obtain ⟨h1, h2, h3, h4, cur, h5, h6, h7⟩ := h.row
  refine ⟨?_, h5.frozen _⟩
  have := World.ownsRow.cells h rfl i (.string ls[i]) (by simp [hi])
  rw [add0] at this
  exact this
/-- 'clear' of what stands behind the first i places. -/
theorem run_clearK (w : World) (B g i cap k c : Nat) (ls : List ByteArray) (h : OwnK w B (.slice (some ⟨g, 0, none⟩) i cap) ls) (hn : i + k ≤ cap) (hk : 0 < k) :
    ∃ w2, (∀ ty, (Builtin.clear_ #[47] ty #[.slice (some ⟨g, i, none⟩) k c]).run Try.prog w = .ok (.tuple #[]) w2) ∧ OwnK w2 B (.slice (some ⟨g, 0, none⟩) i cap) ls ∧ Chg (fun k => k = g) w w2 := by
  obtain ⟨k, rfl⟩ : ∃ j, k = j + 1 := ⟨k - 1, by omega⟩
  obtain ⟨h1, h2, h3, h4, cur, h5, h6, h7⟩ := h.row
  have hzl : (Builtin.zeroCells (Value.string ⟨#[]⟩).cells (k + 1)).size = k + 1 := by simp [Builtin.zeroCells, Value.cells]
  have hz1 : ∀ u ∈ (Builtin.zeroCells (Value.string ⟨#[]⟩).cells (k + 1)).toList, u.oneCell' = true := by
    intro u hu
    simp [Builtin.zeroCells, Value.cells] at hu
    obtain ⟨z, _, rfl⟩ := hu
    rw [Nat.mod_one]
    rfl
  have hst := run_storeCells_at Try.prog g i 9 (Builtin.zeroCells (Value.string ⟨#[]⟩).cells (k + 1)).toList 0 cur w h5 (by rw [Array.length_toList, hzl]; omega) hz1
  obtain ⟨row, hrow⟩ : ∃ row, row = (cur.toList.take (i + 0) ++ (Builtin.zeroCells (Value.string ⟨#[]⟩).cells (k + 1)).toList ++ cur.toList.drop (i + 0 + (Builtin.zeroCells (Value.string ⟨#[]⟩).cells (k + 1)).toList.length)).toArray := ⟨_, rfl⟩
  rw [← hrow] at hst
  have hsz : row.size = cap := by
    rw [hrow]
    simp [hzl]
    omega
  have htk : row.toList.take i = ls.map Value.string := by
    rw [hrow]
    simp only [Nat.add_zero, List.append_assoc]
    rw [List.take_append_of_le_length (by rw [List.length_take, Array.length_toList]; omega), List.take_take, Nat.min_self]
    exact h7
  refine ⟨w.setRow g row, fun ty => ?_, ownK_of (setRow_heap _ _ _ _ _ _ h5) h4 h1 h2 h3 hsz htk, ⟨rfl, rfl, rfl, by simp [World.setRow], fun k _ hne => setRow_other w g k _ (fun e => hne (by rw [e]))⟩⟩
  simp [Builtin.clear_, run_underlying Try.underlying47, hst]

/-- What DeleteFunc leaves. -/
def DelPS (w : World) (B : Nat) (v : Value) (ls : List ByteArray) (e : Ending) (w' : World) : Prop := ∃ v', e = .returned v' ∧ OwnK w' B v' ls ∧ v'.ownBlock = v.ownBlock ∧ Chg (fun i => v.ownBlock = some i) w w'
theorem filter_noneS {p : ByteArray → Bool} {ls : List ByteArray} (h : ∀ x ∈ ls, p x = false) : ls.filter (fun x => !p x) = ls := List.filter_eq_self.2 fun x hx => by rw [h x hx]; rfl
set_option maxRecDepth 100000 in
set_option maxHeartbeats 4000000 in
theorem delS_any (w : World) (B : Nat) (v : Value) (ls : List ByteArray) (c1 c2 : Value) (p : ByteArray → Bool) (hown : OwnK w B v ls) (hl : ls.length ≤ 10000)
    (hf : Hid (∀ (W : World) (x : ByteArray), Chg (fun i => v.ownBlock = some i) w W → x ∈ ls → Calls Try.prog 40 #[.string x, c1, c2] W fun e w' => e = .returned (.bool (p x)) ∧ Ext W w')) :
    Calls Try.prog 39 #[v, .func (.func 40) #[] #[c1, c2]] w (DelPS w B v (ls.filter fun x => !p x)) := by
  have HO : Hid (OwnK w B v ls) := hown
  have HI : Hid (Calls _ _ _ _ _) := idxS_any c1 c2 p v ls w B hown (by omega) (fun W x hW hx => hf.out W x (Chg.of_below hW (fun i hi hn => absurd hi (Nat.not_lt.2 hn))) hx)
  obtain ⟨ao, n, c, rfl, hln⟩ : ∃ ao n c, v = .slice ao n c ∧ ls.length = n := by
    obtain ⟨ao, c, e, _⟩ := hown.form
    exact ⟨ao, _, c, e, rfl⟩
  have HLN : Hid (ls.length = n) := hln
  rw [hln] at hl
  have HDN : Hid (∀ W, (∀ x ∈ ls, p x = false) → Ext w W → DelPS w B (.slice ao n c) (ls.filter fun x => !p x) (.returned (.slice ao n c)) W) := fun W h hx => ⟨_, rfl, by rw [filter_noneS h]; exact hown.below hx, rfl, Chg.of_below hx (fun i hi hn => absurd hi (Nat.not_lt.2 hn))⟩
  clear hown hln
  go_enter Try.func39, Try.ntmps39
  go_wp2_with fail
  refine HI.out.mono ?_
  rintro e w1 ⟨hv, hE⟩
  have HE1 : Hid (Ext w w1) := hE
  clear hE HI
  rcases hv with ⟨i0, hi0, rfl, hp0, hpb⟩ | ⟨rfl, hp⟩
  · have HP0 : Hid (p ls[i0] = true ∧ ∀ j (hj : j < ls.length), j < i0 → p ls[j] = false) := ⟨hp0, hpb⟩
    have hin : i0 < n := by rw [← HLN.out]; exact hi0
    have hne : ((i0 : Int) == (-1)) = false := beq_eq_false_iff_ne.2 (by omega)
    obtain ⟨g, hg⟩ : ∃ g, ao = some ⟨g, 0, none⟩ := by
      rcases HO.out.2 with ⟨e, e2⟩ | ⟨g, cap, cur, e, _⟩
      · omega
      · injection e with e1; exact ⟨g, e1⟩
    subst hg
    have hnc : n ≤ c ∧ c ≤ maxLen := ⟨HO.out.row.2.1, HO.out.row.2.2.1⟩
    obtain ⟨hnc1, hnc2⟩ := hnc
    unfold maxLen at hnc2
    have HF0 : Hid ((ls.take (i0 + 1)).filter (fun x => !p x) = ls.take i0) := by
      show _ = _
      rw [List.take_succ_eq_append_getElem hi0, List.filter_append]
      have h1 : (ls.take i0).filter (fun x => !p x) = ls.take i0 := List.filter_eq_self.2 fun x hx => by
        obtain ⟨j, hj, rfl⟩ := List.getElem_of_mem hx
        rw [List.length_take] at hj
        rw [List.getElem_take, hpb j (by omega) (by omega)]; rfl
      rw [h1]
      simp [hp0]
    clear hp0 hpb HP0 hi0 HDN
    go_wp2
    go_loopw [5, 6] (fun vi vj wr => ∃ (i j : Nat) (rs : List ByteArray), vi = .int .i64 (i : Int) ∧ vj = .int .i64 (j : Int) ∧ i < j ∧ j ≤ n ∧ OwnK wr B (.slice (some ⟨g, 0, none⟩) n c) rs ∧ rs.length = n ∧ rs.take i = (ls.take j).filter (fun x => !p x) ∧ rs.drop j = ls.drop j ∧ Chg (fun k => k = g) w wr) (fun _ vj _ => n - (intOf vj).toNat)
    case atStart =>
      refine ⟨i0, i0 + 1, ls, rfl, by go_num, by omega, by omega, HO.out.below HE1.out, HLN.out, HF0.out.symm, rfl, Chg.of_below HE1.out (fun i hi hn => absurd hi (Nat.not_lt.2 hn))⟩
    case round =>
      obtain ⟨i, j, rs, rfl, rfl, hij, hjn, ho, hrl, htk, hdp, hch⟩ := hrel
      have HOR : Hid (OwnK wr B (.slice (some ⟨g, 0, none⟩) n c) rs) := ho
      have HRL : Hid (rs.length = n) := hrl
      have HTK : Hid (rs.take i = (ls.take j).filter (fun x => !p x)) := htk
      have HDP : Hid (rs.drop j = ls.drop j) := hdp
      have HCH : Hid (Chg (fun k => k = g) w wr) := hch
      clear ho hrl htk hdp hch
      by_cases hlt : j < n
      · have hjl : j < rs.length := by rw [HRL.out]; exact hlt
        have hjl2 : j < ls.length := by rw [HLN.out]; exact hlt
        have hxe : rs[j] = ls[j] := by
          have h1 := congrArg (fun l => l[0]?) HDP.out
          simp only [List.getElem?_drop, Nat.add_zero] at h1
          rw [List.getElem?_eq_getElem hjl, List.getElem?_eq_getElem hjl2] at h1
          exact Option.some.inj h1
        have z0 : wr.cell? ⟨g, j, none⟩ = some (.string ls[j]) := by rw [← hxe]; exact (HOR.out.spot hjl).1
        obtain ⟨x, hx⟩ : ∃ x, x = ls[j] := ⟨_, rfl⟩
        have HX : Hid (x = ls[j]) := hx
        have HXM : Hid (x ∈ ls) := by rw [hx]; exact List.getElem_mem _
        rw [← hx] at z0
        have HC2 : Hid (Calls _ _ _ _ _) := hf.out wr x (Chg.mono HCH.out (fun i _ e => by rw [e]; rfl)) HXM.out
        clear hx hxe
        go_wp2_with fail
        refine HC2.out.mono ?_
        rintro e w3 ⟨rfl, hE3⟩
        have HE3 : Hid (Ext wr w3) := hE3
        clear hE3 HC2 z0
        have HCH3 : Hid (Chg (fun k => k = g) w w3) := Chg.trans (S' := fun _ => False) HCH.out (Chg.of_below HE3.out (fun i hi hn => absurd hi (Nat.not_lt.2 hn))) (fun i _ e => e.elim)
        cases hb : p x with
        | true =>
          have HPX : Hid (p x = true) := hb
          clear hb
          have hji : (j : Int) + 1 ≤ 20000 := by omega
          go_wp2
          go_roundw
          case rel =>
            refine ⟨i, j + 1, rs, rfl, by go_num, by omega, hlt, HOR.out.below HE3.out, HRL.out, ?_, ?_, HCH3.out⟩
            · have hjl2 : j < ls.length := by rw [HLN.out]; exact hlt
              rw [HTK.out, List.take_succ_eq_append_getElem hjl2, List.filter_append, ← HX.out]
              simp [HPX.out]
            · have := congrArg (List.drop 1) HDP.out
              simpa using this
          case measure => simp [intOf]; omega
        | false =>
          have HPX : Hid (p x = false) := hb
          clear hb
          have hin2 : i < rs.length := by rw [HRL.out]; omega
          have HP1 : Hid (OwnK (w3.setCell ⟨g, i, none⟩ (.string x)) B (.slice (some ⟨g, 0, none⟩) n c) (rs.set i x)) := OwnK.put (x := x) (HOR.out.below HE3.out) hin2
          obtain ⟨q0, f0⟩ := OwnK.spot (HOR.out.below HE3.out) hin2
          have hin3 : i < n := by omega
          go_upto_region 10 with fail
          obtain ⟨w4, hw4⟩ : ∃ w4, w4 = w3.setCell ⟨g, i, none⟩ (.string x) := ⟨_, rfl⟩
          have HCH4 : Hid (Chg (fun k => k = g) w w4) := by rw [hw4]; exact Chg.setCell HCH3.out _ (fun _ => rfl) _
          rw [← hw4] at HP1 ⊢
          clear hw4 q0 f0 hin2
          have hii : (i : Int) + 1 ≤ 20000 := by omega
          have hji : (j : Int) + 1 ≤ 20000 := by omega
          go_wp2
          go_roundw
          case rel =>
            have hlr : rs.length = n := HRL.out
            refine ⟨i + 1, j + 1, rs.set i x, by go_num, by go_num, by omega, hlt, HP1.out, by rw [List.length_set]; exact hlr, ?_, ?_, HCH4.out⟩
            · have hjl2 : j < ls.length := by rw [HLN.out]; exact hlt
              rw [List.take_succ_eq_append_getElem hjl2, List.filter_append, ← HTK.out, ← HX.out]
              have h1 : [x].filter (fun y => !p y) = [x] := by simp [HPX.out]
              rw [h1, List.set_eq_take_append_cons_drop, if_pos (by omega)]
              rw [show rs.take i ++ x :: rs.drop (i + 1) = (rs.take i ++ [x]) ++ rs.drop (i + 1) by simp, List.take_append_of_le_length (by rw [List.length_append, List.length_take]; simp; omega), List.take_of_length_le (by rw [List.length_append, List.length_take]; simp; omega)]
            · have h1 : (rs.set i x).drop (j + 1) = rs.drop (j + 1) := by rw [List.drop_set_of_lt (by omega)]
              rw [h1]
              have := congrArg (List.drop 1) HDP.out
              simpa using this
          case measure => simp [intOf]; omega
      · have hci : ¬ c = i := by omega
        have hil : i ≤ rs.length := by rw [HRL.out]; omega
        have hjl : ls.length ≤ j := by rw [HLN.out]; omega
        have hrt : rs.take i = ls.filter (fun x => !p x) := by rw [HTK.out, List.take_of_length_le hjl]
        have hkp : 0 < n - i := by omega
        obtain ⟨w5, hcl, ho5, hg5⟩ := run_clearK wr B g i c (n - i) (c - i) (rs.take i) (own_takeK HOR.out hil) (by omega) hkp
        rw [hrt] at ho5
        have HO5 : Hid (OwnK w5 B (.slice (some ⟨g, 0, none⟩) i c) (ls.filter fun x => !p x)) := ho5
        have HC5 : Hid (Chg (fun k => k = g) w w5) := Chg.trans HCH.out hg5 (fun i _ e => e)
        clear ho5 hg5 hrt hjl hil
        go_wp2
        go_ret
        exact ⟨_, rfl, HO5.out, rfl, HC5.out.mono (fun k _ e => by rw [e]; rfl)⟩
  · have HRES : Hid (∀ W, Ext w W → DelPS w B (.slice ao n c) (ls.filter fun x => !p x) (.returned (.slice ao n c)) W) := fun W hx => HDN.out W hp hx
    clear hp HDN
    go_wp2
    go_ret
    exact HRES.out _ HE1.out
end Go.Proofs.Ytkgecljoodofeaa
