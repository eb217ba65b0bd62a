/- lock: sort.Search with find's closure; find, mode, awaits. Own lemmas, no statement. -/
import Derived.Test.YtkgecljoodofeaaLkC
set_option linter.unusedSimpArgs false
set_option linter.unusedVariables false
namespace Go.Proofs.Ytkgecljoodofeaa
open Go.ChangeShapes Go.WideShapes Go.ChangeAt Go.RowKit

set_option maxHeartbeats 1000000 in
theorem searchL_any (n : Nat) (c1 c2 : Value) (p : Nat → Bool) (w : World) (hn : n ≤ 4611686018427387904)
    (hf : Hid (∀ (W : World) (i : Nat), Ext w W → i < n → Calls Try.prog 56 #[.int .i64 (i : Int), c1, c2] W fun e w' => e = .returned (.bool (p i)) ∧ Ext W w'))
    (hm : Hid (∀ a b, a ≤ b → b < n → p a = true → p b = true)) :
    Calls Try.prog 55 #[.int .i64 (n : Int), .func (.func 56) #[] #[c1, c2]] w fun e w' =>
      ∃ r : Nat, e = .returned (.int .i64 (r : Int)) ∧ r ≤ n ∧ (∀ j, j < r → p j = false) ∧ (∀ j, r ≤ j → j < n → p j = true) ∧ Ext w w' := by
  go_enter Try.func55, Try.ntmps55
  go_wp2
  go_loopw [5, 6] (fun vi vj wr => ∃ i j : Nat, vi = .int .i64 i ∧ vj = .int .i64 j ∧ i ≤ j ∧ j ≤ n ∧ (∀ k, k < i → p k = false) ∧ (∀ k, j ≤ k → k < n → p k = true) ∧ Ext w wr) (fun vi vj _ => (intOf vj).toNat - (intOf vi).toNat)
  case atStart => exact ⟨0, n, rfl, rfl, by omega, by omega, by omega, by omega, Ext.refl _⟩
  case round =>
    obtain ⟨i, j, rfl, rfl, hij, hjn, h1, h2, hE⟩ := hrel
    have H1 : Hid _ := h1
    have H2 : Hid _ := h2
    have HE : Hid (Ext w wr) := hE
    clear h1 h2 hE
    by_cases hlt : i < j
    · go_wp2_with fail
      obtain ⟨h, hh, hih, hhj⟩ : ∃ h : Nat, ((i : Int) + (j : Int)) / 2 = (h : Int) ∧ i ≤ h ∧ h < j := ⟨(i + j) / 2, by omega, by omega, by omega⟩
      rw [hh]
      clear hh
      refine (hf.out wr h HE.out (by omega)).mono ?_
      rintro e w2 ⟨rfl, hE2⟩
      have HE2 : Hid (Ext w w2) := HE.out.trans hE2
      clear hE2 HE
      cases hp : p h with
      | true =>
        have HP : Hid (p h = true) := hp
        clear hp
        go_wp2
        go_roundw
        case rel => exact ⟨i, h, rfl, rfl, hih, by omega, H1.out, fun k hk hkn => hm.out h k hk hkn HP.out, HE2.out⟩
        case measure => simp [intOf]; omega
      | false =>
        have HP : Hid (p h = false) := hp
        clear hp
        go_wp2
        go_roundw
        case rel =>
          refine ⟨h + 1, j, by go_num, rfl, by omega, hjn, fun k hk => ?_, H2.out, HE2.out⟩
          cases hq : p k with
          | false => rfl
          | true => have := hm.out k h (by omega) (by omega) hq; rw [HP.out] at this; cases this
        case measure => simp [intOf]; omega
    · go_wp2
      go_ret
      exact ⟨i, rfl, by omega, H1.out, fun k hk hkn => H2.out k (by omega) hkn, HE.out⟩

theorem hasT_at {t : Td} {ls : List Wn} (h : posT t ls < ls.length) : hasT t ls = eqT ls[posT t ls].t t := by unfold hasT; rw [List.getElem?_eq_getElem h]
theorem hasT_end {t : Td} {ls : List Wn} (h : ¬ posT t ls < ls.length) : hasT t ls = false := by unfold hasT; rw [List.getElem?_eq_none (by omega)]
theorem modeT_at {t : Td} {ls : List Wn} (h : posT t ls < ls.length) (he : hasT t ls = true) : modeT t ls = ls[posT t ls].mode := by
  rw [hasT_at h] at he
  unfold modeT
  rw [List.getElem?_eq_getElem h]
  simp only [he, if_true]
theorem modeT_no {t : Td} {ls : List Wn} (he : hasT t ls = false) : modeT t ls = 0 := by
  by_cases h : posT t ls < ls.length
  · rw [hasT_at h] at he
    unfold modeT
    rw [List.getElem?_eq_getElem h]
    simp [he]
  · unfold modeT
    rw [List.getElem?_eq_none (by omega)]

set_option maxHeartbeats 2000000 in
theorem find_any (hv wv : Value) (ls : List Wn) (t : Td) (w : World) (hp : RowW w hv ls) (hs : Srt ls) (hn : ls.length ≤ 1000000) :
    Calls Try.prog 41 #[.agg #[hv, wv], .agg #[.int .u64 t.num, .int .i64 t.node]] w fun e w' => e = .returned (.tuple #[.int .i64 (posT t ls : Nat), .bool (hasT t ls)]) ∧ Ext w w' := by
  obtain ⟨ao, c, rfl, hc, hm, hzn, hr⟩ := hp
  obtain ⟨w0, hw0⟩ : ∃ w0, w0 = (w.alloc (.cells #[.slice ao ls.length c, wv] 67)).alloc (.cells #[.int .u64 t.num, .int .i64 t.node] 29) := ⟨_, rfl⟩
  have HB2 : Hid (Ext w w0) := by rw [hw0]; exact ext_two _ _
  have b1 : Blk w0 w.heap.size #[.slice ao ls.length c, wv] 67 := by rw [hw0]; exact (Blk.new _ _ _).alloc _
  have b2 : Blk w0 (w.heap.size + 1) #[.int .u64 t.num, .int .i64 t.node] 29 := by
    have := Blk.new (w.alloc (.cells #[.slice ao ls.length c, wv] 67)) #[.int .u64 t.num, .int .i64 t.node] 29
    rw [hw0]
    simpa using this
  have c0 : w0.cell? ⟨w.heap.size, 0, none⟩ = some (.slice ao ls.length c) := b1.cell 0
  have c1 : w0.cell? ⟨w.heap.size + 1, 0, none⟩ = some (.int .u64 t.num) := b2.cell 0
  have c2 : w0.cell? ⟨w.heap.size + 1, 1, none⟩ = some (.int .i64 t.node) := b2.cell 1
  have hr0 := hr.below HB2.out
  have hf : Hid (∀ (W : World) (i : Nat), Ext w0 W → i < ls.length → Calls Try.prog 56 #[.int .i64 (i : Int), .pointer (some ⟨w.heap.size, 0, none⟩), .pointer (some ⟨w.heap.size + 1, 0, none⟩)] W fun e w' => e = .returned (.bool (match ls[i]? with | some p => !(eldT p.t t) | none => false)) ∧ Ext W w') := by
    intro W i hW hi
    have := find1_any i w.heap.size (w.heap.size + 1) (.slice ao ls.length c) wv ls t W ((Below.cell hW (cell_lt c0)).trans c0) ((Below.cell hW (cell_lt c1)).trans c1) ((Below.cell hW (cell_lt c2)).trans c2) ⟨ao, c, rfl, hc, hm, hzn, hr0.below hW⟩ hi
    rw [List.getElem?_eq_getElem hi]
    exact this
  have hmono : Hid (∀ a b, a ≤ b → b < ls.length → (match ls[a]? with | some p => !(eldT p.t t) | none => false) = true → (match ls[b]? with | some p => !(eldT p.t t) | none => false) = true) := by
    intro a b hab hb ha
    rw [List.getElem?_eq_getElem (by omega)] at ha
    rw [List.getElem?_eq_getElem hb]
    simp at ha ⊢
    rcases (show a = b ∨ a < b by omega) with rfl | hlt
    · exact ha
    · cases h : eldT ls[b].t t with
      | false => rfl
      | true => rw [eldT_trans (hs.get hlt hb) h] at ha; cases ha
  have HSR : Hid (Calls _ _ _ _ _) := searchL_any ls.length (.pointer (some ⟨w.heap.size, 0, none⟩)) (.pointer (some ⟨w.heap.size + 1, 0, none⟩)) (fun i => match ls[i]? with | some p => !(eldT p.t t) | none => false) w0 (by omega) hf hmono
  have HR0 : Hid (RowAt w0 ao ls) := hr0
  have HS : Hid (Srt ls) := hs
  have C1 : Hid (w0.cell? ⟨w.heap.size + 1, 0, none⟩ = some (.int .u64 t.num)) := c1
  have C2 : Hid (w0.cell? ⟨w.heap.size + 1, 1, none⟩ = some (.int .i64 t.node)) := c2
  have C0 : Hid (w0.cell? ⟨w.heap.size, 0, none⟩ = some (.slice ao ls.length c)) := c0
  clear hr hr0 hs hf hmono hzn b1 b2 c1 c2
  obtain ⟨n, hln⟩ : ∃ n, ls.length = n := ⟨_, rfl⟩
  have HLN : Hid (ls.length = n) := hln
  rw [hln] at hc hn HSR c0 C0 hw0 ⊢
  clear hln
  unfold maxLen at hm
  go_enter Try.func41, Try.ntmps41
  go_upto_region 1 with fail
  rw [← hw0]
  clear hw0
  go_wp2_with fail
  refine HSR.out.mono ?_
  rintro e w2 ⟨r, rfl, hrn, hr1, hr2, hE2⟩
  have hidx : r = posT t ls := posT_is (by rw [HLN.out]; exact hrn) (fun j hj hjr => by
      have := hr1 j hjr
      rw [List.getElem?_eq_getElem hj] at this
      simpa using this) (fun hj => by
      have := hr2 r (Nat.le_refl _) (by rw [HLN.out] at hj; exact hj)
      rw [List.getElem?_eq_getElem hj] at this
      simpa using this)
  have HI : Hid (r = posT t ls) := hidx
  have HEE : Hid (Ext w w2.drew) := (HB2.out.trans hE2).drew
  have k1 := cellX (W0 := w2.drew) ((Below.cell hE2 (cell_lt C0.out)).trans C0.out)
  have k2 := cellX (W0 := w2.drew) ((Below.cell hE2 (cell_lt C1.out)).trans C1.out)
  have k3 := cellX (W0 := w2.drew) ((Below.cell hE2 (cell_lt C2.out)).trans C2.out)
  have hpw := HR0.out.below hE2
  clear HR0 C0 C1 C2 HB2 HSR hr1 hr2 hidx hE2 c0
  haveI n1 := cls_ext w2.drew
  by_cases hlt : r < n
  · have hd : decide ((r : Int) < (n : Int)) = true := by simp; omega
    have hrl : r < ls.length := by rw [HLN.out]; exact hlt
    obtain ⟨ad, had⟩ := hpw.ad hrl
    subst had
    obtain ⟨y0, y1, y2⟩ := hpw.2 ad rfl r hrl
    obtain ⟨x, hx⟩ : ∃ x, x = ls[r] := ⟨_, rfl⟩
    rw [← hx] at y0 y1 y2
    have k4 := cellX (W0 := w2.drew) y0
    have k5 := cellX (W0 := w2.drew) y1
    have HX : Hid (hasT t ls = eqT x.t t) := by
      show _ = _
      have h2 := HI.out
      subst h2
      rw [hasT_at hrl, hx]
    clear hpw y0 y1 y2 hx
    obtain ⟨xn, xd, xm⟩ := x
    obtain ⟨tn, td⟩ := t
    simp only at k2 k3 k4 k5
    have HX2 : Hid (hasT ⟨tn, td⟩ ls = eqT ⟨xn, xd⟩ ⟨tn, td⟩) := HX.out
    clear HX
    go_upto_region 2 with fail
    refine wp_region_ext (by kernel_rfl) ?_
    rcases td_cases xn xd tn td with ⟨rfl, rfl, he⟩ | ⟨rfl, hd2, he⟩ | ⟨hn2, he⟩
    · have HX3 : Hid (_ = true) := HX2.out.trans he
      clear he HX2
      refine wpAnyH_seg (by kernel_rfl) (fun _ _ _ h => h) [0, 1, 2, 3, 4, 5, 6, 7, 8, 9, 10, 11, 12, 13, 14, 15, 16, 17] 0 _ _ _ (Ext.refl _) (by kernel_rfl) ?_
      simp only [opsAt, List.getElem?_toArray, List.getElem?_cons_zero, List.getElem?_cons_succ, List.cons_append, List.nil_append]
      repeat (go_big_quiet_step (fail))
      refine wpQuiet_nil ?_
      refine wpAnyH_done (by kernel_rfl) (NoPanic.normal ?_) 0
      clear k1 k2 k3 k4 k5 n1
      go_wp2
      go_ret2
      exact ⟨by rw [← HI.out, HX3.out]; simp, HEE.out⟩
    · have HX3 : Hid (_ = false) := HX2.out.trans he
      clear he HX2
      have hd3 : (xd == td) = false := beq_eq_false_iff_ne.2 hd2
      refine wpAnyH_seg (by kernel_rfl) (fun _ _ _ h => h) [0, 1, 2, 3, 4, 5, 6, 7, 8, 9, 10, 11, 12, 13, 14, 15, 16, 17] 0 _ _ _ (Ext.refl _) (by kernel_rfl) ?_
      simp only [opsAt, List.getElem?_toArray, List.getElem?_cons_zero, List.getElem?_cons_succ, List.cons_append, List.nil_append]
      repeat (go_big_quiet_step (fail))
      refine wpQuiet_nil ?_
      refine wpAnyH_done (by kernel_rfl) (NoPanic.normal ?_) 0
      clear k1 k2 k3 k4 k5 n1
      go_wp2
      go_ret2
      exact ⟨by rw [← HI.out, HX3.out]; simp_all, HEE.out⟩
    · have HX3 : Hid (_ = false) := HX2.out.trans he
      clear he HX2
      have hd3 : (xn == tn) = false := beq_eq_false_iff_ne.2 hn2
      refine wpAnyH_seg (by kernel_rfl) (fun _ _ _ h => h) [0, 1, 2, 3, 4, 5, 6, 7, 8, 9, 10, 11, 12, 13, 14, 15, 16, 17] 0 _ _ _ (Ext.refl _) (by kernel_rfl) ?_
      simp only [opsAt, List.getElem?_toArray, List.getElem?_cons_zero, List.getElem?_cons_succ, List.cons_append, List.nil_append]
      repeat (go_big_quiet_step (fail))
      refine wpQuiet_nil ?_
      refine wpAnyH_done (by kernel_rfl) (NoPanic.normal ?_) 0
      clear k1 k2 k3 k4 k5 n1
      go_wp2
      go_ret2
      exact ⟨by rw [← HI.out, HX3.out]; simp_all, HEE.out⟩
  · have hd : decide ((r : Int) < (n : Int)) = false := by simp; omega
    have HX : Hid (hasT t ls = false) := by
      show _ = _
      rw [hasT_end]
      rw [← HI.out, HLN.out]
      exact hlt
    clear hpw
    go_upto_region 2 with fail
    refine wp_region_ext (by kernel_rfl) ?_
    refine wpAnyH_seg (by kernel_rfl) (fun _ _ _ h => h) [0, 1, 2, 3, 4, 5, 6, 7, 8, 9, 10, 11, 12, 13, 14, 15, 16, 17] 0 _ _ _ (Ext.refl _) (by kernel_rfl) ?_
    simp only [opsAt, List.getElem?_toArray, List.getElem?_cons_zero, List.getElem?_cons_succ, List.cons_append, List.nil_append]
    repeat (go_big_quiet_step (fail))
    refine wpQuiet_nil ?_
    refine wpAnyH_done (by kernel_rfl) (NoPanic.normal ?_) 0
    clear k1 k2 k3 n1
    go_wp2
    go_ret2
    exact ⟨by rw [← HI.out, HX.out]; simp, HEE.out⟩
end Go.Proofs.Ytkgecljoodofeaa
