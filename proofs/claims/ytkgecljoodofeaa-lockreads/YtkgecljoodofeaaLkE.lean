/- lock: mode, awaits, front. Own lemmas, no statement. -/
import Derived.Test.YtkgecljoodofeaaLkD
set_option linter.unusedSimpArgs false
set_option linter.unusedVariables false
namespace Go.Proofs.Ytkgecljoodofeaa
open Go.ChangeShapes Go.WideShapes Go.ChangeAt Go.RowKit

set_option maxHeartbeats 2000000 in
theorem mode_any (hv wv : Value) (ls : List Wn) (t : Td) (w : World) (hp : RowW w hv ls) (hs : Srt ls) (hn : ls.length ≤ 1000000) :
    Calls Try.prog 24 #[.agg #[hv, wv], .agg #[.int .u64 t.num, .int .i64 t.node]] w fun e w' => e = .returned (.int .i64 (modeT t ls)) ∧ Ext w w' := by
  have HP0 : Hid (RowW w hv ls) := hp
  obtain ⟨ao, c, rfl, hc, hm, _, hr⟩ := hp
  obtain ⟨w0, hw0⟩ : ∃ w0, w0 = (w.alloc (.cells #[.slice ao ls.length c, wv] 67)).alloc (.cells #[.int .u64 t.num, .int .i64 t.node] 29) := ⟨_, rfl⟩
  have HB2 : Hid (Ext w w0) := by rw [hw0]; exact ext_two _ _
  have b1 : Blk w0 w.heap.size #[.slice ao ls.length c, wv] 67 := by rw [hw0]; exact (Blk.new _ _ _).alloc _
  have b2 : Blk w0 (w.heap.size + 1) #[.int .u64 t.num, .int .i64 t.node] 29 := by
    have := Blk.new (w.alloc (.cells #[.slice ao ls.length c, wv] 67)) #[.int .u64 t.num, .int .i64 t.node] 29
    rw [hw0]
    simpa using this
  have c0 : w0.cell? ⟨w.heap.size, 0, none⟩ = some (.slice ao ls.length c) := b1.cell 0
  have c3 : w0.cell? ⟨w.heap.size, 1, none⟩ = some wv := b1.cell 1
  have c1 : w0.cell? ⟨w.heap.size + 1, 0, none⟩ = some (.int .u64 t.num) := b2.cell 0
  have c2 : w0.cell? ⟨w.heap.size + 1, 1, none⟩ = some (.int .i64 t.node) := b2.cell 1
  have HF : Hid (Calls _ _ _ _ _) := find_any (.slice ao ls.length c) wv ls t w0 (HP0.out.below HB2.out) hs hn
  have HRW : Hid (RowAt w0 ao ls) := hr.below HB2.out
  have hle := posT_le t ls
  have HM : Hid (hasT t ls = true → ∃ h : posT t ls < ls.length, modeT t ls = ls[posT t ls].mode) := fun h => by
    by_cases hl : posT t ls < ls.length
    · exact ⟨hl, modeT_at hl h⟩
    · rw [hasT_end hl] at h; cases h
  have HMN : Hid (hasT t ls = false → modeT t ls = 0) := modeT_no
  have HC0 : Hid (w0.cell? ⟨w.heap.size, 0, none⟩ = some (.slice ao ls.length c)) := c0
  clear hr hs b1 b2 HP0
  generalize posT t ls = r at *
  generalize hasT t ls = b at *
  generalize modeT t ls = md at *
  obtain ⟨n, hln⟩ : ∃ n, ls.length = n := ⟨_, rfl⟩
  have HLN : Hid (ls.length = n) := hln
  rw [hln] at hc hn c0 hw0 hle HC0 HF ⊢
  clear hln
  unfold maxLen at hm
  go_enter Try.func24, Try.ntmps24
  go_upto_region 1 with fail
  rw [← hw0]
  clear hw0
  go_wp2_with fail
  refine HF.out.mono ?_
  rintro e w2 ⟨rfl, hE2⟩
  have y0 := (Below.cell hE2 (cell_lt HC0.out)).trans HC0.out
  have HEE : Hid (Ext w w2) := HB2.out.trans hE2
  clear c0 c1 c2 c3 HC0 HF
  cases b with
  | true =>
    obtain ⟨hl, hmo⟩ := HM.out rfl
    have hrn : r < n := by rw [← HLN.out]; exact hl
    obtain ⟨ad, had⟩ := HRW.out.ad hl
    subst had
    obtain ⟨z0, z1, z2⟩ := HRW.out.2 ad rfl r hl
    rw [← hmo] at z2
    have z := (Below.cell hE2 (cell_lt z2)).trans z2
    clear z0 z1 z2 HB2 hE2 HM HMN HRW hmo hl
    go_wp2
    go_ret
    exact ⟨rfl, HEE.out⟩
  | false =>
    have hmo : Hid (md = 0) := HMN.out rfl
    clear HB2 hE2 HM HMN HRW
    go_wp2
    go_ret
    exact ⟨by rw [hmo.out]; rfl, HEE.out⟩

set_option maxHeartbeats 2000000 in
theorem awaits_any (hv wv : Value) (ls : List Wn) (t : Td) (w : World) (hp : RowW w wv ls) (hn : ls.length ≤ 1000000) :
    Calls Try.prog 25 #[.agg #[hv, wv], .agg #[.int .u64 t.num, .int .i64 t.node]] w fun e w' => e = .returned (.bool (ls.any fun x => eqT x.t t)) ∧ Ext w w' := by
  have HP0 : Hid (RowW w wv ls) := hp
  obtain ⟨w0, hw0⟩ : ∃ w0, w0 = (w.alloc (.cells #[hv, wv] 67)).alloc (.cells #[.int .u64 t.num, .int .i64 t.node] 29) := ⟨_, rfl⟩
  have HB2 : Hid (Ext w w0) := by rw [hw0]; exact ext_two _ _
  have b1 : Blk w0 w.heap.size #[hv, wv] 67 := by rw [hw0]; exact (Blk.new _ _ _).alloc _
  have b2 : Blk w0 (w.heap.size + 1) #[.int .u64 t.num, .int .i64 t.node] 29 := by
    have := Blk.new (w.alloc (.cells #[hv, wv] 67)) #[.int .u64 t.num, .int .i64 t.node] 29
    rw [hw0]
    simpa using this
  have c3 : w0.cell? ⟨w.heap.size, 1, none⟩ = some wv := b1.cell 1
  have c1 : w0.cell? ⟨w.heap.size + 1, 0, none⟩ = some (.int .u64 t.num) := b2.cell 0
  have c2 : w0.cell? ⟨w.heap.size + 1, 1, none⟩ = some (.int .i64 t.node) := b2.cell 1
  have HF : Hid (Calls _ _ _ _ _) := containsF_A (.pointer (some ⟨w.heap.size + 1, 0, none⟩)) (fun x => eqT x.t t) wv ls w0 (HP0.out.below HB2.out) hn (fun W x hW hx => awaits1_any x t (w.heap.size + 1) W ((Below.cell hW (cell_lt c1)).trans c1) ((Below.cell hW (cell_lt c2)).trans c2))
  obtain ⟨ao, c, rfl, _⟩ := hp
  clear hn b1 b2 HP0
  generalize (ls.any fun x => eqT x.t t) = B at *
  generalize ls.length = n at *
  go_enter Try.func25, Try.ntmps25
  go_upto_region 1 with fail
  rw [← hw0]
  clear hw0
  go_wp2_with fail
  refine HF.out.mono ?_
  rintro e w2 ⟨rfl, hE2⟩
  have HEE : Hid (Ext w w2) := HB2.out.trans hE2
  clear hE2 HB2 HF c1 c2 c3
  go_wp2
  go_ret
  exact ⟨rfl, HEE.out⟩

/-- How many at the front of those who wait have it, too. -/
def frontN (has : List Wn) : List Wn → Nat
  | [] => 0
  | x :: r => if modeT x.t has = 0 then 0 else frontN has r + 1
theorem frontN_le (has : List Wn) : ∀ ls : List Wn, frontN has ls ≤ ls.length
  | [] => Nat.le_refl _
  | x :: r => by
    unfold frontN
    have := frontN_le has r
    split <;> simp <;> omega
theorem frontN_is (has : List Wn) : ∀ (ls : List Wn) (r : Nat), r ≤ ls.length → (∀ j (h : j < ls.length), j < r → modeT ls[j].t has ≠ 0) → (∀ h : r < ls.length, modeT ls[r].t has = 0) → r = frontN has ls
  | [], r, hr, _, _ => by simp at hr; exact hr
  | x :: t, 0, _, _, h2 => by
    have := h2 (by simp)
    simp only [List.getElem_cons_zero] at this
    simp [frontN, this]
  | x :: t, r + 1, hr, h1, h2 => by
    have h0 := h1 0 (by simp) (by omega)
    simp only [List.getElem_cons_zero] at h0
    have ih := frontN_is has t r (by simpa using hr) (fun j hj hjr => by have := h1 (j + 1) (by simpa using hj) (by omega); simpa using this) (fun h => by have := h2 (by simpa using h); simpa using this)
    simp [frontN, h0, ← ih]
set_option maxHeartbeats 2000000 in
theorem front_any (hv wv : Value) (has ls : List Wn) (w : World) (hh : RowW w hv has) (hp : RowW w wv ls) (hs : Srt has) (hl : has.length ≤ 1000000) (hn : ls.length ≤ 1000000) :
    Calls Try.prog 26 #[.agg #[hv, wv]] w fun e w' => e = .returned (.int .i64 (frontN has ls : Nat)) ∧ Ext w w' := by
  have HH0 : Hid (RowW w hv has) := hh
  have HP0 : Hid (RowW w wv ls) := hp
  have HS : Hid (Srt has) := hs
  obtain ⟨w0, hw0⟩ : ∃ w0, w0 = w.alloc (.cells #[hv, wv] 67) := ⟨_, rfl⟩
  have HB1 : Hid (Ext w w0) := by rw [hw0]; exact ext_one _
  have b1 : Blk w0 w.heap.size #[hv, wv] 67 := by rw [hw0]; exact Blk.new _ _ _
  have C0 : Hid (w0.cell? ⟨w.heap.size, 0, none⟩ = some hv) := b1.cell 0
  have C1 : Hid (w0.cell? ⟨w.heap.size, 1, none⟩ = some wv) := b1.cell 1
  obtain ⟨ao, c, rfl, h1, h2, _, h3⟩ := hp
  obtain ⟨ho, hc, rfl, _, _, _, _⟩ := hh
  have H3 : Hid (RowAt w ao ls) := h3
  obtain ⟨n, hln⟩ : ∃ n, ls.length = n := ⟨_, rfl⟩
  have HLN : Hid (ls.length = n) := hln
  rw [hln] at h1 hn C1 hw0 ⊢
  unfold maxLen at h2
  clear hs h3 hln b1
  obtain ⟨hn0, hhn⟩ : ∃ hn0, has.length = hn0 := ⟨_, rfl⟩
  have HHN : Hid (has.length = hn0) := hhn
  have HF : Hid (∀ (W : World) (x : Wn), Ext w0 W → Calls Try.prog 24 #[.agg #[.slice ho hn0 hc, .slice ao n c], .agg #[.int .u64 x.num, .int .i64 x.node]] W fun e w' => e = .returned (.int .i64 (modeT x.t has)) ∧ Ext W w') := fun W x hW => by
    rw [← HHN.out]
    exact mode_any _ _ has x.t W ((HH0.out.below HB1.out).below hW) HS.out hl
  rw [hhn] at C0 hw0 ⊢
  clear hhn hl
  go_enter Try.func26, Try.ntmps26
  go_upto_region 1 with fail
  rw [← hw0]
  clear hw0
  go_wp2_with fail
  go_loopw [3] (fun vi wr => ∃ i : Nat, vi = .int .i64 (i : Int) ∧ i ≤ n ∧ (∀ j (hj : j < ls.length), j < i → modeT ls[j].t has ≠ 0) ∧ Ext w0 wr) (fun vi _ => n - (intOf vi).toNat)
  case atStart => exact ⟨0, rfl, Nat.zero_le _, fun j hj h => by omega, Ext.refl _⟩
  case round =>
    obtain ⟨i, rfl, hin, hpr, hE⟩ := hrel
    have HPR : Hid (∀ j (hj : j < ls.length), j < i → modeT ls[j].t has ≠ 0) := hpr
    have HE : Hid (Ext w0 wr) := hE
    clear hpr
    have d0 := (Below.cell hE (cell_lt C0.out)).trans C0.out
    have d1 := (Below.cell hE (cell_lt C1.out)).trans C1.out
    clear hE
    by_cases hlt : i < n
    · have hil : i < ls.length := by rw [HLN.out]; exact hlt
      have hd : decide ((i : Int) < (n : Int)) = true := by simp; omega
      obtain ⟨ad, had⟩ := H3.out.ad hil
      subst had
      obtain ⟨k0, k1, k2⟩ := ((H3.out.below HB1.out).below HE.out).2 ad rfl i hil
      obtain ⟨x, hx⟩ : ∃ x, x = ls[i] := ⟨_, rfl⟩
      rw [← hx] at k0 k1 k2
      have HX : Hid (x = ls[i]) := hx
      have q0 := cellX (W0 := wr.drew) d0
      have q1 := cellX (W0 := wr.drew) d1
      have q2 := cellX (W0 := wr.drew) k0
      have q3 := cellX (W0 := wr.drew) k1
      have HFX : Hid (Calls _ _ _ _ _) := HF.out wr.drew x HE.out.drew
      clear hx d0 d1 k0 k1 k2
      haveI n1 := cls_ext wr.drew
      go_wp2_with fail
      refine wp_region_ext (by kernel_rfl) ?_
      refine wpAnyH_seg (by kernel_rfl) (fun _ _ _ h => h) [0, 1, 2, 3, 4, 5, 6, 7, 8, 9, 10, 11, 12] 3 _ _ _ (Ext.refl _) (by kernel_rfl) ?_
      simp only [opsAt, List.getElem?_toArray, List.getElem?_cons_zero, List.getElem?_cons_succ, List.cons_append, List.nil_append]
      repeat (go_big_quiet_step (fail))
      refine wpQuiet_nil ?_
      refine wpAnyH_callE (i := 13) (fuel := 2) 17 rfl (by kernel_rfl) rfl (Ext.refl _) (by kernel_rfl) (f := 24) (args := #[.agg #[.slice ho hn0 hc, .slice (some ad) n c], .agg #[.int .u64 x.num, .int .i64 x.node]]) (by kernel_rfl) HFX.out ?_
      rintro e w2 ⟨rfl, hE2⟩
      refine ⟨_, rfl, hE2, ?_⟩
      have HE2 : Hid (Ext w0 w2) := Ext.trans (Below.drew HE.out) hE2
      clear HFX hE2 HE
      haveI n2 := cls_ext w2
      obtain ⟨md, hmd⟩ : ∃ md, modeT x.t has = md := ⟨_, rfl⟩
      rw [hmd]
      have HMD : Hid (modeT x.t has = md) := hmd
      clear hmd
      simp only [Act.put, List.setIfInBounds_toArray, List.set_cons_succ, List.set_cons_zero]
      by_cases h0 : md = 0
      · have h0b : (md != 0) = false := by simp [h0]
        have H0 : Hid (md = 0) := h0
        clear h0
        refine wpAnyH_seg (by kernel_rfl) (fun _ _ _ h => h) [14, 15] 0 _ _ _ (Ext.refl _) (by kernel_rfl) ?_
        simp only [opsAt, List.getElem?_toArray, List.getElem?_cons_zero, List.getElem?_cons_succ, List.cons_append, List.nil_append]
        repeat (go_big_quiet_step (fail))
        refine wpQuiet_nil ?_
        refine wpAnyH_done (by kernel_rfl) (NoPanic.normal ?_) 0
        clear q0 q1 q2 q3 n1 n2
        go_wp2
        go_ret
        refine ⟨?_, Ext.trans HB1.out HE2.out⟩
        rw [← frontN_is has ls i (by omega) HPR.out (fun h => by rw [← HX.out, HMD.out, H0.out])]
        rfl
      · have h0b : (md != 0) = true := by simp [h0]
        have H0 : Hid (md ≠ 0) := h0
        clear h0
        refine wpAnyH_seg (by kernel_rfl) (fun _ _ _ h => h) [14, 15] 0 _ _ _ (Ext.refl _) (by kernel_rfl) ?_
        simp only [opsAt, List.getElem?_toArray, List.getElem?_cons_zero, List.getElem?_cons_succ, List.cons_append, List.nil_append]
        repeat (go_big_quiet_step (fail))
        refine wpQuiet_nil ?_
        refine wpAnyH_done (by kernel_rfl) (NoPanic.normal ?_) 0
        clear q0 q1 q2 q3 n1 n2
        go_wp2
        go_roundw
        case rel =>
          refine ⟨i + 1, by go_num, hlt, fun j hj hji => ?_, HE2.out⟩
          rcases (show j < i ∨ j = i by omega) with h | rfl
          · exact HPR.out j hj h
          · rw [← HX.out, HMD.out]; exact H0.out
        case measure => simp [intOf]; omega
    · have hd : decide ((i : Int) < (n : Int)) = false := by simp; omega
      have HIN : Hid (i = n) := by show _ = _; omega
      clear hin
      go_wp2_with fail
      go_quiet (fail)
      go_wp2
      go_ret
      refine ⟨?_, by have h := Ext.trans HB1.out HE.out; exact ⟨h.os, h.tape, h.output, h.size, h.block⟩⟩
      rw [← frontN_is has ls i (by rw [HLN.out, HIN.out]; exact Nat.le_refl _) HPR.out (fun h => by have := HLN.out; have := HIN.out; omega)]
      rfl
end Go.Proofs.Ytkgecljoodofeaa
