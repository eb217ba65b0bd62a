/- lock: serve, walked. Own lemmas, no statement. -/
import Derived.Test.YtkgecljoodofeaaLkW
import Derived.Test.YtkgecljoodofeaaLkX
import Derived.Test.YtkgecljoodofeaaLkR
set_option linter.unusedSimpArgs false
set_option linter.unusedVariables false
namespace Go.Proofs.Ytkgecljoodofeaa
open Go.ChangeShapes Go.WideShapes Go.ChangeAt Go.RowKit

/-- Who has the key when those at the front who can have it have it, and how many these are. -/
def serveN : List Wn → List Wn → List Wn × Nat
  | has, [] => (has, 0)
  | has, x :: r => if has.any (agB x) then (has, 0) else ((serveN (giveL x has) r).1, (serveN (giveL x has) r).2 + 1)
theorem serveN_le : ∀ (ls has : List Wn), (serveN has ls).2 ≤ ls.length
  | [], has => Nat.le_refl _
  | x :: r, has => by
    unfold serveN
    have := serveN_le r (giveL x has)
    split
    · exact Nat.zero_le _
    · simp only [List.length_cons]; omega
theorem serveN_srt : ∀ (ls has : List Wn), Srt has → Srt (serveN has ls).1
  | [], has, h => h
  | x :: r, has, h => by
    unfold serveN
    split
    · exact h
    · exact serveN_srt r _ (giveL_srt h)
theorem serveN_step {has ls : List Wn} {i : Nat} (hi : i < ls.length) (h : has.any (agB ls[i]) = false) : serveN has (ls.drop i) = ((serveN (giveL ls[i] has) (ls.drop (i + 1))).1, (serveN (giveL ls[i] has) (ls.drop (i + 1))).2 + 1) := by
  rw [List.drop_eq_getElem_cons hi]
  show (if has.any (agB ls[i]) then _ else _) = _
  rw [h]
  rfl
theorem serveN_stop {has ls : List Wn} {i : Nat} (hi : i < ls.length) (h : has.any (agB ls[i]) = true) : serveN has (ls.drop i) = (has, 0) := by
  rw [List.drop_eq_getElem_cons hi]
  show (if has.any (agB ls[i]) then _ else _) = _
  rw [h]
  rfl
theorem exec_bound {ρ : Operand → Value} {o : Oper} {w : World} {x : Operand} {f : Fn} {v : Value} (ho : o.op = .makeFunc f #[x] #[]) (hx : ρ x = v) : (execOp ρ o).run Try.prog w = .ok (.value (.func f #[v] #[])) w := by
  unfold execOp
  rw [ho]
  simp only [List.map_toArray, List.map_cons, List.map_nil, hx]
  rfl
/-- What serve leaves. -/
def ServeP (w : World) (B g : Nat) (hv wv : Value) (has waits : List Wn) (e : Ending) (w' : World) : Prop := ∃ gv hv' wv', e = .returned gv ∧ Blk w' g #[hv', wv'] 67 ∧ OwnW w' B hv' (serveN has waits).1 ∧ OwnW w' B wv' (waits.drop (serveN has waits).2) ∧ OwnW w' w.heap.size gv (waits.take (serveN has waits).2) ∧ (hv'.ownBlock = hv.ownBlock ∨ ∃ k, hv'.ownBlock = some k ∧ w.heap.size ≤ k) ∧ wv'.ownBlock = wv.ownBlock ∧ Chg (fun i => i = g ∨ hv.ownBlock = some i ∨ wv.ownBlock = some i) w w'

set_option maxRecDepth 100000 in
set_option maxHeartbeats 4000000 in
theorem serve_any (B g : Nat) (hv wv : Value) (has waits : List Wn) (w : World) (hq : Blk w g #[hv, wv] 67) (oh : OwnW w B hv has) (ow : OwnW w B wv waits) (hs : Srt has) (hd : ∀ b, hv.ownBlock = some b → wv.ownBlock ≠ some b) (hl : has.length + waits.length ≤ 9999) (hB : B ≤ w.heap.size) :
    Calls Try.prog 36 #[.pointer (some ⟨g, 0, none⟩)] w (ServeP w B g hv wv has waits) := by
  have HQ : Hid (Blk w g #[hv, wv] 67) := hq
  have HNG : Hid (hv.ownBlock ≠ some g ∧ wv.ownBlock ≠ some g) := ⟨oh.notBlk hq (by decide), ow.notBlk hq (by decide)⟩
  have HD : Hid (∀ b, hv.ownBlock = some b → wv.ownBlock ≠ some b) := hd
  have HGL : Hid (g < w.heap.size) := hq.lt
  have HB : Hid (B ≤ w.heap.size) := hB
  have HWL : Hid (∀ b, wv.ownBlock = some b → b < w.heap.size) := fun b hb => (World.ownsRow.lt ow b hb).2
  have HOH : Hid (OwnW w B hv has ∧ Srt has) := ⟨oh, hs⟩
  have HOW : Hid (OwnW w B wv waits) := ow
  have HLE : Hid (has.length + waits.length ≤ 9999) := hl
  obtain ⟨wa, wn, wc, ew, hwn, hwc, hwz⟩ : ∃ a n c, wv = .slice a n c ∧ waits.length = n ∧ (n ≤ c ∧ c ≤ maxLen) ∧ (a = none → c = 0) := by obtain ⟨a, c, e, h1, h2, h3, _⟩ := ow.row; exact ⟨a, _, c, e, rfl, ⟨h1, h2⟩, h3⟩
  have HWN : Hid (waits.length = wn) := hwn
  have hw9 : wn ≤ 9999 := by omega
  have HAL : Hid (wn ≤ wc ∧ wc ≤ maxLen ∧ (wa = none → wc = 0)) := ⟨hwc.1, hwc.2, hwz⟩
  have h0 : (wn : Int) ≤ 10000 := by omega
  clear hq oh ow hd hl hs hB hwn hwc hwz
  subst ew
  go_enter Try.func36, Try.ntmps36
  go_wp2_with fail
  go_loopw [3] (fun vi wr => ∃ (i : Nat) (h' : Value) (hasI : List Wn), vi = .int .i64 (i : Int) ∧ i ≤ wn ∧ Blk wr g #[h', .slice wa wn wc] 67 ∧ OwnW wr B h' hasI ∧ Srt hasI ∧ OwnW wr B (.slice wa wn wc) waits ∧ hasI.length ≤ has.length + i ∧ serveN has waits = ((serveN hasI (waits.drop i)).1, i + (serveN hasI (waits.drop i)).2) ∧ (h'.ownBlock = hv.ownBlock ∨ ∃ k, h'.ownBlock = some k ∧ w.heap.size ≤ k) ∧ Chg (fun i => i = g ∨ hv.ownBlock = some i) w wr) (fun vi _ => wn - (intOf vi).toNat)
  case atStart =>
    refine ⟨0, hv, has, rfl, Nat.zero_le _, HQ.out, HOH.out.1, HOH.out.2, HOW.out, Nat.le_refl _, ?_, .inl rfl, Chg.refl _ _⟩
    rw [List.drop_zero, Nat.zero_add]
  case round =>
    obtain ⟨i, h', hasI, rfl, hin, k1, k2, k3, k4, k5, k6, k7, k8⟩ := hrel
    have HI : Hid (Blk wr g #[h', .slice wa wn wc] 67 ∧ OwnW wr B h' hasI ∧ Srt hasI ∧ OwnW wr B (.slice wa wn wc) waits) := ⟨k1, k2, k3, k4⟩
    have HJ : Hid (hasI.length ≤ has.length + i ∧ serveN has waits = ((serveN hasI (waits.drop i)).1, i + (serveN hasI (waits.drop i)).2) ∧ (h'.ownBlock = hv.ownBlock ∨ ∃ k, h'.ownBlock = some k ∧ w.heap.size ≤ k) ∧ Chg (fun i => i = g ∨ hv.ownBlock = some i) w wr) := ⟨k5, k6, k7, k8⟩
    obtain ⟨ha, hn, hc, eh⟩ : ∃ a n c, h' = .slice a n c := by obtain ⟨a, c, e, _⟩ := k2.row; exact ⟨a, _, c, e⟩
    clear k1 k2 k3 k4 k5 k6 k7 k8
    subst eh
    have c1 : wr.cell? ⟨g, 1, none⟩ = some (.slice wa wn wc) := HI.out.1.cell 1
    by_cases hlt : i < wn
    · have hil : i < waits.length := by rw [HWN.out]; exact hlt
      have hdt : decide ((i : Int) < (wn : Int)) = true := by simp; omega
      have c0 : wr.cell? ⟨g, 0, none⟩ = some (.slice ha hn hc) := HI.out.1.cell 0
      obtain ⟨ga, hga⟩ : ∃ ga, wa = some ⟨ga, 0, none⟩ := by
        rcases HI.out.2.2.2.form with ⟨e, e2⟩ | ⟨g1, c, e, _⟩
        · rw [e2] at hil; simp at hil
        · injection e with e1; exact ⟨g1, e1⟩
      subst hga
      obtain ⟨x, hx⟩ : ∃ x, x = waits[i] := ⟨_, rfl⟩
      have HX : Hid (x = waits[i]) := hx
      have hcc : wr.cell? ⟨ga, i * 3, none⟩ = some (.int .u64 x.num) ∧ wr.cell? ⟨ga, i * 3 + 1, none⟩ = some (.int .i64 x.node) ∧ wr.cell? ⟨ga, i * 3 + 2, none⟩ = some (.int .i64 x.mode) := by
        obtain ⟨ao, c', e, _, _, _, hr⟩ := HI.out.2.2.2.row
        injection e with e1 e2 e3
        have := hr.2 ⟨ga, 0, none⟩ e1.symm i hil
        simp only [add0, ← hx] at this
        exact this
      obtain ⟨k0, k1, k2⟩ := hcc
      clear hx
      have q0 := cellX (W0 := wr.drew) (show wr.drew.cell? ⟨g, 0, none⟩ = _ from c0)
      have q1 := cellX (W0 := wr.drew) (show wr.drew.cell? ⟨g, 1, none⟩ = _ from c1)
      have q2 := cellX (W0 := wr.drew) (show wr.drew.cell? ⟨ga, i * 3, none⟩ = _ from k0)
      have q3 := cellX (W0 := wr.drew) (show wr.drew.cell? ⟨ga, i * 3 + 1, none⟩ = _ from k1)
      have q4 := cellX (W0 := wr.drew) (show wr.drew.cell? ⟨ga, i * 3 + 2, none⟩ = _ from k2)
      have HLI : Hid (hasI.length ≤ 9999) := by have := HJ.out.1; have := HLE.out; show _ ≤ _; omega
      have HFX : Hid (Calls Try.prog 42 #[.slice ha hn hc, .func (.func 44) #[.agg #[.int .u64 x.num, .int .i64 x.node, .int .i64 x.mode]] #[]] wr.drew fun e w' => e = .returned (.bool (hasI.any (agB x))) ∧ Ext wr.drew w') :=
        containsF_G _ (agB x) _ hasI wr.drew (HI.out.2.1.row.below (Below.drew (Below.refl _ _))) (by have := HLI.out; omega) (fun W y hW hy => against_any x y W)
      clear c0 c1 k0 k1 k2
      haveI n1 := cls_ext wr.drew
      go_wp2_with fail
      refine wp_region_ext (by kernel_rfl) ?_
      refine wpAnyH_seg (by kernel_rfl) (fun _ _ _ h => h) [0, 1, 2, 3, 4, 5, 6, 7, 8, 9, 10, 11, 12, 13, 14, 15, 16, 17, 18] 4 _ _ _ (Ext.refl _) (by kernel_rfl) ?_
      simp only [opsAt, List.getElem?_toArray, List.getElem?_cons_zero, List.getElem?_cons_succ, List.cons_append, List.nil_append]
      repeat (go_big_quiet_step (fail))
      refine wpQuiet_nil ?_
      refine wpAnyH_all (rs := [19]) (fuel := 3) (by kernel_rfl) (by simp) fun j hj => ?_
      obtain rfl : j = 19 := by simpa using hj
      clear hj
      refine wpOp_value 24 rfl (by kernel_rfl) rfl (exec_bound rfl rfl) ?_
      refine ⟨Ext.refl _, ?_⟩
      simp only [Act.put, List.setIfInBounds_toArray, List.set_cons_succ, List.set_cons_zero]
      refine wpAnyH_callE (i := 20) (fuel := 2) 25 rfl (by kernel_rfl) rfl (Ext.refl _) (by kernel_rfl) (f := 42) (args := #[.slice ha hn hc, .func (.func 44) #[.agg #[.int .u64 x.num, .int .i64 x.node, .int .i64 x.mode]] #[]]) (by kernel_rfl) HFX.out ?_
      rintro e w2 ⟨rfl, hE2⟩
      refine ⟨_, rfl, hE2, ?_⟩
      have HE2 : Hid (Ext wr w2) := Ext.trans (Below.drew (Below.refl _ _)) hE2
      clear HFX hE2 n1 q0 q1 q2 q3 q4
      haveI n2 := cls_ext w2
      have HI2 : Hid (Blk w2 g #[.slice ha hn hc, .slice (some ⟨ga, 0, none⟩) wn wc] 67 ∧ OwnW w2 B (.slice ha hn hc) hasI ∧ Srt hasI ∧ OwnW w2 B (.slice (some ⟨ga, 0, none⟩) wn wc) waits) := ⟨HI.out.1.below_ HE2.out, HI.out.2.1.below HE2.out, HI.out.2.2.1, HI.out.2.2.2.below HE2.out⟩
      have HC2 : Hid (Chg (fun i => i = g ∨ hv.ownBlock = some i) w w2) := Chg.trans (S' := fun _ => False) HJ.out.2.2.2 (Chg.of_below HE2.out (fun i hi hn => absurd hi (Nat.not_lt.2 hn))) (fun i _ e => e.elim)
      have HZ2 : Hid (wr.heap.size ≤ w2.heap.size) := HE2.out.size
      clear HI HE2
      simp only [Act.put, List.setIfInBounds_toArray, List.set_cons_succ, List.set_cons_zero]
      refine wpAnyH_seg (by kernel_rfl) (fun _ _ _ h => h) [21, 22] 0 _ _ _ (Ext.refl _) (by kernel_rfl) ?_
      simp only [opsAt, List.getElem?_toArray, List.getElem?_cons_zero, List.getElem?_cons_succ, List.cons_append, List.nil_append]
      repeat (go_big_quiet_step (fail))
      refine wpQuiet_nil ?_
      refine wpAnyH_done (by kernel_rfl) (NoPanic.normal ?_) 0
      clear n2
      cases hb : hasI.any (agB x)
      · have HNO : Hid (hasI.any (agB x) = false) := hb
        clear hb
        have c1 : w2.cell? ⟨g, 1, none⟩ = some (.slice (some ⟨ga, 0, none⟩) wn wc) := HI2.out.1.cell 1
        have hcc : w2.cell? ⟨ga, i * 3, none⟩ = some (.int .u64 x.num) ∧ w2.cell? ⟨ga, i * 3 + 1, none⟩ = some (.int .i64 x.node) ∧ w2.cell? ⟨ga, i * 3 + 2, none⟩ = some (.int .i64 x.mode) := by
          obtain ⟨ao, c', e, _, _, _, hr⟩ := HI2.out.2.2.2.row
          injection e with e1 e2 e3
          have := hr.2 ⟨ga, 0, none⟩ e1.symm i hil
          simp only [add0, ← HX.out] at this
          exact this
        obtain ⟨k0, k1, k2⟩ := hcc
        have HGV : Hid (Calls _ _ _ _ _) := give_any B g (.slice ha hn hc) (.slice (some ⟨ga, 0, none⟩) wn wc) hasI x w2 HI2.out.1 HI2.out.2.1 HI2.out.2.2.1 (by have := HLI.out; omega) (by have h1 := HB.out; have h2 := HC2.out.size; omega) ⟨_, _, _, rfl⟩
        go_wp2_with fail
        refine HGV.out.mono ?_
        rintro e w3 ⟨rfl, h3, b3, o3, a3, k3⟩
        have hxw : OwnW w3 B (.slice (some ⟨ga, 0, none⟩) wn wc) waits := HI2.out.2.2.2.kept fun b hb => k3.block b (World.ownsRow.lt HI2.out.2.2.2 b hb).2 (fun e => by
          rcases e with e | e
          · exact HNG.out.2 (by rw [hb, e])
          · rcases HJ.out.2.2.1 with h | ⟨k, h, hk⟩
            · exact HD.out b (by rw [← h]; exact e) hb
            · rw [h] at e
              cases e
              exact absurd (HWL.out _ hb) (Nat.not_lt.2 hk))
        have hch : Chg (fun i => i = g ∨ hv.ownBlock = some i) w w3 := Chg.trans HC2.out k3 (fun i hi e => by
          rcases e with e | e
          · exact .inl e
          · rcases HJ.out.2.2.1 with h | ⟨k, h, hk⟩
            · exact .inr (by rw [← h]; exact e)
            · rw [h] at e
              cases e
              exact absurd hi (Nat.not_lt.2 hk))
        have hat : h3.ownBlock = hv.ownBlock ∨ ∃ k, h3.ownBlock = some k ∧ w.heap.size ≤ k := by
          rcases a3 with h | ⟨k, h, hk⟩
          · rcases HJ.out.2.2.1 with h2 | ⟨k, h2, hk⟩
            · exact .inl (h.trans h2)
            · exact .inr ⟨k, h.trans h2, hk⟩
          · exact .inr ⟨k, h, Nat.le_trans HC2.out.size hk⟩
        have HNX : Hid (Blk w3 g #[h3, .slice (some ⟨ga, 0, none⟩) wn wc] 67 ∧ OwnW w3 B h3 (giveL x hasI) ∧ OwnW w3 B (.slice (some ⟨ga, 0, none⟩) wn wc) waits ∧ (h3.ownBlock = hv.ownBlock ∨ ∃ k, h3.ownBlock = some k ∧ w.heap.size ≤ k) ∧ Chg (fun i => i = g ∨ hv.ownBlock = some i) w w3) := ⟨b3, o3, hxw, hat, hch⟩
        clear b3 o3 a3 k3 hxw hat hch c1 k0 k1 k2 HGV HC2 HZ2
        have hii : (i : Int) + 1 ≤ 20000 := by omega
        go_wp2
        go_roundw
        case rel =>
          refine ⟨i + 1, h3, giveL x hasI, by go_num, hlt, HNX.out.1, HNX.out.2.1, giveL_srt HI2.out.2.2.1, HNX.out.2.2.1, ?_, ?_, HNX.out.2.2.2.1, HNX.out.2.2.2.2⟩
          · have h1 := @giveL_len x hasI
            have h2 := HJ.out.1
            omega
          · have h1 := HJ.out.2.1
            rw [serveN_step hil (by rw [← HX.out]; exact HNO.out), ← HX.out] at h1
            rw [h1]
            simp only [Prod.mk.injEq, true_and]
            omega
        case measure => simp [intOf]; omega
      · have HFN : Hid (serveN has waits = (hasI, i)) := by
          have h1 := HJ.out.2.1
          rw [serveN_stop hil (by rw [← HX.out]; exact hb)] at h1
          exact h1
        clear hb
        have HIW : Hid (Blk w2 g #[.slice ha hn hc, .slice (some ⟨ga, 0, none⟩) wn wc] 67 ∧ OwnW w2 B (.slice ha hn hc) hasI ∧ OwnW w2 B (.slice (some ⟨ga, 0, none⟩) wn wc) waits) := ⟨HI2.out.1, HI2.out.2.1, HI2.out.2.2.2⟩
        have HCW : Hid (Chg (fun i => i = g ∨ hv.ownBlock = some i) w w2) := HC2.out
        have hsl : ∀ V, (Instr.slice 35 (.slice (some ⟨ga, 0, none⟩) wn wc) none (some (.int .i64 (i : Int))) none).run Try.prog V = .ok (.slice (some ⟨ga, 0, none⟩) i wc) V := fun V => sliceW_to (some ⟨ga, 0, none⟩) wn wc i hin HAL.out.1 HAL.out.2.2 V
        have HRT : Hid (RowW w2 (.slice (some ⟨ga, 0, none⟩) i wc) (waits.take i)) := by
          obtain ⟨ao, c', e, r1, r2, r3, r4⟩ := HIW.out.2.2.row
          injection e with e1 e2 e3
          subst e1 e3
          refine ⟨_, _, ?_, ?_, r2, r3, r4.to i⟩
          · rw [List.length_take, Nat.min_eq_left (by rw [HWN.out]; exact hin)]
          · rw [List.length_take]; omega
        have HCL : Hid (Calls _ _ _ _ _) := cloneW_any (.slice (some ⟨ga, 0, none⟩) i wc) (waits.take i) w2 HRT.out (by rw [List.length_take]; omega)
        have d1 : w2.cell? ⟨g, 1, none⟩ = some (.slice (some ⟨ga, 0, none⟩) wn wc) := HIW.out.1.cell 1
        clear HRT
        go_wp2_with fail
        refine HCL.out.mono ?_
        rintro e w5 ⟨v5, rfl, o5, hE5⟩
        have HE5 : Hid (Ext w2 w5) := hE5
        have HO5 : Hid (OwnW w5 w2.heap.size v5 (waits.take i)) := o5
        have HI5 : Hid (Blk w5 g #[.slice ha hn hc, .slice (some ⟨ga, 0, none⟩) wn wc] 67 ∧ OwnW w5 B (.slice ha hn hc) hasI ∧ OwnW w5 B (.slice (some ⟨ga, 0, none⟩) wn wc) waits) := ⟨HIW.out.1.below_ hE5, HIW.out.2.1.below hE5, HIW.out.2.2.below hE5⟩
        clear o5 hE5 HCL hsl d1
        have d5 : w5.cell? ⟨g, 1, none⟩ = some (.slice (some ⟨ga, 0, none⟩) wn wc) := HI5.out.1.cell 1
        have HDL : Hid (Calls _ _ _ _ _) := delW_any B i (.slice (some ⟨ga, 0, none⟩) wn wc) waits w5 HI5.out.2.2 (by rw [HWN.out]; exact hin) (by rw [HWN.out]; omega)
        go_wp2_with fail
        refine HDL.out.mono ?_
        rintro e w6 ⟨v6, rfl, o6, b6, k6⟩
        obtain ⟨a6, n6, c6, e6⟩ : ∃ a n c, v6 = .slice a n c := by obtain ⟨a, c, e, _⟩ := o6.row; exact ⟨a, _, c, e⟩
        subst e6
        have hq6 : Blk w6 g #[.slice ha hn hc, .slice (some ⟨ga, 0, none⟩) wn wc] 67 := HI5.out.1.chg k6 HNG.out.2
        have z6 : w6.cell? ⟨g, 1, none⟩ = some (.slice (some ⟨ga, 0, none⟩) wn wc) := hq6.cell 1
        have z6f : w6.frozen? ⟨g, 1, none⟩ = false := hq6.frozen 1
        have HRES : Hid (ServeP w B g hv (.slice (some ⟨ga, 0, none⟩) wn wc) has waits (.returned v5) (w6.setCell ⟨g, 1, none⟩ (.slice a6 n6 c6))) := by
          have hgs : w.heap.size ≤ w2.heap.size := HCW.out.size
          have hgl := HGL.out
          have hne5 : ∀ b, v5.ownBlock = some b → w2.heap.size ≤ b ∧ b < w5.heap.size := fun b hb => World.ownsRow.lt HO5.out b hb
          have hneh : ∀ b, (Value.slice ha hn hc).ownBlock = some b → b ≠ g ∧ (Value.slice (some ⟨ga, 0, none⟩) wn wc).ownBlock ≠ some b := fun b hb => by
            rcases HJ.out.2.2.1 with h | ⟨k, h, hk⟩
            · exact ⟨fun e => HNG.out.1 (by rw [← h, hb, e]), HD.out b (by rw [← h]; exact hb)⟩
            · rw [h] at hb
              cases hb
              exact ⟨fun e => by omega, fun e => absurd (HWL.out _ e) (Nat.not_lt.2 hk)⟩
          refine ⟨v5, .slice ha hn hc, .slice a6 n6 c6, rfl, ?_, ?_, ?_, ?_, ?_, b6, ?_⟩
          · have := hq6.set 1 (.slice a6 n6 c6)
            simpa using this
          · rw [HFN.out]
            refine HI5.out.2.1.kept fun b hb => ?_
            rw [Below.heap_setCell _ _ _ _ (fun e => (hneh b hb).1 e)]
            exact k6.block b (World.ownsRow.lt HI5.out.2.1 b hb).2 (hneh b hb).2
          · rw [HFN.out]
            exact o6.kept fun b hb => Below.heap_setCell _ _ _ _ (fun e => HNG.out.2 (by rw [← b6, hb, e]))
          · rw [HFN.out]
            refine OwnW.mono (HO5.out.kept fun b hb => ?_) hgs
            have h1 := hne5 b hb
            rw [Below.heap_setCell _ _ _ _ (by show b ≠ g; omega)]
            refine k6.block b h1.2 (fun e => ?_)
            have := HWL.out b e
            omega
          · exact HJ.out.2.2.1
          · refine Chg.setCell ?_ _ (fun _ => .inl rfl) _
            refine Chg.trans (Chg.trans (S' := fun _ => False) (HCW.out.mono (fun i _ e => ?_)) (Chg.of_below HE5.out (fun i hi hn => absurd hi (Nat.not_lt.2 hn))) (fun i _ e => e.elim)) k6 (fun i _ e => .inr (.inr e))
            rcases e with e | e
            · exact .inl e
            · exact .inr (.inl e)
        clear o6 b6 k6 hq6 d5 HDL
        go_wp2
        go_ret
        exact HRES.out

    · skip
      have hdf : decide ((i : Int) < (wn : Int)) = false := by simp; omega
      have HFN : Hid (serveN has waits = (hasI, i)) := by
        have h1 := HJ.out.2.1
        rw [List.drop_eq_nil_of_le (by rw [HWN.out]; omega)] at h1
        exact h1
      go_wp2_with fail
      go_quiet (fail)
      obtain ⟨W2, hW2⟩ : ∃ W2, W2 = wr.drewN nq := ⟨_, rfl⟩
      rw [← hW2]
      have hEW : Ext wr W2 := by rw [hW2]; exact ⟨rfl, rfl, rfl, Nat.le_refl _, fun _ _ => rfl⟩
      clear hW2
      have HIW : Hid (Blk W2 g #[.slice ha hn hc, .slice wa wn wc] 67 ∧ OwnW W2 B (.slice ha hn hc) hasI ∧ OwnW W2 B (.slice wa wn wc) waits) := ⟨HI.out.1.below_ hEW, HI.out.2.1.below hEW, HI.out.2.2.2.below hEW⟩
      have HCW : Hid (Chg (fun i => i = g ∨ hv.ownBlock = some i) w W2) := Chg.trans (S' := fun _ => False) HJ.out.2.2.2 (Chg.of_below hEW (fun i hi hn => absurd hi (Nat.not_lt.2 hn))) (fun i _ e => e.elim)
      have hsl : ∀ V, (Instr.slice 35 (.slice wa wn wc) none (some (.int .i64 (i : Int))) none).run Try.prog V = .ok (.slice wa i wc) V := fun V => sliceW_to wa wn wc i hin HAL.out.1 HAL.out.2.2 V
      have HRT : Hid (RowW W2 (.slice wa i wc) (waits.take i)) := by
        obtain ⟨ao, c', e, r1, r2, r3, r4⟩ := HIW.out.2.2.row
        injection e with e1 e2 e3
        subst e1 e3
        refine ⟨_, _, ?_, ?_, r2, r3, r4.to i⟩
        · rw [List.length_take, Nat.min_eq_left (by rw [HWN.out]; exact hin)]
        · rw [List.length_take]; omega
      have HCL : Hid (Calls _ _ _ _ _) := cloneW_any (.slice wa i wc) (waits.take i) W2 HRT.out (by rw [List.length_take]; omega)
      have d1 : W2.cell? ⟨g, 1, none⟩ = some (.slice wa wn wc) := HIW.out.1.cell 1
      clear HRT
      go_wp2_with fail
      refine HCL.out.mono ?_
      rintro e w5 ⟨v5, rfl, o5, hE5⟩
      have HE5 : Hid (Ext W2 w5) := hE5
      have HO5 : Hid (OwnW w5 W2.heap.size v5 (waits.take i)) := o5
      have HI5 : Hid (Blk w5 g #[.slice ha hn hc, .slice wa wn wc] 67 ∧ OwnW w5 B (.slice ha hn hc) hasI ∧ OwnW w5 B (.slice wa wn wc) waits) := ⟨HIW.out.1.below_ hE5, HIW.out.2.1.below hE5, HIW.out.2.2.below hE5⟩
      clear o5 hE5 HCL hsl d1
      have d5 : w5.cell? ⟨g, 1, none⟩ = some (.slice wa wn wc) := HI5.out.1.cell 1
      have HDL : Hid (Calls _ _ _ _ _) := delW_any B i (.slice wa wn wc) waits w5 HI5.out.2.2 (by rw [HWN.out]; exact hin) (by rw [HWN.out]; omega)
      go_wp2_with fail
      refine HDL.out.mono ?_
      rintro e w6 ⟨v6, rfl, o6, b6, k6⟩
      obtain ⟨a6, n6, c6, e6⟩ : ∃ a n c, v6 = .slice a n c := by obtain ⟨a, c, e, _⟩ := o6.row; exact ⟨a, _, c, e⟩
      subst e6
      have hq6 : Blk w6 g #[.slice ha hn hc, .slice wa wn wc] 67 := HI5.out.1.chg k6 HNG.out.2
      have z6 : w6.cell? ⟨g, 1, none⟩ = some (.slice wa wn wc) := hq6.cell 1
      have z6f : w6.frozen? ⟨g, 1, none⟩ = false := hq6.frozen 1
      have HRES : Hid (ServeP w B g hv (.slice wa wn wc) has waits (.returned v5) (w6.setCell ⟨g, 1, none⟩ (.slice a6 n6 c6))) := by
        have hgs : w.heap.size ≤ W2.heap.size := HCW.out.size
        have hgl := HGL.out
        have hne5 : ∀ b, v5.ownBlock = some b → W2.heap.size ≤ b ∧ b < w5.heap.size := fun b hb => World.ownsRow.lt HO5.out b hb
        have hneh : ∀ b, (Value.slice ha hn hc).ownBlock = some b → b ≠ g ∧ (Value.slice wa wn wc).ownBlock ≠ some b := fun b hb => by
          rcases HJ.out.2.2.1 with h | ⟨k, h, hk⟩
          · exact ⟨fun e => HNG.out.1 (by rw [← h, hb, e]), HD.out b (by rw [← h]; exact hb)⟩
          · rw [h] at hb
            cases hb
            exact ⟨fun e => by omega, fun e => absurd (HWL.out _ e) (Nat.not_lt.2 hk)⟩
        refine ⟨v5, .slice ha hn hc, .slice a6 n6 c6, rfl, ?_, ?_, ?_, ?_, ?_, b6, ?_⟩
        · have := hq6.set 1 (.slice a6 n6 c6)
          simpa using this
        · rw [HFN.out]
          refine HI5.out.2.1.kept fun b hb => ?_
          rw [Below.heap_setCell _ _ _ _ (fun e => (hneh b hb).1 e)]
          exact k6.block b (World.ownsRow.lt HI5.out.2.1 b hb).2 (hneh b hb).2
        · rw [HFN.out]
          exact o6.kept fun b hb => Below.heap_setCell _ _ _ _ (fun e => HNG.out.2 (by rw [← b6, hb, e]))
        · rw [HFN.out]
          refine OwnW.mono (HO5.out.kept fun b hb => ?_) hgs
          have h1 := hne5 b hb
          rw [Below.heap_setCell _ _ _ _ (by show b ≠ g; omega)]
          refine k6.block b h1.2 (fun e => ?_)
          have := HWL.out b e
          omega
        · exact HJ.out.2.2.1
        · refine Chg.setCell ?_ _ (fun _ => .inl rfl) _
          refine Chg.trans (Chg.trans (S' := fun _ => False) (HCW.out.mono (fun i _ e => ?_)) (Chg.of_below HE5.out (fun i hi hn => absurd hi (Nat.not_lt.2 hn))) (fun i _ e => e.elim)) k6 (fun i _ e => .inr (.inr e))
          rcases e with e | e
          · exact .inl e
          · exact .inr (.inl e)
      clear o6 b6 k6 hq6 d5 HDL
      go_wp2
      go_ret
      exact HRES.out

end Go.Proofs.Ytkgecljoodofeaa
