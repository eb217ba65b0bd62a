/- The Go text of disk's Sync. Own lemmas, no statement. -/
import Derived.Test.YtepfckckplbjjaaDisk4
import Derived.Test.YtepfckckplbjjaaSeg
namespace Go.Proofs.Ytepfckckplbjjaa
open Go.ChangeShapes Go.WideShapes Go.ChangeAt Go.RowKit

theorem WaitsAt.get {w : World} {bs : Nat → Prop} {ao : Option Addr} {n cap k : Nat} {ws : List (Nat × List UInt8)} (h : WaitsAt w bs (.slice ao n cap) ws) (hk : k < ws.length) :
    ∃ g u, ao = some ⟨g, 0, none⟩ ∧ w.cell? ⟨g, k * 2, none⟩ = some (.int .i64 (ws[k].1 : Int)) ∧ w.cell? ⟨g, k * 2 + 1, none⟩ = some u ∧ Byt w bs u ws[k].2 := by
  obtain ⟨xs, h1, h2⟩ := h
  obtain ⟨a1, u, a2, a3⟩ := h2 k ws[k] (List.getElem?_eq_getElem hk)
  rcases h1.2 with ⟨_, hn⟩ | ⟨g, cap', cur, e, hB, hg, h3, h4, h5, h6⟩
  · omega
  · simp only [Value.slice.injEq] at e
    obtain ⟨rfl, rfl, rfl⟩ := e
    have hx := h1.1
    exact ⟨g, u, rfl, by rw [h1.cellAt _ (by omega)]; exact a1, by rw [h1.cellAt _ (by omega)]; exact a2, a3⟩

/-- The safe sectors, one of them laid anew. -/
theorem DiskAt.safeSet {w : World} {f : Foot} {st : DSt} {i : Nat} (h : DiskAt w f st) (hi : i < st.safe.length) (u : Value) (l : List UInt8) (t : Bool) (hu : Byt w f.bs u l) (safe' : List Sec) (hs : safe' = st.safe.set i (l, t)) (hinv : ({ st with safe := safe' } : DSt).Inv) :
    DiskAt ((w.setCell ⟨f.s, i * 2, none⟩ u).setCell ⟨f.s, i * 2 + 1, none⟩ (.bool t)) f { st with safe := safe' } ∧ Turned f w f ((w.setCell ⟨f.s, i * 2, none⟩ u).setCell ⟨f.s, i * 2 + 1, none⟩ (.bool t)) := by
  have hch : Chg (fun k => k = f.s) w ((w.setCell ⟨f.s, i * 2, none⟩ u).setCell ⟨f.s, i * 2 + 1, none⟩ (.bool t)) := chgG (chgG (Chg.refl _ _) _ _) _ _
  obtain ⟨p1, p2, p3, p4⟩ := h.sNe
  obtain ⟨wv, a1, a2, a3⟩ := h.head
  have b : ∀ k, f.bs k → ¬ k = f.s := fun k hk e => by subst e; exact p4 hk
  refine ⟨⟨⟨wv, a1.chg hch p1, a2, a3.chg hch (fun k hk e => p3 (by rw [← a2, hk, e])) b (fun _ e => e)⟩, h.now.chg hch p2 b (fun _ e => e), ?_, h.ne, hinv, h.len, h.fuse, fun k hk => Nat.lt_of_lt_of_le (h.lt k hk) hch.size, fun k hk => by obtain ⟨c, hc⟩ := h.ty k hk; exact ⟨c, hc.chg hch (b k hk)⟩⟩, rfl, fun k hk => .inl hk, hch.mono (fun k _ e => .inl (.inr (.inr (.inl e))))⟩
  rw [hs]
  exact SecsAt.set (i := i) h.safe u l t hu p4 hi

theorem there2 {w : World} {b p : Nat} {u v : Value} (h1 : w.cell? ⟨b, p, none⟩ = some u) (h2 : w.cell? ⟨b, p + 1, none⟩ = some v) (hf : ∀ j, w.frozen? ⟨b, j, none⟩ = false) : w.there b p 2 := fun j hj => by
  rcases (show j = 0 ∨ j = 1 by omega) with rfl | rfl
  · exact ⟨by rw [Nat.add_zero, h1]; rfl, hf _⟩
  · exact ⟨by rw [h2]; rfl, hf _⟩

/-- A cell, in each world in which S alone has turned. -/
theorem cellC {S : Nat → Prop} {W0 : World} {a : Addr} {v : Value} (h : W0.cell? a = some v) (hn : ¬ S a.block) : ∀ s : Cls (Chg S W0), s.wd.cell? a = some v := fun s => s.ok.cell h hn
theorem cls_chg (S : Nat → Prop) (W : World) : Nonempty (Cls (Chg S W)) := ⟨⟨W, Chg.refl _ _⟩⟩

set_option maxHeartbeats 1000000 in
theorem sync_ok (f : Foot) (st : DSt) (w : World) (h : DiskAt w f st) (hdn : st.down = false) (hst : st.steps < 4611686018427387904) (hf1 : ¬ st.fuse = 1) :
    Calls Try.prog 45 #[dptr f.g] w fun e w' => e = .returned (.int .i64 0) ∧ DiskAt w' f st.stepped.synced ∧ Turned f w f w' := by
  have hE : st.stepErr = 0 := by unfold DSt.stepErr; rw [if_neg hf1]
  have hc := step_any f st w h hst
  rw [hE] at hc
  have HC : Hid (Calls _ _ _ _ _) := hc
  obtain ⟨wv, c0, c1, c2, c3, c4, c5, hw, ho, hf, hB⟩ := h.cells
  rw [hdn] at c4
  clear c0 c1 c2 c3 c5 hw ho hf hB hE hc h
  go_enter Try.func45, Try.ntmps45
  go_wp2_with fail
  refine Calls.mono HC.out ?_
  rintro e w1 ⟨rfl, hD1, hch1⟩
  have HT1 : Hid (Turned f w f w1) := Turned.of_chg hch1
  clear HC c4 hch1
  generalize hS1 : st.stepped = s1 at *
  have HS1 : Hid (st.stepped = s1) := hS1
  clear hS1
  have HD1 : Hid (DiskAt w1 f s1) := hD1
  obtain ⟨ao, n, cap, c2, hn, hw, ho, h1, h2⟩ := hD1.waitsCell
  unfold maxLen at h2
  have HN : Hid (n = s1.waits.length) := hn
  clear hn hw ho hD1
  go_wp2_with fail
  go_loopw [22] (fun vi wr => ∃ k : Nat, vi = .int .i64 (k : Int) ∧ k ≤ n ∧ DiskAt wr f { s1 with safe := copyTo s1.now s1.safe s1.waits k } ∧ Turned f w f wr ∧ wr.cell? ⟨f.g, 2, none⟩ = some (.slice ao n cap)) (fun vi _ => n - (intOf vi).toNat)
  case atStart => exact ⟨0, rfl, Nat.zero_le _, HD1.out, HT1.out, c2⟩
  case round =>
    obtain ⟨k, rfl, hk, hD, hT, hc2⟩ := hrel
    have HD : Hid (DiskAt wr f { s1 with safe := copyTo s1.now s1.safe s1.waits k }) := hD
    have HT : Hid (Turned f w f wr) := hT
    have HC2 : Hid (_ = _) := hc2
    by_cases hlt : k < n
    · have hkw : k < s1.waits.length := by rw [← HN.out]; exact hlt
      obtain ⟨ao', n', cap', e2, -, hwt, -⟩ := hD.waitsCell
      rw [hc2] at e2
      simp only [Option.some.injEq, Value.slice.injEq] at e2
      obtain ⟨rfl, rfl, rfl⟩ := e2
      obtain ⟨gw, u, rfl, a1, a2, a3⟩ := hwt.get hkw
      have hat : s1.waits[k].1 < s1.now.length := hD.inv.ats _ (List.getElem_mem hkw)
      obtain ⟨i, hi⟩ : ∃ i, s1.waits[k].1 = i := ⟨_, rfl⟩
      rw [hi] at a1 hat
      obtain ⟨bo, bn, hu⟩ := a3.form
      subst hu
      have hsl : i < (copyTo s1.now s1.safe s1.waits k).length := by rw [copyTo_length, HD1.out.inv.len]; exact hat
      have hB' : Below wr.heap.size wr (wr.alloc (.cells #[.int .i64 (i : Int), .slice bo bn bn] 88)).drew := ((Below.refl _ _).alloc (Nat.le_refl _) _).drew
      have hDW := hD.below hB'
      have hTW := hT.trans (Turned.of_below hB')
      have HCP : Hid (copyTo s1.now s1.safe s1.waits (k + 1) = (copyTo s1.now s1.safe s1.waits k).set i s1.now[i]) := by
        show _ = _
        conv => lhs; unfold copyTo
        rw [List.getElem?_eq_getElem hkw]
        simp only [hi, List.getD_eq_getElem?_getD, List.getElem?_eq_getElem hat, Option.getD_some]
      obtain ⟨wv', d0, d1, d2, -⟩ := hDW.cells
      have d0' : (wr.alloc (.cells #[.int .i64 (i : Int), .slice bo bn bn] 88)).drew.cell? ⟨f.g, 0, none⟩ = some (.slice (some ⟨f.n, 0, none⟩) s1.now.length s1.now.length) := d0
      have d1' : (wr.alloc (.cells #[.int .i64 (i : Int), .slice bo bn bn] 88)).drew.cell? ⟨f.g, 1, none⟩ = some (.slice (some ⟨f.s, 0, none⟩) s1.now.length s1.now.length) := d1
      obtain ⟨un, n0, n1, hbn, -⟩ := SecsAt.get (i := i) hDW.now hat
      obtain ⟨us, s0, s1', -, hfs⟩ := SecsAt.get (i := i) hDW.safe hsl
      have n1' : (wr.alloc (.cells #[.int .i64 (i : Int), .slice bo bn bn] 88)).drew.cell? ⟨f.n, i * 2 + 1, none⟩ = some (.bool s1.now[i].2) := n1
      obtain ⟨uo, um, rfl⟩ := hbn.form
      have l0 : (wr.alloc (.cells #[.int .i64 (i : Int), .slice bo bn bn] 88)).drew.cell? ⟨wr.heap.size, 0, none⟩ = some (.int .i64 (i : Int)) := (Blk.new wr _ _).cell 0
      have hth := there2 s0 s1' hfs
      have hSS := DiskAt.safeSet hDW hsl (.slice uo um um) s1.now[i].1 s1.now[i].2 hbn _ HCP.out (HD1.out.inv.syncing (k + 1))
      have hc2n : ((((wr.alloc (.cells #[.int .i64 (i : Int), .slice bo bn bn] 88)).drew).setCell ⟨f.s, i * 2, none⟩ (.slice uo um um)).setCell ⟨f.s, i * 2 + 1, none⟩ (.bool s1.now[i].2)).cell? ⟨f.g, 2, none⟩ = some (.slice (some ⟨gw, 0, none⟩) n cap) := by
        have hch : Chg (fun k => k = f.s) (wr.alloc (.cells #[.int .i64 (i : Int), .slice bo bn bn] 88)).drew _ := chgG (chgG (Chg.refl _ _) (i * 2) (.slice uo um um)) (i * 2 + 1) (.bool s1.now[i].2)
        exact hch.cell ((Below.cell hB' (cell_lt hc2)).trans hc2) (fun e => hDW.sNe.1 e)
      have HSS : Hid (_ ∧ _) := hSS
      have HTW : Hid (Turned f w f _) := hTW
      have HC2N : Hid (_ = _) := hc2n
      have HTH : Hid (World.there _ _ _ _) := hth
      obtain ⟨q1, q2, -, -⟩ := hDW.sNe
      have hsz : f.s ≠ wr.heap.size := fun e => by obtain ⟨c, hc, _⟩ := HD.out.safe; have := hc.lt; omega
      have k0 := cellC (S := fun k => k = f.s) d0' q1
      have k1 := cellC (S := fun k => k = f.s) d1' q1
      have k2 := cellC (S := fun k => k = f.s) n0 q2
      have k3 := cellC (S := fun k => k = f.s) n1' q2
      have k4 := cellC (S := fun k => k = f.s) l0 (fun e => hsz e.symm)
      have hat' : (i : Int) < (s1.now.length : Int) := by omega
      have hgeni : s1.now[i]? = some s1.now[i] := List.getElem?_eq_getElem hat
      clear hD hT hc2 hwt a3 hi hDW hTW d0 d1 d2 n0 n1 hbn s0 s1' hfs l0 hth hSS hc2n d0' d1' n1' hB' hgeni hsl HD HC2
      generalize s1.now[i].2 = tn at *
      go_wp2_with fail
      haveI nE := cls_chg (fun k => k = f.s) (wr.alloc (.cells #[.int .i64 (i : Int), .slice bo bn bn] 88)).drew
      refine wp_region_seg (Chg (fun k => k = f.s) (wr.alloc (.cells #[.int .i64 (i : Int), .slice bo bn bn] 88)).drew) (by kernel_rfl) ?_
      refine wpAnyH_seg (by kernel_rfl) (fun _ _ _ h => h) [0, 1, 2, 3, 4, 5, 6, 7, 8, 9, 10, 11, 12, 13, 14] 1 _ _ _ (Chg.refl _ _) (by kernel_rfl) ?_
      simp only [opsAt, List.getElem?_toArray, List.getElem?_cons_zero, List.getElem?_cons_succ, List.cons_append, List.nil_append]
      repeat (go_big_quiet_step (fail))
      refine wpQuiet_nil ?_
      clear k0 k1 k2 k3 k4 nE
      refine wpAnyH_all (rs := [15]) (fuel := 0) (by kernel_rfl) (by simp) fun j hj => ?_
      obtain rfl : j = 15 := by simpa using hj
      refine wpOp_store2 rfl (by kernel_rfl) _ _ _ rfl rfl f.s (i * 2) (.slice uo um um) (.bool tn) rfl rfl HTH.out (by kernel_rfl) rfl rfl ?_
      refine ⟨chgG (chgG (Chg.refl _ _) _ _) _ _, ?_⟩
      refine wpAnyH_done (by kernel_rfl) (NoPanic.normal ?_) 0
      go_wp2
      go_roundw
      case rel => exact ⟨k + 1, by go_num, by omega, HSS.out.1, HTW.out.trans HSS.out.2, HC2N.out⟩
      case measure => simp [intOf]; omega
    · have hkn : k = s1.waits.length := by rw [← HN.out]; omega
      have hD' := hD
      rw [hkn, HD1.out.inv.sync] at hD'
      have HF : Hid (Calls _ _ _ _ _) := forget_any f _ wr hD' rfl
      clear hD hD' hkn hc2 HC2 HD HT HD1 c2
      have HTr : Hid (Turned f w f wr) := hT
      clear hT
      go_wp2_with fail
      refine Calls.mono HF.out ?_
      rintro e w3 ⟨rfl, hD3, hT3⟩
      have HD3 : Hid (DiskAt w3 f s1.synced) := hD3
      have HT3 : Hid (Turned f w f w3) := HTr.out.trans hT3
      clear hD3 hT3 HF
      go_wp2
      go_ret
      exact ⟨rfl, by rw [HS1.out]; exact HD3.out, HT3.out⟩

set_option maxHeartbeats 400000 in
theorem sync_fuse (f : Foot) (st : DSt) (w : World) (h : DiskAt w f st) (hdn : st.down = false) (hst : st.steps < 4611686018427387904) (hf1 : st.fuse = 1) :
    Calls Try.prog 45 #[dptr f.g] w fun e w' => e = .returned (.int .i64 8) ∧ DiskAt w' f st.stepped ∧ Turned f w f w' := by
  have hE : st.stepErr = 8 := by unfold DSt.stepErr; rw [if_pos hf1]
  have hc := step_any f st w h hst
  rw [hE] at hc
  have HC : Hid (Calls _ _ _ _ _) := hc
  obtain ⟨wv, c0, c1, c2, c3, c4, c5, hw, ho, hf, hB⟩ := h.cells
  rw [hdn] at c4
  clear c0 c1 c2 c3 c5 hw ho hf hB hE hc h hf1 hdn
  go_enter Try.func45, Try.ntmps45
  go_wp2_with fail
  refine Calls.mono HC.out ?_
  rintro e w1 ⟨rfl, hD1, hch1⟩
  have HT1 : Hid (Turned f w f w1) := Turned.of_chg hch1
  have HD1 : Hid (DiskAt w1 f st.stepped) := hD1
  clear HC c4 hch1 hD1
  go_wp2
  go_ret
  exact ⟨rfl, HD1.out, HT1.out⟩

set_option maxHeartbeats 400000 in
theorem sync_down (f : Foot) (st : DSt) (w : World) (h : DiskAt w f st) (hdn : st.down = true) :
    Calls Try.prog 45 #[dptr f.g] w fun e w' => e = .returned (.int .i64 8) ∧ w' = w := by
  obtain ⟨wv, c0, c1, c2, c3, c4, c5, hw, ho, hf, hB⟩ := h.cells
  rw [hdn] at c4
  clear c0 c1 c2 c3 c5 hw ho hf hB h hdn
  go_enter Try.func45, Try.ntmps45
  go_wp2
  go_ret
  exact ⟨rfl, rfl⟩

set_option maxHeartbeats 400000 in
theorem sync_nil (w : World) : Calls Try.prog 45 #[.pointer none] w fun e w' => e = .returned (.int .i64 1) ∧ w' = w := by
  go_enter Try.func45, Try.ntmps45
  go_wp2
  go_ret
  exact ⟨rfl, rfl⟩
end Go.Proofs.Ytepfckckplbjjaa
