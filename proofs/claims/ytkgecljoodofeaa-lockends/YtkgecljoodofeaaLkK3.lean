/- lock: Keys, walked. Own lemmas, no statement. -/
import Derived.Test.YtkgecljoodofeaaLkK2
set_option linter.unusedSimpArgs false
set_option linter.unusedVariables false
namespace Go.Proofs.Ytkgecljoodofeaa
open Go.ChangeShapes Go.WideShapes Go.ChangeAt Go.RowKit

set_option maxRecDepth 100000 in
set_option maxHeartbeats 2000000 in
theorem keys1_any (B b1 b2 : Nat) (T : Tab) (t : Td) (x : ByteArray) (w : World) (h : TabAt B w T none_) (hs : Srt (T.ln x).has) (hl : (T.ln x).has.length ≤ 1000000) (hx : x.size ≤ maxLen) (k1 : Blk w b1 #[.pointer (some ⟨T.g, 0, none⟩)] 24) (k2 : Blk w b2 #[.int .u64 t.num, .int .i64 t.node] 29) :
    Calls Try.prog 40 #[.string x, .pointer (some ⟨b1, 0, none⟩), .pointer (some ⟨b2, 0, none⟩)] w fun e w' => e = .returned (.bool (modeT t (T.ln x).has == 0)) ∧ Ext w w' := by
  obtain ⟨ha, hn, hc, wa, wn, wc, eh, ew, ev⟩ := (T.ln x).parts
  have HLK : Hid ((Instr.lookup 62 (.map (some T.mb)) (.string x) false).run Try.prog w.drew = .ok (.agg #[.slice ha hn hc, .slice wa wn wc]) w.drew) := by
    have := h.drew.lm.ask cLn_ok x hx
    rw [← ev]
    exact this
  have HM : Hid (Calls _ _ _ _ _) := mode_any (.slice ha hn hc) (.slice wa wn wc) (T.ln x).has t w.drew (by rw [← eh]; exact (h.drew.own (k := x)).1.row) hs hl
  have y0 := cellX (W0 := w.drew) (show w.drew.cell? ⟨T.g, 0, none⟩ = some (.map (some T.mb)) from h.blk.cell 0)
  have y1 := cellX (W0 := w.drew) (show w.drew.cell? ⟨b1, 0, none⟩ = some (.pointer (some ⟨T.g, 0, none⟩)) from k1.cell 0)
  have y2 := cellX (W0 := w.drew) (show w.drew.cell? ⟨b2, 0, none⟩ = some (.int .u64 t.num) from k2.cell 0)
  have y3 := cellX (W0 := w.drew) (show w.drew.cell? ⟨b2, 1, none⟩ = some (.int .i64 t.node) from k2.cell 1)
  clear h hs hl hx k1 k2 eh ew ev
  go_enter Try.func40, Try.ntmps40
  go_upto_region 1 with fail
  haveI n1 := cls_ext w.drew
  refine wp_region_ext (by kernel_rfl) ?_
  refine wpAnyH_seg (by kernel_rfl) (fun _ _ _ h => h) [0, 1, 2, 3, 4, 6] 4 _ _ _ (Ext.refl _) (by kernel_rfl) ?_
  simp only [opsAt, List.getElem?_toArray, List.getElem?_cons_zero, List.getElem?_cons_succ, List.cons_append, List.nil_append]
  repeat (go_big_quiet_step (fail))
  refine wpQuiet_nil ?_
  clear y0 y1 y2 y3
  refine wpAnyH_all (rs := [5]) (fuel := 3) (by kernel_rfl) (by simp) fun j hj => ?_
  obtain rfl : j = 5 := by simpa using hj
  clear hj
  refine wpOp_value 10 rfl (by kernel_rfl) rfl (exec_ask rfl rfl rfl HLK.out) ?_
  refine ⟨Ext.refl _, ?_⟩
  simp only [Act.put, List.setIfInBounds_toArray, List.set_cons_succ, List.set_cons_zero]
  refine wpAnyH_callE (i := 7) (fuel := 2) 12 rfl (by kernel_rfl) rfl (Ext.refl _) (by kernel_rfl) (f := 24) (args := #[.agg #[.slice ha hn hc, .slice wa wn wc], .agg #[.int .u64 t.num, .int .i64 t.node]]) (by kernel_rfl) HM.out ?_
  rintro e w2 ⟨rfl, hE2⟩
  refine ⟨_, rfl, hE2, ?_⟩
  have HE2 : Hid (Ext w w2) := Ext.trans (Below.drew (Below.refl _ _)) hE2
  clear HM hE2 HLK n1
  haveI n2 := cls_ext w2
  obtain ⟨md, hmd⟩ : ∃ md, modeT t (T.ln x).has = md := ⟨_, rfl⟩
  rw [hmd]
  have HMD : Hid (modeT t (T.ln x).has = md) := hmd
  clear hmd
  simp only [Act.put, List.setIfInBounds_toArray, List.set_cons_succ, List.set_cons_zero]
  refine wpAnyH_seg (by kernel_rfl) (fun _ _ _ h => h) [8, 9] 0 _ _ _ (Ext.refl _) (by kernel_rfl) ?_
  simp only [opsAt, List.getElem?_toArray, List.getElem?_cons_zero, List.getElem?_cons_succ, List.cons_append, List.nil_append]
  repeat (go_big_quiet_step (fail))
  refine wpQuiet_nil ?_
  refine wpAnyH_done (by kernel_rfl) (NoPanic.normal ?_) 0
  clear n2
  go_wp2
  go_ret
  exact ⟨by rw [HMD.out]; rfl, HE2.out⟩
set_option maxRecDepth 100000 in
set_option maxHeartbeats 2000000 in
theorem keys_any (B : Nat) (T : Tab) (t : Td) (w : World) (h : TabAt B w T none_) (hi : TInv T) (ht : t.wf) (hN : T.N ≤ 9000) :
    Calls Try.prog 21 #[.pointer (some ⟨T.g, 0, none⟩), .agg #[.int .u64 t.num, .int .i64 t.node]] w fun e w' => ∃ (v : Value) (ks : List ByteArray), e = .returned v ∧ KeysIn (T.K t) ks ∧ OwnK w' w.heap.size v (ks.filter fun x => !(modeT t (T.ln x).has == 0)) ∧ Ext w w' := by
  obtain ⟨wa, hwa⟩ : ∃ wa, wa = w.alloc (.cells #[.pointer (some ⟨T.g, 0, none⟩)] 24) := ⟨_, rfl⟩
  obtain ⟨w0, hw0⟩ : ∃ w0, w0 = wa.alloc (.cells #[.int .u64 t.num, .int .i64 t.node] 29) := ⟨_, rfl⟩
  have HE0 : Hid (Ext w w0) := by rw [hw0, hwa]; exact ext_two _ _
  have hsz : wa.heap.size = w.heap.size + 1 := by rw [hwa]; simp
  have HB0 : Hid (Blk w0 w.heap.size #[.pointer (some ⟨T.g, 0, none⟩)] 24) := by rw [hw0, hwa]; exact (Blk.new _ _ _).alloc _
  have HB1 : Hid (Blk w0 (w.heap.size + 1) #[.int .u64 t.num, .int .i64 t.node] 29) := by rw [← hsz, hw0]; exact Blk.new _ _ _
  have HT0 : Hid (TabAt B w0 T none_) := h.below HE0.out
  have HI : Hid (TInv T ∧ T.N ≤ 9000) := ⟨hi, hN⟩
  have HTD : Hid (Calls _ _ _ _ _) := touched_any B T t w0 HT0.out hi ht (by omega)
  have c0 : w0.cell? ⟨w.heap.size, 0, none⟩ = some (.pointer (some ⟨T.g, 0, none⟩)) := HB0.out.cell 0
  have c1 : w0.cell? ⟨w.heap.size + 1, 0, none⟩ = some (.int .u64 t.num) := HB1.out.cell 0
  have c2 : w0.cell? ⟨w.heap.size + 1, 1, none⟩ = some (.int .i64 t.node) := HB1.out.cell 1
  rw [hwa] at hw0
  clear h hi ht hN hwa hsz
  go_enter Try.func21, Try.ntmps21
  go_upto_region 1 with fail
  rw [← hw0]
  clear hw0
  go_wp2_with fail
  refine HTD.out.mono ?_
  rintro e w1 ⟨v, ks, rfl, hk, ho, hE, hln⟩
  have HK : Hid (KeysIn (T.K t) ks) := hk
  have HE1 : Hid (Ext w0 w1) := hE
  have HO : Hid (OwnK w1 w0.heap.size v ks) := ho
  have HT1 : Hid (TabAt B w1 T none_) := HT0.out.below hE
  have HB01 : Hid (Blk w1 w.heap.size #[.pointer (some ⟨T.g, 0, none⟩)] 24 ∧ Blk w1 (w.heap.size + 1) #[.int .u64 t.num, .int .i64 t.node] 29) := ⟨HB0.out.below_ hE, HB1.out.below_ hE⟩
  have HSZ : Hid (∀ q ∈ ks, q.size ≤ maxLen) := fun q hq => by
    have h1 : (T.K t q).isSome = true := (hk.2 q).1 hq
    cases hA : T.A t with
    | none => rw [HI.out.1.nosets t hA q] at h1; cases h1
    | some o =>
      obtain ⟨b, _, _, _, _, h4⟩ := HT0.out.sets t o hA
      exact h4.wf h1
  have HDL : Hid (Calls _ _ _ _ _) := delS_any w1 w0.heap.size v ks (.pointer (some ⟨w.heap.size, 0, none⟩)) (.pointer (some ⟨w.heap.size + 1, 0, none⟩)) (fun x => modeT t (T.ln x).has == 0) ho (by have := HI.out.2; omega) (fun W x hC hx => by
    have hn : ∀ b c Y, Blk w1 b c Y → Y ≠ 9 → Blk W b c Y := fun b c Y hb hY => hb.chg hC fun e => OwnK.notBlk ho hb hY e
    have hT : TabAt B W T none_ := HT1.out.chg (fun _ e => e) hC fun i hi e => by
      obtain ⟨ao, c', rfl, _, _, _, h4⟩ := ho.form
      cases ao with
      | none => cases e
      | some a =>
        obtain ⟨e1, _, ⟨cur, hc⟩, _⟩ := h4 a rfl
        rw [e1] at e
        cases e
        exact HT1.out.notFT hc (by decide) (by decide) hi
    exact keys1_any B w.heap.size (w.heap.size + 1) T t x W hT (HI.out.1.srt x) (by have h1 := HI.out.1.len x; have h2 := HI.out.2; omega) (HSZ.out x hx) (hn _ _ _ HB01.out.1 (by decide)) (hn _ _ _ HB01.out.2 (by decide)))
  clear hk ho hE hln c0 c1 c2 HTD
  go_wp2_with fail
  refine HDL.out.mono ?_
  rintro e w2 ⟨v2, rfl, o2, b2, k2⟩
  have HR : Hid (OwnK w2 w.heap.size v2 (ks.filter fun x => !(modeT t (T.ln x).has == 0)) ∧ Ext w w2) := by
    refine ⟨rowMono o2 HE0.out.size, ?_⟩
    have h1 : Ext w w1 := Ext.trans HE0.out HE1.out
    refine Chg.below (S := fun i => w.heap.size ≤ i) (Chg.trans (Chg.of_below h1 (fun i hi hn => hn)) k2 (fun i hi e => ?_)) (Nat.le_refl _) (fun i e => e)
    have := (World.ownsRow.lt HO.out i e).1
    exact Nat.le_trans HE0.out.size this
  clear o2 b2 k2 HDL
  go_wp2
  go_ret
  exact ⟨_, ks, rfl, HK.out, HR.out.1, HR.out.2⟩
end Go.Proofs.Ytkgecljoodofeaa
