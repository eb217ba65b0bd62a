/- lock: Ask of a table that is there, walked: mode 1. Own lemmas, no statement. -/
import Derived.Test.YtkgecljoodofeaaLkO
set_option linter.unusedSimpArgs false
set_option linter.unusedVariables false
namespace Go.Proofs.Ytkgecljoodofeaa
open Go.ChangeShapes Go.WideShapes Go.ChangeAt Go.RowKit

set_option maxRecDepth 100000 in
set_option maxHeartbeats 4000000 in
theorem ask1_any (B : Nat) (T : Tab) (t : Td) (k : ByteArray) (w : World) (h : TabAt B w T none_) (hi : TInv T) (ht : t.wf) (hk : k.size ≤ maxLen) (hN : T.N ≤ 9000) :
    Calls Try.prog 12 #[.pointer (some ⟨T.g, 0, none⟩), .agg #[.int .u64 t.num, .int .i64 t.node], .string k, .int .i64 1] w (AskP B w T t 1 k) := by
  have HT : Hid (TabAt B w T none_) := h
  have HI : Hid (TInv T) := hi
  have HKT : Hid (t.wf ∧ k.size ≤ maxLen ∧ T.N ≤ 9000) := ⟨ht, hk, hN⟩
  have HLN : Hid ((T.ln k).has.length ≤ 9000 ∧ (T.ln k).waits.length ≤ 9000) := by have := hi.len k; exact ⟨by omega, by omega⟩
  have HS : Hid (Srt (T.ln k).has) := hi.srt k
  have HDM : Hid (modeT t (T.ln k).has = 0 ∨ modeT t (T.ln k).has = 1 ∨ modeT t (T.ln k).has = 2) := by
    by_cases hh : hasT t (T.ln k).has = true
    · have hl : posT t (T.ln k).has < (T.ln k).has.length := by
        by_cases hl : posT t (T.ln k).has < (T.ln k).has.length
        · exact hl
        · rw [hasT_end hl] at hh; cases hh
      rw [modeT_at hl hh]
      exact .inr (hi.modes k _ (.inl (List.getElem_mem _)))
    · exact .inl (modeT_no (by simpa using hh))
  have HBL : Hid (B ≤ w.heap.size) := Nat.le_trans h.low.1 (Nat.le_of_lt h.blk.lt)
  have HSTILL : Hid (∀ w' a, Ext w w' → (askL t 1 (T.ln k).has (T.ln k).waits).laid = false → (askL t 1 (T.ln k).has (T.ln k).waits).ans = a → AskP B w T t 1 k (.returned (.int .i64 a)) w') := fun w' a he hl ha => AskP.still h he hl ha
  obtain ⟨ha, hn, hc, wa, wn, wc, hvb, hwn, hev⟩ : ∃ ha hn hc wa wn wc, ((Value.slice ha hn hc).ownBlock = (T.ln k).hb ∧ (Value.slice wa wn wc).ownBlock = (T.ln k).wb) ∧ wn = (T.ln k).waits.length ∧ ((T.ln k).hv = .slice ha hn hc ∧ (T.ln k).wv = .slice wa wn wc) := ⟨_, _, _, _, _, _, ⟨slV_own, slV_own⟩, rfl, rfl, rfl⟩
  have HVB : Hid ((Value.slice ha hn hc).ownBlock = (T.ln k).hb ∧ (Value.slice wa wn wc).ownBlock = (T.ln k).wb) := hvb
  have HWN : Hid (wn = (T.ln k).waits.length) := hwn
  have HO : Hid (OwnW w B (.slice ha hn hc) (T.ln k).has ∧ OwnW w B (.slice wa wn wc) (T.ln k).waits) := by
    have := h.own (k := k)
    unfold OwnL at this
    rw [hev.1, hev.2] at this
    exact this
  have hlv : (T.ln k).v = .agg #[.slice ha hn hc, .slice wa wn wc] := by unfold LnV.v; rw [hev.1, hev.2]
  obtain ⟨w0, hw0⟩ : ∃ w0, w0 = w.alloc (.cells #[.int .u64 t.num, .int .i64 t.node] 29) := ⟨_, rfl⟩
  have HE0 : Hid (Ext w w0) := by rw [hw0]; exact ext_one _
  have HT0 : Hid (Blk w0 w.heap.size #[.int .u64 t.num, .int .i64 t.node] 29) := by rw [hw0]; exact Blk.new _ _ _
  have hgb : w0.heap.size = w.heap.size + 1 := by rw [hw0]; simp
  have HGB : Hid (w0.heap.size = w.heap.size + 1) := hgb
  clear hgb
  have HASK : Hid ((Instr.lookup 62 (.map (some T.mb)) (.string k) false).run Try.prog w0 = .ok (.agg #[.slice ha hn hc, .slice wa wn wc]) w0) := by
    have := (h.below HE0.out).lm.ask cLn_ok k hk
    rw [← hlv]
    exact this
  obtain ⟨w1, hw1⟩ : ∃ w1, w1 = w0.alloc (.cells #[.slice ha hn hc, .slice wa wn wc] 67) := ⟨_, rfl⟩
  have HE1 : Hid (Ext w0 w1) := by rw [hw1]; exact ext_one _
  have HB1 : Hid (Blk w1 w0.heap.size #[.slice ha hn hc, .slice wa wn wc] 67) := by rw [hw1]; exact Blk.new _ _ _
  have HT1 : Hid (Blk w1 w.heap.size #[.int .u64 t.num, .int .i64 t.node] 29) := HT0.out.below_ HE1.out
  have HMO : Hid (Calls _ _ _ _ _) := mode_any (.slice ha hn hc) (.slice wa wn wc) (T.ln k).has t w1 (HO.out.1.row.below (Ext.trans HE0.out HE1.out)) HS.out (by have := HLN.out; omega)
  have g0 : w0.cell? ⟨T.g, 0, none⟩ = some (.map (some T.mb)) := (h.blk.below_ HE0.out).cell 0
  have HA1 : Hid (∀ d, modeT t (T.ln k).has = d → (d = 1 ∨ d = 2) → askL t 1 (T.ln k).has (T.ln k).waits = ⟨1, (T.ln k).has, (T.ln k).waits, false⟩) := fun d hd h => by
    unfold askL
    rw [hd, if_pos h]
  clear h hi ht hk hN hvb hwn hev hlv HT0
  go_enter Try.func12, Try.ntmps12
  go_upto_region 1 with fail
  rw [← hw0]
  clear hw0
  go_upto_region 4 with (first | (at_lookup; refine wpList_lookup_run _ rfl _ _ _ rfl _ _ rfl rfl HASK.out ?_))
  rw [← hw1]
  clear hw1 g0 HASK
  have c0 : w1.cell? ⟨w0.heap.size, 0, none⟩ = some (.slice ha hn hc) := HB1.out.cell 0
  have c1 : w1.cell? ⟨w0.heap.size, 1, none⟩ = some (.slice wa wn wc) := HB1.out.cell 1
  have c2 : w1.cell? ⟨w.heap.size, 0, none⟩ = some (.int .u64 t.num) := HT1.out.cell 0
  have c3 : w1.cell? ⟨w.heap.size, 1, none⟩ = some (.int .i64 t.node) := HT1.out.cell 1
  go_wp2_with fail
  refine HMO.out.mono ?_
  rintro e w2 ⟨rfl, hE2⟩
  clear HMO
  have c0 := (Below.cell hE2 (cell_lt c0)).trans c0
  have c1 := (Below.cell hE2 (cell_lt c1)).trans c1
  have c2 := (Below.cell hE2 (cell_lt c2)).trans c2
  have c3 := (Below.cell hE2 (cell_lt c3)).trans c3
  have HE2 : Hid (Ext w w2) := Ext.trans HE0.out (Ext.trans HE1.out hE2)
  have HBX : Hid (Blk w2 w0.heap.size #[.slice ha hn hc, .slice wa wn wc] 67) := HB1.out.below_ hE2
  have HTB : Hid (Blk w2 w.heap.size #[.int .u64 t.num, .int .i64 t.node] 29) := HT1.out.below_ hE2
  clear hE2 HB1 HT1 HE1
  have hdm := HDM.out
  generalize hmd : modeT t (T.ln k).has = d at hdm ⊢
  clear HDM
  rcases hdm with rfl | rfl | rfl
  · clear HA1
    have HMD : Hid (modeT t (T.ln k).has = 0) := hmd
    clear hmd
    have HAW : Hid (Calls _ _ _ _ _) := awaits_any (.slice ha hn hc) (.slice wa wn wc) (T.ln k).waits t w2 (HO.out.2.row.below HE2.out) (by have := HLN.out; omega)
    go_wp2_with fail
    refine HAW.out.mono ?_
    rintro e w3 ⟨rfl, hE3⟩
    clear HAW
    have c0 := (Below.cell hE3 (cell_lt c0)).trans c0
    have c1 := (Below.cell hE3 (cell_lt c1)).trans c1
    have c2 := (Below.cell hE3 (cell_lt c2)).trans c2
    have c3 := (Below.cell hE3 (cell_lt c3)).trans c3
    have HE3 : Hid (Ext w w3) := Ext.trans HE2.out hE3
    have HBX3 : Hid (Blk w3 w0.heap.size #[.slice ha hn hc, .slice wa wn wc] 67) := HBX.out.below_ hE3
    have HTB3 : Hid (Blk w3 w.heap.size #[.int .u64 t.num, .int .i64 t.node] 29) := HTB.out.below_ hE3
    clear hE3 HBX HTB
    have HA2 : Hid (((T.ln k).waits.any fun x => eqT x.t t) = true → askL t 1 (T.ln k).has (T.ln k).waits = ⟨2, (T.ln k).has, (T.ln k).waits, false⟩) := fun h => by
      unfold askL
      rw [HMD.out, if_neg (by decide), if_pos h]
    have HA3' : Hid (((T.ln k).waits.any fun x => eqT x.t t) = false → askL t 1 (T.ln k).has (T.ln k).waits = wantL t 1 (T.ln k).has (T.ln k).waits (placeN 0 (T.ln k).has (T.ln k).waits)) := fun h => by
      unfold askL
      rw [HMD.out, if_neg (by decide), if_neg (by rw [h]; decide)]
    generalize ((T.ln k).waits.any fun x => eqT x.t t) = b at *
    cases b with
    | true =>
      have HR : Hid (askL t 1 (T.ln k).has (T.ln k).waits = ⟨2, (T.ln k).has, (T.ln k).waits, false⟩) := HA2.out rfl
      clear HA2 HA3'
      go_wp2
      go_ret
      exact HSTILL.out _ _ HE3.out (by rw [HR.out]) (by rw [HR.out])
    | false =>
      have HA3 : Hid (askL t 1 (T.ln k).has (T.ln k).waits = wantL t 1 (T.ln k).has (T.ln k).waits wn) := by rw [HWN.out]; exact HA3'.out rfl
      have HPL : Hid (wn ≤ (T.ln k).waits.length) := by rw [HWN.out]; exact Nat.le_refl _
      clear HA2 HA3'
      obtain ⟨w5, hw5⟩ : ∃ w5, w5 = w3.alloc (.cells #[.int .u64 t.num, .int .i64 t.node, .int .i64 1] 55) := ⟨_, rfl⟩
      have HE5 : Hid (Ext w3 w5) := by rw [hw5]; exact ext_one _
      have HE5w : Hid (Ext w w5) := Ext.trans HE3.out HE5.out
      have HX5 : Hid (Blk w5 w3.heap.size #[.int .u64 t.num, .int .i64 t.node, .int .i64 1] 55) := by rw [hw5]; exact Blk.new _ _ _
      have HJ : Hid (Calls _ _ _ _ _) := judge_any (.slice ha hn hc) (.slice wa wn wc) (T.ln k).has (T.ln k).waits ⟨t.num, t.node, 1⟩ wn w5 (HO.out.1.row.below HE5w.out) (HO.out.2.row.below HE5w.out) HPL.out (by have := HLN.out; omega) (by have := HLN.out; omega)
      go_upto_region 13 with fail
      rw [← hw5]
      clear hw5
      have c0 := (Below.cell HE5.out (cell_lt c0)).trans c0
      have c1 := (Below.cell HE5.out (cell_lt c1)).trans c1
      have c2 := (Below.cell HE5.out (cell_lt c2)).trans c2
      have c3 := (Below.cell HE5.out (cell_lt c3)).trans c3
      have x0 : w5.cell? ⟨w3.heap.size, 0, none⟩ = some (.int .u64 t.num) := HX5.out.cell 0
      have x1 : w5.cell? ⟨w3.heap.size, 1, none⟩ = some (.int .i64 t.node) := HX5.out.cell 1
      have x2 : w5.cell? ⟨w3.heap.size, 2, none⟩ = some (.int .i64 1) := HX5.out.cell 2
      go_wp2_with fail
      refine HJ.out.mono ?_
      rintro e w6 ⟨rfl, hE6⟩
      have HJC := judgeN_123 (T.ln k).has (T.ln k).waits ⟨t.num, t.node, 1⟩ wn
      have HJR : Hid (∀ j, judgeN (T.ln k).has (T.ln k).waits ⟨t.num, t.node, 1⟩ wn = j → askL t 1 (T.ln k).has (T.ln k).waits = if j = 3 then ⟨3, (T.ln k).has, (T.ln k).waits, false⟩ else if j = 1 then ⟨1, giveL ⟨t.num, t.node, 1⟩ (T.ln k).has, (T.ln k).waits, true⟩ else ⟨2, (T.ln k).has, (T.ln k).waits.take wn ++ ⟨t.num, t.node, 1⟩ :: (T.ln k).waits.drop wn, true⟩) := fun j hj => by
        rw [HA3.out]
        unfold wantL
        rw [hj]
      generalize judgeN (T.ln k).has (T.ln k).waits ⟨t.num, t.node, 1⟩ wn = J at *
      have c0 := (Below.cell hE6 (cell_lt c0)).trans c0
      have c1 := (Below.cell hE6 (cell_lt c1)).trans c1
      have c2 := (Below.cell hE6 (cell_lt c2)).trans c2
      have c3 := (Below.cell hE6 (cell_lt c3)).trans c3
      have x0 := (Below.cell hE6 (cell_lt x0)).trans x0
      have x1 := (Below.cell hE6 (cell_lt x1)).trans x1
      have x2 := (Below.cell hE6 (cell_lt x2)).trans x2
      have HE6 : Hid (Ext w w6) := Ext.trans HE5w.out hE6
      have HE56 : Hid (Ext w5 w6) := hE6
      have HB6 : Hid (Blk w6 w0.heap.size #[.slice ha hn hc, .slice wa wn wc] 67) := (HBX3.out.below_ HE5.out).below_ hE6
      have HX6 : Hid (Blk w6 w3.heap.size #[.int .u64 t.num, .int .i64 t.node, .int .i64 1] 55) := HX5.out.below_ hE6
      have HOO : Hid (OwnW w6 B (.slice ha hn hc) (T.ln k).has ∧ OwnW w6 B (.slice wa wn wc) (T.ln k).waits) := ⟨HO.out.1.below HE6.out, HO.out.2.below HE6.out⟩
      clear hE6 HJ
      rcases HJC with rfl | rfl | rfl
      · have HR : Hid (askL t 1 (T.ln k).has (T.ln k).waits = ⟨3, (T.ln k).has, (T.ln k).waits, false⟩) := HJR.out 3 rfl
        clear HJR
        go_wp2
        go_ret
        exact HSTILL.out _ _ HE6.out (by rw [HR.out]) (by rw [HR.out])
      · have HR : Hid (askL t 1 (T.ln k).has (T.ln k).waits = ⟨1, giveL ⟨t.num, t.node, 1⟩ (T.ln k).has, (T.ln k).waits, true⟩) := HJR.out 1 rfl
        clear HJR
        have HG : Hid (Calls _ _ _ _ _) := give_any B w0.heap.size (.slice ha hn hc) (.slice wa wn wc) (T.ln k).has ⟨t.num, t.node, 1⟩ w6 HB6.out HOO.out.1 HS.out (by have := HLN.out; omega) (by have h1 := HBL.out; have h2 := HE6.out.size; omega) ⟨_, _, _, rfl⟩
        go_wp2_with fail
        refine HG.out.mono ?_
        rintro e w7 ⟨rfl, hv7, q7, o7, at7, c7⟩
        obtain ⟨a7, n7, k7, rfl⟩ : ∃ a n c, hv7 = .slice a n c := by
          obtain ⟨a, c, e, _⟩ := o7.row
          exact ⟨a, _, c, e⟩
        have HC7 : Hid (Chg (fun i => LB (T.ln k) i ∨ w.heap.size ≤ i) w6 w7) := Chg.mono c7 (fun i _ e => by
          rcases e with e | e
          · have := HGB.out; exact .inr (by omega)
          · rw [HVB.out.1] at e; exact .inl (.inl e))
        have HW7 : Hid (OwnW w7 B (.slice wa wn wc) (T.ln k).waits) := HOO.out.2.kept fun g hg => c7.block g (World.ownsRow.lt HOO.out.2 g hg).2 (fun e => by
          have hlt := (World.ownsRow.lt HO.out.2 g hg).2
          rcases e with e | e
          · have := HGB.out; omega
          · rw [HVB.out.1] at e
            rw [HVB.out.2] at hg
            exact HT.out.lb_two e hg)
        have HK : Hid (Calls _ _ _ _ _) := ask_keep (a := 1) (m := 1) HT.out HI.out HE6.out HC7.out (by rw [HR.out]) (by rw [HR.out]) (by rw [HR.out]; exact o7) (by rw [HR.out]; exact HW7.out) (fun i e => by
          rcases at7 with x | ⟨kk, x, x2⟩
          · rw [x, HVB.out.1] at e; exact .inl e
          · rw [x] at e; cases e; have := HE6.out.size; exact .inr (by omega)) (fun i e => by rw [HVB.out.2] at e; exact .inl e) (.inr HVB.out.2) HKT.out.1 HKT.out.2.1 HKT.out.2.2
        have HT7 : Hid (Blk w7 w.heap.size #[.int .u64 t.num, .int .i64 t.node] 29) := ((HTB3.out.below_ HE5.out).below_ HE56.out).chg c7 (fun e => by
          rcases e with e | e
          · have := HGB.out; omega
          · have := (World.ownsRow.lt HO.out.1 _ e).2; omega)
        have z0 : w7.cell? ⟨w0.heap.size, 0, none⟩ = some (.slice a7 n7 k7) := q7.cell 0
        have z1 : w7.cell? ⟨w0.heap.size, 1, none⟩ = some (.slice wa wn wc) := q7.cell 1
        have z2 : w7.cell? ⟨w.heap.size, 0, none⟩ = some (.int .u64 t.num) := HT7.out.cell 0
        have z3 : w7.cell? ⟨w.heap.size, 1, none⟩ = some (.int .i64 t.node) := HT7.out.cell 1
        clear o7 at7 c7 q7 HG c0 c1 c2 c3 x0 x1 x2
        go_wp2_with fail
        refine HK.out.mono ?_
        rintro e w8 ⟨rfl, hres⟩
        have HRES : Hid (AskP B w T t 1 k (.returned (.int .i64 1)) w8) := hres
        clear hres HK z0 z1 z2 z3
        go_wp2
        go_ret
        exact HRES.out
      · have HR : Hid (askL t 1 (T.ln k).has (T.ln k).waits = ⟨2, (T.ln k).has, (T.ln k).waits.take wn ++ ⟨t.num, t.node, 1⟩ :: (T.ln k).waits.drop wn, true⟩) := HJR.out 2 rfl
        clear HJR
        obtain ⟨w7, hw7⟩ : ∃ w7, w7 = w6.alloc (.cells #[.int .u64 t.num, .int .i64 t.node, .int .i64 1] 55) := ⟨_, rfl⟩
        have HE7 : Hid (Ext w6 w7) := by rw [hw7]; exact ext_one _
        have HX7 : Hid (Blk w7 w6.heap.size #[.int .u64 t.num, .int .i64 t.node, .int .i64 1] 55) := by rw [hw7]; exact Blk.new _ _ _
        have HIN : Hid (Calls _ _ _ _ _) := insW_any w7 B w6.heap.size (.slice wa wn wc) (T.ln k).waits ⟨t.num, t.node, 1⟩ wn (HOO.out.2.below HE7.out) HX7.out (fun e => by have h1 := (World.ownsRow.lt HO.out.2 _ e).2; have h2 := HE6.out.size; omega) HPL.out (by have := HLN.out; omega) (by have h1 := HBL.out; have h2 := HE6.out.size; have h3 := HE7.out.size; omega)
        go_wp2_with fail
        rw [← hw7]
        refine HIN.out.mono ?_
        rintro e w8 ⟨v8, rfl, o8, at8, g8⟩
        obtain ⟨a8, n8, k8, rfl⟩ : ∃ a n c, v8 = .slice a n c := by
          obtain ⟨a, c, e, _⟩ := o8.row
          exact ⟨a, _, c, e⟩
        have HC8 : Hid (Chg (fun i => (T.ln k).wb = some i) w6 w8) := Chg.grown (Chg.of_below HE7.out (fun i hi hn => absurd hi (Nat.not_lt.2 hn))) g8 (fun kk e _ => by rw [HVB.out.2] at e; exact e)
        have hgb : ¬ ((T.ln k).wb = some w0.heap.size) := fun e => by
          have h1 := (HT.out.ft_lt (HT.out.lb_ft (k := k) (.inr e))).2
          have := HGB.out
          omega
        have htb : ¬ ((T.ln k).wb = some w.heap.size) := fun e => by
          have h1 := (HT.out.ft_lt (HT.out.lb_ft (k := k) (.inr e))).2
          omega
        have HB8 : Hid (Blk w8 w0.heap.size #[.slice ha hn hc, .slice wa wn wc] 67) := HB6.out.chg HC8.out hgb
        have HT8 : Hid (Blk w8 w.heap.size #[.int .u64 t.num, .int .i64 t.node] 29) := ((HTB3.out.below_ HE5.out).below_ HE56.out).chg HC8.out htb
        have HH8 : Hid (OwnW w8 B (.slice ha hn hc) (T.ln k).has) := HOO.out.1.kept fun g hg => HC8.out.block g (World.ownsRow.lt HOO.out.1 g hg).2 (fun e => by
          rw [HVB.out.1] at hg
          exact HT.out.lb_two hg e)
        have z1 : w8.cell? ⟨w0.heap.size, 1, none⟩ = some (.slice wa wn wc) := HB8.out.cell 1
        have z9 := HB8.out.frozen 1
        obtain ⟨w9, hw9⟩ : ∃ w9, w9 = w8.setCell ⟨w0.heap.size, 1, none⟩ (.slice a8 n8 k8) := ⟨_, rfl⟩
        have HB9 : Hid (Blk w9 w0.heap.size #[.slice ha hn hc, .slice a8 n8 k8] 67) := by
          have := HB8.out.set 1 (.slice a8 n8 k8)
          rw [hw9]
          show Blk _ _ _ _
          simpa using this
        have HC9 : Hid (Chg (fun i => i = w0.heap.size) w8 w9) := by rw [hw9]; exact Chg.setCell (S := fun i => i = w0.heap.size) (Chg.refl _ _) _ (fun _ => rfl) _
        have HC69 : Hid (Chg (fun i => LB (T.ln k) i ∨ w.heap.size ≤ i) w6 w9) := Chg.trans (Chg.mono HC8.out (fun i _ e => .inl (.inr e))) HC9.out (fun i _ e => by have := HGB.out; exact .inr (by omega))
        have HV8 : Hid (∀ i, (Value.slice a8 n8 k8).ownBlock = some i → (T.ln k).wb = some i ∨ w.heap.size ≤ i) := fun i e => by
          rcases at8 with x | x
          · rw [x, HVB.out.2] at e; exact .inl e
          · rw [x] at e; cases e; have h1 := HE6.out.size; have h2 := HE7.out.size; exact .inr (by omega)
        have HNB : Hid ((Value.slice a8 n8 k8).ownBlock ≠ some w0.heap.size) := o8.notBlk HB8.out (by decide)
        have HO9 : Hid (OwnW w9 B (.slice a8 n8 k8) ((T.ln k).waits.take wn ++ ⟨t.num, t.node, 1⟩ :: (T.ln k).waits.drop wn)) := o8.kept fun g hg => HC9.out.block g (World.ownsRow.lt o8 g hg).2 (fun e => HNB.out (by rw [hg, e]))
        have HH9 : Hid (OwnW w9 B (.slice ha hn hc) (T.ln k).has) := HH8.out.kept fun g hg => HC9.out.block g (World.ownsRow.lt HH8.out g hg).2 (fun e => by
          have h1 := (World.ownsRow.lt HO.out.1 g hg).2
          have := HGB.out
          omega)
        have HK : Hid (Calls _ _ _ _ _) := ask_keep (a := 2) (m := 1) HT.out HI.out HE6.out HC69.out (by rw [HR.out]) (by rw [HR.out]) (by rw [HR.out]; exact HH9.out) (by rw [HR.out]; exact HO9.out) (fun i e => by rw [HVB.out.1] at e; exact .inl e) HV8.out (.inl HVB.out.1) HKT.out.1 HKT.out.2.1 HKT.out.2.2
        have HT9 : Hid (Blk w9 w.heap.size #[.int .u64 t.num, .int .i64 t.node] 29) := HT8.out.chg HC9.out (fun e => by have := HGB.out; omega)
        clear o8 at8 g8 hw7 hgb htb HIN c0 c1 c2 c3 x0 x1 x2
        go_upto_region 21 with fail
        rw [← hw9]
        clear hw9 z1 z9
        have z0 : w9.cell? ⟨w0.heap.size, 0, none⟩ = some (.slice ha hn hc) := HB9.out.cell 0
        have z1 : w9.cell? ⟨w0.heap.size, 1, none⟩ = some (.slice a8 n8 k8) := HB9.out.cell 1
        have z2 : w9.cell? ⟨w.heap.size, 0, none⟩ = some (.int .u64 t.num) := HT9.out.cell 0
        have z3 : w9.cell? ⟨w.heap.size, 1, none⟩ = some (.int .i64 t.node) := HT9.out.cell 1
        go_wp2_with fail
        refine HK.out.mono ?_
        rintro e w10 ⟨rfl, hres⟩
        have HRES : Hid (AskP B w T t 1 k (.returned (.int .i64 2)) w10) := hres
        clear hres HK z0 z1 z2 z3
        go_wp2
        go_ret
        exact HRES.out
  · have HR : Hid (askL t 1 (T.ln k).has (T.ln k).waits = ⟨1, (T.ln k).has, (T.ln k).waits, false⟩) := HA1.out 1 hmd (by decide)
    clear hmd HA1
    go_wp2
    go_ret
    exact HSTILL.out _ _ HE2.out (by rw [HR.out]) (by rw [HR.out])
  · have HR : Hid (askL t 1 (T.ln k).has (T.ln k).waits = ⟨1, (T.ln k).has, (T.ln k).waits, false⟩) := HA1.out 2 hmd (by decide)
    clear hmd HA1
    go_wp2
    go_ret
    exact HSTILL.out _ _ HE2.out (by rw [HR.out]) (by rw [HR.out])
end Go.Proofs.Ytkgecljoodofeaa
