/- lock: Free, walked. Own lemmas, no statement. -/
import Derived.Test.YtkgecljoodofeaaLkFq
set_option linter.unusedSimpArgs false
set_option linter.unusedVariables false
namespace Go.Proofs.Ytkgecljoodofeaa
open Go.ChangeShapes Go.WideShapes Go.ChangeAt Go.RowKit

theorem wpList_pushG {ops : Array Oper} {rest : List Oper} {o : Oper} {a : Act} {Q : Exit → Act → World → Prop} (w : World) (hgd : o.guard = none) (s x : Operand)
    (ho : o.op = .call { callee := .builtin .append, args := #[s, x], argTypes := #[40, 40] })
    (B : Nat) (v : Value) (ls : List Gr) (y : Gr) (h : Nat) (hown : OwnG w B v ls) (hs : a.eval s = v) (hb : Blk w h y.cs.toArray 46) (hx : a.eval x = .slice (some ⟨h, 0, none⟩) 1 1) (hl : ls.length ≤ 1000000000) (hB : B ≤ w.heap.size)
    (hK : ∀ v' w', OwnG w' B v' (ls ++ [y]) → w.grownBy w' v.ownBlock → (v'.ownBlock = v.ownBlock ∨ v'.ownBlock = some w.heap.size) → wpList Try.prog ops Q rest (a.put o.dst v') w') :
    wpList Try.prog ops Q (o :: rest) a w := by
  refine wpList_plain hgd fun K hK' => ?_
  obtain ⟨v', w', hr, k1, k2, k3⟩ := run_pushG w o.type B v ls y h hown hb hl hB
  unfold Oper.wp execOp
  simp only [ho, resolve, invoke, builtin, Sem.run_bind, Sem.run_pure, Result.andThen_ok, List.map_toArray, List.map_cons, List.map_nil, hs, hx, hr]
  exact hK' _ _ (hK v' w' k1 k2 k3)
theorem exec_delB {ρ : Operand → Value} {o : Oper} {w w' : World} {s x : Operand} {t u : TypeId} {v vx v' : Value} (ho : o.op = .call { callee := .builtin .delete, args := #[s, x], argTypes := #[t, u] }) (hs : ρ s = v) (hx : ρ x = vx) (hr : (Builtin.delete_ #[t, u] o.type #[v, vx]).run Try.prog w = .ok v' w') : (execOp ρ o).run Try.prog w = .ok (.value v') w' := by
  unfold execOp
  simp only [ho, resolve, invoke, builtin, Sem.run_bind, Sem.run_pure, Result.andThen_ok, List.map_toArray, List.map_cons, List.map_nil, hs, hx, hr]
theorem OwnK.form {w : World} {B : Nat} {v : Value} {ks : List ByteArray} (h : OwnK w B v ks) : ∃ ao c, v = .slice ao ks.length c ∧ ks.length ≤ c ∧ c ≤ maxLen ∧ (ao = none → ks.length = 0) ∧ ∀ g, ao = some g → g = ⟨g.block, 0, none⟩ ∧ B ≤ g.block ∧ (∃ cur, Blk w g.block cur 9) ∧ ∀ i (hi : i < ks.length), w.cell? ⟨g.block, i, none⟩ = some (.string ks[i]) := by
  rcases h.2 with ⟨rfl, h0⟩ | ⟨g, c, cur, rfl, h1, h2, h3, h4, h5, h6⟩
  · exact ⟨none, 0, by rw [h0], by omega, Nat.zero_le _, fun _ => h0, fun g e => by cases e⟩
  · refine ⟨_, c, rfl, h3, h4, (fun e => by cases e), fun g' e => ?_⟩
    cases e
    refine ⟨rfl, h1, ⟨cur, h2⟩, fun i hi => ?_⟩
    have := World.ownsRow.cells h rfl i (.string ks[i]) (by simp [hi])
    rw [add0] at this
    exact this
theorem GM.wf {K E : Type} {C : Cod K E} {w : World} {b n : Nat} {f : K → Option E} (h : GM C w b n f) {q : K} (hq : (f q).isSome = true) : C.wf q := by
  obtain ⟨D, ks, _, h2⟩ := h
  exact h2.wf q ((h2.mem q).1 hq)
theorem LnV.parts (l : LnV) : ∃ a n c b m d, l.hv = .slice a n c ∧ l.wv = .slice b m d ∧ l.v = .agg #[.slice a n c, .slice b m d] := ⟨_, _, _, _, _, _, rfl, rfl, rfl⟩
theorem RoundF.drew {B : Nat} {W1 wr W5 : World} {T T' : Tab} {t : Td} {k : ByteArray} {os : List Gr} {ov hv wv ov' : Value} (r : RoundF B W1 T T' t k os ov wr W5 hv wv ov') : RoundF B W1 T T' t k os ov wr W5.drew hv wv ov' :=
  ⟨r.h.below (Below.drew (Below.refl _ _)), r.w.below (Below.drew (Below.refl _ _)), r.hb, r.wb, r.og.below (Below.drew (Below.refl _ _)), r.chg.drew⟩
/-- What Free leaves. -/
def FreeP (B : Nat) (w : World) (T : Tab) (t : Td) (e : Ending) (w' : World) : Prop := ∃ v ks os T', e = .returned v ∧ KeysIn (T.K t) ks ∧ ks.length ≤ T.N ∧ FreeR T t ks ks.length T' os ∧ TabAt B w' (T'.off t) none_ ∧ OwnG w' w.heap.size v os ∧ StepT w T w' (T'.off t)

set_option maxRecDepth 100000 in
set_option maxHeartbeats 8000000 in
theorem free_any (B : Nat) (T : Tab) (t : Td) (w : World) (h : TabAt B w T none_) (hi : TInv T) (ht : t.wf) (hN : T.N ≤ 9000) (hB : B ≤ w.heap.size) :
    Calls Try.prog 16 #[.pointer (some ⟨T.g, 0, none⟩), .agg #[.int .u64 t.num, .int .i64 t.node]] w (FreeP B w T t) := by
  obtain ⟨w0, hw0⟩ : ∃ w0, w0 = w.alloc (.cells #[.int .u64 t.num, .int .i64 t.node] 29) := ⟨_, rfl⟩
  have HE0 : Hid (Ext w w0) := by rw [hw0]; exact ext_one _
  have HT0 : Hid (Blk w0 w.heap.size #[.int .u64 t.num, .int .i64 t.node] 29) := by rw [hw0]; exact Blk.new _ _ _
  have HI : Hid (TInv T) := hi
  have HTW : Hid (t.wf ∧ T.N ≤ 9000 ∧ B ≤ w.heap.size) := ⟨ht, hN, hB⟩
  have HTD : Hid (Calls _ _ _ _ _) := touched_any B T t w0 (h.below HE0.out) hi ht (by omega)
  have HTA : Hid (TabAt B w T none_) := h
  have b0 : w0.cell? ⟨w.heap.size, 0, none⟩ = some (.int .u64 t.num) := HT0.out.cell 0
  have b1 : w0.cell? ⟨w.heap.size, 1, none⟩ = some (.int .i64 t.node) := HT0.out.cell 1
  clear h hi ht hN hB
  go_enter Try.func16, Try.ntmps16
  go_upto_region 1 with fail
  rw [← hw0]
  clear hw0
  go_wp2_with fail
  refine HTD.out.mono ?_
  rintro e w1 ⟨kv, ks, rfl, hk, hown, hE, hln⟩
  have HK : Hid (KeysIn (T.K t) ks ∧ ks.length ≤ T.N) := ⟨hk, hln⟩
  have HE1 : Hid (Ext w w1) := Ext.trans HE0.out hE
  have HT1 : Hid (Blk w1 w.heap.size #[.int .u64 t.num, .int .i64 t.node] 29) := HT0.out.below_ hE
  have HTA1 : Hid (TabAt B w1 T none_) := HTA.out.below HE1.out
  obtain ⟨ka, kc, rfl, k1, k2, k3, k4⟩ := hown.form
  obtain ⟨kn, hkn⟩ : ∃ kn, ks.length = kn := ⟨_, rfl⟩
  have HKN : Hid (ks.length = kn) := hkn
  have HKO : Hid (OwnK w1 w0.heap.size (.slice ka ks.length kc) ks) := hown
  have HKA : Hid (ka = none → ks.length = 0) := k3
  have HK4 : Hid (∀ (g : Addr), ka = some g → g = ⟨g.block, 0, none⟩ ∧ w0.heap.size ≤ g.block ∧ (∃ cur, Blk w1 g.block cur 9) ∧ ∀ i (hi : i < ks.length), w1.cell? ⟨g.block, i, none⟩ = some (.string ks[i])) := k4
  have hk9 : kn ≤ 9000 := by have := HTW.out.2.1; omega
  rw [hkn]
  clear hk hown hE hln k1 k2 k3 k4 hkn HTD b0 b1
  go_wp2_with fail
  go_loopw [5, 15] (fun ov vj wr => ∃ j : Nat, vj = .int .i64 (j : Int) ∧ j ≤ kn ∧ (∃ a n c, ov = .slice a n c) ∧ FI B w1 T t ks j ov wr) (fun _ vj _ => kn - (intOf vj).toNat)
  case atStart => exact ⟨0, rfl, Nat.zero_le _, ⟨_, _, _, rfl⟩, T, [], HTA1.out, FreeR.start T t ks, OwnG.nil _ _, StepT.of_ext (Ext.refl _)⟩
  case round =>
    generalize wr = V at hrel ⊢
    obtain ⟨j, rfl, hjn, ⟨oa, on, oc, rfl⟩, T', os, hT, hF, hO, hS⟩ := hrel
    have HT : Hid (TabAt B V T' none_) := hT
    have HF : Hid (FreeR T t ks j T' os) := hF
    have HO : Hid (OwnG V w1.heap.size (.slice oa on oc) os) := hO
    have HS : Hid (StepT w1 T V T') := hS
    have HTR : Hid (Blk V w.heap.size #[.int .u64 t.num, .int .i64 t.node] 29) := HT1.out.chg HS.out.chg (HTA1.out.notFT HT1.out (by decide) (by decide))
    clear hT hF hO hS
    by_cases hlt : j < kn
    · have hjl : j < ks.length := by rw [HKN.out]; exact hlt
      have hdt : decide ((j : Int) < (kn : Int)) = true := by simp; omega
      obtain ⟨k, hk⟩ : ∃ k, k = ks[j] := ⟨_, rfl⟩
      have HKJ : Hid (k = ks[j]) := hk
      have HKW : Hid (k.size ≤ maxLen) := by
        have h1 : (T.K t k).isSome = true := (HK.out.1.2 k).1 (by rw [hk]; exact List.getElem_mem _)
        cases hA : T.A t with
        | none => rw [HI.out.nosets t hA k] at h1; cases h1
        | some o =>
          obtain ⟨b, _, _, _, _, h4⟩ := HTA.out.sets t o hA
          exact h4.wf h1
      obtain ⟨ga, hga⟩ : ∃ ga, ka = some ⟨ga, 0, none⟩ := by
        cases ka with
        | none => have := HKA.out rfl; omega
        | some g => exact ⟨g.block, congrArg some (HK4.out g rfl).1⟩
      have kc0 : V.cell? ⟨ga, j, none⟩ = some (.string k) := by
        obtain ⟨_, _, ⟨cur, hcur⟩, hc⟩ := HK4.out _ hga
        rw [hk]
        exact HS.out.chg.cell (hc j hjl) (HTA1.out.notFT hcur (by decide) (by decide))
      obtain ⟨ha, hn, hc, wa, wn, wc, eh, ew, ev⟩ := (T'.ln k).parts
      have HLOOK : Hid ((Instr.lookup 62 (.map (some T'.mb)) (.string k) false).run Try.prog V = .ok (.agg #[.slice ha hn hc, .slice wa wn wc]) V) := by
        have := HT.out.lm.ask cLn_ok k HKW.out
        rw [← ev]
        exact this
      have HOWL : Hid (OwnW V B (.slice ha hn hc) (T.ln k).has ∧ OwnW V B (.slice wa wn wc) (T.ln k).waits) := by
        have h1 := HT.out.own (k := k)
        have h2 : T'.ln k = T.ln k := by rw [hk]; exact HF.out.same HK.out.1.1 hjl
        rw [← eh, ← ew, ← h2]
        exact h1
      have HLB : Hid ((∀ b, (Value.slice ha hn hc).ownBlock = some b ↔ (T'.ln k).hb = some b) ∧ ∀ b, (Value.slice wa wn wc).ownBlock = some b ↔ (T'.ln k).wb = some b) := by
        rw [← eh, ← ew]
        exact ⟨fun b => by unfold LnV.hv; rw [slV_own], fun b => by unfold LnV.wv; rw [slV_own]⟩
      have c0 : V.cell? ⟨T.g, 0, none⟩ = some (.map (some T'.mb)) := by
        have := HT.out.blk.cell 0
        rw [HF.out.g] at this
        exact this
      obtain ⟨w2, hw2⟩ : ∃ w2, w2 = V.alloc (.cells #[.slice ha hn hc, .slice wa wn wc] 67) := ⟨_, rfl⟩
      have HE2 : Hid (Ext V w2) := by rw [hw2]; exact ext_one _
      have HQ2 : Hid (Blk w2 V.heap.size #[.slice ha hn hc, .slice wa wn wc] 67) := by rw [hw2]; exact Blk.new _ _ _
      subst hga
      clear hk eh ew ev
      go_upto_region 6 with (at_lookup; refine wpList_lookup_run _ rfl _ _ _ rfl _ _ rfl rfl HLOOK.out ?_)
      rw [← hw2]
      clear hw2 HLOOK kc0 c0
      have b0 : w2.cell? ⟨w.heap.size, 0, none⟩ = some (.int .u64 t.num) := (HTR.out.below_ HE2.out).cell 0
      have b1 : w2.cell? ⟨w.heap.size, 1, none⟩ = some (.int .i64 t.node) := (HTR.out.below_ HE2.out).cell 1
      have HLEN : Hid ((T.ln k).has.length + (T.ln k).waits.length ≤ 9000) := by have h1 := HI.out.len k; have h2 := HTW.out.2.1; show _ ≤ _; omega
      have HDJ : Hid (∀ b, (Value.slice ha hn hc).ownBlock = some b → (Value.slice wa wn wc).ownBlock ≠ some b) := fun b h1 h2 => HT.out.lb_two ((HLB.out.1 b).1 h1) ((HLB.out.2 b).1 h2)
      have HLV : Hid (Calls _ _ _ _ _) := leave_any B V.heap.size (.slice ha hn hc) (.slice wa wn wc) (T.ln k).has (T.ln k).waits t w2 HQ2.out (HOWL.out.1.below HE2.out) (HOWL.out.2.below HE2.out) HDJ.out (by have := HLEN.out; omega) (by have := HLEN.out; omega)
      go_wp2_with fail
      refine HLV.out.mono ?_
      rintro e w3 ⟨rfl, hv3, wv3, q3, oh3, ow3, bh3, bw3, ch3⟩
      have HQ3 : Hid (Blk w3 V.heap.size #[hv3, wv3] 67) := q3
      have HO3 : Hid (OwnW w3 B hv3 (leaveL t (T.ln k).has) ∧ OwnW w3 B wv3 (leaveL t (T.ln k).waits)) := ⟨oh3, ow3⟩
      have HB3 : Hid (hv3.ownBlock = (Value.slice ha hn hc).ownBlock ∧ wv3.ownBlock = (Value.slice wa wn wc).ownBlock) := ⟨bh3, bw3⟩
      have HC3 : Hid (Chg (fun i => i = V.heap.size ∨ (Value.slice ha hn hc).ownBlock = some i ∨ (Value.slice wa wn wc).ownBlock = some i) w2 w3) := ch3
      clear q3 oh3 ow3 bh3 bw3 ch3 HLV b0 b1
      have HSV : Hid (Calls _ _ _ _ _) := serve_any B V.heap.size hv3 wv3 (leaveL t (T.ln k).has) (leaveL t (T.ln k).waits) w3 HQ3.out HO3.out.1 HO3.out.2 (leave_srt (HI.out.srt k)) (fun b h1 h2 => HDJ.out b (by rw [← HB3.out.1]; exact h1) (by rw [← HB3.out.2]; exact h2)) (by have h1 := HLEN.out; have h2 := leave_len t (T.ln k).has; have h3 := leave_len t (T.ln k).waits; omega) (by have h1 := HTW.out.2.2; have h2 := HE1.out.size; have h3 := HS.out.chg.size; have h4 := HE2.out.size; have h5 := HC3.out.size; omega)
      go_wp2_with fail
      refine HSV.out.mono ?_
      rintro e w4 ⟨gv, hv4, wv4, rfl, q4, oh4, ow4, og4, bh4, bw4, ch4⟩
      have HQ4 : Hid (Blk w4 V.heap.size #[hv4, wv4] 67) := q4
      have HO4 : Hid (OwnW w4 B hv4 (freeH t (T.ln k).has (T.ln k).waits) ∧ OwnW w4 B wv4 (freeW t (T.ln k).has (T.ln k).waits)) := ⟨oh4, ow4⟩
      obtain ⟨gs, hgs⟩ : ∃ gs, gs = (leaveL t (T.ln k).waits).take (freeM t (T.ln k).has (T.ln k).waits) := ⟨_, rfl⟩
      have HGS : Hid (gs = (leaveL t (T.ln k).waits).take (freeM t (T.ln k).has (T.ln k).waits)) := hgs
      have HOG4 : Hid (OwnW w4 w3.heap.size gv gs) := by rw [hgs]; exact og4
      have HB4 : Hid ((hv4.ownBlock = hv3.ownBlock ∨ ∃ k, hv4.ownBlock = some k ∧ w3.heap.size ≤ k) ∧ wv4.ownBlock = wv3.ownBlock) := ⟨bh4, bw4⟩
      have HC4 : Hid (Chg (fun i => i = V.heap.size ∨ hv3.ownBlock = some i ∨ wv3.ownBlock = some i) w3 w4) := ch4
      have HGL : Hid (gs.length ≤ 9000) := by
        have h1 := HLEN.out
        have h2 := leave_len t (T.ln k).waits
        show _ ≤ _
        rw [hgs, List.length_take]
        omega
      obtain ⟨gao, m, gc, egv, hgm, hgc⟩ : ∃ a n c, gv = .slice a n c ∧ gs.length = n ∧ n ≤ c := by
        obtain ⟨a, c, e, h1, _⟩ := HOG4.out.row
        exact ⟨a, _, c, e, rfl, h1⟩
      have HGM : Hid (gs.length = m) := hgm
      have hm9 : m ≤ 9000 := by rw [← hgm]; exact HGL.out
      have HC14 : Hid (Chg (fun i => LB (T'.ln k) i) V w4) := by
        have hsz2 := HE2.out.size
        refine Chg.trans (Chg.trans (Chg.of_below HE2.out (fun i hi hn => absurd hi (Nat.not_lt.2 hn))) HC3.out (fun i hi e => ?_)) HC4.out (fun i hi e => ?_)
        · rcases e with e | e | e
          · omega
          · exact .inl ((HLB.out.1 i).1 e)
          · exact .inr ((HLB.out.2 i).1 e)
        · rcases e with e | e | e
          · omega
          · exact .inl ((HLB.out.1 i).1 (by rw [← HB3.out.1]; exact e))
          · exact .inr ((HLB.out.2 i).1 (by rw [← HB3.out.2]; exact e))
      subst egv
      clear q4 oh4 ow4 og4 bh4 bw4 ch4 hgs hgm HSV
      have HOV4 : Hid (OwnG w4 w1.heap.size (.slice oa on oc) os) := by
        refine HO.out.kept fun b hb => ?_
        obtain ⟨_, hlt, c, hc⟩ := HO.out.blk hb
        exact HC14.out.block b hlt fun e => HT.out.notFT hc (by decide) (by decide) (HT.out.lb_ft e)
      go_wp2_with fail
      go_loopw [5, 29] (fun o' vi wx => ∃ i : Nat, vi = .int .i64 (i : Int) ∧ i ≤ m ∧ (∃ a n c, o' = .slice a n c) ∧ OwnG wx w1.heap.size o' (os ++ (gs.take i).map (toG k)) ∧ (o'.ownBlock = (Value.slice oa on oc).ownBlock ∨ ∃ b, o'.ownBlock = some b ∧ w4.heap.size ≤ b) ∧ Chg (fun i => (Value.slice oa on oc).ownBlock = some i) w4 wx) (fun _ vi _ => m - (intOf vi).toNat)
      case atStart =>
        refine ⟨0, rfl, Nat.zero_le _, ⟨_, _, _, rfl⟩, ?_, .inl rfl, Chg.refl _ _⟩
        rw [List.take_zero, List.map_nil, List.append_nil]
        exact HOV4.out
      case round =>
        obtain ⟨i, rfl, him, ⟨a5, n5, c5, rfl⟩, hog, hat, hch⟩ := hrel
        obtain ⟨o2, ho2⟩ : ∃ o2, o2 = os ++ (gs.take i).map (toG k) := ⟨_, rfl⟩
        have HO2 : Hid (o2 = os ++ (gs.take i).map (toG k)) := ho2
        rw [← ho2] at hog
        have HOX : Hid (OwnG wr w1.heap.size (.slice a5 n5 c5) o2) := hog
        have HAX : Hid ((Value.slice a5 n5 c5).ownBlock = (Value.slice oa on oc).ownBlock ∨ ∃ b, (Value.slice a5 n5 c5).ownBlock = some b ∧ w4.heap.size ≤ b) := hat
        have HCX : Hid (Chg (fun i => (Value.slice oa on oc).ownBlock = some i) w4 wr) := hch
        have HOV : Hid (∀ b c Y, Blk w4 b c Y → Y ≠ 46 → Blk wr b c Y) := fun b c Y hb hY => hb.chg hch fun e => by
          obtain ⟨_, _, c', hc'⟩ := HOV4.out.blk e
          exact hY (hb.inj hc').2
        clear hog hat hch ho2
        by_cases hlx : i < m
        · have hil : i < gs.length := by rw [HGM.out]; exact hlx
          have hdx : decide ((i : Int) < (m : Int)) = true := by simp; omega
          obtain ⟨x, hx⟩ : ∃ x, x = gs[i] := ⟨_, rfl⟩
          have HX : Hid (x = gs[i]) := hx
          obtain ⟨gb, hgb⟩ : ∃ gb, gao = some ⟨gb, 0, none⟩ := by
            rcases HOG4.out.form with ⟨e, e2⟩ | ⟨g1, c, e, _⟩
            · rw [e2] at hil; simp at hil
            · injection e with e1; exact ⟨g1, e1⟩
          subst hgb
          obtain ⟨k0, k1, k2⟩ : wr.cell? ⟨gb, i * 3, none⟩ = some (.int .u64 x.num) ∧ wr.cell? ⟨gb, i * 3 + 1, none⟩ = some (.int .i64 x.node) ∧ wr.cell? ⟨gb, i * 3 + 2, none⟩ = some (.int .i64 x.mode) := by
            have hog : OwnW wr w3.heap.size (.slice (some ⟨gb, 0, none⟩) m gc) gs := by
              refine HOG4.out.kept fun b hb => ?_
              cases hb
              rcases HOG4.out.form with ⟨e, _⟩ | ⟨g1, c1, e, _, h2, _, _, cur, h5, _⟩
              · cases e
              · simp only [Value.slice.injEq, Option.some.injEq, Addr.mk.injEq, and_true, true_and] at e
                obtain ⟨rfl, _⟩ := e
                have := HOV.out _ _ _ h5 (by decide)
                exact this.trans h5.symm
            obtain ⟨ao, c', e, _, _, _, hr⟩ := hog.row
            injection e with e1 e2 e3
            have := hr.2 ⟨gb, 0, none⟩ e1.symm i hil
            simp only [add0, ← hx] at this
            exact this
          have HBA : Hid (OwnG ((wr.alloc (.cells #[.int .u64 x.num, .int .i64 x.node, .int .i64 x.mode] 55)).alloc (.cells #[.int .u64 x.num, .int .i64 x.node, .string k, .int .i64 x.mode] 46)) w1.heap.size (.slice a5 n5 c5) o2) := HOX.out.below (ext_two _ _)
          have HBN : Hid (Blk ((wr.alloc (.cells #[.int .u64 x.num, .int .i64 x.node, .int .i64 x.mode] 55)).alloc (.cells #[.int .u64 x.num, .int .i64 x.node, .string k, .int .i64 x.mode] 46)) (wr.heap.size + 1) (toG k x).cs.toArray 46) := by
            have := Blk.new (wr.alloc (.cells #[.int .u64 x.num, .int .i64 x.node, .int .i64 x.mode] 55)) #[.int .u64 x.num, .int .i64 x.node, .string k, .int .i64 x.mode] 46
            rw [show (wr.alloc (.cells #[.int .u64 x.num, .int .i64 x.node, .int .i64 x.mode] 55)).heap.size = wr.heap.size + 1 by simp] at this
            exact this
          have HLO : Hid (o2.length ≤ 1000000000) := by
            have h1 := HF.out.os_len HI.out
            have h2 : j * T.N ≤ 9000 * 9000 := Nat.mul_le_mul (by omega) HTW.out.2.1
            show _ ≤ _
            rw [HO2.out, List.length_append, List.length_map, List.length_take]
            omega
          have HBB : Hid (w1.heap.size ≤ ((wr.alloc (.cells #[.int .u64 x.num, .int .i64 x.node, .int .i64 x.mode] 55)).alloc (.cells #[.int .u64 x.num, .int .i64 x.node, .string k, .int .i64 x.mode] 46)).heap.size) := by
            have h1 := HCX.out.size
            have h2 := HC14.out.size
            have h3 := HS.out.chg.size
            have h4 := (ext_two (w := wr) (.cells #[.int .u64 x.num, .int .i64 x.node, .int .i64 x.mode] 55) (.cells #[.int .u64 x.num, .int .i64 x.node, .string k, .int .i64 x.mode] 46)).size
            show _ ≤ _
            omega
          have hix : (i : Int) + 1 ≤ 20000 := by omega
          clear hx
          go_wp2_with (at_builtin; refine wpList_pushG _ rfl _ _ rfl w1.heap.size _ o2 (toG k x) (wr.heap.size + 1) HBA.out rfl HBN.out rfl HLO.out HBB.out ?_)
          intro v7 w7 ho7 hg7 ha7
          have HO7 : Hid (OwnG w7 w1.heap.size v7 (o2 ++ [toG k x])) := ho7
          have HA7 : Hid (v7.ownBlock = (Value.slice oa on oc).ownBlock ∨ ∃ b, v7.ownBlock = some b ∧ w4.heap.size ≤ b) := by
            rcases ha7 with e | e
            · rcases HAX.out with e2 | ⟨b, e2, e3⟩
              · exact .inl (e.trans e2)
              · exact .inr ⟨b, e.trans e2, e3⟩
            · refine .inr ⟨_, e, ?_⟩
              have h1 := HCX.out.size
              have h4 := (ext_two (w := wr) (.cells #[.int .u64 x.num, .int .i64 x.node, .int .i64 x.mode] 55) (.cells #[.int .u64 x.num, .int .i64 x.node, .string k, .int .i64 x.mode] 46)).size
              omega
          have HC7 : Hid (Chg (fun i => (Value.slice oa on oc).ownBlock = some i) w4 w7) := by
            refine Chg.grown (Chg.trans (S' := fun _ => False) HCX.out (Chg.of_below (ext_two _ _) (fun i hi hn => absurd hi (Nat.not_lt.2 hn))) (fun i _ e => e.elim)) hg7 (fun b e hb => ?_)
            rcases HAX.out with e2 | ⟨b2, e2, e3⟩
            · exact e2.symm.trans e
            · rw [e2] at e
              cases e
              exact absurd hb (Nat.not_lt.2 e3)
          obtain ⟨a7, c7, n7, e7⟩ : ∃ a n c, v7 = .slice a n c := by
            obtain ⟨a, c, e, _⟩ := ho7.len
            exact ⟨a, _, c, e⟩
          subst e7
          clear ho7 hg7 ha7 HBA HBN HLO HBB k0 k1 k2
          go_wp2
          go_roundw
          case rel =>
            refine ⟨i + 1, by go_num, hlx, ⟨_, _, _, rfl⟩, ?_, HA7.out, HC7.out⟩
            have h1 : os ++ (gs.take (i + 1)).map (toG k) = o2 ++ [toG k x] := by
              rw [HO2.out, List.take_succ_eq_append_getElem hil, List.map_append, ← HX.out]
              simp
            rw [h1]
            exact HO7.out
          case measure => simp [intOf]; omega
        · have hdx : decide ((i : Int) < (m : Int)) = false := by simp; omega
          have HIM : Hid (i = m) := by show _ = _; omega
          have HRF : Hid (RoundF B w1 T T' t k os (.slice oa on oc) V wr hv4 wv4 (.slice a5 n5 c5)) := by
            have hkeep : ∀ v ls, OwnW w4 B v ls → OwnW wr B v ls := fun v ls h => h.kept fun b hb => by
              rcases h.form with ⟨rfl, _⟩ | ⟨g1, c1, rfl, _, h2, _, _, cur, h5, _⟩
              · cases hb
              · cases hb
                exact (HOV.out _ _ _ h5 (by decide)).trans h5.symm
            have hsz : V.heap.size ≤ w3.heap.size := Nat.le_trans HE2.out.size HC3.out.size
            have hsz4 := HC14.out.size
            refine ⟨hkeep _ _ HO4.out.1, hkeep _ _ HO4.out.2, fun b hb => ?_, fun b hb => ?_, ?_, ?_⟩
            · rcases HB4.out.1 with e | ⟨b2, e, e2⟩
              · exact .inl ((HLB.out.1 b).1 (by rw [← HB3.out.1, ← e]; exact hb))
              · rw [e] at hb
                cases hb
                exact .inr (Nat.le_trans hsz e2)
            · exact (HLB.out.2 b).1 (by rw [← HB3.out.2, ← HB4.out.2]; exact hb)
            · have h1 : os ++ freeG t k (T.ln k).has (T.ln k).waits = o2 := by
                rw [HO2.out, HIM.out, List.take_of_length_le (by rw [HGM.out]; exact Nat.le_refl _), HGS.out]
                rfl
              rw [h1]
              exact HOX.out
            · exact Chg.trans (HC14.out.mono (fun i _ e => .inl e)) HCX.out (fun i _ e => .inr e)
          have HQ5 : Hid (Blk wr V.heap.size #[hv4, wv4] 67) := HOV.out _ _ _ HQ4.out (by decide)
          obtain ⟨h4, n4, c4, eh4, hn4⟩ : ∃ a n c, hv4 = .slice a n c ∧ (freeH t (T.ln k).has (T.ln k).waits).length = n := by
            obtain ⟨a, c, e, _⟩ := HO4.out.1.row
            exact ⟨a, _, c, e, rfl⟩
          obtain ⟨x4, m4, d4, ew4⟩ : ∃ a n c, wv4 = .slice a n c := by
            obtain ⟨a, c, e, _⟩ := HO4.out.2.row
            exact ⟨a, _, c, e⟩
          have HN4 : Hid ((freeH t (T.ln k).has (T.ln k).waits).length = n4) := hn4
          have HLS : Hid (TabAt B wr T' (fun q => q = k)) := HRF.out.loose HT.out HO.out
          subst eh4 ew4
          clear hn4 him
          have d0 : wr.cell? ⟨V.heap.size, 0, none⟩ = some (.slice h4 n4 c4) := HQ5.out.cell 0
          have d1 : wr.cell? ⟨V.heap.size, 1, none⟩ = some (.slice x4 m4 d4) := HQ5.out.cell 1
          have d2 : wr.cell? ⟨T.g, 0, none⟩ = some (.map (some T'.mb)) := by
            have := HLS.out.blk.cell 0
            rw [HF.out.g] at this
            exact this
          have hjx : (j : Int) + 1 ≤ 20000 := by omega
          by_cases hz : n4 = 0
          · subst hz
            obtain ⟨w8, hd8, hgm8, hch8⟩ := HLS.out.lm.drop cLn_ok k HKW.out 0
            have HFI : Hid (FI B w1 T t ks (j + 1) (.slice a5 n5 c5) w8) := HRF.out.cut HT.out HF.out HO.out HS.out HK.out.1.1 hjl HKJ.out (List.eq_nil_of_length_eq_zero HN4.out) hch8 hgm8
            clear hgm8 hch8
            have hd9 : (Builtin.delete_ #[62, 9] 0 #[.map (some T'.mb), .string k]).run Try.prog wr = .ok (.tuple #[]) w8 := hd8
            clear hd8
            go_wp2
            go_roundw
            case rel => exact ⟨j + 1, by go_num, hlt, ⟨_, _, _, rfl⟩, HFI.out⟩
            case measure => simp [intOf]; omega
          · have hz0 : ((n4 : Int) == 0) = false := beq_eq_false_iff_ne.2 (by omega)
            obtain ⟨lb, lc, el1⟩ := HO4.out.1.asV
            obtain ⟨mb, mc, el2⟩ := HO4.out.2.asV
            obtain ⟨l, hl⟩ : ∃ l : LnV, l = ⟨lb, lc, freeH t (T.ln k).has (T.ln k).waits, mb, mc, freeW t (T.ln k).has (T.ln k).waits⟩ := ⟨_, rfl⟩
            have elv : l.v = .agg #[.slice h4 n4 c4, .slice x4 m4 d4] := by
              rw [hl]
              show Value.agg #[slV lb _ lc, slV mb _ mc] = _
              rw [← el1, ← el2]
            obtain ⟨w8, hr8, hgm8, hch8⟩ := HLS.out.drew.lm.lay cLn_ok (by have h1 := HF.out.n; have h2 := HTW.out.2.1; rw [h1]; unfold maxLen; omega) k HKW.out l
            have HR8 : Hid ((Instr.mapUpdate 62 (.map (some T'.mb)) (.string k) (.agg #[.slice h4 n4 c4, .slice x4 m4 d4])).run Try.prog wr.drew = .ok () w8) := by
              rw [← elv]
              exact hr8
            have HFI : Hid (FI B w1 T t ks (j + 1) (.slice a5 n5 c5) w8) := HRF.out.drew.put HT.out HF.out HO.out HS.out HK.out.1.1 hjl HKJ.out (fun e => hz (by rw [← HN4.out, e]; rfl)) elv (by rw [hl]) (by rw [hl]) hch8 hgm8
            clear hgm8 hch8 hr8 elv hl el1 el2
            have x1 := cellX (W0 := wr.drew) (show wr.drew.cell? ⟨T.g, 0, none⟩ = some (.map (some T'.mb)) from d2)
            have x2 := cellX (W0 := wr.drew) (show wr.drew.cell? ⟨V.heap.size, 0, none⟩ = some (.slice h4 n4 c4) from d0)
            have x3 := cellX (W0 := wr.drew) (show wr.drew.cell? ⟨V.heap.size, 1, none⟩ = some (.slice x4 m4 d4) from d1)
            go_upto_region 14 with fail
            refine wp_region_last (Ext wr.drew) 6 (by kernel_rfl) (by kernel_rfl) ?_
            simp only [List.pop_toArray, List.dropLast_cons_cons, List.dropLast_singleton]
            haveI n1 := cls_ext wr.drew
            refine wpAnyH_seg (by kernel_rfl) (fun _ _ _ h => h) [0, 1, 2, 3, 4, 5] 0 _ _ _ (Ext.refl _) (by kernel_rfl) ?_
            simp only [opsAt, List.getElem?_toArray, List.getElem?_cons_zero, List.getElem?_cons_succ, List.cons_append, List.nil_append]
            repeat (go_big_quiet_step (fail))
            refine wpQuiet_nil ?_
            clear x1 x2 x3
            refine wpAnyH_done (by kernel_rfl) (exQ_normal ?_) 0
            refine wpOp_lay rfl (by kernel_rfl) rfl rfl rfl rfl rfl HR8.out ?_
            clear n1 HR8 d0 d1 d2
            go_wp2
            go_roundw
            case rel => exact ⟨j + 1, by go_num, hlt, ⟨_, _, _, rfl⟩, HFI.out⟩
            case measure => simp [intOf]; omega
    · have hdt : decide ((j : Int) < (kn : Int)) = false := by simp; omega
      have HJN : Hid (j = ks.length) := by have := HKN.out; show _ = _; omega
      have c1 : V.cell? ⟨T.g, 1, none⟩ = some (.map (some T'.ab)) := by
        have := HT.out.blk.cell 1
        rw [HF.out.g] at this
        exact this
      obtain ⟨w8, hr8, hgm8, hch8⟩ := HT.out.drew.am.drop cAs_ok t HTW.out.1 0
      have HR8 : Hid ((Builtin.delete_ #[63, 29] 0 #[.map (some T'.ab), .agg #[.int .u64 t.num, .int .i64 t.node]]).run Try.prog V.drew = .ok (.tuple #[]) w8) := hr8
      have HRES : Hid (FreeP B w T t (.returned (.slice oa on oc)) w8) := by
        have hoff := HT.out.drew.offL hch8 hgm8
        have hO8 : OwnG w8 w1.heap.size (.slice oa on oc) os := (HO.out.below (Below.drew (Below.refl _ _))).kept fun b hb => by
          obtain ⟨_, hlt, c, hc⟩ := (HO.out.below (Below.drew (Below.refl _ _))).blk hb
          exact hch8.block b hlt fun e => HT.out.drew.am.ne hc e.symm
        have hst : StepT w1 T w8 (T'.off t) := ⟨Chg.trans HS.out.chg.drew hch8 (fun i _ e => .inr (.inr (.inl (e.trans HF.out.ab)))), fun i hi => HS.out.ft i hi.off⟩
        have hF := HF.out
        rw [HJN.out] at hF
        refine ⟨_, ks, os, T', rfl, HK.out.1, HK.out.2, hF, hoff, ?_, StepT.trans (StepT.of_ext HE1.out) hst⟩
        rcases hO8.form with ⟨e, e2⟩ | ⟨g, c, e, h1, h2, h3, h4, cur, h5, h6, h7⟩
        · rw [e, e2]; exact OwnG.nil _ _
        · rw [e]
          exact ⟨hO8.1, .inr ⟨g, c, cur, rfl, Nat.le_trans HE1.out.size h1, h5, h3, h4, h6, h7⟩⟩
      have HCH8 : Hid (Chg (fun i => i = T'.ab) V.drew w8) := hch8
      clear hr8 hgm8 hch8
      have e0 : V.cell? ⟨w.heap.size, 0, none⟩ = some (.int .u64 t.num) := HTR.out.cell 0
      have e1 : V.cell? ⟨w.heap.size, 1, none⟩ = some (.int .i64 t.node) := HTR.out.cell 1
      have n0 : ¬ T.g = T'.ab := fun e => HT.out.am.ne HT.out.blk (by rw [← e, HF.out.g])
      have n2 : ¬ w.heap.size = T'.ab := fun e => HT.out.am.ne HTR.out e.symm
      have x1 := cellC (S := fun i => i = T'.ab) (W0 := V.drew) (show V.drew.cell? ⟨T.g, 1, none⟩ = some (.map (some T'.ab)) from c1) n0
      have x2 := cellC (S := fun i => i = T'.ab) (W0 := V.drew) (show V.drew.cell? ⟨w.heap.size, 0, none⟩ = some (.int .u64 t.num) from e0) n2
      have x3 := cellC (S := fun i => i = T'.ab) (W0 := V.drew) (show V.drew.cell? ⟨w.heap.size, 1, none⟩ = some (.int .i64 t.node) from e1) n2
      clear c1 e0 e1 n0 n2
      go_upto_region 17 with fail
      haveI nA : Nonempty (Cls (Chg (fun i => i = T'.ab) V.drew)) := ⟨⟨V.drew, Chg.refl _ _⟩⟩
      refine wp_region_seg (Chg (fun i => i = T'.ab) V.drew) (by kernel_rfl) ?_
      refine wpAnyH_seg (by kernel_rfl) (fun _ _ _ h => h) [0, 1, 2, 3, 4] 1 _ _ _ (Chg.refl _ _) (by kernel_rfl) ?_
      simp only [opsAt, List.getElem?_toArray, List.getElem?_cons_zero, List.getElem?_cons_succ, List.cons_append, List.nil_append]
      repeat (go_big_quiet_step (fail))
      refine wpQuiet_nil ?_
      clear x1 x2 x3
      refine wpAnyH_all (rs := [5]) (fuel := 0) (by kernel_rfl) (by simp) fun j hj => ?_
      obtain rfl : j = 5 := by simpa using hj
      clear hj
      refine wpOp_void rfl (by kernel_rfl) rfl (exec_delB rfl rfl rfl HR8.out) ?_
      refine ⟨HCH8.out, ?_⟩
      refine wpAnyH_done (by kernel_rfl) (NoPanic.normal ?_) 0
      clear nA
      go_wp2
      go_ret
      exact HRES.out
end Go.Proofs.Ytkgecljoodofeaa
