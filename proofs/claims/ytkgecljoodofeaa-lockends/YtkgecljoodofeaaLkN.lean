/- lock: keep, walked. Own lemmas, no statement. -/
import Derived.Test.YtkgecljoodofeaaLkM
set_option linter.unusedSimpArgs false
set_option linter.unusedVariables false
namespace Go.Proofs.Ytkgecljoodofeaa
open Go.ChangeShapes Go.WideShapes Go.ChangeAt Go.RowKit

def keptK (T : Tab) (t : Td) (k : ByteArray) : Td → ByteArray → Option Unit := fun u => if eqT u t then putF cSet (T.K u) k () else T.K u
/-- A table in which a line is laid. -/
def Tab.kept (T : Tab) (t : Td) (k : ByteArray) (l : LnV) (b : Nat) : Tab := ⟨T.g, T.mb, T.ab, putF cLn T.F k l, putF cAs T.A t (some b), keptK T t k, T.N + 1⟩
theorem TabAt.laid {B : Nat} {w wz : World} {T : Tab} {t : Td} {k : ByteArray} {l : LnV} {b : Nat} (h : TabAt B w T (fun q => q = k)) (ho : OwnL w B l)
    (hap : ∀ q m b, q ≠ k → T.F q = some m → LB l b → ¬ LB m b) (hap2 : ∀ b, l.hb = some b → l.wb ≠ some b) (hb : T.A t = some (some b) ∨ (T.A t = none ∧ w.heap.size ≤ b))
    (C : Chg (fun i => i = T.mb ∨ i = T.ab ∨ i = b) w wz) (lm : GM cLn wz T.mb (T.N + 1) (putF cLn T.F k l)) (am : GM cAs wz T.ab (T.N + 1) (putF cAs T.A t (some b))) (st : GM cSet wz b (T.N + 1) (putF cSet (T.K t) k ())) :
    TabAt B wz (T.kept t k l b) none_ := by
  have hbB : B ≤ b ∧ b ≠ T.mb ∧ b ≠ T.ab ∧ b ≠ T.g ∧ (b < w.heap.size → T.A t = some (some b)) := by
    rcases hb with hb | ⟨hb, h2⟩
    · obtain ⟨b', e, h1, h2, h3, h4⟩ := h.sets t _ hb
      cases e
      exact ⟨h1, h2, h3, fun e => h4.ne h.blk e, fun _ => hb⟩
    · have h1 := h.blk.lt
      have h3 := h.lm.lt
      have h4 := h.am.lt
      have h5 := h.low.1
      exact ⟨by omega, by omega, by omega, by omega, by omega⟩
  obtain ⟨hb1, hb2, hb3, hb4, hb5⟩ := hbB
  have hgm : T.g ≠ T.mb := fun e => h.lm.ne h.blk e.symm
  have hga : T.g ≠ T.ab := fun e => h.am.ne h.blk e.symm
  have hlb : ∀ i, LB l i → ¬ (i = T.mb ∨ i = T.ab ∨ i = b) := fun i hi hc => by
    obtain ⟨_, n2, n3, n4⟩ := h.notRow ho hi
    rcases hc with e | e | e
    · exact n2 e
    · exact n3 e
    · subst e
      exact n4 t (hb5 (ho.lt hi).2)
  refine { low := h.low, blk := h.blk.chg C (fun e => ?_), lm := lm, am := am, two := h.two, rows := ?_, ap := ?_, ap2 := ?_, sets := ?_, ap3 := ?_ }
  · rcases e with e | e | e
    · exact hgm e
    · exact hga e
    · exact hb4 e.symm
  · intro q m hm _
    by_cases hq : q = k
    · subst hq
      have hm2 : putF cLn T.F q l q = some m := hm
      rw [putF_same cLn_ok] at hm2
      cases hm2
      exact ho.kept fun i hi => C.block i (ho.lt hi).2 (hlb i hi)
    · have hm2 : putF cLn T.F k l q = some m := hm
      rw [putF_other cLn_ok _ _ hq] at hm2
      have hr := h.rows q m hm2 hq
      refine hr.kept fun i hi => C.block i (hr.lt hi).2 fun hc => ?_
      obtain ⟨_, n2, n3, n4⟩ := h.notRow hr hi
      rcases hc with e | e | e
      · exact n2 e
      · exact n3 e
      · subst e
        exact n4 t (hb5 (hr.lt hi).2)
  · intro p m q m' i h1 _ h3 _ h5 h6
    have e1 : putF cLn T.F k l p = some m := h1
    have e3 : putF cLn T.F k l q = some m' := h3
    clear h1 h3
    by_cases hp : p = k
    · by_cases hq : q = k
      · rw [hp, hq]
      · rw [hp, putF_same cLn_ok] at e1
        cases e1
        rw [putF_other cLn_ok _ _ hq] at e3
        exact absurd h6 (hap q m' i hq e3 h5)
    · rw [putF_other cLn_ok _ _ hp] at e1
      by_cases hq : q = k
      · rw [hq, putF_same cLn_ok] at e3
        cases e3
        exact absurd h5 (hap p m i hp e1 h6)
      · rw [putF_other cLn_ok _ _ hq] at e3
        exact h.ap p m q m' i e1 hp e3 hq h5 h6
  · intro q m i h1 _ h3
    have e1 : putF cLn T.F k l q = some m := h1
    clear h1
    by_cases hq : q = k
    · rw [hq, putF_same cLn_ok] at e1
      cases e1
      exact hap2 i h3
    · rw [putF_other cLn_ok _ _ hq] at e1
      exact h.ap2 q m i e1 hq h3
  · intro u o hu0
    have hu : putF cAs T.A t (some b) u = some o := hu0
    clear hu0
    by_cases hut : u = t
    · rw [hut, putF_same cAs_ok] at hu
      cases hu
      refine ⟨b, rfl, hb1, hb2, hb3, ?_⟩
      show GM cSet wz b (T.N + 1) (keptK T t k u)
      unfold keptK
      rw [hut, eqT_self, if_pos rfl]
      exact st
    · rw [putF_other cAs_ok _ _ hut] at hu
      obtain ⟨b', e, h1, h2, h3, h4⟩ := h.sets u o hu
      refine ⟨b', e, h1, h2, h3, ?_⟩
      show GM cSet wz b' (T.N + 1) (keptK T t k u)
      unfold keptK
      rw [eqT_ne hut]
      have hbb : b' ≠ b := fun e2 => by
        rw [e, e2] at hu
        rw [e2] at h4
        exact hut (h.ap3 u t b hu (hb5 h4.lt))
      exact (h4.of (C.block b' h4.lt (fun hc => by rcases hc with e2 | e2 | e2; exact h2 e2; exact h3 e2; exact hbb e2))).mono (by omega)
  · intro u v i h1 h2
    have e1 : putF cAs T.A t (some b) u = some (some i) := h1
    have e2 : putF cAs T.A t (some b) v = some (some i) := h2
    clear h1 h2
    by_cases hu : u = t
    · by_cases hv : v = t
      · rw [hu, hv]
      · rw [hu, putF_same cAs_ok] at e1
        cases e1
        rw [putF_other cAs_ok _ _ hv] at e2
        obtain ⟨b', e, _, _, _, h4⟩ := h.sets v _ e2
        cases e
        exact absurd (h.ap3 v t b e2 (hb5 h4.lt)) hv
    · rw [putF_other cAs_ok _ _ hu] at e1
      by_cases hv : v = t
      · rw [hv, putF_same cAs_ok] at e2
        cases e2
        obtain ⟨b', e, _, _, _, h4⟩ := h.sets u _ e1
        cases e
        exact absurd (h.ap3 u t b e1 (hb5 h4.lt)) hu
      · rw [putF_other cAs_ok _ _ hv] at e2
        exact h.ap3 u v i e1 e2
/-- What keep leaves. -/
def KeepP (B : Nat) (w : World) (T : Tab) (t : Td) (k : ByteArray) (l : LnV) (e : Ending) (w' : World) : Prop :=
  e = .returned (.tuple #[]) ∧ ∃ b, (T.A t = some (some b) ∨ (T.A t = none ∧ w.heap.size ≤ b)) ∧ TabAt B w' (T.kept t k l b) none_ ∧ Chg (fun i => i = T.mb ∨ i = T.ab ∨ i = b) w w'

set_option maxRecDepth 100000 in
set_option maxHeartbeats 4000000 in
theorem keep_any (B : Nat) (T : Tab) (t : Td) (k : ByteArray) (l : LnV) (w : World) (h : TabAt B w T (fun q => q = k)) (ho : OwnL w B l)
    (hap : ∀ q m b, q ≠ k → T.F q = some m → LB l b → ¬ LB m b) (hap2 : ∀ b, l.hb = some b → l.wb ≠ some b) (ht : t.wf) (hk : k.size ≤ maxLen) (hN : T.N ≤ 1000000) (hnK : T.A t = none → ∀ q, T.K t q = none) :
    Calls Try.prog 30 #[.pointer (some ⟨T.g, 0, none⟩), .agg #[.int .u64 t.num, .int .i64 t.node], .string k, l.v] w (KeepP B w T t k l) := by
  have HT : Hid (TabAt B w T (fun q => q = k)) := h
  have HAK : Hid (∀ b wz, (T.A t = some (some b) ∨ (T.A t = none ∧ w.heap.size ≤ b)) → Chg (fun i => i = T.mb ∨ i = T.ab ∨ i = b) w wz → GM cLn wz T.mb (T.N + 1) (putF cLn T.F k l) → GM cAs wz T.ab (T.N + 1) (putF cAs T.A t (some b)) → GM cSet wz b (T.N + 1) (putF cSet (T.K t) k ()) → KeepP B w T t k l (.returned (.tuple #[])) wz) :=
    fun b wz h1 h2 h3 h4 h5 => ⟨rfl, b, h1, h.laid ho hap hap2 h1 h2 h3 h4 h5, h2⟩
  obtain ⟨w0, hw0⟩ : ∃ w0, w0 = (w.alloc (.cells #[.int .u64 t.num, .int .i64 t.node] 29)).alloc (.cells #[l.hv, l.wv] 67) := ⟨_, rfl⟩
  have HE0 : Hid (Ext w w0) := by rw [hw0]; exact ext_two _ _
  have HB1 : Hid (Blk w0 w.heap.size #[.int .u64 t.num, .int .i64 t.node] 29) := by rw [hw0]; exact (Blk.new _ _ _).alloc _
  have HB2 : Hid (Blk w0 (w.heap.size + 1) #[l.hv, l.wv] 67) := by
    have := Blk.new (w.alloc (.cells #[.int .u64 t.num, .int .i64 t.node] 29)) #[l.hv, l.wv] 67
    rw [show (w.alloc (.cells #[.int .u64 t.num, .int .i64 t.node] 29)).heap.size = w.heap.size + 1 by simp] at this
    rw [hw0]
    exact this
  have HLL : Hid (∀ (W : World), GM cLn W T.mb T.N T.F → ∃ w', (Instr.mapUpdate 62 (.map (some T.mb)) (.string k) l.v).run Try.prog W = .ok () w' ∧ GM cLn w' T.mb (T.N + 1) (putF cLn T.F k l) ∧ Chg (fun i => i = T.mb) W w') := fun W hW => hW.lay cLn_ok (by unfold maxLen; omega) k hk l
  have HKT : Hid (t.wf ∧ k.size ≤ maxLen ∧ T.N < maxLen) := ⟨ht, hk, by unfold maxLen; omega⟩
  have HNK : Hid (T.A t = none → ∀ q, T.K t q = none) := hnK
  have e0 : l.v = .agg #[.slice (l.hb.map fun g => ⟨g, 0, none⟩) l.has.length l.hc, .slice (l.wb.map fun g => ⟨g, 0, none⟩) l.waits.length l.wc] := rfl
  have e1 : l.hv = .slice (l.hb.map fun g => ⟨g, 0, none⟩) l.has.length l.hc := rfl
  have e2 : l.wv = .slice (l.wb.map fun g => ⟨g, 0, none⟩) l.waits.length l.wc := rfl
  rw [e1, e2] at hw0 HB2
  rw [e0] at HLL ⊢
  clear e0 e1 e2 h ho hap hap2 ht hk hN hnK
  generalize (l.hb.map fun g => (⟨g, 0, none⟩ : Addr)) = ha at *
  generalize (l.wb.map fun g => (⟨g, 0, none⟩ : Addr)) = wa at *
  generalize l.has.length = hn at *
  generalize l.hc = hc at *
  generalize l.waits.length = wn at *
  generalize l.wc = wc at *
  have c0 : w0.cell? ⟨T.g, 0, none⟩ = some (.map (some T.mb)) := (HT.out.blk.below_ HE0.out).cell 0
  have hgw := HT.out.blk.lt
  have hq1 : ∀ W b, (binOp .eql 62 (.map (some b)) (.map none)).run Try.prog W = .ok (.bool false) W := fun W b => by kernel_rfl
  have hq2 : ∀ W b, (binOp .eql 90 (.map (some b)) (.map none)).run Try.prog W = .ok (.bool false) W := fun W b => by kernel_rfl
  have hq3 : ∀ W, (binOp .eql 90 (.map none) (.map none)).run Try.prog W = .ok (.bool true) W := fun W => by kernel_rfl
  go_enter Try.func30, Try.ntmps30
  go_upto_region 1 with fail
  rw [← hw0]
  clear hw0
  go_upto_region 3 with fail
  clear c0
  have HTD : Hid (TabAt B w0.drew T (fun q => q = k)) := (HT.out.below HE0.out).drew
  have HED : Hid (Ext w w0.drew) := Below.drew HE0.out
  have x1 := cellW (W0 := w0.drew) (show w0.drew.cell? ⟨T.g, 1, none⟩ = some (.map (some T.ab)) from HTD.out.blk.cell 1)
  have x2 := cellW (W0 := w0.drew) (show w0.drew.cell? ⟨w.heap.size, 0, none⟩ = some (.int .u64 t.num) from HB1.out.cell 0)
  have x3 := cellW (W0 := w0.drew) (show w0.drew.cell? ⟨w.heap.size, 1, none⟩ = some (.int .i64 t.node) from HB1.out.cell 1)
  have HASK : Hid ((Instr.lookup 63 (.map (some T.ab)) (.agg #[.int .u64 t.num, .int .i64 t.node]) false).run Try.prog w0.drew = .ok (setV ((T.A t).getD none)) w0.drew) := HTD.out.am.ask cAs_ok t HKT.out.1
  haveI n1 := cls_one w0.drew
  refine wp_region_seg (fun x => x = w0.drew) (by kernel_rfl) ?_
  refine wpAnyH_seg (by kernel_rfl) (fun _ _ _ h => h) [0, 1, 2, 3, 4] 2 _ _ _ rfl (by kernel_rfl) ?_
  simp only [opsAt, List.getElem?_toArray, List.getElem?_cons_zero, List.getElem?_cons_succ, List.cons_append, List.nil_append]
  repeat (go_big_quiet_step (fail))
  refine wpQuiet_nil ?_
  clear x1 x2 x3
  refine wpAnyH_all (rs := [5]) (fuel := 1) (by kernel_rfl) (by simp) fun j hj => ?_
  obtain rfl : j = 5 := by simpa using hj
  clear hj
  refine wpOp_value 23 rfl (by kernel_rfl) rfl (exec_ask rfl rfl rfl HASK.out) ?_
  refine ⟨rfl, ?_⟩
  clear HASK
  simp only [Act.put, List.setIfInBounds_toArray, List.set_cons_succ, List.set_cons_zero]
  cases hA : T.A t with
  | none =>
    have HA : Hid (T.A t = none) := hA
    clear hA
    simp only [Option.getD_none, setV]
    refine wpAnyH_seg (by kernel_rfl) (fun _ _ _ h => h) [6] 0 _ _ _ rfl (by kernel_rfl) ?_
    simp only [opsAt, List.getElem?_toArray, List.getElem?_cons_zero, List.getElem?_cons_succ, List.cons_append, List.nil_append]
    repeat (go_big_quiet_step (fail))
    refine wpQuiet_nil ?_
    refine wpAnyH_done (by kernel_rfl) (NoPanic.normal ?_) 0
    clear n1
    go_upto_region 4 with fail
    obtain ⟨w3, hw3⟩ : ∃ w3, w3 = w0.drew.drew.alloc (.map #[] 0) := ⟨_, rfl⟩
    have HE3 : Hid (Ext w0.drew.drew w3) := by rw [hw3]; exact ext_one _
    have HSN : Hid (GM cSet w3 w0.heap.size 0 (fun _ => none)) := by rw [hw3]; exact GM.made cSet w0.drew.drew
    have HT3 : Hid (TabAt B w3 T (fun q => q = k)) := HTD.out.drew.below HE3.out
    obtain ⟨w4, hr4, hm4, hc4⟩ := HT3.out.am.lay cAs_ok HKT.out.2.2 t HKT.out.1 (some w0.heap.size)
    have HR4 : Hid ((Instr.mapUpdate 63 (.map (some T.ab)) (.agg #[.int .u64 t.num, .int .i64 t.node]) (.map (some w0.heap.size))).run Try.prog w3 = .ok () w4) := hr4
    have HM4 : Hid (GM cAs w4 T.ab (T.N + 1) (putF cAs T.A t (some w0.heap.size))) := hm4
    have HC4 : Hid (Chg (fun i => i = T.ab) w3 w4) := hc4
    clear hr4 hm4 hc4
    refine wp_region_last (Ext w0.drew.drew) 6 (by kernel_rfl) (by kernel_rfl) ?_
    simp only [List.pop_toArray, List.dropLast_cons_cons, List.dropLast_singleton]
    have x1 := cellX (W0 := w0.drew.drew) (show w0.drew.drew.cell? ⟨T.g, 1, none⟩ = some (.map (some T.ab)) from HTD.out.blk.cell 1)
    have x2 := cellX (W0 := w0.drew.drew) (show w0.drew.drew.cell? ⟨w.heap.size, 0, none⟩ = some (.int .u64 t.num) from HB1.out.cell 0)
    have x3 := cellX (W0 := w0.drew.drew) (show w0.drew.drew.cell? ⟨w.heap.size, 1, none⟩ = some (.int .i64 t.node) from HB1.out.cell 1)
    haveI n1 := cls_ext w0.drew.drew
    refine wpAnyH_seg (by kernel_rfl) (fun _ _ _ h => h) [0, 1, 2, 3, 4] 1 _ _ _ (Ext.refl _) (by kernel_rfl) ?_
    simp only [opsAt, List.getElem?_toArray, List.getElem?_cons_zero, List.getElem?_cons_succ, List.cons_append, List.nil_append]
    repeat (go_big_quiet_step (fail))
    refine wpQuiet_nil ?_
    clear x1 x2 x3
    refine wpAnyH_all (rs := [5]) (fuel := 0) (by kernel_rfl) (by simp) fun j hj => ?_
    obtain rfl : j = 5 := by simpa using hj
    clear hj
    refine wpOp_value 30 rfl (by kernel_rfl) rfl (exec_map rfl) ?_
    rw [← hw3, show w0.drew.drew.heap.size = w0.heap.size from rfl]
    refine ⟨HE3.out, ?_⟩
    simp only [Act.put, List.setIfInBounds_toArray, List.set_cons_succ, List.set_cons_zero]
    refine wpAnyH_done (by kernel_rfl) (exQ_normal ?_) 0
    refine wpOp_lay rfl (by kernel_rfl) rfl rfl rfl rfl rfl HR4.out ?_
    clear n1 HR4 hw3
    have HBN : Hid (w.heap.size ≤ w0.heap.size) := HE0.out.size
    have HWA : Hid (Chg (fun i => i = T.mb ∨ i = T.ab ∨ i = w0.heap.size) w w4) := Chg.trans (S := fun i => i = T.mb ∨ i = T.ab ∨ i = w0.heap.size) (Chg.trans (S' := fun _ => False) (Chg.of_below HED.out (fun i hi hn => absurd hi (Nat.not_lt.2 hn))) (Chg.of_below (Ext.trans (Below.drew (Below.refl _ _)) HE3.out) (fun i hi hn => absurd hi (Nat.not_lt.2 hn))) (fun i _ e => e.elim)) HC4.out (fun i _ e => .inr (.inl e))
    have HLM : Hid (GM cLn w4 T.mb T.N T.F) := HT3.out.lm.of (HC4.out.block _ HT3.out.lm.lt HT3.out.two)
    have HSB : Hid (GM cSet w4 w0.heap.size T.N (T.K t)) := by
      have hne : w0.heap.size ≠ T.ab := by have := HT.out.am.lt; have := HBN.out; omega
      exact ((HSN.out.of (HC4.out.block _ HSN.out.lt hne)).mono (Nat.zero_le _)).congr (HNK.out HA.out)
    have HAM : Hid (GM cAs w4 T.ab (T.N + 1) (putF cAs T.A t (some w0.heap.size))) := HM4.out
    have HAT : Hid (T.A t = some (some w0.heap.size) ∨ (T.A t = none ∧ w.heap.size ≤ w0.heap.size)) := .inr ⟨HA.out, HBN.out⟩
    have HGG : Hid (Blk w4 T.g #[.map (some T.mb), .map (some T.ab)] 65) := HT3.out.blk.chg HC4.out (fun e => HT3.out.am.ne HT3.out.blk e.symm)
    have hc1 : w.heap.size ≠ T.ab := by have := HT.out.am.lt; omega
    have hc2 : w.heap.size + 1 ≠ T.ab := by have := HT.out.am.lt; omega
    have HX1 : Hid (Blk w4 w.heap.size #[.int .u64 t.num, .int .i64 t.node] 29) := ((HB1.out.drew.drew).below_ HE3.out).chg HC4.out hc1
    have HX2 : Hid (Blk w4 (w.heap.size + 1) #[.slice ha hn hc, .slice wa wn wc] 67) := ((HB2.out.drew.drew).below_ HE3.out).chg HC4.out hc2
    clear hc1 hc2 HC4 HM4 HSN HT3 HE3 HTD HED HB1 HB2 HNK HBN
    have HWB : Hid (w0.heap.size ≠ T.mb ∧ w0.heap.size ≠ T.ab) := by
      have h1 := HT.out.lm.lt
      have h2 := HT.out.am.lt
      have h3 := HE0.out.size
      exact ⟨by omega, by omega⟩
    generalize w0.heap.size = bb at *
    have HGM : Hid (T.g ≠ T.mb ∧ T.g ≠ T.ab ∧ T.g ≠ bb) := ⟨fun e => HLM.out.ne HGG.out e.symm, fun e => HAM.out.ne HGG.out e.symm, fun e => HSB.out.ne HGG.out e.symm⟩
    have HWM : Hid (w.heap.size ≠ T.mb ∧ w.heap.size + 1 ≠ T.mb) := by have := HT.out.lm.lt; exact ⟨by omega, by omega⟩
    obtain ⟨w5, hr5, hm5, hc5⟩ := HLL.out w4.drew (HLM.out.below (Below.drew (Below.refl _ _)))
    have HR5 : Hid (_ = _) := hr5
    have HM5 : Hid (GM cLn w5 T.mb (T.N + 1) (putF cLn T.F k l)) := hm5
    have HC5 : Hid (Chg (fun i => i = T.mb) w4.drew w5) := hc5
    clear hr5 hm5 hc5
    go_upto_region 5 with fail
    refine wp_region_last (Ext w4.drew) 6 (by kernel_rfl) (by kernel_rfl) ?_
    simp only [List.pop_toArray, List.dropLast_cons_cons, List.dropLast_singleton]
    have x1 := cellX (W0 := w4.drew) (show w4.drew.cell? ⟨T.g, 0, none⟩ = some (.map (some T.mb)) from HGG.out.cell 0)
    have x2 := cellX (W0 := w4.drew) (show w4.drew.cell? ⟨w.heap.size + 1, 0, none⟩ = some (.slice ha hn hc) from HX2.out.cell 0)
    have x3 := cellX (W0 := w4.drew) (show w4.drew.cell? ⟨w.heap.size + 1, 1, none⟩ = some (.slice wa wn wc) from HX2.out.cell 1)
    haveI n1 := cls_ext w4.drew
    refine wpAnyH_seg (by kernel_rfl) (fun _ _ _ h => h) [0, 1, 2, 3, 4, 5] 0 _ _ _ (Ext.refl _) (by kernel_rfl) ?_
    simp only [opsAt, List.getElem?_toArray, List.getElem?_cons_zero, List.getElem?_cons_succ, List.cons_append, List.nil_append]
    repeat (go_big_quiet_step (fail))
    refine wpQuiet_nil ?_
    clear x1 x2 x3
    refine wpAnyH_done (by kernel_rfl) (exQ_normal ?_) 0
    refine wpOp_lay rfl (by kernel_rfl) rfl rfl rfl rfl rfl HR5.out ?_
    clear n1 HR5
    have HX5 : Hid (Blk w5 w.heap.size #[.int .u64 t.num, .int .i64 t.node] 29) := HX1.out.drew.chg HC5.out HWM.out.1
    have HG5 : Hid (Blk w5 T.g #[.map (some T.mb), .map (some T.ab)] 65) := HGG.out.drew.chg HC5.out HGM.out.1
    have HA5 : Hid (GM cAs w5 T.ab (T.N + 1) (putF cAs T.A t (some bb))) := (HAM.out.below (Below.drew (Below.refl _ _))).of (HC5.out.block _ HAM.out.lt (fun e => HT.out.two e.symm))
    have HS5 : Hid (GM cSet w5 bb T.N (T.K t)) := (HSB.out.below (Below.drew (Below.refl _ _))).of (HC5.out.block _ HSB.out.lt HWB.out.1)
    have HW5 : Hid (Chg (fun i => i = T.mb ∨ i = T.ab ∨ i = bb) w w5) := Chg.trans (Chg.drew HWA.out) HC5.out (fun i _ e => .inl e)
    have HASK : Hid ((Instr.lookup 63 (.map (some T.ab)) (.agg #[.int .u64 t.num, .int .i64 t.node]) false).run Try.prog w5.drew = .ok (.map (some bb)) w5.drew) := by
      have := (HA5.out.below (Below.drew (Below.refl _ _))).ask cAs_ok t HKT.out.1
      rw [putF_same cAs_ok] at this
      exact this
    obtain ⟨w6, hr6, hm6, hc6⟩ := (HS5.out.below (Below.drew (Below.refl _ _))).lay cSet_ok HKT.out.2.2 k HKT.out.2.1 ()
    have HR6 : Hid ((Instr.mapUpdate 90 (.map (some bb)) (.string k) (.agg #[])).run Try.prog w5.drew = .ok () w6) := hr6
    have HRES : Hid (KeepP B w T t k l (.returned (.tuple #[])) w6) := by
      have hmb := HM5.out
      refine HAK.out bb w6 HAT.out (Chg.trans (Chg.drew HW5.out) hc6 (fun i _ e => .inr (.inr e))) ?_ ?_ hm6
      · exact (hmb.below (Below.drew (Below.refl _ _))).of (hc6.block _ hmb.lt (fun e => HWB.out.1 e.symm))
      · exact (HA5.out.below (Below.drew (Below.refl _ _))).of (hc6.block _ HA5.out.lt (fun e => HWB.out.2 e.symm))
    clear hr6 hm6 hc6 HM5 HC5 HX1 HX2 HGG HAM HSB HWA HLM HAK HLL
    go_upto_region 6 with fail
    refine wp_region_last (fun x => x = w5.drew) 8 (by kernel_rfl) (by kernel_rfl) ?_
    simp only [List.pop_toArray, List.dropLast_cons_cons, List.dropLast_singleton]
    have x1 := cellW (W0 := w5.drew) (show w5.drew.cell? ⟨T.g, 1, none⟩ = some (.map (some T.ab)) from HG5.out.cell 1)
    have x2 := cellW (W0 := w5.drew) (show w5.drew.cell? ⟨w.heap.size, 0, none⟩ = some (.int .u64 t.num) from HX5.out.cell 0)
    have x3 := cellW (W0 := w5.drew) (show w5.drew.cell? ⟨w.heap.size, 1, none⟩ = some (.int .i64 t.node) from HX5.out.cell 1)
    haveI n1 := cls_one w5.drew
    refine wpAnyH_seg (by kernel_rfl) (fun _ _ _ h => h) [0, 1, 2, 3, 4, 6, 7] 1 _ _ _ rfl (by kernel_rfl) ?_
    simp only [opsAt, List.getElem?_toArray, List.getElem?_cons_zero, List.getElem?_cons_succ, List.cons_append, List.nil_append]
    repeat (go_big_quiet_step (fail))
    refine wpQuiet_nil ?_
    clear x1 x2 x3
    refine wpAnyH_all (rs := [5]) (fuel := 0) (by kernel_rfl) (by simp) fun j hj => ?_
    obtain rfl : j = 5 := by simpa using hj
    clear hj
    refine wpOp_value 42 rfl (by kernel_rfl) rfl (exec_ask rfl rfl rfl HASK.out) ?_
    refine ⟨rfl, ?_⟩
    simp only [Act.put, List.setIfInBounds_toArray, List.set_cons_succ, List.set_cons_zero]
    refine wpAnyH_done (by kernel_rfl) (exQ_normal ?_) 0
    refine wpOp_lay rfl (by kernel_rfl) rfl rfl rfl rfl rfl HR6.out ?_
    clear n1 HR6 HASK
    go_wp2
    refine bodyPost_ret (results_none rfl _ _ _) rfl ?_
    exact HRES.out
  | some o =>
    obtain ⟨bb, e, _, hb1, hb2, hgs⟩ := HT.out.sets t o hA
    subst e
    have HA : Hid (T.A t = some (some bb)) := hA
    have HWB : Hid (bb ≠ T.mb ∧ bb ≠ T.ab) := ⟨hb1, hb2⟩
    have HSB : Hid (GM cSet w0.drew bb T.N (T.K t)) := hgs.below HED.out
    clear hA hb1 hb2 hgs
    simp only [Option.getD_some, setV]
    refine wpAnyH_seg (by kernel_rfl) (fun _ _ _ h => h) [6] 0 _ _ _ rfl (by kernel_rfl) ?_
    simp only [opsAt, List.getElem?_toArray, List.getElem?_cons_zero, List.getElem?_cons_succ, List.cons_append, List.nil_append]
    repeat (go_big_quiet_step (fail))
    refine wpQuiet_nil ?_
    refine wpAnyH_done (by kernel_rfl) (NoPanic.normal ?_) 0
    clear n1
    have HWA : Hid (Chg (fun i => i = T.mb ∨ i = T.ab ∨ i = bb) w w0.drew) := Chg.of_below HED.out (fun i hi hn => absurd hi (Nat.not_lt.2 hn))
    have HLM : Hid (GM cLn w0.drew T.mb T.N T.F) := HTD.out.lm
    have HAM : Hid (GM cAs w0.drew T.ab (T.N + 1) (putF cAs T.A t (some bb))) := (HTD.out.am.mono (by omega)).congr (fun q => by
      by_cases hq : q = t
      · subst hq; rw [putF_same cAs_ok, HA.out]
      · rw [putF_other cAs_ok _ _ hq])
    have HAT : Hid (T.A t = some (some bb) ∨ (T.A t = none ∧ w.heap.size ≤ bb)) := .inl HA.out
    have HGG : Hid (Blk w0.drew T.g #[.map (some T.mb), .map (some T.ab)] 65) := HTD.out.blk
    have HX1 : Hid (Blk w0.drew w.heap.size #[.int .u64 t.num, .int .i64 t.node] 29) := HB1.out
    have HX2 : Hid (Blk w0.drew (w.heap.size + 1) #[.slice ha hn hc, .slice wa wn wc] 67) := HB2.out
    generalize hw4 : w0.drew = w4 at *
    clear hw4 HTD HED HB1 HB2 HNK
    have HGM : Hid (T.g ≠ T.mb ∧ T.g ≠ T.ab ∧ T.g ≠ bb) := ⟨fun e => HLM.out.ne HGG.out e.symm, fun e => HAM.out.ne HGG.out e.symm, fun e => HSB.out.ne HGG.out e.symm⟩
    have HWM : Hid (w.heap.size ≠ T.mb ∧ w.heap.size + 1 ≠ T.mb) := by have := HT.out.lm.lt; exact ⟨by omega, by omega⟩
    obtain ⟨w5, hr5, hm5, hc5⟩ := HLL.out w4.drew (HLM.out.below (Below.drew (Below.refl _ _)))
    have HR5 : Hid (_ = _) := hr5
    have HM5 : Hid (GM cLn w5 T.mb (T.N + 1) (putF cLn T.F k l)) := hm5
    have HC5 : Hid (Chg (fun i => i = T.mb) w4.drew w5) := hc5
    clear hr5 hm5 hc5
    go_upto_region 5 with fail
    refine wp_region_last (Ext w4.drew) 6 (by kernel_rfl) (by kernel_rfl) ?_
    simp only [List.pop_toArray, List.dropLast_cons_cons, List.dropLast_singleton]
    have x1 := cellX (W0 := w4.drew) (show w4.drew.cell? ⟨T.g, 0, none⟩ = some (.map (some T.mb)) from HGG.out.cell 0)
    have x2 := cellX (W0 := w4.drew) (show w4.drew.cell? ⟨w.heap.size + 1, 0, none⟩ = some (.slice ha hn hc) from HX2.out.cell 0)
    have x3 := cellX (W0 := w4.drew) (show w4.drew.cell? ⟨w.heap.size + 1, 1, none⟩ = some (.slice wa wn wc) from HX2.out.cell 1)
    haveI n1 := cls_ext w4.drew
    refine wpAnyH_seg (by kernel_rfl) (fun _ _ _ h => h) [0, 1, 2, 3, 4, 5] 0 _ _ _ (Ext.refl _) (by kernel_rfl) ?_
    simp only [opsAt, List.getElem?_toArray, List.getElem?_cons_zero, List.getElem?_cons_succ, List.cons_append, List.nil_append]
    repeat (go_big_quiet_step (fail))
    refine wpQuiet_nil ?_
    clear x1 x2 x3
    refine wpAnyH_done (by kernel_rfl) (exQ_normal ?_) 0
    refine wpOp_lay rfl (by kernel_rfl) rfl rfl rfl rfl rfl HR5.out ?_
    clear n1 HR5
    have HX5 : Hid (Blk w5 w.heap.size #[.int .u64 t.num, .int .i64 t.node] 29) := HX1.out.drew.chg HC5.out HWM.out.1
    have HG5 : Hid (Blk w5 T.g #[.map (some T.mb), .map (some T.ab)] 65) := HGG.out.drew.chg HC5.out HGM.out.1
    have HA5 : Hid (GM cAs w5 T.ab (T.N + 1) (putF cAs T.A t (some bb))) := (HAM.out.below (Below.drew (Below.refl _ _))).of (HC5.out.block _ HAM.out.lt (fun e => HT.out.two e.symm))
    have HS5 : Hid (GM cSet w5 bb T.N (T.K t)) := (HSB.out.below (Below.drew (Below.refl _ _))).of (HC5.out.block _ HSB.out.lt HWB.out.1)
    have HW5 : Hid (Chg (fun i => i = T.mb ∨ i = T.ab ∨ i = bb) w w5) := Chg.trans (Chg.drew HWA.out) HC5.out (fun i _ e => .inl e)
    have HASK : Hid ((Instr.lookup 63 (.map (some T.ab)) (.agg #[.int .u64 t.num, .int .i64 t.node]) false).run Try.prog w5.drew = .ok (.map (some bb)) w5.drew) := by
      have := (HA5.out.below (Below.drew (Below.refl _ _))).ask cAs_ok t HKT.out.1
      rw [putF_same cAs_ok] at this
      exact this
    obtain ⟨w6, hr6, hm6, hc6⟩ := (HS5.out.below (Below.drew (Below.refl _ _))).lay cSet_ok HKT.out.2.2 k HKT.out.2.1 ()
    have HR6 : Hid ((Instr.mapUpdate 90 (.map (some bb)) (.string k) (.agg #[])).run Try.prog w5.drew = .ok () w6) := hr6
    have HRES : Hid (KeepP B w T t k l (.returned (.tuple #[])) w6) := by
      have hmb := HM5.out
      refine HAK.out bb w6 HAT.out (Chg.trans (Chg.drew HW5.out) hc6 (fun i _ e => .inr (.inr e))) ?_ ?_ hm6
      · exact (hmb.below (Below.drew (Below.refl _ _))).of (hc6.block _ hmb.lt (fun e => HWB.out.1 e.symm))
      · exact (HA5.out.below (Below.drew (Below.refl _ _))).of (hc6.block _ HA5.out.lt (fun e => HWB.out.2 e.symm))
    clear hr6 hm6 hc6 HM5 HC5 HX1 HX2 HGG HAM HSB HWA HLM HAK HLL
    go_upto_region 6 with fail
    refine wp_region_last (fun x => x = w5.drew) 8 (by kernel_rfl) (by kernel_rfl) ?_
    simp only [List.pop_toArray, List.dropLast_cons_cons, List.dropLast_singleton]
    have x1 := cellW (W0 := w5.drew) (show w5.drew.cell? ⟨T.g, 1, none⟩ = some (.map (some T.ab)) from HG5.out.cell 1)
    have x2 := cellW (W0 := w5.drew) (show w5.drew.cell? ⟨w.heap.size, 0, none⟩ = some (.int .u64 t.num) from HX5.out.cell 0)
    have x3 := cellW (W0 := w5.drew) (show w5.drew.cell? ⟨w.heap.size, 1, none⟩ = some (.int .i64 t.node) from HX5.out.cell 1)
    haveI n1 := cls_one w5.drew
    refine wpAnyH_seg (by kernel_rfl) (fun _ _ _ h => h) [0, 1, 2, 3, 4, 6, 7] 1 _ _ _ rfl (by kernel_rfl) ?_
    simp only [opsAt, List.getElem?_toArray, List.getElem?_cons_zero, List.getElem?_cons_succ, List.cons_append, List.nil_append]
    repeat (go_big_quiet_step (fail))
    refine wpQuiet_nil ?_
    clear x1 x2 x3
    refine wpAnyH_all (rs := [5]) (fuel := 0) (by kernel_rfl) (by simp) fun j hj => ?_
    obtain rfl : j = 5 := by simpa using hj
    clear hj
    refine wpOp_value 42 rfl (by kernel_rfl) rfl (exec_ask rfl rfl rfl HASK.out) ?_
    refine ⟨rfl, ?_⟩
    simp only [Act.put, List.setIfInBounds_toArray, List.set_cons_succ, List.set_cons_zero]
    refine wpAnyH_done (by kernel_rfl) (exQ_normal ?_) 0
    refine wpOp_lay rfl (by kernel_rfl) rfl rfl rfl rfl rfl HR6.out ?_
    clear n1 HR6 HASK
    go_wp2
    refine bodyPost_ret (results_none rfl _ _ _) rfl ?_
    exact HRES.out
end Go.Proofs.Ytkgecljoodofeaa
