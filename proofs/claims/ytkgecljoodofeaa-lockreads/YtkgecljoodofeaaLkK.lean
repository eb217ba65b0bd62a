/- lock: give, walked. Own lemmas, no statement. -/
import Derived.Test.YtkgecljoodofeaaLkJ
set_option linter.unusedSimpArgs false
set_option linter.unusedVariables false
namespace Go.Proofs.Ytkgecljoodofeaa
open Go.ChangeShapes Go.WideShapes Go.ChangeAt Go.RowKit

/-- Who has the key, with one more, or one in another mode. -/
def giveL (x : Wn) (has : List Wn) : List Wn := if hasT x.t has then has.set (posT x.t has) x else has.take (posT x.t has) ++ x :: has.drop (posT x.t has)
theorem flatW_set : ∀ (ls : List Wn) (i : Nat) (x : Wn), i < ls.length → flatW (ls.set i x) = (flatW ls).take (i * 3) ++ x.cs ++ (flatW ls).drop (i * 3 + 3) := by
  intro ls i x hi
  rw [List.set_eq_take_append_cons_drop, if_pos hi, show ls.take i ++ x :: ls.drop (i + 1) = ls.take i ++ [x] ++ ls.drop (i + 1) by simp, flatW_app, flatW_app, ← flatW_take, ← flatW_drop, show (i + 1) * 3 = i * 3 + 3 by omega]
  simp [flatW]
/-- One place of an own row laid anew. -/
theorem OwnW.put {w : World} {B g n c i : Nat} {ls : List Wn} {x : Wn} (h : OwnW w B (.slice (some ⟨g, 0, none⟩) n c) ls) (hi : i < ls.length) : OwnW (w.setCells g (i * 3) x.cs) B (.slice (some ⟨g, 0, none⟩) n c) (ls.set i x) ∧ w.grownBy (w.setCells g (i * 3) x.cs) (some g) ∧ w.there g (i * 3) 3 := by
  rcases h.form with ⟨e, _⟩ | ⟨g', c', e, h1, _, h3, h4, cur, h5, h6, h7⟩
  · cases e
  · simp only [Value.slice.injEq, Option.some.injEq, Addr.mk.injEq, and_true, true_and] at e
    obtain ⟨rfl, rfl, rfl⟩ := e
    have hb := Blk.setCells x.cs (i * 3) h5 (by rw [h6, Wn.cs_len]; omega)
    refine ⟨ownW_of hb h1 (by rw [List.length_set]) h3 h4 ?_ ?_, grown_cells _ _ (World.grownBy.refl _ _), thereN 3 h5 (by rw [h6]; omega)⟩
    · simp [h6, Wn.cs_len]; omega
    · rw [flatW_set ls i x hi, ← h7]
      rw [Wn.cs_len]
      simp only [List.toList_toArray]
      have e1 : (cur.toList.take (ls.length * 3)).take (i * 3) = cur.toList.take (i * 3) := by rw [List.take_take, Nat.min_eq_left (by omega)]
      have l1 : (cur.toList.take (i * 3)).length = i * 3 := by rw [List.length_take, Array.length_toList, h6]; omega
      have t1 : (cur.toList.take (i * 3)).take (ls.length * 3) = cur.toList.take (i * 3) := List.take_of_length_le (by omega)
      have t2 : x.cs.take (ls.length * 3 - i * 3) = x.cs := List.take_of_length_le (by rw [Wn.cs_len]; omega)
      rw [e1, List.take_append, List.take_append, l1, t1, t2]
      congr 1
      rw [List.drop_take]
      congr 1
      simp [l1, Wn.cs_len]
theorem OwnW.notBlk {w : World} {B g : Nat} {v : Value} {ls : List Wn} {c : Array Value} {T : TypeId} (h : OwnW w B v ls) (hb : Blk w g c T) (hT : T ≠ 55) : v.ownBlock ≠ some g := fun e => by
  rcases h.form with ⟨rfl, _⟩ | ⟨g', c', rfl, _, _, _, _, cur, h5, _⟩
  · cases e
  · cases e
    exact hT (hb.inj h5).2
theorem Blk.below_ {w w' : World} {b : Nat} {c : Array Value} {T : TypeId} (h : Blk w b c T) (hb : Ext w w') : Blk w' b c T := h.of (hb.block b h.lt)
theorem exec_buildW {ρ : Operand → Value} {o : Oper} {w : World} {x : Operand} {a b c : Int} (ho : o.op = .buildSlice 35 1 #[(0, x)]) (hx : ρ x = .agg #[.int .u64 a, .int .i64 b, .int .i64 c]) : (execOp ρ o).run Try.prog w = .ok (.value (.slice (some ⟨w.heap.size, 0, none⟩) 1 1)) (w.alloc (.cells #[.int .u64 a, .int .i64 b, .int .i64 c] 55)) := by
  unfold execOp
  rw [ho]
  go_simp
theorem cellC {S : Nat → Prop} {W0 : World} {a : Addr} {v : Value} (h : W0.cell? a = some v) (hn : ¬ S a.block) : ∀ s : Cls (Chg S W0), s.wd.cell? a = some v := fun s => Chg.cell s.ok h hn
/-- What give leaves. -/
def GiveP (w : World) (B g : Nat) (hv wv : Value) (ls : List Wn) (e : Ending) (w' : World) : Prop := e = .returned (.tuple #[]) ∧ ∃ hv', Blk w' g #[hv', wv] 67 ∧ OwnW w' B hv' ls ∧ (hv'.ownBlock = hv.ownBlock ∨ ∃ k, hv'.ownBlock = some k ∧ w.heap.size ≤ k) ∧ Chg (fun i => i = g ∨ hv.ownBlock = some i) w w'

set_option maxRecDepth 100000 in
set_option maxHeartbeats 4000000 in
theorem give_any (B g : Nat) (hv wv : Value) (has : List Wn) (x : Wn) (w : World) (hq : Blk w g #[hv, wv] 67) (ho : OwnW w B hv has) (hs : Srt has) (hl : has.length ≤ 10000) (hB : B ≤ w.heap.size) (hwf : ∃ a n c, wv = .slice a n c) :
    Calls Try.prog 28 #[.pointer (some ⟨g, 0, none⟩), .agg #[.int .u64 x.num, .int .i64 x.node, .int .i64 x.mode]] w (GiveP w B g hv wv (giveL x has)) := by
  have HO : Hid (OwnW w B hv has) := ho
  have HQ : Hid (Blk w g #[hv, wv] 67) := hq
  have HL : Hid (has.length ≤ 10000) := hl
  have HBL : Hid (B ≤ w.heap.size) := hB
  have HNG : Hid (hv.ownBlock ≠ some g) := ho.notBlk hq (by decide)
  obtain ⟨w0, hw0⟩ : ∃ w0, w0 = w.alloc (.cells #[.int .u64 x.num, .int .i64 x.node, .int .i64 x.mode] 55) := ⟨_, rfl⟩
  have HE0 : Hid (Ext w w0) := by rw [hw0]; exact ext_one _
  have HX0 : Hid (Blk w0 w.heap.size #[.int .u64 x.num, .int .i64 x.node, .int .i64 x.mode] 55) := by rw [hw0]; exact Blk.new _ _ _
  have HF : Hid (Calls _ _ _ _ _) := find_any hv wv has x.t w0.drew ((ho.below HE0.out).row.below (Below.drew (Below.refl _ _))) hs (by omega)
  have HGE : Hid (∀ b, hasT x.t has = b → giveL x has = if b then has.set (posT x.t has) x else has.take (posT x.t has) ++ x :: has.drop (posT x.t has)) := fun b h => by rw [← h]; rfl
  have HPL : Hid (posT x.t has ≤ has.length) := posT_le _ _
  have HPT : Hid (hasT x.t has = true → posT x.t has < has.length) := fun h => by
    by_cases hl : posT x.t has < has.length
    · exact hl
    · rw [hasT_end hl] at h; cases h
  obtain ⟨wa, wn, wc, rfl⟩ := hwf
  obtain ⟨ho_, hc, rfl, g1, g2, gz, g3⟩ := ho.row
  clear ho hq hs hl hB g1 g2 gz g3
  obtain ⟨m, hm⟩ : ∃ m, has.length = m := ⟨_, rfl⟩
  have HLH : Hid (has.length = m) := hm
  rw [hm] at HF HQ HO HNG HPT HPL ⊢
  clear hm
  go_enter Try.func28, Try.ntmps28
  go_upto_region 1 with fail
  rw [← hw0]
  clear hw0
  have y0 := cellX (W0 := w0.drew) (show w0.drew.cell? ⟨g, 0, none⟩ = _ from (HQ.out.below_ HE0.out).cell 0)
  have y1 := cellX (W0 := w0.drew) (show w0.drew.cell? ⟨g, 1, none⟩ = _ from (HQ.out.below_ HE0.out).cell 1)
  have y2 := cellX (W0 := w0.drew) (show w0.drew.cell? ⟨w.heap.size, 0, none⟩ = _ from HX0.out.cell 0)
  have y3 := cellX (W0 := w0.drew) (show w0.drew.cell? ⟨w.heap.size, 1, none⟩ = _ from HX0.out.cell 1)
  haveI n1 := cls_ext w0.drew
  refine wp_region_ext (by kernel_rfl) ?_
  refine wpAnyH_seg (by kernel_rfl) (fun _ _ _ h => h) [0, 1, 2, 3, 4] 6 _ _ _ (Ext.refl _) (by kernel_rfl) ?_
  simp only [opsAt, List.getElem?_toArray, List.getElem?_cons_zero, List.getElem?_cons_succ, List.cons_append, List.nil_append]
  repeat (go_big_quiet_step (fail))
  refine wpQuiet_nil ?_
  clear y0 y1 y2 y3
  refine wpAnyH_callE (i := 5) (fuel := 5) 12 rfl (by kernel_rfl) rfl (Ext.refl _) (by kernel_rfl) (f := 41) (args := #[.agg #[.slice ho_ m hc, .slice wa wn wc], .agg #[.int .u64 x.num, .int .i64 x.node]]) (by kernel_rfl) HF.out ?_
  rintro e w2 ⟨rfl, hE2⟩
  refine ⟨_, rfl, hE2, ?_⟩
  have HE2 : Hid (Ext w0 w2) := Ext.trans (Below.drew (Below.refl _ _)) hE2
  clear HF hE2 n1
  haveI n2 := cls_ext w2
  simp only [Act.put, List.setIfInBounds_toArray, List.set_cons_succ, List.set_cons_zero]
  generalize posT x.t has = r at *
  generalize hb : hasT x.t has = b at *
  have HGL : Hid (giveL x has = _) := HGE.out b rfl
  clear hb
  refine wpAnyH_seg (by kernel_rfl) (fun _ _ _ h => h) [6, 7, 8, 9, 10] 0 _ _ _ (Ext.refl _) (by kernel_rfl) ?_
  simp only [opsAt, List.getElem?_toArray, List.getElem?_cons_zero, List.getElem?_cons_succ, List.cons_append, List.nil_append]
  repeat (go_big_quiet_step (fail))
  refine wpQuiet_nil ?_
  refine wpAnyH_done (by kernel_rfl) (NoPanic.normal ?_) 0
  clear n2
  have HQ2 : Hid (Blk w2 g #[.slice ho_ m hc, .slice wa wn wc] 67) := (HQ.out.below_ HE0.out).below_ HE2.out
  have HX2 : Hid (Blk w2 w.heap.size #[.int .u64 x.num, .int .i64 x.node, .int .i64 x.mode] 55) := HX0.out.below_ HE2.out
  have HO2 : Hid (OwnW w2 B (.slice ho_ m hc) has) := (HO.out.below HE0.out).below HE2.out
  have HEW : Hid (Ext w w2) := Ext.trans HE0.out HE2.out
  have HGW : Hid (g < w.heap.size) := HQ.out.lt
  have HOW : Hid (∀ k, (Value.slice ho_ m hc).ownBlock = some k → k < w.heap.size) := fun k e => (World.ownsRow.lt HO.out k e).2
  have HSZ : Hid (w.heap.size < w2.heap.size) := HX2.out.lt
  clear HQ HX0 HO HE0 HE2 HGE
  cases b with
  | true =>
    have HR : Hid (r < m) := HPT.out rfl
    have hrm : r < m := HR.out
    have hcs : ∃ gg, ho_ = some ⟨gg, 0, none⟩ := by
      rcases HO2.out.form with ⟨e, e2⟩ | ⟨gg, cc, e, _⟩
      · have := HLH.out; rw [e2] at this; simp at this; omega
      · injection e with e1; exact ⟨gg, e1⟩
    obtain ⟨gg, rfl⟩ := hcs
    obtain ⟨p1, p2, p3⟩ := OwnW.put (x := x) HO2.out (i := r) (by rw [HLH.out]; exact hrm)
    have HP1 : Hid (OwnW (w2.setCells gg (r * 3) x.cs) B (.slice (some ⟨gg, 0, none⟩) m hc) (giveL x has)) := by rw [HGL.out]; exact p1
    have HP2 : Hid (w2.grownBy (w2.setCells gg (r * 3) x.cs) (some gg)) := p2
    have HP3 : Hid (w2.there gg (r * 3) 3) := p3
    clear p1 p2 p3
    go_wp2_with fail
    refine wp_region_last (Ext w2.drew) 7 (by kernel_rfl) (by kernel_rfl) ?_
    simp only [List.pop_toArray, List.dropLast_cons_cons, List.dropLast_singleton]
    have y0 := cellX (W0 := w2.drew) (show w2.drew.cell? ⟨g, 0, none⟩ = _ from HQ2.out.cell 0)
    have y2 := cellX (W0 := w2.drew) (show w2.drew.cell? ⟨w.heap.size, 0, none⟩ = _ from HX2.out.cell 0)
    have y3 := cellX (W0 := w2.drew) (show w2.drew.cell? ⟨w.heap.size, 1, none⟩ = _ from HX2.out.cell 1)
    have y4 := cellX (W0 := w2.drew) (show w2.drew.cell? ⟨w.heap.size, 2, none⟩ = _ from HX2.out.cell 2)
    haveI nA := cls_ext w2.drew
    refine wpAnyH_seg (by kernel_rfl) (fun _ _ _ h => h) [0, 1, 2, 3, 4, 5, 6] 0 _ _ _ (Ext.refl _) (by kernel_rfl) ?_
    simp only [opsAt, List.getElem?_toArray, List.getElem?_cons_zero, List.getElem?_cons_succ, List.cons_append, List.nil_append]
    repeat (go_big_quiet_step (fail))
    refine wpQuiet_nil ?_
    clear nA y0 y2 y3 y4
    refine wpAnyH_done (by kernel_rfl) (exQ_normal ?_) 0
    refine wpOp_storeN rfl (by kernel_rfl) 55 _ _ rfl rfl gg (r * 3) #[.int .u64 x.num, .int .i64 x.node, .int .i64 x.mode] rfl rfl HP3.out (by kernel_rfl) (by simp [Value.oneCell']) ?_
    have HRES : Hid (GiveP w B g (.slice (some ⟨gg, 0, none⟩) m hc) (.slice wa wn wc) (giveL x has) (.returned (.tuple #[])) ((w2.setCells gg (r * 3) x.cs).drew)) := by
      have hgg : gg ≠ g := fun e => HNG.out (by rw [e]; rfl)
      refine ⟨rfl, .slice (some ⟨gg, 0, none⟩) m hc, ?_, HP1.out, .inl rfl, ?_⟩
      · exact (HQ2.out.of (HP2.out.block g HQ2.out.lt (fun e => hgg (by cases e; rfl)))).drew
      · refine Chg.drew (Chg.grown (Chg.of_below HEW.out (fun i hi hn => absurd hi (Nat.not_lt.2 hn))) HP2.out (fun k e hk => ?_))
        cases e
        exact .inr rfl
    clear HP1 HP2 HP3
    have e9 : w2.drew.setCells gg (r * 3) #[Value.int IntKind.u64 x.num, .int .i64 x.node, .int .i64 x.mode].toList = (w2.setCells gg (r * 3) x.cs).drew := rfl
    rw [e9]
    generalize (w2.setCells gg (r * 3) x.cs).drew = w3 at *
    go_wp2
    refine bodyPost_ret (results_none rfl _ _ _) rfl ?_
    exact HRES.out
  | false =>
    obtain ⟨w3, hw3⟩ : ∃ w3, w3 = w2.drew.alloc (.cells #[.int .u64 x.num, .int .i64 x.node, .int .i64 x.mode] 55) := ⟨_, rfl⟩
    have HB3 : Hid (Blk w3 w2.heap.size #[.int .u64 x.num, .int .i64 x.node, .int .i64 x.mode] 55) := by rw [hw3]; exact Blk.new w2.drew _ _
    have HE3 : Hid (Ext w2.drew w3) := by rw [hw3]; exact ext_one _
    have HI : Hid (Calls _ _ _ _ _) := insW_any w3 B w2.heap.size (.slice ho_ m hc) has x r ((HO2.out.below (Below.drew (Below.refl _ _))).below HE3.out) HB3.out (fun e => by have := HOW.out _ e; have := HSZ.out; omega) (by rw [HLH.out]; exact HPL.out) HL.out (by have h1 := HE3.out.size; have h2 := HSZ.out; have h3 := HBL.out; have h4 : w2.drew.heap.size = w2.heap.size := rfl; omega)
    go_wp2_with fail
    refine wp_region_seg (Chg (fun i => i = g ∨ (Value.slice ho_ m hc).ownBlock = some i) w2.drew) (by kernel_rfl) ?_
    have hnx : ¬ (w.heap.size = g ∨ (Value.slice ho_ m hc).ownBlock = some w.heap.size) := fun e => by
      rcases e with e | e
      · have := HGW.out; omega
      · have := HOW.out _ e; omega
    have y2 := cellC (S := fun i => i = g ∨ (Value.slice ho_ m hc).ownBlock = some i) (W0 := w2.drew) (show w2.drew.cell? ⟨w.heap.size, 0, none⟩ = _ from HX2.out.cell 0) hnx
    have y3 := cellC (S := fun i => i = g ∨ (Value.slice ho_ m hc).ownBlock = some i) (W0 := w2.drew) (show w2.drew.cell? ⟨w.heap.size, 1, none⟩ = _ from HX2.out.cell 1) hnx
    have y4 := cellC (S := fun i => i = g ∨ (Value.slice ho_ m hc).ownBlock = some i) (W0 := w2.drew) (show w2.drew.cell? ⟨w.heap.size, 2, none⟩ = _ from HX2.out.cell 2) hnx
    haveI nA : Nonempty (Cls (Chg (fun i => i = g ∨ (Value.slice ho_ m hc).ownBlock = some i) w2.drew)) := ⟨⟨w2.drew, Chg.refl _ _⟩⟩
    clear hnx
    refine wpAnyH_seg (by kernel_rfl) (fun _ _ _ h => h) [0, 1, 2, 3, 5, 6] 6 _ _ _ (Chg.refl _ _) (by kernel_rfl) ?_
    simp only [opsAt, List.getElem?_toArray, List.getElem?_cons_zero, List.getElem?_cons_succ, List.cons_append, List.nil_append]
    repeat (go_big_quiet_step (fail))
    refine wpQuiet_nil ?_
    clear y2 y3 y4
    have HC3 : Hid (Chg (fun i => i = g ∨ (Value.slice ho_ m hc).ownBlock = some i) w2.drew w3) := Chg.of_below HE3.out (fun i hi hn => absurd hi (Nat.not_lt.2 hn))
    refine wpAnyH_all (rs := [4, 7]) (fuel := 5) (by kernel_rfl) (by simp) fun j hj => ?_
    rcases (show j = 4 ∨ j = 7 by simpa using hj) with rfl | rfl
    · clear hj
      refine wpOp_value 27 rfl (by kernel_rfl) rfl (exec_load1 rfl rfl Try.underlying35 rfl (HQ2.out.cell 0)) ?_
      refine ⟨Chg.refl _ _, ?_⟩
      simp only [Act.put, List.setIfInBounds_toArray, List.set_cons_succ, List.set_cons_zero]
      refine wpAnyH_all (rs := [7]) (fuel := 4) (by kernel_rfl) (by simp) fun j hj => ?_
      obtain rfl : j = 7 := by simpa using hj
      clear hj
      refine wpOp_value 30 rfl (by kernel_rfl) rfl (exec_buildW rfl rfl) ?_
      rw [← hw3, show w2.drew.heap.size = w2.heap.size from rfl]
      refine ⟨HC3.out, ?_⟩
      simp only [Act.put, List.setIfInBounds_toArray, List.set_cons_succ, List.set_cons_zero]
      refine wpAnyH_all (rs := [8]) (fuel := 3) (by kernel_rfl) (by simp) fun j hj => ?_
      obtain rfl : j = 8 := by simpa using hj
      clear hj
      refine wpOp_enter 31 rfl (by kernel_rfl) rfl (f := 29) (args := #[.slice ho_ m hc, .int .i64 (r : Int), .slice (some ⟨w2.heap.size, 0, none⟩) 1 1]) (by kernel_rfl) HI.out ?_
      rintro e w4 ⟨v4, rfl, o4, at4, g4⟩
      have HC4 : Hid (Chg (fun i => (Value.slice ho_ m hc).ownBlock = some i) w2.drew w4) := Chg.grown (Chg.of_below HE3.out (fun i hi hn => absurd hi (Nat.not_lt.2 hn))) g4 (fun k e _ => e)
      have HC5 : Hid (Chg (fun i => i = g ∨ (Value.slice ho_ m hc).ownBlock = some i) w2.drew w4) := Chg.mono HC4.out (fun i _ e => .inr e)
      refine ⟨_, rfl, HC5.out, ?_⟩
      have hv4 : ∃ a4 c4, v4 = .slice a4 (has.take r ++ x :: has.drop r).length c4 := by
        obtain ⟨a, c, e, _⟩ := o4.row
        exact ⟨a, c, e⟩
      obtain ⟨a4, c4, rfl⟩ := hv4
      generalize hn4 : (has.take r ++ x :: has.drop r).length = n4 at *
      clear hn4
      have HQ4 : Hid (Blk w4 g #[.slice ho_ m hc, .slice wa wn wc] 67) := HQ2.out.drew.chg HC4.out HNG.out
      have HRES : Hid (GiveP w B g (.slice ho_ m hc) (.slice wa wn wc) (giveL x has) (.returned (.tuple #[])) (w4.setCell ⟨g, 0, none⟩ (.slice a4 n4 c4))) := by
        refine ⟨rfl, .slice a4 n4 c4, ?_, ?_, ?_, ?_⟩
        · have := HQ4.out.set 0 (.slice a4 n4 c4)
          simpa using this
        · rw [HGL.out]
          refine o4.kept fun gg e => Below.heap_setCell _ _ _ _ ?_
          show gg ≠ g
          rintro rfl
          rcases at4 with h | h
          · exact HNG.out (by rw [← h]; exact e)
          · rw [h] at e
            cases e
            have h1 := HE3.out.size
            have h2 := HSZ.out
            have h3 := HGW.out
            have h4 : w2.drew.heap.size = w2.heap.size := rfl
            omega
        · rcases at4 with h | h
          · exact .inl h
          · refine .inr ⟨_, h, ?_⟩
            have h1 := HE3.out.size
            have h2 := HSZ.out
            have h4 : w2.drew.heap.size = w2.heap.size := rfl
            omega
        · refine Chg.setCell ?_ _ (fun _ => .inl rfl) _
          refine Chg.trans (Chg.drew (Chg.of_below HEW.out (fun i hi hn => absurd hi (Nat.not_lt.2 hn)))) HC4.out (fun i _ e => .inr e)
      have hcx := HC5.out
      clear o4 at4 g4 HI HB3 HE3 HC4 HC3 HC5 hw3
      simp only [Act.put, List.setIfInBounds_toArray, List.set_cons_succ, List.set_cons_zero]
      refine wpAnyH_seg (by kernel_rfl) (fun _ _ _ h => h) [9, 10] 1 _ _ _ hcx (by kernel_rfl) ?_
      simp only [opsAt, List.getElem?_toArray, List.getElem?_cons_zero, List.getElem?_cons_succ, List.cons_append, List.nil_append]
      repeat (go_big_quiet_step (fail))
      refine wpQuiet_nil ?_
      clear nA
      refine wpAnyH_all (rs := [11]) (fuel := 0) (by kernel_rfl) (by simp) fun j hj => ?_
      obtain rfl : j = 11 := by simpa using hj
      clear hj
      refine wpOp_store1 rfl (by kernel_rfl) 35 _ _ rfl rfl g 0 (.slice a4 n4 c4) rfl rfl (thereN 1 HQ4.out (by simp)) (by kernel_rfl) rfl ?_
      refine ⟨Chg.setCell hcx _ (fun _ => .inl rfl) _, ?_⟩
      clear hcx
      generalize w4.setCell ⟨g, 0, none⟩ (.slice a4 n4 c4) = w5 at *
      refine wpAnyH_done (by kernel_rfl) (NoPanic.normal ?_) 0
      go_wp2
      refine bodyPost_ret (results_none rfl _ _ _) rfl ?_
      exact HRES.out
    · clear hj
      refine wpOp_value 30 rfl (by kernel_rfl) rfl (exec_buildW rfl rfl) ?_
      rw [← hw3, show w2.drew.heap.size = w2.heap.size from rfl]
      refine ⟨HC3.out, ?_⟩
      simp only [Act.put, List.setIfInBounds_toArray, List.set_cons_succ, List.set_cons_zero]
      refine wpAnyH_all (rs := [4]) (fuel := 4) (by kernel_rfl) (by simp) fun j hj => ?_
      obtain rfl : j = 4 := by simpa using hj
      clear hj
      have hq3 : Blk w3 g #[.slice ho_ m hc, .slice wa wn wc] 67 := HQ2.out.drew.below_ HE3.out
      refine wpOp_value 27 rfl (by kernel_rfl) rfl (exec_load1 rfl rfl Try.underlying35 rfl (hq3.cell 0)) ?_
      clear hq3
      refine ⟨HC3.out, ?_⟩
      simp only [Act.put, List.setIfInBounds_toArray, List.set_cons_succ, List.set_cons_zero]
      refine wpAnyH_all (rs := [8]) (fuel := 3) (by kernel_rfl) (by simp) fun j hj => ?_
      obtain rfl : j = 8 := by simpa using hj
      clear hj
      refine wpOp_enter 31 rfl (by kernel_rfl) rfl (f := 29) (args := #[.slice ho_ m hc, .int .i64 (r : Int), .slice (some ⟨w2.heap.size, 0, none⟩) 1 1]) (by kernel_rfl) HI.out ?_
      rintro e w4 ⟨v4, rfl, o4, at4, g4⟩
      have HC4 : Hid (Chg (fun i => (Value.slice ho_ m hc).ownBlock = some i) w2.drew w4) := Chg.grown (Chg.of_below HE3.out (fun i hi hn => absurd hi (Nat.not_lt.2 hn))) g4 (fun k e _ => e)
      have HC5 : Hid (Chg (fun i => i = g ∨ (Value.slice ho_ m hc).ownBlock = some i) w2.drew w4) := Chg.mono HC4.out (fun i _ e => .inr e)
      refine ⟨_, rfl, HC5.out, ?_⟩
      have hv4 : ∃ a4 c4, v4 = .slice a4 (has.take r ++ x :: has.drop r).length c4 := by
        obtain ⟨a, c, e, _⟩ := o4.row
        exact ⟨a, c, e⟩
      obtain ⟨a4, c4, rfl⟩ := hv4
      generalize hn4 : (has.take r ++ x :: has.drop r).length = n4 at *
      clear hn4
      have HQ4 : Hid (Blk w4 g #[.slice ho_ m hc, .slice wa wn wc] 67) := HQ2.out.drew.chg HC4.out HNG.out
      have HRES : Hid (GiveP w B g (.slice ho_ m hc) (.slice wa wn wc) (giveL x has) (.returned (.tuple #[])) (w4.setCell ⟨g, 0, none⟩ (.slice a4 n4 c4))) := by
        refine ⟨rfl, .slice a4 n4 c4, ?_, ?_, ?_, ?_⟩
        · have := HQ4.out.set 0 (.slice a4 n4 c4)
          simpa using this
        · rw [HGL.out]
          refine o4.kept fun gg e => Below.heap_setCell _ _ _ _ ?_
          show gg ≠ g
          rintro rfl
          rcases at4 with h | h
          · exact HNG.out (by rw [← h]; exact e)
          · rw [h] at e
            cases e
            have h1 := HE3.out.size
            have h2 := HSZ.out
            have h3 := HGW.out
            have h4 : w2.drew.heap.size = w2.heap.size := rfl
            omega
        · rcases at4 with h | h
          · exact .inl h
          · refine .inr ⟨_, h, ?_⟩
            have h1 := HE3.out.size
            have h2 := HSZ.out
            have h4 : w2.drew.heap.size = w2.heap.size := rfl
            omega
        · refine Chg.setCell ?_ _ (fun _ => .inl rfl) _
          refine Chg.trans (Chg.drew (Chg.of_below HEW.out (fun i hi hn => absurd hi (Nat.not_lt.2 hn)))) HC4.out (fun i _ e => .inr e)
      have hcx := HC5.out
      clear o4 at4 g4 HI HB3 HE3 HC4 HC3 HC5 hw3
      simp only [Act.put, List.setIfInBounds_toArray, List.set_cons_succ, List.set_cons_zero]
      refine wpAnyH_seg (by kernel_rfl) (fun _ _ _ h => h) [9, 10] 1 _ _ _ hcx (by kernel_rfl) ?_
      simp only [opsAt, List.getElem?_toArray, List.getElem?_cons_zero, List.getElem?_cons_succ, List.cons_append, List.nil_append]
      repeat (go_big_quiet_step (fail))
      refine wpQuiet_nil ?_
      clear nA
      refine wpAnyH_all (rs := [11]) (fuel := 0) (by kernel_rfl) (by simp) fun j hj => ?_
      obtain rfl : j = 11 := by simpa using hj
      clear hj
      refine wpOp_store1 rfl (by kernel_rfl) 35 _ _ rfl rfl g 0 (.slice a4 n4 c4) rfl rfl (thereN 1 HQ4.out (by simp)) (by kernel_rfl) rfl ?_
      refine ⟨Chg.setCell hcx _ (fun _ => .inl rfl) _, ?_⟩
      clear hcx
      generalize w4.setCell ⟨g, 0, none⟩ (.slice a4 n4 c4) = w5 at *
      refine wpAnyH_done (by kernel_rfl) (NoPanic.normal ?_) 0
      go_wp2
      refine bodyPost_ret (results_none rfl _ _ _) rfl ?_
      exact HRES.out
end Go.Proofs.Ytkgecljoodofeaa
