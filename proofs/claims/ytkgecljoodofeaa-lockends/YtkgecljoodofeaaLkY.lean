/- lock: leave, walked. Own lemmas, no statement. -/
import Derived.Test.YtkgecljoodofeaaLkW
import Derived.Test.YtkgecljoodofeaaLkK
set_option linter.unusedSimpArgs false
set_option linter.unusedVariables false
namespace Go.Proofs.Ytkgecljoodofeaa
open Go.ChangeShapes Go.WideShapes Go.ChangeAt Go.RowKit

def leaveL (t : Td) (ls : List Wn) : List Wn := ls.filter fun x => !eqT x.t t
/-- What leave leaves. -/
def LeaveP (w : World) (B g : Nat) (hv wv : Value) (has waits : List Wn) (e : Ending) (w' : World) : Prop := e = .returned (.tuple #[]) ∧ ∃ hv' wv', Blk w' g #[hv', wv'] 67 ∧ OwnW w' B hv' has ∧ OwnW w' B wv' waits ∧ hv'.ownBlock = hv.ownBlock ∧ wv'.ownBlock = wv.ownBlock ∧ Chg (fun i => i = g ∨ hv.ownBlock = some i ∨ wv.ownBlock = some i) w w'

set_option maxRecDepth 100000 in
set_option maxHeartbeats 4000000 in
theorem leave_any (B g : Nat) (hv wv : Value) (has waits : List Wn) (t : Td) (w : World) (hq : Blk w g #[hv, wv] 67) (oh : OwnW w B hv has) (ow : OwnW w B wv waits) (hd : ∀ b, hv.ownBlock = some b → wv.ownBlock ≠ some b) (hl : has.length ≤ 10000) (wl : waits.length ≤ 10000) :
    Calls Try.prog 35 #[.pointer (some ⟨g, 0, none⟩), .agg #[.int .u64 t.num, .int .i64 t.node]] w (LeaveP w B g hv wv (leaveL t has) (leaveL t waits)) := by
  have HQ : Hid (Blk w g #[hv, wv] 67) := hq
  have HNG : Hid (hv.ownBlock ≠ some g ∧ wv.ownBlock ≠ some g) := ⟨oh.notBlk hq (by decide), ow.notBlk hq (by decide)⟩
  have HD : Hid (∀ b, hv.ownBlock = some b → wv.ownBlock ≠ some b) := hd
  have HLT : Hid (∀ b, hv.ownBlock = some b ∨ wv.ownBlock = some b → b < w.heap.size) := fun b hb => by
    rcases hb with hb | hb
    · exact (World.ownsRow.lt oh b hb).2
    · exact (World.ownsRow.lt ow b hb).2
  have HGL : Hid (g < w.heap.size) := hq.lt
  obtain ⟨w0, hw0⟩ : ∃ w0, w0 = w.alloc (.cells #[.int .u64 t.num, .int .i64 t.node] 29) := ⟨_, rfl⟩
  have HE0 : Hid (Ext w w0) := by rw [hw0]; exact ext_one _
  have HT0 : Hid (Blk w0 w.heap.size #[.int .u64 t.num, .int .i64 t.node] 29) := by rw [hw0]; exact Blk.new _ _ _
  have HQ0 : Hid (Blk w0 g #[hv, wv] 67) := hq.below_ HE0.out
  have HF : Hid (∀ (B : Nat) (v : Value) (ls : List Wn) (W1 : World), OwnW W1 B v ls → ls.length ≤ 10000 → Blk W1 w.heap.size #[.int .u64 t.num, .int .i64 t.node] 29 → Calls Try.prog 52 #[v, .func (.func 51) #[] #[.pointer (some ⟨w.heap.size, 0, none⟩)]] W1 (DelP W1 B v (leaveL t ls))) := fun B v ls W1 h1 h2 h3 => by
    refine delF_any W1 B v ls _ (fun x => eqT x.t t) h1 h2 ?_
    intro W x hC hx
    have hb : Blk W w.heap.size #[.int .u64 t.num, .int .i64 t.node] 29 := h3.chg hC (fun e => OwnW.notBlk h1 h3 (by decide) e)
    exact leave1_any x t w.heap.size W (hb.cell 0) (hb.cell 1)
  obtain ⟨ha, hn, hc, eh⟩ : ∃ a n c, hv = .slice a n c := by obtain ⟨a, c, e, _⟩ := oh.row; exact ⟨a, _, c, e⟩
  obtain ⟨wa, wn, wc, ew⟩ : ∃ a n c, wv = .slice a n c := by obtain ⟨a, c, e, _⟩ := ow.row; exact ⟨a, _, c, e⟩
  have HF1 : Hid (Calls Try.prog 52 #[hv, .func (.func 51) #[] #[.pointer (some ⟨w.heap.size, 0, none⟩)]] w0 (DelP w0 B hv (leaveL t has))) := HF.out B hv has w0 (oh.below HE0.out) hl HT0.out
  have HOW : Hid (OwnW w0 B wv waits ∧ waits.length ≤ 10000) := ⟨ow.below HE0.out, wl⟩
  have c0 : w0.cell? ⟨g, 0, none⟩ = some hv := HQ0.out.cell 0
  clear hq oh ow hd hl wl
  subst eh ew
  go_enter Try.func35, Try.ntmps35
  go_upto_region 1 with fail
  rw [← hw0]
  clear hw0
  go_wp2_with fail
  refine HF1.out.mono ?_
  rintro e w1 ⟨v1, rfl, o1, b1, k1⟩
  have HO1 : Hid (OwnW w1 B v1 (leaveL t has)) := o1
  have HB1 : Hid (v1.ownBlock = (Value.slice ha hn hc).ownBlock) := b1
  have HK1 : Hid (Chg (fun i => (Value.slice ha hn hc).ownBlock = some i) w0 w1) := k1
  have HQ1 : Hid (Blk w1 g #[.slice ha hn hc, .slice wa wn wc] 67) := HQ0.out.chg k1 HNG.out.1
  have HT1 : Hid (Blk w1 w.heap.size #[.int .u64 t.num, .int .i64 t.node] 29) := HT0.out.chg k1 (fun e => absurd (HLT.out _ (.inl e)) (Nat.lt_irrefl _))
  obtain ⟨a1, n1, d1, e1⟩ : ∃ a n c, v1 = .slice a n c := by obtain ⟨a, c, e, _⟩ := o1.row; exact ⟨a, _, c, e⟩
  subst e1
  have z0 : w1.cell? ⟨g, 0, none⟩ = some (.slice ha hn hc) := HQ1.out.cell 0
  have z0f : w1.frozen? ⟨g, 0, none⟩ = false := HQ1.out.frozen 0
  clear o1 b1 k1 c0 HF1
  go_upto_region 3 with fail
  obtain ⟨w2, hw2⟩ : ∃ w2, w2 = w1.setCell ⟨g, 0, none⟩ (.slice a1 n1 d1) := ⟨_, rfl⟩
  rw [← hw2]
  have HQ2 : Hid (Blk w2 g #[.slice a1 n1 d1, .slice wa wn wc] 67) := by
    have := HQ1.out.set 0 (.slice a1 n1 d1)
    rw [hw2]
    show Blk _ _ _ _
    simpa using this
  have hgz : w.heap.size ≠ g := fun e => absurd HGL.out (by rw [e]; exact Nat.lt_irrefl _)
  have HT2 : Hid (Blk w2 w.heap.size #[.int .u64 t.num, .int .i64 t.node] 29) := by rw [hw2]; exact HT1.out.setOther _ _ hgz
  have HO2 : Hid (OwnW w2 B (.slice a1 n1 d1) (leaveL t has)) := by
    rw [hw2]
    exact HO1.out.kept fun b hb => Below.heap_setCell _ _ _ _ (fun e => HNG.out.1 (by rw [← HB1.out, hb, e]))
  have HOW2 : Hid (OwnW w2 B (.slice wa wn wc) waits) := by
    rw [hw2]
    refine HOW.out.1.kept fun b hb => ?_
    rw [Below.heap_setCell _ _ _ _ (fun e => HNG.out.2 (by rw [hb, e]))]
    exact HK1.out.block b (World.ownsRow.lt HOW.out.1 b hb).2 (fun e => HD.out b e hb)
  have HK2 : Hid (Chg (fun i => i = g ∨ (Value.slice ha hn hc).ownBlock = some i ∨ (Value.slice wa wn wc).ownBlock = some i) w w2) := by
    rw [hw2]
    refine Chg.setCell ?_ _ (fun _ => .inl rfl) _
    exact Chg.trans (Chg.of_below HE0.out (fun i hi hn => absurd hi (Nat.not_lt.2 hn))) HK1.out (fun i _ e => .inr (.inl e))
  have HF2 : Hid (Calls Try.prog 52 #[.slice wa wn wc, .func (.func 51) #[] #[.pointer (some ⟨w.heap.size, 0, none⟩)]] w2 (DelP w2 B (.slice wa wn wc) (leaveL t waits))) := HF.out B (.slice wa wn wc) waits w2 HOW2.out HOW.out.2 HT2.out
  have z1 : w2.cell? ⟨g, 1, none⟩ = some (.slice wa wn wc) := HQ2.out.cell 1
  clear hw2 hgz z0 z0f HQ1 HT1 HO1 HK1 HF
  go_wp2_with fail
  refine HF2.out.mono ?_
  rintro e w3 ⟨v3, rfl, o3, b3, k3⟩
  have HO3 : Hid (OwnW w3 B v3 (leaveL t waits)) := o3
  have HB3 : Hid (v3.ownBlock = (Value.slice wa wn wc).ownBlock) := b3
  have HK3 : Hid (Chg (fun i => (Value.slice wa wn wc).ownBlock = some i) w2 w3) := k3
  have HQ3 : Hid (Blk w3 g #[.slice a1 n1 d1, .slice wa wn wc] 67) := HQ2.out.chg k3 HNG.out.2
  obtain ⟨a3, n3, d3, e3⟩ : ∃ a n c, v3 = .slice a n c := by obtain ⟨a, c, e, _⟩ := o3.row; exact ⟨a, _, c, e⟩
  subst e3
  have z3 : w3.cell? ⟨g, 1, none⟩ = some (.slice wa wn wc) := HQ3.out.cell 1
  have z3f : w3.frozen? ⟨g, 1, none⟩ = false := HQ3.out.frozen 1
  have HRES : Hid (LeaveP w B g (.slice ha hn hc) (.slice wa wn wc) (leaveL t has) (leaveL t waits) (.returned (.tuple #[])) (w3.setCell ⟨g, 1, none⟩ (.slice a3 n3 d3))) := by
    refine ⟨rfl, .slice a1 n1 d1, .slice a3 n3 d3, ?_, ?_, ?_, HB1.out, HB3.out, ?_⟩
    · have := HQ3.out.set 1 (.slice a3 n3 d3)
      simpa using this
    · refine HO2.out.kept fun b hb => ?_
      rw [Below.heap_setCell _ _ _ _ (fun e => HNG.out.1 (by rw [← HB1.out, hb, e]))]
      exact k3.block b (World.ownsRow.lt HO2.out b hb).2 (fun e => HD.out b (by rw [← HB1.out]; exact hb) e)
    · exact HO3.out.kept fun b hb => Below.heap_setCell _ _ _ _ (fun e => HNG.out.2 (by rw [← HB3.out, hb, e]))
    · refine Chg.setCell ?_ _ (fun _ => .inl rfl) _
      exact Chg.trans HK2.out k3 (fun i _ e => .inr (.inr e))
  clear o3 b3 k3 z1 HF2
  go_wp2
  refine bodyPost_ret (results_none rfl _ _ _) rfl ?_
  exact HRES.out
end Go.Proofs.Ytkgecljoodofeaa
