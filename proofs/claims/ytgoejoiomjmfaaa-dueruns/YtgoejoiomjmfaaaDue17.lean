/- Set of what is due already, the walk. Own lemmas, no statement. -/
import Derived.Test.YtgoejoiomjmfaaaDue16
namespace Go.Proofs.Ytgoejoiomjmfaaa
open Go.ChangeShapes Go.WideShapes Go.ChangeAt Go.RowKit

def setW (w : World) (e : Ent) : World := (w.alloc (.cells #[.int .u64 e.num, .int .i64 e.node] 29)).alloc (.cells #[.int .i64 e.kind, .int .u64 e.num, .int .i64 e.node] 55)
theorem QAt.line' {B : Nat} {w : World} {g N n : Nat} {A : Nat → It} {v : Value} {mb : Nat} {f : Key → Option Nat} (h : QAt B w g N n A v mb f) (hn : 0 < n) : ∃ b cap, v = lineV b n cap ∧ HL w g b n cap (.map (some mb)) A := by
  rcases h.ho.l with ⟨_, h0⟩ | ⟨b, cap, rfl, l⟩
  · omega
  · exact ⟨b, cap, rfl, h.ho.q, l⟩
set_option maxHeartbeats 4000000 in
theorem set_again {B : Nat} {w : World} {g N n : Nat} {A : Nat → It} {v : Value} {mb : Nat} {f : Key → Option Nat} (e : Ent) (h : QAt B w g N n A v mb f) (i : Nat) (hi : i < n) (he : (A i).e.key = e.key) (hn : n < 1000000) :
    Calls Try.prog 10 #[iptr g, .int .i64 e.kind, .agg #[.int .u64 e.num, .int .i64 e.node], .int .i64 e.at_] w fun r w' => r = .returned (.tuple #[]) ∧ ∃ A', Again B w w' g N n i A A' v mb f e := by
  have hw := h.wf i hi
  have hf := h.has i hi
  rw [he] at hw hf
  obtain ⟨b, cap, rfl, hl⟩ := h.line' (by omega)
  have H : Hid (QAt B w g N n A (lineV b n cap) mb f) := h
  have hb0 : Below w.heap.size w (setW w e) := ((Below.refl _ _).alloc (Nat.le_refl _) _).alloc (by simp) _
  have k55 := Blk.new (w.alloc (.cells #[.int .u64 e.num, .int .i64 e.node] 29)) #[.int .i64 e.kind, .int .u64 e.num, .int .i64 e.node] 55
  rw [show (w.alloc (.cells #[.int .u64 e.num, .int .i64 e.node] 29)).heap.size = w.heap.size + 1 by simp] at k55
  have h0 := h.below hb0
  have hl0 : HL (setW w e).drew g b n cap (.map (some mb)) A := (hl.below hb0).drew
  have q1 : (setW w e).drew.cell? ⟨g, 1, none⟩ = some (.map (some mb)) := h0.ho.q.cell 1
  have j0 : (setW w e).drew.cell? ⟨w.heap.size + 1, 0, none⟩ = some (.int .i64 e.kind) := k55.cell 0
  have j1 : (setW w e).drew.cell? ⟨w.heap.size + 1, 1, none⟩ = some (.int .u64 e.num) := k55.cell 1
  have j2 : (setW w e).drew.cell? ⟨w.heap.size + 1, 2, none⟩ = some (.int .i64 e.node) := k55.cell 2
  have ha := (show GMap (setW w e).drew mb N f from h0.map).ask e.key hw
  rw [hf] at ha
  have HA : Hid (_ = _) := ha
  have i0 : (setW w e).drew.cell? ⟨(A i).blk, 0, none⟩ = some (.int .i64 (A i).e.at_) := (hl0.l.item i hi).cell 0
  have f0 := (hl0.l.item i hi).frozen 0
  have hl1 := hl0.turn hi he
  have i4 : ((setW w e).drew.setCell ⟨(A i).blk, 0, none⟩ (.int .i64 e.at_)).drew.cell? ⟨(A i).blk, 4, none⟩ = some (.int .i64 (i : Int)) := by
    have := (hl1.l.item i hi).cell 4
    rw [turnA_at] at this
    exact this
  have HI4 : Hid (_ = _) := i4
  have hfix := fix_any g b n cap (.map (some mb)) (turnA A i e) i ((setW w e).drew.setCell ⟨(A i).blk, 0, none⟩ (.int .i64 e.at_)).drew hl1.drew (IsHeap.turn ltI_ord h.heap hi ⟨(A i).blk, e⟩) (by omega)
  have HFX : Hid (Calls _ _ _ _ _) := hfix
  have HB0 : Hid (Below w.heap.size w (setW w e).drew ∧ i < n ∧ (A i).e.key = e.key) := ⟨hb0.drew, hi, he⟩
  clear h hw hf hl hb0 k55 h0 hl0 ha hl1 i4 hfix he
  unfold iptr
  unfold keyV Ent.key at HA
  simp only at HA
  unfold qp at HFX
  unfold setW at *
  go_enter Try.func10, Try.ntmps10
  go_wp2_with fail
  generalize hW0 : ((w.alloc (.cells #[.int .u64 e.num, .int .i64 e.node] 29)).alloc (.cells #[.int .i64 e.kind, .int .u64 e.num, .int .i64 e.node] 55)) = W0 at *
  clear hW0
  have l0 := cellW q1
  have l1 := cellW j0
  have l2 := cellW j1
  have l3 := cellW j2
  haveI nA := cls_one W0.drew
  refine wp_region_seg (fun x => x = W0.drew) (by kernel_rfl) ?_
  refine wpAnyH_seg (by kernel_rfl) (fun _ _ _ h => h) [0, 1, 2, 3, 4] 6 _ _ _ rfl (by kernel_rfl) ?_
  simp only [opsAt, List.getElem?_toArray, List.getElem?_cons_zero, List.getElem?_cons_succ, List.cons_append, List.nil_append]
  repeat (go_big_quiet_step (fail))
  refine wpQuiet_nil ?_
  refine wpAnyH_all (rs := [5]) (fuel := 5) (by kernel_rfl) (by simp) fun j hj => ?_
  obtain rfl : j = 5 := by simpa using hj
  refine wpOp_value 23 rfl (by kernel_rfl) rfl (exec_ask rfl rfl rfl HA.out) ?_
  refine ⟨rfl, ?_⟩
  simp only [Act.put, List.setIfInBounds_toArray, List.set_cons_succ, List.set_cons_zero]
  refine wpAnyH_seg (by kernel_rfl) (fun _ _ _ h => h) [6, 7, 8, 9, 10] 0 _ _ _ rfl (by kernel_rfl) ?_
  unfold askV iptr
  simp only [opsAt, List.getElem?_toArray, List.getElem?_cons_zero, List.getElem?_cons_succ, List.cons_append, List.nil_append]
  repeat (go_big_quiet_step (fail))
  refine wpQuiet_nil ?_
  clear l0 l1 l2 l3 nA q1 j0 j1 j2 HA
  refine wpAnyH_done (by kernel_rfl) (NoPanic.normal ?_) 0
  haveI nB := cls_any w
  go_wp2_with fail
  refine wp_region_seg (fun _ => True) (by kernel_rfl) ?_
  refine wpAnyH_seg (by kernel_rfl) (fun _ _ _ h => h) [0, 1, 2, 3, 4, 5, 6] 2 _ _ _ trivial (by kernel_rfl) ?_
  simp only [opsAt, List.getElem?_toArray, List.getElem?_cons_zero, List.getElem?_cons_succ, List.cons_append, List.nil_append]
  repeat (go_big_quiet_step (fail))
  refine wpQuiet_nil ?_
  clear nB
  refine wpAnyH_all (rs := [7]) (fuel := 1) (by kernel_rfl) (by simp) fun j hj => ?_
  obtain rfl : j = 7 := by simpa using hj
  refine wpOp_value 39 rfl (by kernel_rfl) rfl (exec_load1 rfl rfl Try.underlying3 rfl HI4.out) ?_
  refine ⟨trivial, ?_⟩
  simp only [Act.put, List.setIfInBounds_toArray, List.set_cons_succ, List.set_cons_zero]
  refine wpAnyH_all (rs := [8]) (fuel := 0) (by kernel_rfl) (by simp) fun j hj => ?_
  obtain rfl : j = 8 := by simpa using hj
  refine wpOp_enter 40 rfl (by kernel_rfl) rfl (f := 16) (args := #[.iface 61 (.pointer (some ⟨g, 0, none⟩)), .int .i64 (i : Int)]) (by kernel_rfl) HFX.out ?_
  rintro r w1 ⟨rfl, A', hW, hI⟩
  have HG : Hid (∃ A', Again B w w1 g N n i A A' (lineV b n cap) mb f e) := ⟨A', again_of H.out HB0.out.2.1 HB0.out.2.2 HB0.out.1 ⟨hW.hl, hW.le, hW.same, hW.rest, ⟨hW.chg.os, hW.chg.tape, hW.chg.output, hW.chg.size, hW.chg.block⟩⟩ hI⟩
  clear hW hI HFX HI4 H HB0 i0 f0
  refine ⟨_, rfl, trivial, ?_⟩
  simp only [Act.put, List.setIfInBounds_toArray, List.set_cons_succ, List.set_cons_zero]
  refine wpAnyH_done (by kernel_rfl) (NoPanic.normal ?_) 0
  go_wp2_with fail
  refine bodyPost_ret (results_none rfl _ _ _) rfl ?_
  exact ⟨rfl, HG.out⟩
end Go.Proofs.Ytgoejoiomjmfaaa
