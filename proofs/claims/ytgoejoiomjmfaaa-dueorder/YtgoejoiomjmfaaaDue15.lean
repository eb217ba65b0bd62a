/- Next where nothing is due by then; When. Own lemmas, no statement. -/
import Derived.Test.YtgoejoiomjmfaaaDue14
namespace Go.Proofs.Ytgoejoiomjmfaaa
open Go.ChangeShapes Go.WideShapes Go.ChangeAt Go.RowKit

set_option maxHeartbeats 1000000 in
theorem next_late {B : Nat} {w : World} {g N n : Nat} {A : Nat → It} {v : Value} {mb : Nat} {f : Key → Option Nat} (h : QAt B w g N (n + 1) A v mb f) (now : Int) (hnow : now < (A 0).e.at_) (hn : n < 4611686018427387903) :
    Calls Try.prog 14 #[iptr g, .int .i64 now] w fun e w' => e = .returned (.tuple #[entV noEnt, .bool false]) ∧ Below w.heap.size w w' := by
  have h1 := h.below (w' := w.alloc (.cells #[.int .i64 0, .int .i64 0, .int .u64 0, .int .i64 0] 34)) ((Below.refl _ _).alloc (Nat.le_refl _) _)
  have HL0 : Hid (Calls _ _ _ _ _) := len_any h1
  obtain ⟨b, cap, rfl, hl⟩ := h1.line
  have c0 := hl.cell
  have c1 := hl.l.cell (i := 0) (by omega)
  have c2 : (w.alloc (.cells #[.int .i64 0, .int .i64 0, .int .u64 0, .int .i64 0] 34)).cell? ⟨(A 0).blk, 0, none⟩ = some (.int .i64 (A 0).e.at_) := (hl.l.item 0 (by omega)).cell 0
  have hz : ((n : Int) + 1 == 0) = false := by simp; omega
  have hlen : (0 : Int) < (n : Int) + 1 := by omega
  clear h h1 hl
  unfold iptr at *
  go_enter Try.func14, Try.ntmps14
  go_wp2_with fail
  refine Calls.mono HL0.out ?_
  rintro e w' ⟨rfl, hw⟩; rw [hw]; clear hw w'
  go_wp2_with fail
  refine bodyPost_ret (results_next (ty := 34) rfl _ _ w.heap.size 34 #[.int .i64 0, .int .i64 0, .int .u64 0, .int .i64 0] (.bool false) _ rfl rfl (Blk.new w _ _) Try.underlying34 rfl (by kernel_rfl)) rfl ?_
  exact ⟨rfl, (Below.refl _ _).alloc (Nat.le_refl _) _⟩

def tidO (q : Key) : Obj := .cells #[.int .u64 q.num, .int .i64 q.node] 29

set_option maxHeartbeats 2000000 in
theorem when_none {B : Nat} {w : World} {g N n : Nat} {A : Nat → It} {v : Value} {mb : Nat} {f : Key → Option Nat} (h : QAt B w g N n A v mb f) (q : Key) (hw : q.wf) (hf : f q = none) :
    Calls Try.prog 12 #[iptr g, .int .i64 q.kind, .agg #[.int .u64 q.num, .int .i64 q.node]] w fun e w' => e = .returned (.tuple #[.int .i64 0, .bool false]) ∧ Below w.heap.size w w' := by
  have h1 := h.below (w' := w.alloc (tidO q)) ((Below.refl _ _).alloc (Nat.le_refl _) _)
  have q1 : (w.alloc (tidO q)).drew.cell? ⟨g, 1, none⟩ = some (.map (some mb)) := h1.ho.q.cell 1
  have j0 : (w.alloc (tidO q)).drew.cell? ⟨w.heap.size, 0, none⟩ = some (.int .u64 q.num) := (Blk.new w _ _).cell 0
  have j1 : (w.alloc (tidO q)).drew.cell? ⟨w.heap.size, 1, none⟩ = some (.int .i64 q.node) := (Blk.new w _ _).cell 1
  have ha := (show GMap (w.alloc (tidO q)).drew mb N f from h1.map).ask q hw
  rw [hf] at ha
  have HA : Hid (_ = _) := ha
  have HB : Hid (Below w.heap.size w (w.alloc (tidO q))) := (Below.refl _ _).alloc (Nat.le_refl _) _
  clear h h1 ha hf
  unfold iptr
  unfold keyV at HA
  unfold tidO at *
  go_enter Try.func12, Try.ntmps12
  go_wp2_with fail
  generalize hW0 : (w.alloc (.cells #[.int .u64 q.num, .int .i64 q.node] 29)) = W0 at *
  clear hW0
  have l0 := cellW q1
  have l1 := cellW j0
  have l2 := cellW j1
  haveI nA := cls_one W0.drew
  refine wp_region_seg (fun x => x = W0.drew) (by kernel_rfl) ?_
  refine wpAnyH_seg (by kernel_rfl) (fun _ _ _ h => h) [0, 1, 2, 3, 4, 5, 6] 6 _ _ _ rfl (by kernel_rfl) ?_
  simp only [opsAt, List.getElem?_toArray, List.getElem?_cons_zero, List.getElem?_cons_succ, List.cons_append, List.nil_append]
  repeat (go_big_quiet_step (fail))
  refine wpQuiet_nil ?_
  refine wpAnyH_all (rs := [7]) (fuel := 5) (by kernel_rfl) (by simp) fun j hj => ?_
  obtain rfl : j = 7 := by simpa using hj
  refine wpOp_value 20 rfl (by kernel_rfl) rfl (exec_ask rfl rfl rfl HA.out) ?_
  refine ⟨rfl, ?_⟩
  simp only [Act.put, List.setIfInBounds_toArray, List.set_cons_succ, List.set_cons_zero]
  refine wpAnyH_seg (by kernel_rfl) (fun _ _ _ h => h) [8, 9, 10, 11, 12] 0 _ _ _ rfl (by kernel_rfl) ?_
  unfold askV
  simp only [opsAt, List.getElem?_toArray, List.getElem?_cons_zero, List.getElem?_cons_succ, List.cons_append, List.nil_append]
  repeat (go_big_quiet_step (fail))
  refine wpQuiet_nil ?_
  clear l0 l1 l2 nA
  refine wpAnyH_done (by kernel_rfl) (NoPanic.normal ?_) 0
  go_wp2_with fail
  go_ret2
  exact ⟨rfl, HB.out.drew⟩

set_option maxHeartbeats 2000000 in
theorem when_some {B : Nat} {w : World} {g N n : Nat} {A : Nat → It} {v : Value} {mb : Nat} {f : Key → Option Nat} (h : QAt B w g N n A v mb f) (q : Key) (i : Nat) (hi : i < n) (he : (A i).e.key = q) :
    Calls Try.prog 12 #[iptr g, .int .i64 q.kind, .agg #[.int .u64 q.num, .int .i64 q.node]] w fun e w' => e = .returned (.tuple #[.int .i64 (A i).e.at_, .bool true]) ∧ Below w.heap.size w w' := by
  have hw := h.wf i hi
  have hf := h.has i hi
  rw [he] at hw hf
  have h1 := h.below (w' := w.alloc (tidO q)) ((Below.refl _ _).alloc (Nat.le_refl _) _)
  have q1 : (w.alloc (tidO q)).drew.cell? ⟨g, 1, none⟩ = some (.map (some mb)) := h1.ho.q.cell 1
  have j0 : (w.alloc (tidO q)).drew.cell? ⟨w.heap.size, 0, none⟩ = some (.int .u64 q.num) := (Blk.new w _ _).cell 0
  have j1 : (w.alloc (tidO q)).drew.cell? ⟨w.heap.size, 1, none⟩ = some (.int .i64 q.node) := (Blk.new w _ _).cell 1
  have i0 : (w.alloc (tidO q)).drew.cell? ⟨(A i).blk, 0, none⟩ = some (.int .i64 (A i).e.at_) := (h1.ho.l.item hi).cell 0
  have ha := (show GMap (w.alloc (tidO q)).drew mb N f from h1.map).ask q hw
  rw [hf] at ha
  have HA : Hid (_ = _) := ha
  have HB : Hid (Below w.heap.size w (w.alloc (tidO q))) := (Below.refl _ _).alloc (Nat.le_refl _) _
  clear h h1 ha hf he hw
  unfold iptr
  unfold keyV at HA
  unfold tidO at *
  generalize (A i).blk = gi at *
  generalize (A i).e.at_ = ai at *
  go_enter Try.func12, Try.ntmps12
  go_wp2_with fail
  generalize hW0 : (w.alloc (.cells #[.int .u64 q.num, .int .i64 q.node] 29)) = W0 at *
  clear hW0
  have l0 := cellW q1
  have l1 := cellW j0
  have l2 := cellW j1
  haveI nA := cls_one W0.drew
  refine wp_region_seg (fun x => x = W0.drew) (by kernel_rfl) ?_
  refine wpAnyH_seg (by kernel_rfl) (fun _ _ _ h => h) [0, 1, 2, 3, 4, 5, 6] 6 _ _ _ rfl (by kernel_rfl) ?_
  simp only [opsAt, List.getElem?_toArray, List.getElem?_cons_zero, List.getElem?_cons_succ, List.cons_append, List.nil_append]
  repeat (go_big_quiet_step (fail))
  refine wpQuiet_nil ?_
  refine wpAnyH_all (rs := [7]) (fuel := 5) (by kernel_rfl) (by simp) fun j hj => ?_
  obtain rfl : j = 7 := by simpa using hj
  refine wpOp_value 20 rfl (by kernel_rfl) rfl (exec_ask rfl rfl rfl HA.out) ?_
  refine ⟨rfl, ?_⟩
  simp only [Act.put, List.setIfInBounds_toArray, List.set_cons_succ, List.set_cons_zero]
  refine wpAnyH_seg (by kernel_rfl) (fun _ _ _ h => h) [8, 9, 10, 11, 12] 0 _ _ _ rfl (by kernel_rfl) ?_
  unfold askV iptr
  simp only [opsAt, List.getElem?_toArray, List.getElem?_cons_zero, List.getElem?_cons_succ, List.cons_append, List.nil_append]
  repeat (go_big_quiet_step (fail))
  refine wpQuiet_nil ?_
  clear l0 l1 l2 nA
  refine wpAnyH_done (by kernel_rfl) (NoPanic.normal ?_) 0
  go_wp2_with fail
  go_ret2
  exact ⟨rfl, HB.out.drew⟩
end Go.Proofs.Ytgoejoiomjmfaaa
