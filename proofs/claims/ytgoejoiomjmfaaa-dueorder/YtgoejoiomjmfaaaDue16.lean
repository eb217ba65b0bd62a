/- Drop; Set of what is due already. Own lemmas, no statement. -/
import Derived.Test.YtgoejoiomjmfaaaDue15
namespace Go.Proofs.Ytgoejoiomjmfaaa
open Go.ChangeShapes Go.WideShapes Go.ChangeAt Go.RowKit

set_option maxHeartbeats 2000000 in
theorem drop_none {B : Nat} {w : World} {g N n : Nat} {A : Nat → It} {v : Value} {mb : Nat} {f : Key → Option Nat} (h : QAt B w g N n A v mb f) (q : Key) (hw : q.wf) (hf : f q = none) :
    Calls Try.prog 11 #[iptr g, .int .i64 q.kind, .agg #[.int .u64 q.num, .int .i64 q.node]] w fun e w' => e = .returned (.bool false) ∧ Below w.heap.size w w' := by
  have h1 := h.below (w' := w.alloc (tidO q)) ((Below.refl _ _).alloc (Nat.le_refl _) _)
  have q1 : (w.alloc (tidO q)).drew.cell? ⟨g, 1, none⟩ = some (.map (some mb)) := h1.ho.q.cell 1
  have j0 : (w.alloc (tidO q)).drew.cell? ⟨w.heap.size, 0, none⟩ = some (.int .u64 q.num) := (Blk.new w _ _).cell 0
  have j1 : (w.alloc (tidO q)).drew.cell? ⟨w.heap.size, 1, none⟩ = some (.int .i64 q.node) := (Blk.new w _ _).cell 1
  have ha := (show GMap (w.alloc (tidO q)).drew mb N f from h1.map).ask q hw
  rw [hf] at ha
  have HA : Hid (_ = _) := ha
  have HB : Hid (Below w.heap.size w (w.alloc (tidO q))) := (Below.refl _ _).alloc (Nat.le_refl _) _
  clear h h1 ha hf
  unfold iptr
  unfold keyV at HA
  unfold tidO at *
  go_enter Try.func11, Try.ntmps11
  go_wp2_with fail
  generalize hW0 : (w.alloc (.cells #[.int .u64 q.num, .int .i64 q.node] 29)) = W0 at *
  clear hW0
  have l0 := cellW q1
  have l1 := cellW j0
  have l2 := cellW j1
  haveI nA := cls_one W0.drew
  refine wp_region_seg (fun x => x = W0.drew) (by kernel_rfl) ?_
  refine wpAnyH_seg (by kernel_rfl) (fun _ _ _ h => h) [0, 1, 2, 3, 4, 5, 6] 6 _ _ _ rfl (by kernel_rfl) ?_
  simp only [opsAt, List.getElem?_toArray, List.getElem?_cons_zero, List.getElem?_cons_succ, List.cons_append, List.nil_append]
  repeat (go_big_quiet_step (fail))
  refine wpQuiet_nil ?_
  refine wpAnyH_all (rs := [7]) (fuel := 5) (by kernel_rfl) (by simp) fun j hj => ?_
  obtain rfl : j = 7 := by simpa using hj
  refine wpOp_value 19 rfl (by kernel_rfl) rfl (exec_ask rfl rfl rfl HA.out) ?_
  refine ⟨rfl, ?_⟩
  simp only [Act.put, List.setIfInBounds_toArray, List.set_cons_succ, List.set_cons_zero]
  refine wpAnyH_seg (by kernel_rfl) (fun _ _ _ h => h) [8, 9, 10, 11, 12] 0 _ _ _ rfl (by kernel_rfl) ?_
  unfold askV
  simp only [opsAt, List.getElem?_toArray, List.getElem?_cons_zero, List.getElem?_cons_succ, List.cons_append, List.nil_append]
  repeat (go_big_quiet_step (fail))
  refine wpQuiet_nil ?_
  clear l0 l1 l2 nA
  refine wpAnyH_done (by kernel_rfl) (NoPanic.normal ?_) 0
  go_wp2_with fail
  go_ret
  exact ⟨rfl, HB.out.drew⟩

theorem gone_below {B : Nat} {w W0 w' : World} {g N n i : Nat} {A A' : Nat → It} {v v' : Value} {mb : Nat} {f : Key → Option Nat} (hb : Below w.heap.size w W0) (h : Gone B W0 w' g N n i A A' v v' mb f) : Gone B w w' g N n i A A' v v' mb f :=
  ⟨h.q, h.lost, h.item, (Chg.of_below hb (fun k h1 h2 => by omega)).trans h.chg (fun _ _ e => e), h.sub⟩

set_option maxHeartbeats 2000000 in
theorem drop_some {B : Nat} {w : World} {g N n : Nat} {A : Nat → It} {v : Value} {mb : Nat} {f : Key → Option Nat} (h : QAt B w g N (n + 1) A v mb f) (q : Key) (i : Nat) (hi : i ≤ n) (he : (A i).e.key = q) (hn : n < 4611686018427387903) :
    Calls Try.prog 11 #[iptr g, .int .i64 q.kind, .agg #[.int .u64 q.num, .int .i64 q.node]] w fun e w' => e = .returned (.bool true) ∧ ∃ A' v', Gone B w w' g N n i A A' v v' mb f := by
  have hw := h.wf i (by omega)
  have hf := h.has i (by omega)
  rw [he] at hw hf
  have h1 := h.below (w' := w.alloc (tidO q)) ((Below.refl _ _).alloc (Nat.le_refl _) _)
  have q1 : (w.alloc (tidO q)).drew.cell? ⟨g, 1, none⟩ = some (.map (some mb)) := h1.ho.q.cell 1
  have j0 : (w.alloc (tidO q)).drew.cell? ⟨w.heap.size, 0, none⟩ = some (.int .u64 q.num) := (Blk.new w _ _).cell 0
  have j1 : (w.alloc (tidO q)).drew.cell? ⟨w.heap.size, 1, none⟩ = some (.int .i64 q.node) := (Blk.new w _ _).cell 1
  have ha := (show GMap (w.alloc (tidO q)).drew mb N f from h1.map).ask q hw
  rw [hf] at ha
  have HA : Hid (_ = _) := ha
  have hb : Below w.heap.size w (w.alloc (tidO q)).drew := ((Below.refl _ _).alloc (Nat.le_refl _) _).drew
  have HB : Hid (Below w.heap.size w (w.alloc (tidO q)).drew) := hb
  have HR : Hid (Calls _ _ _ _ _) := remove_any i (h.below hb) hi hn
  clear h h1 ha hf he hw hb
  unfold iptr at *
  unfold keyV at HA
  unfold tidO at *
  go_enter Try.func11, Try.ntmps11
  go_wp2_with fail
  generalize hW0 : (w.alloc (.cells #[.int .u64 q.num, .int .i64 q.node] 29)) = W0 at *
  clear hW0
  have l0 := cellW q1
  have l1 := cellW j0
  have l2 := cellW j1
  haveI nA := cls_one W0.drew
  refine wp_region_seg (fun x => x = W0.drew) (by kernel_rfl) ?_
  refine wpAnyH_seg (by kernel_rfl) (fun _ _ _ h => h) [0, 1, 2, 3, 4, 5, 6] 6 _ _ _ rfl (by kernel_rfl) ?_
  simp only [opsAt, List.getElem?_toArray, List.getElem?_cons_zero, List.getElem?_cons_succ, List.cons_append, List.nil_append]
  repeat (go_big_quiet_step (fail))
  refine wpQuiet_nil ?_
  refine wpAnyH_all (rs := [7]) (fuel := 5) (by kernel_rfl) (by simp) fun j hj => ?_
  obtain rfl : j = 7 := by simpa using hj
  refine wpOp_value 19 rfl (by kernel_rfl) rfl (exec_ask rfl rfl rfl HA.out) ?_
  refine ⟨rfl, ?_⟩
  simp only [Act.put, List.setIfInBounds_toArray, List.set_cons_succ, List.set_cons_zero]
  refine wpAnyH_seg (by kernel_rfl) (fun _ _ _ h => h) [8, 9, 10, 11, 12] 0 _ _ _ rfl (by kernel_rfl) ?_
  unfold askV iptr
  simp only [opsAt, List.getElem?_toArray, List.getElem?_cons_zero, List.getElem?_cons_succ, List.cons_append, List.nil_append]
  repeat (go_big_quiet_step (fail))
  refine wpQuiet_nil ?_
  clear l0 l1 l2 nA q1 j0 j1 HA
  refine wpAnyH_done (by kernel_rfl) (NoPanic.normal ?_) 0
  go_wp2_with fail
  refine Calls.mono HR.out ?_
  rintro e w2 ⟨rfl, A', v', hG⟩
  have HG : Hid (∃ A' v', Gone B w w2 g N n i A A' v v' mb f) := ⟨A', v', gone_below HB.out hG⟩
  clear hG HR
  go_wp2_with fail
  go_ret
  exact ⟨rfl, HG.out⟩

def turnA (A : Nat → It) (i : Nat) (e : Ent) : Nat → It := fun k => if k = i then ⟨(A i).blk, e⟩ else A k
theorem turnA_at (A : Nat → It) (i : Nat) (e : Ent) : turnA A i e i = ⟨(A i).blk, e⟩ := by unfold turnA; rw [if_pos rfl]
theorem turnA_ne (A : Nat → It) {i k : Nat} (e : Ent) (h : k ≠ i) : turnA A i e k = A k := by unfold turnA; rw [if_neg h]
theorem turnA_blk (A : Nat → It) (i : Nat) (e : Ent) (k : Nat) : (turnA A i e k).blk = (A k).blk := by
  by_cases h : k = i
  · subst h; rw [turnA_at]
  · rw [turnA_ne A e h]
theorem turnA_key {A : Nat → It} {i : Nat} {e : Ent} (he : (A i).e.key = e.key) (k : Nat) : (turnA A i e k).e.key = (A k).e.key := by
  by_cases h : k = i
  · subst h; rw [turnA_at]; exact he.symm
  · rw [turnA_ne A e h]
theorem Ent.set_at {a e : Ent} (h : a.key = e.key) (p : Nat) : (icells a p).setIfInBounds 0 (.int .i64 e.at_) = icells e p := by
  obtain ⟨a1, a2, a3, a4⟩ := a
  obtain ⟨e1, e2, e3, e4⟩ := e
  unfold Ent.key at h
  simp only [Key.mk.injEq] at h
  obtain ⟨rfl, rfl, rfl⟩ := h
  rfl
theorem HL.turn {w : World} {g b n cap : Nat} {m : Value} {A : Nat → It} (h : HL w g b n cap m A) {i : Nat} (hi : i < n) {e : Ent} (he : (A i).e.key = e.key) : HL (w.setCell ⟨(A i).blk, 0, none⟩ (.int .i64 e.at_)) g b n cap m (turnA A i e) := by
  obtain ⟨cs, h1, h2, h3⟩ := h.l.row
  have hg : g ≠ (A i).blk := fun x => h.apart (.inr ⟨i, hi, x⟩)
  refine ⟨h.q.setOther _ _ hg, ⟨cs, h1.setOther _ _ (h.l.rowNe hi).symm, h2, fun k hk => ?_⟩, h.l.le, h.l.max, fun k hk => ?_, fun k l hk hl x => ?_⟩
  · rw [turnA_blk]; exact h3 k hk
  · by_cases e1 : k = i
    · subst e1
      rw [turnA_at]
      have := (h.l.item k hk).set 0 (.int .i64 e.at_)
      rw [Ent.set_at he] at this
      exact this
    · rw [turnA_ne A e e1]
      exact (h.l.item k hk).setOther _ _ (fun x => e1 (h.l.inj k i hk hi x))
  · rw [turnA_blk, turnA_blk] at x
    exact h.l.inj k l hk hl x

/-- What Set leaves of a thing that was due. -/
structure Again (B : Nat) (w w' : World) (g N n i : Nat) (A A' : Nat → It) (v : Value) (mb : Nat) (f : Key → Option Nat) (e : Ent) : Prop where
  q : QAt B w' g N n A' v mb f
  same : SameOn n (turnA A i e) A'
  chg : Chg (allB g mb v n A) w w'
  sub : ∀ k, allB g mb v n A' k → allB g mb v n A k

theorem again_of {B : Nat} {w w1 w' : World} {g N n i b cap : Nat} {A A' : Nat → It} {mb : Nat} {f : Key → Option Nat} {e : Ent} (h : QAt B w g N n A (lineV b n cap) mb f) (hi : i < n) (he : (A i).e.key = e.key) (hb : Below w.heap.size w w1) (hW : Walked (w1.setCell ⟨(A i).blk, 0, none⟩ (.int .i64 e.at_)) w' g b n n cap (.map (some mb)) (turnA A i e) A') (hI : IsHeap ltI n A') : Again B w w' g N n i A A' (lineV b n cap) mb f e := by
  have hsub : ∀ k, allB g mb (lineV b n cap) n A' k → allB g mb (lineV b n cap) n A k := by
    rintro k (x | x | x | ⟨j, hj, x⟩)
    · exact .inl x
    · exact .inr (.inl x)
    · exact .inr (.inr (.inl x))
    · obtain ⟨l, hl, e1⟩ := hW.same.1 j hj
      refine .inr (.inr (.inr ⟨l, hl, ?_⟩))
      rw [x, e1, turnA_blk]
  have hL : ∀ k, LineB b n (turnA A i e) k → OB (lineV b n cap) n A k := by
    rintro k (x | ⟨j, hj, x⟩)
    · exact .inl (by rw [x]; rfl)
    · exact .inr ⟨j, hj, by rw [x, turnA_blk]⟩
  have c1 : Chg (fun k => OB (lineV b n cap) n A k) w w' := (((Chg.of_below hb (fun k h1 h2 => by omega)).setCell ⟨(A i).blk, 0, none⟩ (fun _ => .inr ⟨i, hi, rfl⟩) _)).trans hW.chg (fun k _ x => hL k x)
  have hm := h.mapNe
  refine ⟨⟨hW.hl.ho, hI, h.map.chg c1 hm.2, fun j hj => ?_, fun q bb hq => ?_, fun j hj => ?_, fun k hk => h.low k (hsub k hk)⟩, hW.same, c1.mono (fun k _ x => .inr (.inr x)), hsub⟩
  · obtain ⟨l, hl, e1⟩ := hW.same.1 j hj
    rw [e1, turnA_key he, turnA_blk]
    exact h.has l hl
  · obtain ⟨l, hl, e1, e2⟩ := h.back q bb hq
    obtain ⟨j, hj, e3⟩ := hW.same.2 l hl
    refine ⟨j, hj, ?_, ?_⟩
    · rw [e3, turnA_blk]; exact e1
    · rw [e3, turnA_key he]; exact e2
  · obtain ⟨l, hl, e1⟩ := hW.same.1 j hj
    rw [e1, turnA_key he]
    exact h.wf l hl
end Go.Proofs.Ytgoejoiomjmfaaa
