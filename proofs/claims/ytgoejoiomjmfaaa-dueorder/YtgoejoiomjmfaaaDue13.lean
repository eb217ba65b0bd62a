/- Set: a thing that was not due. Own lemmas, no statement. -/
import Derived.Test.YtgoejoiomjmfaaaDue12
namespace Go.Proofs.Ytgoejoiomjmfaaa
open Go.ChangeShapes Go.WideShapes Go.ChangeAt Go.RowKit

section
variable {ops : Array Oper} {Q : Exit → Act → World → Prop} {K : Act → World → Prop} {i : Nat} {o : Oper} {a : Act} {w w' : World}
theorem wpOp_lay {m x y : Operand} {v k u : Value} (ho : ops[i]? = some o) (hw : Region.wanted o (yielded ops a.tmps) = true) (hd : o.dst = none) (hop : o.op = .mapUpdate 49 m x y) (hm : a.eval m = v) (hx : a.eval x = k) (hy : a.eval y = u)
    (hr : (Instr.mapUpdate 49 v k u).run Try.prog w = .ok () w') (h : K a w') : wpOp Try.prog ops Q i K a w := by
  unfold wpOp
  simp only [ho, hw, if_true]
  refine .inl ?_
  unfold Oper.wp execOp
  simp only [hop, hm, hx, hy, Sem.run_bind, Sem.run_pure, Result.andThen_ok, hr]
  simp only [Oper.upon]
  rw [hd]
  exact h
theorem exec_ask {ρ : Operand → Value} {m x : Operand} {v k u : Value} (hop : o.op = .lookup 49 m x true) (hm : ρ m = v) (hx : ρ x = k) (hr : (Instr.lookup 49 v k true).run Try.prog w = .ok u w) : (execOp ρ o).run Try.prog w = .ok (.value u) w := by
  unfold execOp
  simp only [hop, hm, hx, Sem.run_bind, Sem.run_pure, Result.andThen_ok, hr]
end
theorem cellW {W0 : World} {a : Addr} {v : Value} (h : W0.cell? a = some v) : ∀ s : Cls (fun x => x = W0), s.wd.cell? a = some v := fun s => by rw [s.ok]; exact h
theorem cls_one (w : World) : Nonempty (Cls (fun x => x = w)) := ⟨⟨w, rfl⟩⟩

/-- What Set leaves of a thing that was not due. -/
structure Laid (B : Nat) (w w' : World) (g N n : Nat) (A A' : Nat → It) (v v' : Value) (mb : Nat) (f : Key → Option Nat) (e : Ent) (nb : Nat) : Prop where
  q : QAt B w' g (N + 1) (n + 1) A' v' mb (putF f e.key nb)
  same : SameOn (n + 1) (snocA n A ⟨nb, e⟩) A'
  chg : Chg (allB g mb v n A) w w'
  sub : ∀ k, allB g mb v' (n + 1) A' k → allB g mb v n A k ∨ w.heap.size ≤ k

theorem laid_of {B : Nat} {w w1 w2 w' : World} {g N n : Nat} {A A' : Nat → It} {v : Value} {mb b cap nb : Nat} {f : Key → Option Nat} {e : Ent} (h : QAt B w g N n A v mb f) (hB : B ≤ w.heap.size) (hf : f e.key = none) (hw : e.key.wf) (hnb : w.heap.size ≤ nb)
    (hb : Below w.heap.size w w1) (hc : Chg (fun k => k = mb) w1 w2) (hm : GMap w2 mb (N + 1) (putF f e.key nb)) (hP : Pushed2 w2 w' g v (.map (some mb)) n A ⟨nb, e⟩ b cap A') (hrow : OB v n A b ∨ w.heap.size ≤ b) : Laid B w w' g N n A A' v (lineV b (n + 1) cap) mb f e nb := by
  have hs : SameOn (n + 1) (snocA n A ⟨nb, e⟩) A' := hP.same
  have hlt : ∀ k, allB g mb v n A k → k < w.heap.size := h.lt
  obtain ⟨hg, hob⟩ := h.mapNe
  have hmb := hlt mb (.inr (.inl rfl))
  have hsub : ∀ k, allB g mb (lineV b (n + 1) cap) (n + 1) A' k → allB g mb v n A k ∨ w.heap.size ≤ k := by
    rintro k (x | x | x | ⟨i, hi, x⟩)
    · exact .inl (.inl x)
    · exact .inl (.inr (.inl x))
    · simp only [lineV, Value.ownBlock, Option.some.injEq] at x
      subst x
      rcases hrow with r | r
      · exact .inl (.inr (.inr r))
      · exact .inr r
    · obtain ⟨j, hj, e1⟩ := hs.1 i hi
      rw [x, e1]
      rcases Nat.lt_or_ge j n with hl | hl
      · rw [snocA_lt A _ hl]; exact .inl (.inr (.inr (.inr ⟨j, hl, rfl⟩)))
      · obtain rfl : j = n := by omega
        rw [snocA_at]; exact .inr hnb
  refine ⟨⟨hP.hl.ho, hP.heap, hm.chg hP.chg ?_, fun i hi => ?_, fun q b' hq => ?_, fun i hi => ?_, fun k hk => ?_⟩, hs, ?_, hsub⟩
  · rintro (x | x | x)
    · exact hg x.symm
    · have : mb = nb := x
      omega
    · exact hob x
  · obtain ⟨j, hj, e1⟩ := hs.1 i hi
    rw [e1]
    rcases Nat.lt_or_ge j n with hl | hl
    · rw [snocA_lt A _ hl]
      unfold putF
      rw [if_neg, h.has j hl]
      intro ek
      have := h.has j hl
      rw [ek, hf] at this
      cases this
    · obtain rfl : j = n := by omega
      rw [snocA_at]
      unfold putF
      rw [if_pos rfl]
  · unfold putF at hq
    split at hq
    · rename_i hk
      cases hq
      obtain ⟨i, hi, e1⟩ := hs.2 n (by omega)
      rw [snocA_at] at e1
      exact ⟨i, hi, by rw [e1], by rw [e1]; exact hk.symm⟩
    · obtain ⟨j, hj, e1, e2⟩ := h.back q b' hq
      obtain ⟨i, hi, e3⟩ := hs.2 j (by omega)
      rw [snocA_lt A _ hj] at e3
      exact ⟨i, hi, by rw [e3]; exact e1, by rw [e3]; exact e2⟩
  · obtain ⟨j, hj, e1⟩ := hs.1 i hi
    rw [e1]
    rcases Nat.lt_or_ge j n with hl | hl
    · rw [snocA_lt A _ hl]; exact h.wf j hl
    · obtain rfl : j = n := by omega
      rw [snocA_at]; exact hw
  · rcases hsub k hk with x | x
    · exact h.low k x
    · omega
  · have c1 : Chg (allB g mb v n A) w w1 := Chg.of_below hb (fun k hk h' => by omega)
    have c2 : Chg (allB g mb v n A) w w2 := c1.trans hc (fun k _ x => .inr (.inl x))
    refine c2.trans hP.chg (fun k hk x => ?_)
    rcases x with x | x | x
    · exact .inl x
    · have : k = nb := x
      omega
    · exact .inr (.inr x)

theorem mapNotNil (mb : Nat) (w : World) : (binOp .eql 49 (.map (some mb)) (.map none)).run Try.prog w = .ok (.bool false) w := by kernel_rfl
theorem HO.chg {S : Nat → Prop} {w w' : World} {g : Nat} {v m : Value} {n : Nat} {A : Nat → It} (h : HO w g v m n A) (hc : Chg S w w') (hg : ¬ S g) (hn : ∀ k, OB v n A k → ¬ S k) : HO w' g v m n A := by
  refine ⟨h.q.chg hc hg, ?_⟩
  rcases h.l with e | ⟨b, cap, rfl, l⟩
  · exact .inl e
  · exact .inr ⟨b, cap, rfl, l.chg hc (hn _ (.inl rfl)) (fun i hi => hn _ (.inr ⟨i, hi, rfl⟩))⟩
def itemO (e : Ent) : Obj := .cells #[.int .i64 e.at_, .int .i64 e.kind, .int .u64 e.num, .int .i64 e.node, .int .i64 0] 59

/-- Behind the map's store. -/
theorem set_mid {B : Nat} {w W0 : World} {g N n : Nat} {A : Nat → It} {v : Value} {mb : Nat} {f : Key → Option Nat} {e : Ent} (h : QAt B w g N n A v mb f) (hB : B ≤ w.heap.size) (hf : f e.key = none) (hw : e.key.wf) (hN : N < 1000000) (hn : n < 1000000) (hb0 : Below w.heap.size w W0) :
    ∃ w2, (Instr.mapUpdate 49 (.map (some mb)) (keyV e.key) (iptr W0.heap.size)).run Try.prog (W0.alloc (itemO e)).drew.drew = .ok () w2 ∧ (g ≠ mb ∧ mb < w.heap.size ∧ Chg (fun k => k = mb) (W0.alloc (itemO e)).drew.drew w2) ∧
      Calls Try.prog 17 #[qp g, .iface 56 (iptr W0.heap.size)] w2 fun r w' => r = .returned (.tuple #[]) ∧ ∃ A' v' nb, Laid B w w' g N n A A' v v' mb f e nb := by
  have hle := Below.size hb0
  have hbX : Below w.heap.size w (W0.alloc (itemO e)).drew.drew := (((hb0.alloc hle _)).drew).drew
  have hX := h.below hbX
  have hsz : (W0.alloc (itemO e)).drew.drew.heap.size = W0.heap.size + 1 := by show (W0.alloc (itemO e)).heap.size = _; simp
  obtain ⟨w2, hr, hm, hc⟩ := hX.map.lay (by unfold maxLen; omega) e.key hw W0.heap.size
  obtain ⟨hg, hob⟩ := hX.mapNe
  have hlt := h.lt
  have hmb := hlt mb (.inr (.inl rfl))
  have hnb : Blk w2 W0.heap.size (icells e 0) 59 := Blk.chg (a := (W0.alloc (itemO e)).drew.drew) (Blk.new W0 _ _) hc (fun x => by have : W0.heap.size = mb := x; omega)
  refine ⟨w2, hr, ⟨hg, hmb, hc⟩, ?_⟩
  refine (heapPush_any g v (.map (some mb)) n A W0.heap.size e 0 w2 (hX.ho.chg hc hg (fun k hk x => by have : k = mb := x; subst this; exact hob hk)) hX.heap hnb (fun i hi x => by have := hlt _ (.inr (.inr (.inr ⟨i, hi, rfl⟩))); omega) (by omega)).mono ?_
  rintro r w' ⟨rfl, b, cap, A', hP⟩
  refine ⟨rfl, A', _, W0.heap.size, laid_of h hB hf hw (by omega) hbX hc hm hP ?_⟩
  rcases hP.row with x | x
  · exact .inl (.inl x)
  · have := hc.size
    exact .inr (by omega)

set_option maxHeartbeats 4000000 in
theorem set_new {B : Nat} {w : World} {g N n : Nat} {A : Nat → It} {v : Value} {mb : Nat} {f : Key → Option Nat} (e : Ent) (h : QAt B w g N n A v mb f) (hB : B ≤ w.heap.size) (hf : f e.key = none) (hw : e.key.wf) (hN : N < 1000000) (hn : n < 1000000) :
    Calls Try.prog 10 #[iptr g, .int .i64 e.kind, .agg #[.int .u64 e.num, .int .i64 e.node], .int .i64 e.at_] w fun r w' => r = .returned (.tuple #[]) ∧ ∃ A' v' nb, Laid B w w' g N n A A' v v' mb f e nb := by
  have H : Hid (QAt B w g N n A v mb f) := h
  have HF : Hid (B ≤ w.heap.size ∧ f e.key = none ∧ e.key.wf) := ⟨hB, hf, hw⟩
  have hb0 : Below w.heap.size w ((w.alloc (.cells #[.int .u64 e.num, .int .i64 e.node] 29)).alloc (.cells #[.int .i64 e.kind, .int .u64 e.num, .int .i64 e.node] 55)) := ((Below.refl _ _).alloc (Nat.le_refl _) _).alloc (by simp) _
  have hsz0 : ((w.alloc (.cells #[.int .u64 e.num, .int .i64 e.node] 29)).alloc (.cells #[.int .i64 e.kind, .int .u64 e.num, .int .i64 e.node] 55)).heap.size = w.heap.size + 2 := by simp
  have k55 := Blk.new (w.alloc (.cells #[.int .u64 e.num, .int .i64 e.node] 29)) #[.int .i64 e.kind, .int .u64 e.num, .int .i64 e.node] 55
  have k29 := (Blk.new w #[.int .u64 e.num, .int .i64 e.node] 29).alloc (.cells #[.int .i64 e.kind, .int .u64 e.num, .int .i64 e.node] 55)
  rw [show (w.alloc (.cells #[.int .u64 e.num, .int .i64 e.node] 29)).heap.size = w.heap.size + 1 by simp] at k55
  have HK : Hid (_ ∧ _) := ⟨k55, k29⟩
  have h0 := h.below hb0
  have HB0 : Hid (_ ∧ _) := ⟨hb0, hsz0⟩
  clear h hB hf hw
  unfold iptr
  go_enter Try.func10, Try.ntmps10
  clear hb0 hsz0
  have q1 : ((w.alloc (.cells #[.int .u64 e.num, .int .i64 e.node] 29)).alloc (.cells #[.int .i64 e.kind, .int .u64 e.num, .int .i64 e.node] 55)).drew.cell? ⟨g, 1, none⟩ = some (.map (some mb)) := h0.ho.q.cell 1
  have j0 : ((w.alloc (.cells #[.int .u64 e.num, .int .i64 e.node] 29)).alloc (.cells #[.int .i64 e.kind, .int .u64 e.num, .int .i64 e.node] 55)).drew.cell? ⟨w.heap.size + 1, 0, none⟩ = some (.int .i64 e.kind) := k55.cell 0
  have j1 : ((w.alloc (.cells #[.int .u64 e.num, .int .i64 e.node] 29)).alloc (.cells #[.int .i64 e.kind, .int .u64 e.num, .int .i64 e.node] 55)).drew.cell? ⟨w.heap.size + 1, 1, none⟩ = some (.int .u64 e.num) := k55.cell 1
  have j2 : ((w.alloc (.cells #[.int .u64 e.num, .int .i64 e.node] 29)).alloc (.cells #[.int .i64 e.kind, .int .u64 e.num, .int .i64 e.node] 55)).drew.cell? ⟨w.heap.size + 1, 2, none⟩ = some (.int .i64 e.node) := k55.cell 2
  have ha := (show GMap ((w.alloc (.cells #[.int .u64 e.num, .int .i64 e.node] 29)).alloc (.cells #[.int .i64 e.kind, .int .u64 e.num, .int .i64 e.node] 55)).drew mb N f from h0.map).ask e.key HF.out.2.2
  rw [HF.out.2.1] at ha
  have HA : Hid (_ = _) := ha
  have j3 : ((w.alloc (.cells #[.int .u64 e.num, .int .i64 e.node] 29)).alloc (.cells #[.int .i64 e.kind, .int .u64 e.num, .int .i64 e.node] 55)).drew.cell? ⟨w.heap.size, 0, none⟩ = some (.int .u64 e.num) := k29.cell 0
  have j4 : ((w.alloc (.cells #[.int .u64 e.num, .int .i64 e.node] 29)).alloc (.cells #[.int .i64 e.kind, .int .u64 e.num, .int .i64 e.node] 55)).drew.cell? ⟨w.heap.size, 1, none⟩ = some (.int .i64 e.node) := k29.cell 1
  have H0 : Hid (QAt B _ g N n A v mb f) := h0
  clear ha h0 k55 k29
  go_wp2_with fail
  generalize hW0 : ((w.alloc (.cells #[.int .u64 e.num, .int .i64 e.node] 29)).alloc (.cells #[.int .i64 e.kind, .int .u64 e.num, .int .i64 e.node] 55)) = W0 at *
  clear hW0
  have l0 := cellW q1
  have l1 := cellW j0
  have l2 := cellW j1
  have l3 := cellW j2
  haveI nA := cls_one W0.drew
  refine wp_region_seg (fun x => x = W0.drew) (by kernel_rfl) ?_
  refine wpAnyH_seg (by kernel_rfl) (fun _ _ _ h => h) [0, 1, 2, 3, 4] 6 _ _ _ rfl (by kernel_rfl) ?_
  simp only [opsAt, List.getElem?_toArray, List.getElem?_cons_zero, List.getElem?_cons_succ, List.cons_append, List.nil_append]
  repeat (go_big_quiet_step (fail))
  refine wpQuiet_nil ?_
  refine wpAnyH_all (rs := [5]) (fuel := 5) (by kernel_rfl) (by simp) fun j hj => ?_
  obtain rfl : j = 5 := by simpa using hj
  refine wpOp_value 23 rfl (by kernel_rfl) rfl (exec_ask rfl rfl rfl HA.out) ?_
  refine ⟨rfl, ?_⟩
  simp only [Act.put, List.setIfInBounds_toArray, List.set_cons_succ, List.set_cons_zero]
  refine wpAnyH_seg (by kernel_rfl) (fun _ _ _ h => h) [6, 7, 8, 9, 10] 0 _ _ _ rfl (by kernel_rfl) ?_
  unfold askV
  simp only [opsAt, List.getElem?_toArray, List.getElem?_cons_zero, List.getElem?_cons_succ, List.cons_append, List.nil_append]
  repeat (go_big_quiet_step (fail))
  refine wpQuiet_nil ?_
  clear l0 l1 l2 l3 nA
  refine wpAnyH_done (by kernel_rfl) (NoPanic.normal ?_) 0
  have hnn := mapNotNil mb W0.drew
  obtain ⟨w2, hlay, ⟨hgm, hml, hcm⟩, hpush⟩ := set_mid H.out HF.out.1 HF.out.2.1 HF.out.2.2 hN hn HB0.out.1
  have HLay : Hid (_ = _) := hlay
  have HPush : Hid (Calls _ _ _ _ _) := hpush
  have m0 : (W0.alloc (itemO e)).drew.drew.cell? ⟨g, 1, none⟩ = some (.map (some mb)) := (H0.out.ho.q.alloc _).cell 1
  have m1 : (W0.alloc (itemO e)).drew.drew.cell? ⟨w.heap.size + 1, 0, none⟩ = some (.int .i64 e.kind) := (HK.out.1.alloc _).cell 0
  have m2 : (W0.alloc (itemO e)).drew.drew.cell? ⟨w.heap.size + 1, 1, none⟩ = some (.int .u64 e.num) := (HK.out.1.alloc _).cell 1
  have m3 : (W0.alloc (itemO e)).drew.drew.cell? ⟨w.heap.size + 1, 2, none⟩ = some (.int .i64 e.node) := (HK.out.1.alloc _).cell 2
  clear hlay hpush HA H0 HK
  have HCM : Hid (Chg (fun k => k = mb) (W0.alloc (itemO e)).drew.drew w2) := hcm
  have l0 := cellC (S := fun k => k = mb) m0 hgm
  have l1 := cellC (S := fun k => k = mb) m1 (fun x => by have : w.heap.size + 1 = mb := x; omega)
  have l2 := cellC (S := fun k => k = mb) m2 (fun x => by have : w.heap.size + 1 = mb := x; omega)
  have l3 := cellC (S := fun k => k = mb) m3 (fun x => by have : w.heap.size + 1 = mb := x; omega)
  clear m0 m1 m2 m3 hcm hml hgm
  haveI nB := cls_chg (fun k => k = mb) (W0.alloc (itemO e)).drew.drew
  unfold itemO at *
  unfold keyV Ent.key at HLay
  simp only at HLay
  go_wp2_with fail
  refine wp_region_seg (Chg (fun k => k = mb) (W0.alloc (.cells #[.int .i64 e.at_, .int .i64 e.kind, .int .u64 e.num, .int .i64 e.node, .int .i64 0] 59)).drew.drew) (by kernel_rfl) ?_
  refine wpAnyH_seg (by kernel_rfl) (fun _ _ _ h => h) [0, 1, 2, 3, 4, 5] 1 _ _ _ (Chg.refl _ _) (by kernel_rfl) ?_
  simp only [opsAt, List.getElem?_toArray, List.getElem?_cons_zero, List.getElem?_cons_succ, List.cons_append, List.nil_append]
  repeat (go_big_quiet_step (fail))
  refine wpQuiet_nil ?_
  clear l0 l1 l2 l3 nB
  refine wpAnyH_all (rs := [6]) (fuel := 0) (by kernel_rfl) (by simp) fun j hj => ?_
  obtain rfl : j = 6 := by simpa using hj
  refine wpOp_lay rfl (by kernel_rfl) rfl rfl rfl rfl rfl HLay.out ?_
  refine ⟨HCM.out, ?_⟩
  refine wpAnyH_done (by kernel_rfl) (NoPanic.normal ?_) 0
  clear q1 j0 j1 j2 j3 j4 hnn HLay HCM
  unfold qp iptr at HPush
  go_wp2_with fail
  refine Calls.mono HPush.out ?_
  rintro r w3 ⟨rfl, hL⟩
  have HLd : Hid (∃ A' v' nb, Laid B w w3 g N n A A' v v' mb f e nb) := hL
  clear hL HPush
  go_wp2_with fail
  go_end0
  exact ⟨rfl, HLd.out⟩
end Go.Proofs.Ytgoejoiomjmfaaa
