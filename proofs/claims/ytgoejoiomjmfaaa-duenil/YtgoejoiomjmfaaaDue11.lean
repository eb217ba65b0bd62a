/- New; remove. Own lemmas, no statement. -/
import Derived.Test.YtgoejoiomjmfaaaDue10
namespace Go.Proofs.Ytgoejoiomjmfaaa
open Go.ChangeShapes Go.WideShapes Go.ChangeAt Go.RowKit

theorem new_any (w : World) : Calls Try.prog 9 #[] w fun e w' => ∃ g mb, e = .returned (iptr g) ∧ QAt w.heap.size w' g 0 0 (fun _ => ⟨0, ⟨0, 0, 0, 0⟩⟩) (.slice none 0 0) mb (fun _ => none) ∧ Below w.heap.size w w' := by
  have hmm := @run_makeMap Try.prog
  go_enter Try.func9, Try.ntmps9
  go_wp2_with fail
  go_ret
  have e1 : (w.alloc (.map #[] 0)).heap.size = w.heap.size + 1 := by simp
  refine ⟨w.heap.size + 1, w.heap.size, rfl, ⟨⟨?_, .inl ⟨rfl, rfl⟩⟩, fun i _ h => absurd h (by omega), ?_, fun i h => absurd h (by omega), fun q b h => (by cases h), fun i h => absurd h (by omega), ?_⟩, ((Below.refl _ _).alloc (Nat.le_refl _) _).alloc (by simp) _⟩
  · have := Blk.new (w.alloc (.map #[] 0)) #[.slice none 0 0, .map (some w.heap.size)] 53
    rw [e1] at this
    exact this
  · exact (GMap.made w).chg (S := fun _ => False) ((Chg.refl _ _).alloc _) (fun h => h)
  · rintro k (rfl | rfl | h)
    · omega
    · omega
    · rcases h with h | ⟨i, hi, _⟩
      · cases h
      · omega

section
variable {P : Program} {ops : Array Oper} {Q : Exit → Act → World → Prop} {K : Act → World → Prop} {i : Nat} {o : Oper} {a : Act} {w w' : World}
theorem wpOp_value {v : Value} (d : Tmp) (ho : ops[i]? = some o) (hw : Region.wanted o (yielded ops a.tmps) = true) (hd : o.dst = some d) (hx : (execOp a.eval o).run P w = .ok (.value v) w') (h : K (a.put (some d) v) w') : wpOp P ops Q i K a w := by
  unfold wpOp
  simp only [ho, hw, if_true]
  refine .inl ?_
  unfold Oper.wp
  rw [hx]
  simp only [Oper.upon]
  rw [hd]
  exact h
theorem wpOp_void {v : Value} (ho : ops[i]? = some o) (hw : Region.wanted o (yielded ops a.tmps) = true) (hd : o.dst = none) (hx : (execOp a.eval o).run P w = .ok (.value v) w') (h : K a w') : wpOp P ops Q i K a w := by
  unfold wpOp
  simp only [ho, hw, if_true]
  refine .inl ?_
  unfold Oper.wp
  rw [hx]
  simp only [Oper.upon]
  rw [hd]
  exact h
theorem exec_load1 {ρ : Operand → Value} {ty : TypeId} {x : Operand} {b p : Nat} {v : Value} {d : TypeDesc} (ho : o.op = .load ty x) (hx : ρ x = .pointer (some ⟨b, p, none⟩)) (hu : P.underlying ty = some d) (hd : d.isRow = false) (hc : w.cell? ⟨b, p, none⟩ = some v) : (execOp ρ o).run P w = .ok (.value v) w := by
  have hagg : (isAgg ty).run P w = .ok false w := by
    unfold isAgg
    rw [Sem.run_bind, run_underlying hu w]
    cases d <;> simp_all [TypeDesc.isRow]
  unfold execOp
  simp only [ho, hx, Instr.loadAt, Instr.sureAddr, Sem.run_bind, Sem.run_pure, Result.andThen_ok]
  simp [loadVar, Sem.run_bind, hagg, hc]
end
theorem cls_any (w : World) : Nonempty (Cls (fun _ : World => True)) := ⟨⟨w, trivial⟩⟩

def allB (g mb : Nat) (v : Value) (n : Nat) (A : Nat → It) (k : Nat) : Prop := k = g ∨ k = mb ∨ OB v n A k

theorem QAt.line {B : Nat} {w : World} {g N n : Nat} {A : Nat → It} {v : Value} {mb : Nat} {f : Key → Option Nat} (h : QAt B w g N (n + 1) A v mb f) : ∃ b cap, v = lineV b (n + 1) cap ∧ HL w g b (n + 1) cap (.map (some mb)) A := by
  rcases h.ho.l with ⟨_, h0⟩ | ⟨b, cap, rfl, l⟩
  · omega
  · exact ⟨b, cap, rfl, h.ho.q, l⟩
theorem QAt.mapNe {B : Nat} {w : World} {g N n : Nat} {A : Nat → It} {v : Value} {mb : Nat} {f : Key → Option Nat} (h : QAt B w g N n A v mb f) : g ≠ mb ∧ ¬ OB v n A mb := by
  refine ⟨(h.map.ne h.ho.q).symm, ?_⟩
  rintro (e | ⟨i, hi, e⟩)
  · obtain ⟨cs, hc⟩ := h.ho.l.rowBlk e
    exact h.map.ne hc rfl
  · exact h.map.ne (h.ho.l.item hi) e

/-- What is left when one is removed. -/
structure Gone (B : Nat) (w w' : World) (g N n i : Nat) (A A' : Nat → It) (v v' : Value) (mb : Nat) (f : Key → Option Nat) : Prop where
  q : QAt B w' g N n A' v' mb (delF f (A i).e.key)
  lost : Lost n i A A'
  item : ∃ p, Blk w' (A i).blk (icells (A i).e p) 59
  chg : Chg (allB g mb v (n + 1) A) w w'
  sub : ∀ k, allB g mb v' n A' k → allB g mb v (n + 1) A k

theorem gone_of {B : Nat} {w w1 w2 : World} {g N n i b cap : Nat} {A A' : Nat → It} {mb : Nat} {f : Key → Option Nat} (h : QAt B w g N (n + 1) A (lineV b (n + 1) cap) mb f) (hi : i ≤ n)
    (hR : Removed w w1 g b n cap (.map (some mb)) i A A') (hm : GMap w2 mb N (delF f (A i).e.key)) (hc : Chg (fun k => k = mb) w1 w2) : Gone B w w2 g N n i A A' (lineV b (n + 1) cap) (lineV b n cap) mb f := by
  obtain ⟨hg, hob⟩ := h.mapNe
  have hL : ∀ k, LineB b (n + 1) A k → OB (lineV b (n + 1) cap) (n + 1) A k := fun k hk => by
    rcases hk with rfl | hk
    · exact .inl rfl
    · exact .inr hk
  have hsub : ∀ k, OB (lineV b n cap) n A' k → OB (lineV b (n + 1) cap) (n + 1) A k := fun k hk => by
    rcases hk with e | ⟨j, hj, e⟩
    · exact .inl e
    · obtain ⟨l, hl, _, e'⟩ := hR.lost.of j hj
      exact .inr ⟨l, hl, by rw [e, e']⟩
  have hmb : ¬ mb = b := fun e => hob (.inl (by rw [e]; rfl))
  have hmi : ∀ j, j < n → ¬ (A' j).blk = mb := fun j hj e => hob (hsub mb (.inr ⟨j, hj, e.symm⟩))
  refine ⟨⟨(HL.ho ⟨hR.hl.q.chg hc hg, hR.hl.l.chg hc (fun e => hmb e.symm) hmi⟩), hR.heap, hm, fun j hj => ?_, fun q b' hq => ?_, fun j hj => ?_, fun k hk => ?_⟩, hR.lost, ?_, ?_, fun k hk => ?_⟩
  · obtain ⟨l, hl, hne, e⟩ := hR.lost.of j hj
    rw [e]
    unfold delF
    rw [if_neg, h.has l hl]
    intro ek
    have h1 := h.has l hl
    have h2 := h.has i (by omega)
    rw [ek, h2] at h1
    simp only [Option.some.injEq] at h1
    obtain ⟨b1, cap1, e1, hl1⟩ := h.line
    exact hne (hl1.l.inj l i hl (by omega) h1.symm)
  · unfold delF at hq
    split at hq
    · cases hq
    · rename_i hne
      obtain ⟨l, hl, e1, e2⟩ := h.back q b' hq
      have hli : l ≠ i := fun e => by subst e; exact hne e2.symm
      obtain ⟨k, hk, e3⟩ := hR.lost.to l hl hli
      exact ⟨k, hk, by rw [e3]; exact e1, by rw [e3]; exact e2⟩
  · obtain ⟨l, hl, hne, e⟩ := hR.lost.of j hj
    rw [e]
    exact h.wf l hl
  · refine h.low k ?_
    rcases hk with e | e | e
    · exact .inl e
    · exact .inr (.inl e)
    · exact .inr (.inr (hsub k e))
  · obtain ⟨p, hp⟩ := hR.item
    exact ⟨p, hp.chg hc (fun e => hob (.inr ⟨i, by omega, e.symm⟩))⟩
  · have c1 : Chg (allB g mb (lineV b (n + 1) cap) (n + 1) A) w w1 := hR.chg.mono (fun k _ hk => by
      rcases hk with e | e
      · exact .inl e
      · exact .inr (.inr (hL k e)))
    exact c1.trans hc (fun k _ e => .inr (.inl e))
  · rcases hk with e | e | e
    · exact .inl e
    · exact .inr (.inl e)
    · exact .inr (.inr (hsub k e))

theorem exec_delete {ρ : Operand → Value} {o : Oper} {w w' : World} {s x : Operand} {v vx v' : Value} (ho : o.op = .call { callee := .builtin .delete, args := #[s, x], argTypes := #[49, 55] }) (hs : ρ s = v) (hx : ρ x = vx) (hr : (Builtin.delete_ #[49, 55] o.type #[v, vx]).run Try.prog w = .ok v' w') : (execOp ρ o).run Try.prog w = .ok (.value v') w' := by
  unfold execOp
  simp only [ho, resolve, invoke, builtin, Sem.run_bind, Sem.run_pure, Result.andThen_ok, List.map_toArray, List.map_cons, List.map_nil, hs, hx, hr]

set_option maxHeartbeats 2000000 in
theorem remove_any {B : Nat} {w : World} {g N n : Nat} {A : Nat → It} {v : Value} {mb : Nat} {f : Key → Option Nat} (i : Nat) (h : QAt B w g N (n + 1) A v mb f) (hi : i ≤ n) (hn : n < 4611686018427387903) :
    Calls Try.prog 18 #[iptr g, iptr (A i).blk] w fun e w' => e = .returned (.tuple #[]) ∧ ∃ A' v', Gone B w w' g N n i A A' v v' mb f := by
  obtain ⟨b, cap, rfl, hl⟩ := h.line
  have H : Hid (QAt B w g N (n + 1) A (lineV b (n + 1) cap) mb f) := h
  have c4 : w.drew.cell? ⟨(A i).blk, 4, none⟩ = some (.int .i64 (i : Int)) := (hl.l.item i (by omega)).cell 4
  have HC : Hid (w.drew.cell? ⟨(A i).blk, 4, none⟩ = some (.int .i64 (i : Int))) := c4
  have hr := heapRemove_any g b n cap (.map (some mb)) A i w.drew hl.drew h.heap hi hn
  have HR : Hid (Calls _ _ _ _ _) := hr
  clear h hl c4 hr
  unfold qp at HR
  unfold iptr
  go_enter Try.func18, Try.ntmps18
  haveI nA := cls_any w
  go_wp2_with fail
  refine wp_region_seg (fun _ => True) (by kernel_rfl) ?_
  refine wpAnyH_seg (by kernel_rfl) (fun _ _ _ h => h) [0, 1, 2, 3, 4, 5, 6] 2 _ _ _ trivial (by kernel_rfl) ?_
  simp only [opsAt, List.getElem?_toArray, List.getElem?_cons_zero, List.getElem?_cons_succ, List.cons_append, List.nil_append]
  repeat (go_big_quiet_step (fail))
  refine wpQuiet_nil ?_
  clear nA
  refine wpAnyH_all (rs := [7]) (fuel := 1) (by kernel_rfl) (by simp) fun j hj => ?_
  obtain rfl : j = 7 := by simpa using hj
  refine wpOp_value 11 rfl (by kernel_rfl) rfl (exec_load1 rfl rfl Try.underlying3 rfl HC.out) ?_
  refine ⟨trivial, ?_⟩
  simp only [Act.put, List.setIfInBounds_toArray, List.set_cons_succ, List.set_cons_zero]
  refine wpAnyH_all (rs := [8]) (fuel := 0) (by kernel_rfl) (by simp) fun j hj => ?_
  obtain rfl : j = 8 := by simpa using hj
  refine wpOp_enter 12 rfl (by kernel_rfl) rfl (f := 21) (args := #[.iface 61 (.pointer (some ⟨g, 0, none⟩)), .int .i64 (i : Int)]) (by kernel_rfl) HR.out ?_
  rintro e w1 ⟨rfl, A', hR0⟩
  have hR : Removed w w1 g b n cap (.map (some mb)) i A A' := ⟨hR0.hl, hR0.heap, hR0.lost, hR0.item, ⟨hR0.chg.os, hR0.chg.tape, hR0.chg.output, hR0.chg.size, hR0.chg.block⟩⟩
  have HRm : Hid (Removed w w1 g b n cap (.map (some mb)) i A A') := hR
  obtain ⟨hg, hob⟩ := H.out.mapNe
  have hmq : ¬ QB g b (n + 1) A mb := by
    rintro (e | e | e)
    · exact hg e.symm
    · exact hob (.inl (by rw [e]; rfl))
    · exact hob (.inr e)
  have hmap : GMap w1 mb N f := H.out.map.chg hR.chg hmq
  have hkw := H.out.wf i (by omega)
  obtain ⟨w2, hd, hm2, hc2⟩ := (show GMap w1.drew mb N f from hmap).drop (A i).e.key hkw 0
  have HD : Hid ((Builtin.delete_ #[49, 55] 0 #[.map (some mb), keyV (A i).e.key]).run Try.prog w1.drew = .ok (.tuple #[]) w2) := hd
  have HC2 : Hid (Chg (fun k => k = mb) w1.drew w2) := hc2
  have HG : Hid (Gone B w w2 g N n i A A' (lineV b (n + 1) cap) (lineV b n cap) mb f) := gone_of H.out hi HRm.out hm2 ⟨hc2.os, hc2.tape, hc2.output, hc2.size, hc2.block⟩
  obtain ⟨p, hp⟩ := hR.item
  have hib : ¬ (A i).blk = mb := fun e => hob (.inr ⟨i, by omega, e.symm⟩)
  have q1 : w1.drew.cell? ⟨g, 1, none⟩ = some (.map (some mb)) := hR.hl.q.cell 1
  have i1 : w1.drew.cell? ⟨(A i).blk, 1, none⟩ = some (.int .i64 (A i).e.kind) := hp.cell 1
  have i2 : w1.drew.cell? ⟨(A i).blk, 2, none⟩ = some (.int .u64 (A i).e.num) := hp.cell 2
  have i3 : w1.drew.cell? ⟨(A i).blk, 3, none⟩ = some (.int .i64 (A i).e.node) := hp.cell 3
  clear hR0 hR hd hm2 hc2 hmap hkw hp hmq hob HRm HR HC H
  unfold keyV Ent.key at HD
  simp only at HD
  generalize (A i).blk = gi at *
  generalize (A i).e = ei at *
  refine ⟨_, rfl, trivial, ?_⟩
  simp only [Act.put, List.setIfInBounds_toArray, List.set_cons_succ, List.set_cons_zero]
  refine wpAnyH_done (by kernel_rfl) (NoPanic.normal ?_) 0
  have k0 := cellC (S := fun k => k = mb) q1 hg
  have k1 := cellC (S := fun k => k = mb) i1 hib
  have k2 := cellC (S := fun k => k = mb) i2 hib
  have k3 := cellC (S := fun k => k = mb) i3 hib
  clear q1 i1 i2 i3
  haveI nB := cls_chg (fun k => k = mb) w1.drew
  go_wp2_with fail
  refine wp_region_seg (Chg (fun k => k = mb) w1.drew) (by kernel_rfl) ?_
  refine wpAnyH_seg (by kernel_rfl) (fun _ _ _ h => h) [0, 1, 2, 3, 4, 5, 6, 7, 8, 9, 10, 11, 12, 13, 14] 1 _ _ _ (Chg.refl _ _) (by kernel_rfl) ?_
  simp only [opsAt, List.getElem?_toArray, List.getElem?_cons_zero, List.getElem?_cons_succ, List.cons_append, List.nil_append]
  repeat (go_big_quiet_step (fail))
  refine wpQuiet_nil ?_
  clear k0 k1 k2 k3 nB
  refine wpAnyH_all (rs := [15]) (fuel := 0) (by kernel_rfl) (by simp) fun j hj => ?_
  obtain rfl : j = 15 := by simpa using hj
  refine wpOp_void rfl (by kernel_rfl) rfl (exec_delete rfl rfl rfl HD.out) ?_
  refine ⟨HC2.out, ?_⟩
  refine wpAnyH_done (by kernel_rfl) (NoPanic.normal ?_) 0
  go_wp2_with fail
  go_end0
  exact ⟨rfl, A', _, HG.out⟩
end Go.Proofs.Ytgoejoiomjmfaaa
