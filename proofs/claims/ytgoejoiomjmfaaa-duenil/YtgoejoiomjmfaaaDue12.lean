/- Next. Own lemmas, no statement. -/
import Derived.Test.YtgoejoiomjmfaaaDue11
import Derived.Laws.ResultCell
namespace Go.Proofs.Ytgoejoiomjmfaaa
open Go.ChangeShapes Go.WideShapes Go.ChangeAt Go.RowKit

def noEnt : Ent := ⟨0, 0, 0, 0⟩
theorem QAt.chg {S : Nat → Prop} {B : Nat} {w w' : World} {g N n : Nat} {A : Nat → It} {v : Value} {mb : Nat} {f : Key → Option Nat} (h : QAt B w g N n A v mb f) (hc : Chg S w w') (hn : ∀ k, allB g mb v n A k → ¬ S k) : QAt B w' g N n A v mb f := by
  refine ⟨⟨h.ho.q.chg hc (hn _ (.inl rfl)), ?_⟩, h.heap, h.map.chg hc (hn _ (.inr (.inl rfl))), h.has, h.back, h.wf, h.low⟩
  rcases h.ho.l with e | ⟨b, cap, rfl, l⟩
  · exact .inl e
  · exact .inr ⟨b, cap, rfl, l.chg hc (hn _ (.inr (.inr (.inl rfl)))) (fun i hi => hn _ (.inr (.inr (.inr ⟨i, hi, rfl⟩))))⟩
theorem QAt.lt {B : Nat} {w : World} {g N n : Nat} {A : Nat → It} {v : Value} {mb : Nat} {f : Key → Option Nat} (h : QAt B w g N n A v mb f) : ∀ k, allB g mb v n A k → k < w.heap.size := by
  rintro k (rfl | rfl | e | ⟨i, hi, rfl⟩)
  · exact h.ho.q.lt
  · exact h.map.lt
  · obtain ⟨cs, hc⟩ := h.ho.l.rowBlk e
    exact hc.lt
  · exact (h.ho.l.item hi).lt
theorem QAt.below {B : Nat} {w w' : World} {g N n : Nat} {A : Nat → It} {v : Value} {mb : Nat} {f : Key → Option Nat} (h : QAt B w g N n A v mb f) (k : Below w.heap.size w w') : QAt B w' g N n A v mb f :=
  h.chg (S := fun k => w.heap.size ≤ k) (Chg.of_below k fun _ _ h => h) (fun k hk => by have := h.lt k hk; show ¬ _ ≤ _; omega)

theorem results_next {fn : Func} {p u : Tmp} {P : Program} {ty : TypeId} (h : fn.results = #[.cell p ty, .tmp u]) (tmps : Array Value) (w : World) (r : Nat) (t : TypeId) (cs : Array Value) (x : Value) (d : TypeDesc) (hp : tmps.getD p undef = .pointer (some ⟨r, 0, none⟩)) (hu' : tmps.getD u undef = x) (hg : Blk w r cs t)
    (hu : P.underlying ty = some d) (hd : (match d with | .struct _ | .array _ _ => true | _ => false) = true) (hi : (P.info? ty).map (·.size) = some cs.size) : (results fn tmps).run P w = .ok (.tuple #[.agg cs, x]) w := by
  rw [results_cell_tmp h, hp, hu']
  simp [asAddr, run_loadVar_row w r t ty cs (0, 0) d hg hu hd hi]

set_option maxHeartbeats 1000000 in
theorem next_empty {B : Nat} {w : World} {g N : Nat} {A : Nat → It} {v : Value} {mb : Nat} {f : Key → Option Nat} (h : QAt B w g N 0 A v mb f) (now : Int) :
    Calls Try.prog 14 #[iptr g, .int .i64 now] w fun e w' => e = .returned (.tuple #[entV noEnt, .bool false]) ∧ Below w.heap.size w w' := by
  have HL0 : Hid (∀ w', Below w.heap.size w w' → Calls _ _ _ w' _) := fun w' hb => len_any (h.below hb)
  clear h
  unfold iptr at *
  go_enter Try.func14, Try.ntmps14
  go_wp2_with fail
  refine Calls.mono (HL0.out _ ((Below.refl _ _).alloc (Nat.le_refl _) _)) ?_
  rintro e w' ⟨rfl, hw⟩; rw [hw]; clear hw w'
  go_wp2_with fail
  refine bodyPost_ret (results_next (ty := 34) rfl _ _ w.heap.size 34 #[.int .i64 0, .int .i64 0, .int .u64 0, .int .i64 0] (.bool false) _ rfl rfl (Blk.new w _ _) Try.underlying34 rfl (by kernel_rfl)) rfl ?_
  exact ⟨rfl, (Below.refl _ _).alloc (Nat.le_refl _) _⟩
set_option maxHeartbeats 1000000 in
theorem next_nil (w : World) (now : Int) :
    Calls Try.prog 14 #[.pointer none, .int .i64 now] w fun e w' => e = .returned (.tuple #[entV noEnt, .bool false]) ∧ Below w.heap.size w w' := by
  go_enter Try.func14, Try.ntmps14
  go_wp2_with fail
  refine Calls.mono (len_nil _) ?_
  rintro e w' ⟨rfl, hw⟩; rw [hw]; clear hw w'
  go_wp2_with fail
  refine bodyPost_ret (results_next (ty := 34) rfl _ _ w.heap.size 34 #[.int .i64 0, .int .i64 0, .int .u64 0, .int .i64 0] (.bool false) _ rfl rfl (Blk.new w _ _) Try.underlying34 rfl (by kernel_rfl)) rfl ?_
  exact ⟨rfl, (Below.refl _ _).alloc (Nat.le_refl _) _⟩

set_option maxHeartbeats 2000000 in
theorem next_take {B : Nat} {w : World} {g N n : Nat} {A : Nat → It} {v : Value} {mb : Nat} {f : Key → Option Nat} (h : QAt B w g N (n + 1) A v mb f) (now : Int) (hnow : (A 0).e.at_ ≤ now) (hn : n < 4611686018427387903) :
    Calls Try.prog 14 #[iptr g, .int .i64 now] w fun e w' => e = .returned (.tuple #[entV (A 0).e, .bool true]) ∧ ∃ A' v', QAt B w' g N n A' v' mb (delF f (A 0).e.key) ∧ Lost n 0 A A' ∧ Chg (allB g mb v (n + 1) A) w w' ∧ ∀ k, allB g mb v' n A' k → allB g mb v (n + 1) A k := by
  have h1 := h.below (w' := w.alloc (.cells #[.int .i64 0, .int .i64 0, .int .u64 0, .int .i64 0] 34)) ((Below.refl _ _).alloc (Nat.le_refl _) _)
  have HL0 : Hid (Calls _ _ _ _ _) := len_any h1
  have HR : Hid (Calls _ _ _ _ _) := remove_any 0 h1 (Nat.zero_le _) hn
  have HLT : Hid (∀ k, allB g mb v (n + 1) A k → k < w.heap.size) := h.lt
  obtain ⟨b, cap, rfl, hl⟩ := h1.line
  have c0 := hl.cell
  have c1 := hl.l.cell (i := 0) (by omega)
  have c2 : (w.alloc (.cells #[.int .i64 0, .int .i64 0, .int .u64 0, .int .i64 0] 34)).cell? ⟨(A 0).blk, 0, none⟩ = some (.int .i64 (A 0).e.at_) := (hl.l.item 0 (by omega)).cell 0
  have hz : ((n : Int) + 1 == 0) = false := by simp; omega
  have hnow' : ¬ now < (A 0).e.at_ := by omega
  have hlen : (0 : Int) < (n : Int) + 1 := by omega
  clear h h1 hl
  unfold iptr at *
  go_enter Try.func14, Try.ntmps14
  go_wp2_with fail
  refine Calls.mono HL0.out ?_
  rintro e w' ⟨rfl, hw⟩; rw [hw]; clear hw w'
  go_wp2_with fail
  refine Calls.mono HR.out ?_
  rintro e w2 ⟨rfl, A', v', hG⟩
  obtain ⟨p, hp⟩ := hG.item
  have hr : Blk w2 w.heap.size #[.int .i64 0, .int .i64 0, .int .u64 0, .int .i64 0] 34 := (Blk.new w _ _).chg hG.chg (fun e => by have := HLT.out _ e; omega)
  have i0 : w2.cell? ⟨(A 0).blk, 0, none⟩ = some (.int .i64 (A 0).e.at_) := hp.cell 0
  have i1 : w2.cell? ⟨(A 0).blk, 1, none⟩ = some (.int .i64 (A 0).e.kind) := hp.cell 1
  have i2 : w2.cell? ⟨(A 0).blk, 2, none⟩ = some (.int .u64 (A 0).e.num) := hp.cell 2
  have i3 : w2.cell? ⟨(A 0).blk, 3, none⟩ = some (.int .i64 (A 0).e.node) := hp.cell 3
  have r0 : w2.cell? ⟨w.heap.size, 0, none⟩ = some (.int .i64 0) := hr.cell 0
  have r1 : w2.cell? ⟨w.heap.size, 1, none⟩ = some (.int .i64 0) := hr.cell 1
  have r2 : w2.cell? ⟨w.heap.size, 2, none⟩ = some (.int .u64 0) := hr.cell 2
  have r3 : w2.cell? ⟨w.heap.size, 3, none⟩ = some (.int .i64 0) := hr.cell 3
  have f0 := hr.frozen 0
  have f1 := hr.frozen 1
  have f2 := hr.frozen 2
  have f3 := hr.frozen 3
  have HG : Hid (Gone B _ w2 g N n 0 A A' _ v' mb f) := hG
  have HRB : Hid (Blk w2 w.heap.size _ 34) := hr
  clear hG hp hr HR HL0 c0 c1 c2
  go_wp2_with fail
  have hb4 := (((HRB.out.set 0 (.int .i64 (A 0).e.at_)).set 1 (.int .i64 (A 0).e.kind)).set 2 (.int .u64 (A 0).e.num)).set 3 (.int .i64 (A 0).e.node)
  refine bodyPost_ret (results_next (ty := 34) rfl _ _ w.heap.size 34 #[.int .i64 (A 0).e.at_, .int .i64 (A 0).e.kind, .int .u64 (A 0).e.num, .int .i64 (A 0).e.node] (.bool true) _ rfl rfl (by simpa using hb4) Try.underlying34 rfl (by kernel_rfl)) rfl ?_
  have hc4 : Chg (fun k => k = w.heap.size) w2 ((((w2.setCell ⟨w.heap.size, 0, none⟩ (.int .i64 (A 0).e.at_)).setCell ⟨w.heap.size, 1, none⟩ (.int .i64 (A 0).e.kind)).setCell ⟨w.heap.size, 2, none⟩ (.int .u64 (A 0).e.num)).setCell ⟨w.heap.size, 3, none⟩ (.int .i64 (A 0).e.node)) :=
    ((((Chg.refl (fun k => k = w.heap.size) w2).setCell ⟨w.heap.size, 0, none⟩ (fun _ => rfl) _).setCell ⟨w.heap.size, 1, none⟩ (fun _ => rfl) _).setCell ⟨w.heap.size, 2, none⟩ (fun _ => rfl) _).setCell ⟨w.heap.size, 3, none⟩ (fun _ => rfl) _
  refine ⟨rfl, A', v', HG.out.q.chg hc4 (fun k hk e => ?_), HG.out.lost, ?_, HG.out.sub⟩
  · subst e
    have hb5 := HRB.out
    rcases hk with e | e | e | ⟨i, hi, e⟩
    · rw [e] at hb5
      exact HG.out.q.ho.q.ne hb5 (by decide) rfl
    · rw [e] at hb5
      exact HG.out.q.map.ne hb5 rfl
    · obtain ⟨cs, hc⟩ := HG.out.q.ho.l.rowBlk e
      exact hc.ne hb5 (by decide) rfl
    · rw [e] at hb5
      exact (HG.out.q.ho.l.item hi).ne hb5 (by decide) rfl
  · have c1 : Chg (allB g mb (lineV b (n + 1) cap) (n + 1) A) w w2 := ((Chg.refl _ w).alloc _).trans HG.out.chg (fun _ _ e => e)
    exact c1.trans hc4 (fun k hk e => by subst e; omega)
end Go.Proofs.Ytgoejoiomjmfaaa
