/- NumElder: the walk of the law's Go text. -/
import Derived.Test.YtopnblhedankcaaElder
import Derived.Test.YtopnblhedankcaaPut
import Derived.Laws.StructEq
import Derived.Test.YtopnblhedankcaaCalm
namespace Go.Proofs.Ytopnblhedankcaa
open Go.ChangeShapes Go.WideShapes Go.ChangeAt Go.RowKit

/-- Three transactions in memory, one behind the other, from block N on. -/
def Six (N : Nat) (x0 y0 x1 y1 x2 y2 : Int) (W : World) : Prop :=
  N + 2 < W.heap.size ∧ W.cell? ⟨N, 0, none⟩ = some (.int .u64 x0) ∧ W.cell? ⟨N, 1, none⟩ = some (.int .i64 y0) ∧ W.cell? ⟨N + 1, 0, none⟩ = some (.int .u64 x1) ∧ W.cell? ⟨N + 1, 1, none⟩ = some (.int .i64 y1) ∧
    W.cell? ⟨N + 1 + 1, 0, none⟩ = some (.int .u64 x2) ∧ W.cell? ⟨N + 1 + 1, 1, none⟩ = some (.int .i64 y2)
theorem Six.below {N : Nat} {x0 y0 x1 y1 x2 y2 : Int} {W W' : World} (h : Six N x0 y0 x1 y1 x2 y2 W) (hb : Below W.heap.size W W') : Six N x0 y0 x1 y1 x2 y2 W' := by
  obtain ⟨h0, h1, h2, h3, h4, h5, h6⟩ := h
  have := hb.size
  refine ⟨by omega, ?_, ?_, ?_, ?_, ?_, ?_⟩ <;> (rw [hb.cell (by show _ < W.heap.size; simp only []; omega)]; assumption)
theorem Six.drew {N : Nat} {x0 y0 x1 y1 x2 y2 : Int} {W : World} (h : Six N x0 y0 x1 y1 x2 y2 W) : Six N x0 y0 x1 y1 x2 y2 W.drew := h
theorem Six.out {N : Nat} {x0 y0 x1 y1 x2 y2 : Int} {W : World} (h : Six N x0 y0 x1 y1 x2 y2 W) : 
  N + 2 < W.heap.size ∧ W.cell? ⟨N, 0, none⟩ = some (.int .u64 x0) ∧ W.cell? ⟨N, 1, none⟩ = some (.int .i64 y0) ∧ W.cell? ⟨N + 1, 0, none⟩ = some (.int .u64 x1) ∧ W.cell? ⟨N + 1, 1, none⟩ = some (.int .i64 y1) ∧
    W.cell? ⟨N + 1 + 1, 0, none⟩ = some (.int .u64 x2) ∧ W.cell? ⟨N + 1 + 1, 1, none⟩ = some (.int .i64 y2) := h

theorem six_start (x0 y0 x1 y1 x2 y2 : Int) (w : World) :
    Six w.heap.size x0 y0 x1 y1 x2 y2 (((w.alloc (.cells #[.int .u64 x0, .int .i64 y0] 32)).alloc (.cells #[.int .u64 x1, .int .i64 y1] 32)).alloc (.cells #[.int .u64 x2, .int .i64 y2] 32)) := by
  refine ⟨by simp, ?_, ?_, ?_, ?_, ?_, ?_⟩
  all_goals go_simp

def SixB (w : World) (x0 y0 x1 y1 x2 y2 : Int) (W : World) : Prop := Six w.heap.size x0 y0 x1 y1 x2 y2 W ∧ Below w.heap.size w W

theorem elder_ways (x0 y0 x1 y1 x2 y2 : Int) (h : ¬ (x0 = x1 ∧ y0 = y1)) :
    (elderB x0 y0 x1 y1 = false ∧ elderB x1 y1 x0 y0 = true) ∨ (elderB x0 y0 x1 y1 = true ∧ elderB x1 y1 x0 y0 = false ∧ elderB x1 y1 x2 y2 = false) ∨
      (elderB x0 y0 x1 y1 = true ∧ elderB x1 y1 x0 y0 = false ∧ elderB x1 y1 x2 y2 = true ∧ elderB x0 y0 x2 y2 = true) := by
  simp only [elderB, decide_eq_true_eq, decide_eq_false_iff_not]
  omega

set_option maxHeartbeats 4000000 in
theorem walk_NumElder (x0 y0 x1 y1 x2 y2 : Int) (w : World) (_w0 : (Lit.int .u64 x0).wf = true ∧ (Lit.int .i64 y0).wf = true) (_w1 : (Lit.int .u64 x1).wf = true ∧ (Lit.int .i64 y1).wf = true) (_w2 : (Lit.int .u64 x2).wf = true ∧ (Lit.int .i64 y2).wf = true) :
    Calls Try.prog 8 #[.agg #[.int .u64 x0, .int .i64 y0], .agg #[.int .u64 x1, .int .i64 y1], .agg #[.int .u64 x2, .int .i64 y2]] w fun e w' => e = .returned (.bool true) ∧ Below w.heap.size w w' := by
  clear _w0 _w1 _w2
  go_enter Try.func8, Try.ntmps8
  go_wp2_with fail
  refine (head_any _).mono ?_
  rintro e w1 ⟨rfl, hb1⟩
  have hS : Six w.heap.size x0 y0 x1 y1 x2 y2 w1 := Six.below (W := ((w.alloc (.cells #[.int .u64 x0, .int .i64 y0] 32)).alloc (.cells #[.int .u64 x1, .int .i64 y1] 32)).alloc (.cells #[.int .u64 x2, .int .i64 y2] 32)) (six_start _ _ _ _ _ _ _) hb1
  have hB1 : Below w.heap.size w w1 := ((((Below.refl _ _).alloc (Nat.le_refl _) _).alloc (by simp) _).alloc (by simp; omega) _).trans (hb1.mono (by simp; omega))
  have hW : w.heap.size ≤ w1.heap.size := hB1.size
  clear hb1
  obtain ⟨hz, c0, c1, c2, c3, c4, c5⟩ := hS.out
  by_cases h : x0 = x1 ∧ y0 = y1
  · obtain ⟨rfl, rfl⟩ := h
    have e1 : elderB x0 y0 x0 y0 = false := by simp [elderB]
    go_wp2_with (go_at_call 28; refine (elder_any _ _ _ _ _).mono ?_; rintro e w2 ⟨rfl, hb2⟩; have s2 := Six.below (by assumption) hb2; obtain ⟨hz', d0, d1, d2, d3, d4, d5⟩ := s2.out; have hB2 := Below.trans (by assumption) (hb2.mono (by omega)); clear hb2)
    go_ret
    exact ⟨rfl, by assumption⟩
  · rcases (show ¬ x0 = x1 ∨ (x0 = x1 ∧ ¬ y0 = y1) by omega) with hx | ⟨hx, hy⟩
    · have hi : SixB w x0 y0 x1 y1 x2 y2 w1.drew := ⟨hS.drew, hB1.drew⟩
      haveI hne : Nonempty (Cls (SixB w x0 y0 x1 y1 x2 y2)) := ⟨⟨_, hi⟩⟩
      have k0 : ∀ s : Cls (SixB w x0 y0 x1 y1 x2 y2), s.wd.cell? ⟨w.heap.size, 0, none⟩ = some (.int .u64 x0) := fun s => s.ok.1.2.1
      have k1 : ∀ s : Cls (SixB w x0 y0 x1 y1 x2 y2), s.wd.cell? ⟨w.heap.size, 1, none⟩ = some (.int .i64 y0) := fun s => s.ok.1.2.2.1
      have k2 : ∀ s : Cls (SixB w x0 y0 x1 y1 x2 y2), s.wd.cell? ⟨w.heap.size + 1, 0, none⟩ = some (.int .u64 x1) := fun s => s.ok.1.2.2.2.1
      have k3 : ∀ s : Cls (SixB w x0 y0 x1 y1 x2 y2), s.wd.cell? ⟨w.heap.size + 1, 1, none⟩ = some (.int .i64 y1) := fun s => s.ok.1.2.2.2.2.1
      have k4 : ∀ s : Cls (SixB w x0 y0 x1 y1 x2 y2), s.wd.cell? ⟨w.heap.size + 1 + 1, 0, none⟩ = some (.int .u64 x2) := fun s => s.ok.1.2.2.2.2.2.1
      have k5 : ∀ s : Cls (SixB w x0 y0 x1 y1 x2 y2), s.wd.cell? ⟨w.heap.size + 1 + 1, 1, none⟩ = some (.int .i64 y2) := fun s => s.ok.1.2.2.2.2.2.2
      have hE : ∀ (p q r t : Int) (s : Cls (SixB w x0 y0 x1 y1 x2 y2)), Calls Try.prog 28 #[.agg #[.int .u64 p, .int .i64 q], .agg #[.int .u64 r, .int .i64 t]] s.wd fun e w'' => e = .returned (.bool (elderB p q r t)) ∧ ∃ s' : Cls (SixB w x0 y0 x1 y1 x2 y2), w'' = s'.wd :=
        fun p q r t s => Calls.calm (elder_any p q r t s.wd) (fun w' hb => ⟨s.ok.1.below hb, s.ok.2.trans (hb.mono s.ok.2.size)⟩)
      have HE : Hid (∀ (p q r t : Int) (s : Cls (SixB w x0 y0 x1 y1 x2 y2)), Calls Try.prog 28 #[.agg #[.int .u64 p, .int .i64 q], .agg #[.int .u64 r, .int .i64 t]] s.wd fun e w'' => e = .returned (.bool (elderB p q r t)) ∧ ∃ s' : Cls (SixB w x0 y0 x1 y1 x2 y2), w'' = s'.wd) := hE
      clear hE
      rcases elder_ways x0 y0 x1 y1 x2 y2 h with ⟨e1, e2⟩ | ⟨e1, e2, e3⟩ | ⟨e1, e2, e3, e4⟩
      all_goals
        go_wp2_with fail
        all_goals
          refine wp_region_inv (SixB w x0 y0 x1 y1 x2 y2) (by kernel_rfl) (by kernel_rfl) hi ?_
          repeat (go_big_quiet_step (exact HE.out _ _ _ _ _))
          refine wpQuiet_nil ?_
          intro w' hw'
          obtain ⟨s, hs⟩ := hw'
          subst hs
          have hB := s.ok.2
          clear k0 k1 k2 k3 k4 k5 HE hi
          go_wp2
          go_ret
          exact ⟨rfl, hB⟩
    · subst hx
      have hi : SixB w x0 y0 x0 y1 x2 y2 w1.drew := ⟨hS.drew, hB1.drew⟩
      haveI hne : Nonempty (Cls (SixB w x0 y0 x0 y1 x2 y2)) := ⟨⟨_, hi⟩⟩
      have k0 : ∀ s : Cls (SixB w x0 y0 x0 y1 x2 y2), s.wd.cell? ⟨w.heap.size, 0, none⟩ = some (.int .u64 x0) := fun s => s.ok.1.2.1
      have k1 : ∀ s : Cls (SixB w x0 y0 x0 y1 x2 y2), s.wd.cell? ⟨w.heap.size, 1, none⟩ = some (.int .i64 y0) := fun s => s.ok.1.2.2.1
      have k2 : ∀ s : Cls (SixB w x0 y0 x0 y1 x2 y2), s.wd.cell? ⟨w.heap.size + 1, 0, none⟩ = some (.int .u64 x0) := fun s => s.ok.1.2.2.2.1
      have k3 : ∀ s : Cls (SixB w x0 y0 x0 y1 x2 y2), s.wd.cell? ⟨w.heap.size + 1, 1, none⟩ = some (.int .i64 y1) := fun s => s.ok.1.2.2.2.2.1
      have k4 : ∀ s : Cls (SixB w x0 y0 x0 y1 x2 y2), s.wd.cell? ⟨w.heap.size + 1 + 1, 0, none⟩ = some (.int .u64 x2) := fun s => s.ok.1.2.2.2.2.2.1
      have k5 : ∀ s : Cls (SixB w x0 y0 x0 y1 x2 y2), s.wd.cell? ⟨w.heap.size + 1 + 1, 1, none⟩ = some (.int .i64 y2) := fun s => s.ok.1.2.2.2.2.2.2
      have hE : ∀ (p q r t : Int) (s : Cls (SixB w x0 y0 x0 y1 x2 y2)), Calls Try.prog 28 #[.agg #[.int .u64 p, .int .i64 q], .agg #[.int .u64 r, .int .i64 t]] s.wd fun e w'' => e = .returned (.bool (elderB p q r t)) ∧ ∃ s' : Cls (SixB w x0 y0 x0 y1 x2 y2), w'' = s'.wd :=
        fun p q r t s => Calls.calm (elder_any p q r t s.wd) (fun w' hb => ⟨s.ok.1.below hb, s.ok.2.trans (hb.mono s.ok.2.size)⟩)
      have HE : Hid (∀ (p q r t : Int) (s : Cls (SixB w x0 y0 x0 y1 x2 y2)), Calls Try.prog 28 #[.agg #[.int .u64 p, .int .i64 q], .agg #[.int .u64 r, .int .i64 t]] s.wd fun e w'' => e = .returned (.bool (elderB p q r t)) ∧ ∃ s' : Cls (SixB w x0 y0 x0 y1 x2 y2), w'' = s'.wd) := hE
      clear hE
      rcases elder_ways x0 y0 x0 y1 x2 y2 h with ⟨e1, e2⟩ | ⟨e1, e2, e3⟩ | ⟨e1, e2, e3, e4⟩
      all_goals
        go_wp2_with fail
        all_goals
          refine wp_region_inv (SixB w x0 y0 x0 y1 x2 y2) (by kernel_rfl) (by kernel_rfl) hi ?_
          repeat (go_big_quiet_step (exact HE.out _ _ _ _ _))
          refine wpQuiet_nil ?_
          intro w' hw'
          obtain ⟨s, hs⟩ := hw'
          subst hs
          have hB := s.ok.2
          clear k0 k1 k2 k3 k4 k5 HE hi
          go_wp2
          go_ret
          exact ⟨rfl, hB⟩
end Go.Proofs.Ytopnblhedankcaa
