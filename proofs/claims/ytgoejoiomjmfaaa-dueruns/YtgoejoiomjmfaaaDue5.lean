/- The walk up. Own lemmas, no statement. -/
import Derived.Test.YtgoejoiomjmfaaaDue4
namespace Go.Proofs.Ytgoejoiomjmfaaa
open Go.ChangeShapes Go.WideShapes Go.ChangeAt Go.RowKit

def ltI (x y : It) : Bool := lessE x.e y.e
theorem ltI_ord : Ord ltI := ⟨fun a => lessE_ord.irr a.e, fun a b c => lessE_ord.trans a.e b.e c.e, fun a b c => lessE_ord.neg a.e b.e c.e⟩

/-- A queue's block and its line. -/
structure HL (w : World) (g b n cap : Nat) (m : Value) (A : Nat → It) : Prop where
  q : Blk w g #[lineV b n cap, m] 53
  l : Line w b n cap A

theorem LineB.same {b n : Nat} {A A' : Nat → It} (h : SameOn n A A') {k : Nat} (hk : LineB b n A' k) : LineB b n A k := by
  rcases hk with e | ⟨i, hi, e⟩
  · exact .inl e
  · obtain ⟨j, hj, e'⟩ := h.1 i hi
    exact .inr ⟨j, hj, by rw [e, e']⟩
theorem HL.apart {w : World} {g b n cap : Nat} {m : Value} {A : Nat → It} (h : HL w g b n cap m A) : ¬ LineB b n A g := by
  obtain ⟨cs, h1, _⟩ := h.l.row
  rintro (e | ⟨i, hi, e⟩)
  · subst e
    have := (h.q.inj h1).2
    exact absurd this (by decide)
  · have h2 := h.l.item i hi
    rw [← e] at h2
    have := (h.q.inj h2).2
    exact absurd this (by decide)
theorem HL.cell {w : World} {g b n cap : Nat} {m : Value} {A : Nat → It} (h : HL w g b n cap m A) : w.cell? ⟨g, 0, none⟩ = some (.slice (some ⟨b, 0, none⟩) n cap) := h.q.cell 0
theorem HL.below {w w' : World} {g b n cap : Nat} {m : Value} {A : Nat → It} (h : HL w g b n cap m A) (k : Below w.heap.size w w') : HL w' g b n cap m A :=
  ⟨h.q.chg (S := fun k => w.heap.size ≤ k) (Chg.of_below k fun _ _ h => h) (by have := h.q.lt; show ¬ _ ≤ _; omega), h.l.below k⟩
theorem HL.next {w w' : World} {g b n cap : Nat} {m : Value} {A A' : Nat → It} (h : HL w g b n cap m A) (l : Line w' b n cap A') (k : Chg (LineB b n A) w w') : HL w' g b n cap m A' := ⟨h.q.chg k h.apart, l⟩
theorem HL.drew {w : World} {g b n cap : Nat} {m : Value} {A : Nat → It} (h : HL w g b n cap m A) : HL w.drew g b n cap m A := ⟨h.q, h.l.drew⟩
def qp (g : Nat) : Value := .iface 61 (.pointer (some ⟨g, 0, none⟩))

theorem SameOn.more {n N : Nat} {A A' : Nat → It} (h : SameOn n A A') (hr : ∀ k, n ≤ k → A' k = A k) (hN : n ≤ N) : SameOn N A A' := by
  constructor
  · intro i hi
    rcases Nat.lt_or_ge i n with h1 | h1
    · obtain ⟨j, hj, e⟩ := h.1 i h1
      exact ⟨j, by omega, e⟩
    · exact ⟨i, hi, hr i h1⟩
  · intro i hi
    rcases Nat.lt_or_ge i n with h1 | h1
    · obtain ⟨j, hj, e⟩ := h.2 i h1
      exact ⟨j, by omega, e⟩
    · exact ⟨i, hi, hr i h1⟩

/-- What a walk through the first n of the line's N leaves. -/
structure Walked (w w' : World) (g b N n cap : Nat) (m : Value) (A A' : Nat → It) : Prop where
  hl : HL w' g b N cap m A'
  le : n ≤ N
  same : SameOn n A A'
  rest : ∀ k, n ≤ k → A' k = A k
  chg : Chg (LineB b N A) w w'
theorem Walked.refl {w : World} {g b N n cap : Nat} {m : Value} {A : Nat → It} (h : HL w g b N cap m A) (hn : n ≤ N) : Walked w w g b N n cap m A A := ⟨h, hn, SameOn.refl _ _, fun _ _ => rfl, Chg.refl _ _⟩
theorem Walked.below {w w' w2 : World} {g b N n cap : Nat} {m : Value} {A A' : Nat → It} (h : Walked w w' g b N n cap m A A') (k : Below w'.heap.size w' w2) : Walked w w2 g b N n cap m A A' :=
  ⟨h.hl.below k, h.le, h.same, h.rest, h.chg.trans (S' := fun k => w'.heap.size ≤ k) (Chg.of_below k fun _ _ h => h) (fun i hi e => by have := h.chg.size; have : w'.heap.size ≤ i := e; omega)⟩
theorem Walked.swap {w w' w2 : World} {g b N n cap : Nat} {m : Value} {A A' : Nat → It} {i j : Nat} (h : Walked w w' g b N n cap m A A') (hi : i < n) (hj : j < n) (l : Line w2 b N cap (swapF A' i j)) (k : Chg (LineB b N A') w' w2) : Walked w w2 g b N n cap m A (swapF A' i j) :=
  ⟨h.hl.next l k, h.le, h.same.trans (SameOn.swap A' hi hj), fun q hq => by rw [swapF_o A' (by omega) (by omega)]; exact h.rest q hq, h.chg.trans k (fun _ _ e => LineB.same (h.same.more h.rest h.le) e)⟩
theorem Walked.trans {w w' w2 : World} {g b N n cap : Nat} {m : Value} {A A' A2 : Nat → It} (h : Walked w w' g b N n cap m A A') (k : Walked w' w2 g b N n cap m A' A2) : Walked w w2 g b N n cap m A A2 :=
  ⟨k.hl, h.le, h.same.trans k.same, fun q hq => (k.rest q hq).trans (h.rest q hq), h.chg.trans k.chg (fun _ _ e => LineB.same (h.same.more h.rest h.le) e)⟩

set_option maxHeartbeats 2000000 in
theorem up_any (g b N n cap : Nat) (m : Value) (A : Nat → It) (j : Nat) (w : World) (h : HL w g b N cap m A) (hU : UpInv ltI n A j) (hnN : n ≤ N) (hn : n ≤ maxLen) :
    Calls Try.prog 20 #[qp g, .int .i64 (j : Int)] w fun e w' => e = .returned (.tuple #[]) ∧ ∃ A', Walked w w' g b N n cap m A A' ∧ IsHeap ltI n A' := by
  have H : Hid (HL w g b N cap m A) := h
  have HU : Hid (UpInv ltI n A j) := hU
  have hjn := hU.1
  unfold maxLen at hn
  clear h hU
  unfold qp
  go_enter Try.func20, Try.ntmps20
  go_wp2_with fail
  go_loopw [1] (fun vj wr => ∃ (k : Nat) (A' : Nat → It), vj = .int .i64 (k : Int) ∧ UpInv ltI n A' k ∧ Walked w wr g b N n cap m A A') (fun vj _ => (intOf vj).toNat)
  case atStart => exact ⟨j, A, rfl, HU.out, Walked.refl H.out hnN⟩
  case round =>
    obtain ⟨k, A', rfl, hI, hW⟩ := hrel
    have HI : Hid (UpInv ltI n A' k) := hI
    have HW : Hid (Walked w wr g b N n cap m A A') := hW
    have hkn := hI.1
    have c0 := hW.hl.cell
    clear hI hW
    rcases Nat.eq_zero_or_pos k with hk | hk
    · subst hk
      go_wp2_with fail
      go_end0
      exact ⟨rfl, A', HW.out, HI.out.done⟩
    · have hm := meth_Less c0
      have hp := par_lt hk
      have hpn : par k < n := by omega
      have e : ((par k : Nat) : Int) = ((k : Int) - 1) / 2 := by unfold par; omega
      have hL := lineLess_any b N cap A' k (par k) wr HW.out.hl.l (by omega) (by omega)
      rw [e] at hL
      have HLs : Hid (Calls _ _ _ _ _) := hL
      have HE : Hid (((par k : Nat) : Int) = ((k : Int) - 1) / 2) := e
      have HP : Hid (par k < k ∧ par k < n) := ⟨hp, hpn⟩
      clear hL e hp hpn
      go_wp2_with fail
      refine Calls.mono HLs.out ?_
      rintro x w2 ⟨rfl, hb⟩
      have HW2 : Hid (Walked w w2 g b N n cap m A A') := HW.out.below hb
      have c2 := HW2.out.hl.cell
      have hm2 := meth_Swap c2
      clear hb hm HLs c0 HW
      have HX : Hid (ltI (A' k) (A' (par k)) = lessE (A' k).e (A' (par k)).e) := rfl
      generalize hl : lessE (A' k).e (A' (par k)).e = l at *
      clear hl
      cases l
      · go_wp2_with fail
        go_end0
        exact ⟨rfl, A', HW2.out, HI.out.stop HX.out⟩
      · have hS := lineSwap_any b N cap A' (par k) k w2 HW2.out.hl.l (by have := HP.out.2; omega) (by omega) (by have := HP.out.1; omega)
        rw [HE.out] at hS
        have HS : Hid (Calls _ _ _ _ _) := hS
        clear hS
        go_wp2_with fail
        refine Calls.mono HS.out ?_
        rintro x w3 ⟨rfl, hl3, hc3⟩
        have HW3 : Hid (Walked w w3 g b N n cap m A (swapF A' (par k) k)) := HW2.out.swap HP.out.2 hkn hl3 hc3
        clear hl3 hc3 HS
        go_wp2_with fail
        go_roundw
        case rel => exact ⟨par k, _, by rw [HE.out], HI.out.step ltI_ord hk HX.out, HW3.out⟩
        case measure => simp [intOf]; omega
end Go.Proofs.Ytgoejoiomjmfaaa
