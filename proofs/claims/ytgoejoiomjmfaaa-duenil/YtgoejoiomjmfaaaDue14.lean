/- The document's example. Own lemmas, no statement. -/
import Derived.Test.YtgoejoiomjmfaaaDue13
namespace Go.Proofs.Ytgoejoiomjmfaaa
open Go.ChangeShapes Go.WideShapes Go.ChangeAt Go.RowKit

theorem allB.below {B : Nat} {w0 w w' : World} {g N n : Nat} {A : Nat → It} {v : Value} {mb : Nat} {f : Key → Option Nat} (h : QAt B w g N n A v mb f) (h0 : Below B w0 w) (hB : B ≤ w0.heap.size) (hc : Chg (allB g mb v n A) w w') : Below B w0 w' :=
  h0.trans (hc.below (Nat.le_trans hB h0.size) (fun k hk => h.low k hk))

/-- Two are due: the earlier one is first. -/
theorem first_two {A1 A2 : Nat → It} {nb1 nb2 : Nat} {A0 : Nat → It} {e1 e2 : Ent} (h1 : SameOn 1 (snocA 0 A0 ⟨nb1, e1⟩) A1) (h2 : SameOn 2 (snocA 1 A1 ⟨nb2, e2⟩) A2) (hH : IsHeap ltI 2 A2) (hl : lessE e2 e1 = true) : (A2 0).e = e2 := by
  obtain ⟨i, hi, ei⟩ := h2.2 1 (by omega)
  rw [snocA_at] at ei
  have hm := hH.min ltI_ord i hi
  obtain ⟨j, hj, ej⟩ := h2.1 0 (by omega)
  rcases (show j = 0 ∨ j = 1 by omega) with rfl | rfl
  · rw [snocA_lt A1 _ (by omega)] at ej
    obtain ⟨k, hk, ek⟩ := h1.1 0 (by omega)
    obtain rfl : k = 0 := by omega
    rw [snocA_at] at ek
    rw [ei, ej, ek] at hm
    unfold ltI at hm
    simp only at hm
    rw [hl] at hm
    cases hm
  · rw [snocA_at] at ej
    rw [ej]

def eA : Ent := ⟨5, 1, 1, 0⟩
def eB : Ent := ⟨3, 1, 2, 0⟩

set_option maxHeartbeats 2000000 in
theorem head_any (w : World) : Calls Try.prog 8 #[] w fun e w' => e = .returned (.bool true) ∧ Below w.heap.size w w' := by
  go_enter Try.func8, Try.ntmps8
  go_wp2_with fail
  refine (new_any _).mono ?_
  rintro r w1 ⟨g, mb, rfl, hq, hb⟩
  have HQ1 : Hid (QAt w.heap.size w1 g 0 0 _ _ mb _) := hq
  have HB1 : Hid (Below w.heap.size w w1) := hb
  have hs1 := set_new (e := eA) hq hb.size rfl (by unfold eA Ent.key Key.wf; decide) (by omega) (by omega)
  unfold eA iptr at hs1
  have HS1 : Hid (Calls _ _ _ _ _) := hs1
  clear hq hb hs1
  unfold iptr
  go_wp2_with fail
  refine Calls.mono HS1.out ?_
  rintro r w2 ⟨rfl, A1, v1, nb1, hL1⟩
  have HB2 : Hid (Below w.heap.size w w2) := allB.below HQ1.out HB1.out (Nat.le_refl _) hL1.chg
  have HL1 : Hid (Laid _ _ w2 g 0 0 _ A1 _ v1 mb _ _ nb1) := hL1
  have hs2 := set_new (e := eB) hL1.q HB2.out.size (by unfold putF; rw [if_neg (by unfold eB Ent.key; simp)]) (by unfold eB Ent.key Key.wf; decide) (by omega) (by omega)
  unfold eB iptr at hs2
  have HS2 : Hid (Calls _ _ _ _ _) := hs2
  clear hL1 hs2 HS1
  go_wp2_with fail
  refine Calls.mono HS2.out ?_
  rintro r w3 ⟨rfl, A2, v2, nb2, hL2⟩
  have HB3 : Hid (Below w.heap.size w w3) := allB.below HL1.out.q HB2.out (Nat.le_refl _) hL2.chg
  have HL2 : Hid (Laid _ _ w3 g 1 1 A1 A2 v1 v2 mb _ _ nb2) := hL2
  have e0 := first_two HL1.out.same hL2.same hL2.q.heap (by decide)
  have hx := next_take hL2.q 4 (by rw [e0]; decide) (by omega)
  rw [e0] at hx
  unfold entV iptr at hx
  simp only at hx
  have HX : Hid (Calls _ _ _ _ _) := hx
  clear hx e0 hL2 HS2
  go_wp2_with fail
  refine Calls.mono HX.out ?_
  rintro r w4 ⟨rfl, A3, v3, hq3, hl3, hc3, hs3⟩
  have HB4 : Hid (Below w.heap.size w w4) := allB.below HL2.out.q HB3.out (Nat.le_refl _) hc3
  clear hq3 hl3 hc3 hs3 HX HL2 HL1
  go_wp2_with fail
  go_ret
  first
    | exact ⟨rfl, HB4.out.alloc HB4.out.size _⟩
    | exact ⟨rfl, (HB4.out.alloc HB4.out.size _).drew⟩
    | exact ⟨rfl, (HB4.out.drew).alloc HB4.out.size _⟩
end Go.Proofs.Ytgoejoiomjmfaaa
