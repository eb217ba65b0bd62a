/- The walk down. Own lemmas, no statement. -/
import Derived.Test.YtgoejoiomjmfaaaDue5
namespace Go.Proofs.Ytgoejoiomjmfaaa
open Go.ChangeShapes Go.WideShapes Go.ChangeAt Go.RowKit

/-- What the walk down ends in. -/
theorem DownInv.ends {n : Nat} {A : Nat → It} {i0 i : Nat} (h : DownInv ltI n A i0 i) (hl : ∀ c, 0 < c → c < n → par c = i → ltI (A c) (A i) = false) :
    (decide (i0 < i) = true → IsHeap ltI n A) ∧ (decide (i0 < i) = false → UpInv ltI n A i0) := by
  constructor
  · intro e
    have e := of_decide_eq_true e
    exact h.heap (by omega) hl
  · intro e
    have e := of_decide_eq_false e
    have : i = i0 := by have := h.2.1; omega
    subst this
    exact h.stay hl

def DownEnd (w w' : World) (g b N n cap : Nat) (m : Value) (A : Nat → It) (i0 : Nat) (bl : Bool) : Prop := ∃ A', Walked w w' g b N n cap m A A' ∧ (bl = true → IsHeap ltI n A') ∧ (bl = false → UpInv ltI n A' i0)

set_option maxHeartbeats 4000000 in
theorem down_any (g b N n cap : Nat) (m : Value) (A : Nat → It) (i0 : Nat) (w : World) (h : HL w g b N cap m A) (hD : DownInv ltI n A i0 i0) (hnN : n ≤ N) (hn : n < 4611686018427387904) :
    Calls Try.prog 19 #[qp g, .int .i64 (i0 : Int), .int .i64 (n : Int)] w fun e w' => ∃ bl, e = .returned (.bool bl) ∧ DownEnd w w' g b N n cap m A i0 bl := by
  have H : Hid (HL w g b N cap m A) := h
  have HDn : Hid (DownInv ltI n A i0 i0) := hD
  have hjn := hD.1
  clear h hD
  unfold qp
  go_enter Try.func19, Try.ntmps19
  go_wp2_with fail
  go_loopw [7] (fun vj wr => ∃ (k : Nat) (A' : Nat → It), vj = .int .i64 (k : Int) ∧ DownInv ltI n A' i0 k ∧ Walked w wr g b N n cap m A A') (fun vj _ => n - (intOf vj).toNat)
  case atStart => exact ⟨i0, A, rfl, HDn.out, Walked.refl H.out hnN⟩
  case round =>
    obtain ⟨k, A', rfl, hI, hW⟩ := hrel
    have HI : Hid (DownInv ltI n A' i0 k) := hI
    have HW : Hid (Walked w wr g b N n cap m A A') := hW
    have hkn := hI.1
    have c0 := hW.hl.cell
    clear hI hW
    have hm := meth_Less c0
    rcases Nat.lt_or_ge (2 * k + 1) n with h1 | h1
    · have h1' : 2 * (k : Int) + 1 < (n : Int) := by omega
      have hd1 : decide ((n : Int) ≤ 2 * (k : Int) + 1) = false := decide_eq_false (by omega)
      have hd0 : decide (2 * (k : Int) + 1 < 0) = false := decide_eq_false (by omega)
      rcases Nat.lt_or_ge (2 * k + 2) n with h2 | h2
      · have h2' : 2 * (k : Int) + 1 + 1 < (n : Int) := by omega
        have hL := lineLess_any b N cap A' (2 * k + 2) (2 * k + 1) wr HW.out.hl.l (by omega) (by omega)
        rw [show (((2 * k + 2 : Nat)) : Int) = 2 * (k : Int) + 1 + 1 by omega, show (((2 * k + 1 : Nat)) : Int) = 2 * (k : Int) + 1 by omega] at hL
        have HLs : Hid (Calls _ _ _ _ _) := hL
        clear hL
        go_wp2_with fail
        refine Calls.mono HLs.out ?_
        rintro x w2 ⟨rfl, hb⟩
        have HW2 : Hid (Walked w w2 g b N n cap m A A') := HW.out.below hb
        have c2 := HW2.out.hl.cell
        have hm2 := meth_Less c2
        clear hb hm HLs c0 HW
        have HX : Hid (ltI (A' (2 * k + 2)) (A' (2 * k + 1)) = lessE (A' (2 * k + 2)).e (A' (2 * k + 1)).e) := rfl
        generalize hl : lessE (A' (2 * k + 2)).e (A' (2 * k + 1)).e = l at *
        clear hl
        cases l
        · have HM : Hid (∀ c, 0 < c → c < n → par c = k → ltI (A' c) (A' (2 * k + 1)) = false) := fun c hc hcn hp => by
            rcases (par_child hc).1 hp with rfl | rfl
            · exact ltI_ord.irr _
            · exact HX.out
          clear HX
          have hL := lineLess_any b N cap A' (2 * k + 1) k w2 HW2.out.hl.l (by omega) (by omega)
          rw [show (((2 * k + 1 : Nat)) : Int) = 2 * (k : Int) + 1 by omega] at hL
          have HLt : Hid (Calls _ _ _ _ _) := hL
          clear hL
          go_wp2_with fail
          refine Calls.mono HLt.out ?_
          rintro x w3 ⟨rfl, hb⟩
          have HW3 : Hid (Walked w w3 g b N n cap m A A') := HW2.out.below hb
          have c3 := HW3.out.hl.cell
          have hm3 := meth_Swap c3
          clear hb HLt HW2
          have HY : Hid (ltI (A' (2 * k + 1)) (A' k) = lessE (A' (2 * k + 1)).e (A' k).e) := rfl
          generalize hl : lessE (A' (2 * k + 1)).e (A' k).e = l at *
          clear hl
          cases l
          · go_wp2_with fail
            go_ret
            exact ⟨_, rfl, A', HW3.out, HI.out.ends fun c hc hcn hp => ltI_ord.le_trans HY.out (HM.out c hc hcn hp)⟩
          · have hS := lineSwap_any b N cap A' k (2 * k + 1) w3 HW3.out.hl.l (by omega) (by omega) (by omega)
            rw [show (((2 * k + 1 : Nat)) : Int) = 2 * (k : Int) + 1 by omega] at hS
            have HS : Hid (Calls _ _ _ _ _) := hS
            clear hS
            go_wp2_with fail
            refine Calls.mono HS.out ?_
            rintro x w4 ⟨rfl, hl4, hc4⟩
            have HW4 : Hid (Walked w w4 g b N n cap m A (swapF A' k (2 * k + 1))) := HW3.out.swap hkn (by omega) hl4 hc4
            clear hl4 hc4 HS
            go_wp2_with fail
            go_roundw
            case rel => exact ⟨2 * k + 1, _, by rw [show (((2 * k + 1 : Nat)) : Int) = 2 * (k : Int) + 1 by omega], HI.out.step ltI_ord (by omega) (by omega) ((par_child (by omega)).2 (by omega)) HY.out HM.out, HW4.out⟩
            case measure => simp [intOf]; omega
        · have HM : Hid (∀ c, 0 < c → c < n → par c = k → ltI (A' c) (A' (2 * k + 2)) = false) := fun c hc hcn hp => by
            rcases (par_child hc).1 hp with rfl | rfl
            · exact ltI_ord.asymm HX.out
            · exact ltI_ord.irr _
          clear HX
          have hL := lineLess_any b N cap A' (2 * k + 2) k w2 HW2.out.hl.l (by omega) (by omega)
          rw [show (((2 * k + 2 : Nat)) : Int) = 2 * (k : Int) + 1 + 1 by omega] at hL
          have HLt : Hid (Calls _ _ _ _ _) := hL
          clear hL
          go_wp2_with fail
          refine Calls.mono HLt.out ?_
          rintro x w3 ⟨rfl, hb⟩
          have HW3 : Hid (Walked w w3 g b N n cap m A A') := HW2.out.below hb
          have c3 := HW3.out.hl.cell
          have hm3 := meth_Swap c3
          clear hb HLt HW2
          have HY : Hid (ltI (A' (2 * k + 2)) (A' k) = lessE (A' (2 * k + 2)).e (A' k).e) := rfl
          generalize hl : lessE (A' (2 * k + 2)).e (A' k).e = l at *
          clear hl
          cases l
          · go_wp2_with fail
            go_ret
            exact ⟨_, rfl, A', HW3.out, HI.out.ends fun c hc hcn hp => ltI_ord.le_trans HY.out (HM.out c hc hcn hp)⟩
          · have hS := lineSwap_any b N cap A' k (2 * k + 2) w3 HW3.out.hl.l (by omega) (by omega) (by omega)
            rw [show (((2 * k + 2 : Nat)) : Int) = 2 * (k : Int) + 1 + 1 by omega] at hS
            have HS : Hid (Calls _ _ _ _ _) := hS
            clear hS
            go_wp2_with fail
            refine Calls.mono HS.out ?_
            rintro x w4 ⟨rfl, hl4, hc4⟩
            have HW4 : Hid (Walked w w4 g b N n cap m A (swapF A' k (2 * k + 2))) := HW3.out.swap hkn (by omega) hl4 hc4
            clear hl4 hc4 HS
            go_wp2_with fail
            go_roundw
            case rel => exact ⟨2 * k + 2, _, by rw [show (((2 * k + 2 : Nat)) : Int) = 2 * (k : Int) + 1 + 1 by omega], HI.out.step ltI_ord (by omega) (by omega) ((par_child (by omega)).2 (by omega)) HY.out HM.out, HW4.out⟩
            case measure => simp [intOf]; omega
      · have h2' : decide (2 * (k : Int) + 1 + 1 < (n : Int)) = false := decide_eq_false (by omega)
        have HM : Hid (∀ c, 0 < c → c < n → par c = k → ltI (A' c) (A' (2 * k + 1)) = false) := fun c hc hcn hp => by
          rcases (par_child hc).1 hp with rfl | rfl
          · exact ltI_ord.irr _
          · omega
        have HW2 : Hid (Walked w wr g b N n cap m A A') := HW.out
        clear HW
        have hL := lineLess_any b N cap A' (2 * k + 1) k wr HW2.out.hl.l (by omega) (by omega)
        rw [show (((2 * k + 1 : Nat)) : Int) = 2 * (k : Int) + 1 by omega] at hL
        have HLt : Hid (Calls _ _ _ _ _) := hL
        clear hL
        go_wp2_with fail
        refine Calls.mono HLt.out ?_
        rintro x w3 ⟨rfl, hb⟩
        have HW3 : Hid (Walked w w3 g b N n cap m A A') := HW2.out.below hb
        have c3 := HW3.out.hl.cell
        have hm3 := meth_Swap c3
        clear hb HLt HW2
        have HY : Hid (ltI (A' (2 * k + 1)) (A' k) = lessE (A' (2 * k + 1)).e (A' k).e) := rfl
        generalize hl : lessE (A' (2 * k + 1)).e (A' k).e = l at *
        clear hl
        cases l
        · go_wp2_with fail
          go_ret
          exact ⟨_, rfl, A', HW3.out, HI.out.ends fun c hc hcn hp => ltI_ord.le_trans HY.out (HM.out c hc hcn hp)⟩
        · have hS := lineSwap_any b N cap A' k (2 * k + 1) w3 HW3.out.hl.l (by omega) (by omega) (by omega)
          rw [show (((2 * k + 1 : Nat)) : Int) = 2 * (k : Int) + 1 by omega] at hS
          have HS : Hid (Calls _ _ _ _ _) := hS
          clear hS
          go_wp2_with fail
          refine Calls.mono HS.out ?_
          rintro x w4 ⟨rfl, hl4, hc4⟩
          have HW4 : Hid (Walked w w4 g b N n cap m A (swapF A' k (2 * k + 1))) := HW3.out.swap hkn (by omega) hl4 hc4
          clear hl4 hc4 HS
          go_wp2_with fail
          go_roundw
          case rel => exact ⟨2 * k + 1, _, by rw [show (((2 * k + 1 : Nat)) : Int) = 2 * (k : Int) + 1 by omega], HI.out.step ltI_ord (by omega) (by omega) ((par_child (by omega)).2 (by omega)) HY.out HM.out, HW4.out⟩
          case measure => simp [intOf]; omega
    · have h1' : (n : Int) ≤ 2 * (k : Int) + 1 := by omega
      go_wp2_with fail
      go_ret
      refine ⟨_, rfl, A', HW.out, HI.out.ends fun c hc hcn hp => ?_⟩
      rcases (par_child hc).1 hp with rfl | rfl
      · omega
      · omega
end Go.Proofs.Ytgoejoiomjmfaaa
