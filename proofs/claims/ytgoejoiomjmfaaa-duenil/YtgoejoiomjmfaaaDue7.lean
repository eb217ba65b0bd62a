/- The line's Pop; Fix and Remove of the heap. Own lemmas, no statement. -/
import Derived.Test.YtgoejoiomjmfaaaDue6
namespace Go.Proofs.Ytgoejoiomjmfaaa
open Go.ChangeShapes Go.WideShapes Go.ChangeAt Go.RowKit

section
variable {w w' : World} {g b n cap : Nat} {m : Value} {A : Nat → It}
/-- The last one is let go, in memory. -/
theorem HL.popped (h : HL w g b (n + 1) cap m A) : HL ((w.setCell ⟨b, n, none⟩ (.pointer none)).setCell ⟨g, 0, none⟩ (lineV b n cap)) g b n cap m A := by
  obtain ⟨cs, h1, h2, h3⟩ := h.l.row
  have hgb : g ≠ b := fun e => h.apart (.inl e)
  have hgi : ∀ i, i < n + 1 → g ≠ (A i).blk := fun i hi e => h.apart (.inr ⟨i, hi, e⟩)
  have q1 := (h.q.setOther (b' := b) n (.pointer none) hgb).set 0 (lineV b n cap)
  refine ⟨by simpa using q1, ⟨_, (h1.set n (.pointer none)).setOther 0 _ hgb.symm, by simpa using h2, fun i hi => ?_⟩, by have := h.l.le; omega, h.l.max, fun i hi => ?_, fun i j hi hj => h.l.inj i j (by omega) (by omega)⟩
  · rw [Array.getElem?_setIfInBounds_ne (by omega)]
    exact h3 i (by omega)
  · exact ((h.l.item i (by omega)).setOther _ _ (h.l.rowNe (by omega))).setOther _ _ (hgi i (by omega)).symm
theorem HL.poppedItem (h : HL w g b (n + 1) cap m A) : Blk ((w.setCell ⟨b, n, none⟩ (.pointer none)).setCell ⟨g, 0, none⟩ (lineV b n cap)) (A n).blk (icells (A n).e n) 59 :=
  ((h.l.item n (by omega)).setOther _ _ (h.l.rowNe (by omega))).setOther _ _ (fun e => h.apart (.inr ⟨n, by omega, e.symm⟩))
end

/-- Blocks that a queue's call may turn: its own, its line's. -/
def QB (g b n : Nat) (A : Nat → It) (k : Nat) : Prop := k = g ∨ LineB b n A k

set_option maxHeartbeats 1000000 in
theorem linePop_any (g b n cap : Nat) (m : Value) (A : Nat → It) (w : World) (h : HL w g b (n + 1) cap m A) :
    Calls Try.prog 43 #[.pointer (some ⟨g, 0, none⟩)] w fun e w' => e = .returned (.iface 56 (iptr (A n).blk)) ∧ HL w' g b n cap m A ∧ Blk w' (A n).blk (icells (A n).e n) 59 ∧ Chg (QB g b (n + 1) A) w w' := by
  have H1 : Hid (HL _ g b n cap m A) := h.popped
  have H2 : Hid (Blk _ (A n).blk (icells (A n).e n) 59) := h.poppedItem
  have H3 : Hid (QB g b (n + 1) A b ∧ QB g b (n + 1) A g) := ⟨.inr (.inl rfl), .inl rfl⟩
  have hle := h.l.le
  have hmx := h.l.max
  unfold maxLen at hmx
  have hgb : g ≠ b := fun e => h.apart (.inl e)
  have c0 := h.cell
  have c1 := h.l.cell (i := n) (by omega)
  obtain ⟨cs, h1, h2, h3⟩ := h.l.row
  have f1 := h1.frozen n
  have f0 := h.q.frozen 0
  have q1 := h.q.setOther (b' := b) n (.pointer none) hgb
  have c2 : (w.setCell ⟨b, n, none⟩ (.pointer none)).cell? ⟨g, 0, none⟩ = some (.slice (some ⟨b, 0, none⟩) (n + 1) cap) := q1.cell 0
  have f2 := q1.frozen 0
  clear h h1 h2 h3 q1
  unfold iptr at *
  unfold lineV at *
  go_enter Try.func43, Try.ntmps43
  go_wp2_with fail
  go_ret
  exact ⟨rfl, H1.out, H2.out, ((Chg.refl _ _).setCell ⟨b, n, none⟩ (fun _ => H3.out.1) _).setCell ⟨g, 0, none⟩ (fun _ => H3.out.2) _⟩

def DownEnds (n : Nat) (A : Nat → It) (i : Nat) (bl : Bool) : Prop := (bl = true → IsHeap ltI n A) ∧ (bl = false → UpInv ltI n A i)

set_option maxHeartbeats 1000000 in
theorem fix_any (g b n cap : Nat) (m : Value) (A : Nat → It) (i : Nat) (w : World) (h : HL w g b n cap m A) (hD : DownInv ltI n A i i) (hn : n < 4611686018427387904) :
    Calls Try.prog 16 #[qp g, .int .i64 (i : Int)] w fun e w' => e = .returned (.tuple #[]) ∧ ∃ A', Walked w w' g b n n cap m A A' ∧ IsHeap ltI n A' := by
  have hm := meth_Len h.cell
  have H : Hid (Calls _ _ _ _ _) := down_any g b n n cap m A i w h hD (Nat.le_refl _) hn
  clear h hD
  unfold qp at *
  go_enter Try.func16, Try.ntmps16
  go_wp2_with fail
  refine (lineLen_any _ _ _ _).mono ?_
  rintro e w' ⟨rfl, hw⟩; rw [hw]; clear hw w'
  go_wp2_with fail
  refine Calls.mono H.out ?_
  rintro e w2 ⟨bl, rfl, A2, hW, h1, h2⟩
  have HW : Hid (Walked w w2 g b n n cap m A A2) := hW
  have HI : Hid (DownEnds n A2 i bl) := ⟨h1, h2⟩
  clear hW h1 h2 H
  rcases bl with _ | _
  · have hu := up_any g b n n cap m A2 i w2 HW.out.hl (HI.out.2 rfl) (Nat.le_refl _) (by unfold maxLen; omega)
    have HU : Hid (Calls _ _ _ _ _) := hu
    clear hu hm
    go_wp2_with fail
    refine Calls.mono HU.out ?_
    rintro e w3 ⟨rfl, A3, hW3, hI3⟩
    have K : Hid (∃ A', Walked w w3 g b n n cap m A A' ∧ IsHeap ltI n A') := ⟨A3, HW.out.trans hW3, hI3⟩
    clear hW3 hI3 HU HI
    go_wp2_with fail
    go_end0
    exact ⟨rfl, K.out⟩
  · go_wp2_with fail
    go_end0
    exact ⟨rfl, A2, HW.out, HI.out.1 rfl⟩

/-- All but one are there still. -/
structure Lost (n i : Nat) (A A' : Nat → It) : Prop where
  of : ∀ k, k < n → ∃ j, j < n + 1 ∧ j ≠ i ∧ A' k = A j
  to : ∀ j, j < n + 1 → j ≠ i → ∃ k, k < n ∧ A' k = A j
theorem Lost.last (n : Nat) (A : Nat → It) : Lost n n A A := ⟨fun k hk => ⟨k, by omega, by omega, rfl⟩, fun j hj hne => ⟨j, by omega, rfl⟩⟩
theorem Lost.swap {n i : Nat} {A A' : Nat → It} (hi : i < n) (h : SameOn n (swapF A i n) A') : Lost n i A A' := by
  constructor
  · intro k hk
    obtain ⟨j, hj, e⟩ := h.1 k hk
    by_cases e1 : j = i
    · subst e1
      rw [swapF_l] at e
      exact ⟨n, by omega, by omega, e⟩
    · rw [swapF_o A e1 (by omega)] at e
      exact ⟨j, by omega, e1, e⟩
  · intro j hj hne
    by_cases e1 : j = n
    · subst e1
      obtain ⟨k, hk, e⟩ := h.2 i hi
      rw [swapF_l] at e
      exact ⟨k, hk, e⟩
    · obtain ⟨k, hk, e⟩ := h.2 j (by omega)
      rw [swapF_o A hne e1] at e
      exact ⟨k, hk, e⟩

/-- What Remove leaves. -/
structure Removed (w w' : World) (g b n cap : Nat) (m : Value) (i : Nat) (A A' : Nat → It) : Prop where
  hl : HL w' g b n cap m A'
  heap : IsHeap ltI n A'
  lost : Lost n i A A'
  item : ∃ p, Blk w' (A i).blk (icells (A i).e p) 59
  chg : Chg (QB g b (n + 1) A) w w'

theorem meth_Pop (w : World) (g : Nat) : (method 190 61 (.pointer (some ⟨g, 0, none⟩)) "Pop").run Try.prog w = .ok (43, .pointer (some ⟨g, 0, none⟩)) w := by kernel_rfl
theorem meth_Push (w : World) (g : Nat) : (method 190 61 (.pointer (some ⟨g, 0, none⟩)) "Push").run Try.prog w = .ok (44, .pointer (some ⟨g, 0, none⟩)) w := by kernel_rfl

theorem LineB.qb {g b n : Nat} {A : Nat → It} {k : Nat} (h : LineB b n A k) : QB g b n A k := .inr h
theorem QB.same {g b n : Nat} {A A' : Nat → It} (h : SameOn n A A') {k : Nat} (hk : QB g b n A' k) : QB g b n A k := by
  rcases hk with e | e
  · exact .inl e
  · exact .inr (LineB.same h e)

/-- Behind the walk the last one goes. -/
theorem removed_of {w w1 w' : World} {g b n cap i : Nat} {m : Value} {A A' : Nat → It} (hi : i < n) (hS : SameOn (n + 1) A (swapF A i n)) (hc : Chg (LineB b (n + 1) A) w w1) {w2 : World} (hW : Walked w1 w2 g b (n + 1) n cap m (swapF A i n) A') (hI : IsHeap ltI n A')
    (h1 : HL w' g b n cap m A') (h2 : Blk w' (A' n).blk (icells (A' n).e n) 59) (h3 : Chg (QB g b (n + 1) A') w2 w') : Removed w w' g b n cap m i A A' := by
  have e : A' n = A i := by rw [hW.rest n (Nat.le_refl _), swapF_r]
  have hS2 : SameOn (n + 1) A A' := hS.trans (hW.same.more hW.rest (by omega))
  refine ⟨h1, hI, Lost.swap hi hW.same, ⟨n, by rw [← e]; exact h2⟩, ?_⟩
  have c1 : Chg (QB g b (n + 1) A) w w1 := hc.mono (fun _ _ h => LineB.qb h)
  have c2 : Chg (QB g b (n + 1) A) w w2 := c1.trans hW.chg (fun _ _ h => LineB.qb (LineB.same hS h))
  exact c2.trans h3 (fun _ _ h => QB.same hS2 h)

set_option maxHeartbeats 2000000 in
theorem heapRemove_any (g b n cap : Nat) (m : Value) (A : Nat → It) (i : Nat) (w : World) (h : HL w g b (n + 1) cap m A) (hH : IsHeap ltI (n + 1) A) (hi : i ≤ n) (hn : n < 4611686018427387903) :
    Calls Try.prog 21 #[qp g, .int .i64 (i : Int)] w fun e w' => e = .returned (.iface 56 (iptr (A i).blk)) ∧ ∃ A', Removed w w' g b n cap m i A A' := by
  have hm := meth_Len h.cell
  have hsw := meth_Swap h.cell
  have H : Hid (HL w g b (n + 1) cap m A) := h
  have HH : Hid (IsHeap ltI (n + 1) A) := hH
  clear h hH
  unfold qp at *
  by_cases hin : i = n
  · subst hin
    have hp := linePop_any g b i cap m A w H.out
    have HP : Hid (Calls _ _ _ _ _) := hp
    have hmp := meth_Pop w g
    clear hp
    go_enter Try.func21, Try.ntmps21
    go_wp2_with fail
    refine (lineLen_any _ _ _ _).mono ?_
    rintro e w' ⟨rfl, hw⟩; rw [hw]; clear hw w'
    go_wp2_with fail
    refine Calls.mono HP.out ?_
    rintro e w2 ⟨rfl, h1, h2, h3⟩
    have K : Hid (∃ A', Removed w w2 g b i cap m i A A') := ⟨A, h1, HH.out.pop, Lost.last i A, ⟨_, h2⟩, h3⟩
    clear h1 h2 h3 HP
    go_wp2_with fail
    go_ret
    exact ⟨rfl, K.out⟩
  · have hlt : i < n := by omega
    have hS := lineSwap_any b (n + 1) cap A i n w H.out.l (by omega) (by omega) hin
    have HS : Hid (Calls _ _ _ _ _) := hS
    have hd : ((n : Int) == (i : Int)) = false := by simp; omega
    clear hS
    go_enter Try.func21, Try.ntmps21
    go_wp2_with fail
    refine (lineLen_any _ _ _ _).mono ?_
    rintro e w' ⟨rfl, hw⟩; rw [hw]; clear hw w'
    go_wp2_with fail
    refine Calls.mono HS.out ?_
    rintro e w1 ⟨rfl, hl1, hc1⟩
    have HL1 : Hid (HL w1 g b (n + 1) cap m (swapF A i n)) := H.out.next hl1 hc1
    have HC1 : Hid (Chg (LineB b (n + 1) A) w w1) := hc1
    have hdn := down_any g b (n + 1) n cap m (swapF A i n) i w1 HL1.out (HH.out.lose ltI_ord hlt) (by omega) (by omega)
    have HD : Hid (Calls _ _ _ _ _) := hdn
    clear hdn hl1 hc1 HS hsw hm
    go_wp2_with fail
    refine Calls.mono HD.out ?_
    rintro e w2 ⟨bl, rfl, A2, hW, h1, h2⟩
    have HW : Hid (Walked w1 w2 g b (n + 1) n cap m (swapF A i n) A2) := hW
    have HI : Hid (DownEnds n A2 i bl) := ⟨h1, h2⟩
    clear hW h1 h2 HD
    rcases bl with _ | _
    · have hu := up_any g b (n + 1) n cap m A2 i w2 HW.out.hl (HI.out.2 rfl) (by omega) (by unfold maxLen; omega)
      have HU : Hid (Calls _ _ _ _ _) := hu
      clear hu
      go_wp2_with fail
      refine Calls.mono HU.out ?_
      rintro e w3 ⟨rfl, A3, hW3, hI3⟩
      have HW3 : Hid (Walked w1 w3 g b (n + 1) n cap m (swapF A i n) A3) := HW.out.trans hW3
      have HI3 : Hid (IsHeap ltI n A3) := hI3
      have e3 : (A3 n).blk = (A i).blk := by rw [HW3.out.rest n (Nat.le_refl _), swapF_r]
      have hp := linePop_any g b n cap m A3 w3 HW3.out.hl
      rw [e3] at hp
      have HP : Hid (Calls _ _ _ _ _) := hp
      have E3 : Hid ((A3 n).blk = (A i).blk) := e3
      have hmp := meth_Pop w3 g
      clear hp hW3 hI3 HU HI e3 HW
      go_wp2_with fail
      refine Calls.mono HP.out ?_
      rintro e w4 ⟨rfl, k1, k2, k3⟩
      rw [← E3.out] at k2
      have K : Hid (∃ A', Removed w w4 g b n cap m i A A') := ⟨A3, removed_of hlt (SameOn.swap A (by omega) (by omega)) HC1.out HW3.out HI3.out k1 k2 k3⟩
      clear k1 k2 k3 HP
      go_wp2_with fail
      go_ret
      exact ⟨rfl, K.out⟩
    · have HI3 : Hid (IsHeap ltI n A2) := HI.out.1 rfl
      have e3 : (A2 n).blk = (A i).blk := by rw [HW.out.rest n (Nat.le_refl _), swapF_r]
      have hp := linePop_any g b n cap m A2 w2 HW.out.hl
      rw [e3] at hp
      have HP : Hid (Calls _ _ _ _ _) := hp
      have E3 : Hid ((A2 n).blk = (A i).blk) := e3
      have hmp := meth_Pop w2 g
      clear hp HI e3
      go_wp2_with fail
      refine Calls.mono HP.out ?_
      rintro e w4 ⟨rfl, k1, k2, k3⟩
      rw [← E3.out] at k2
      have K : Hid (∃ A', Removed w w4 g b n cap m i A A') := ⟨A2, removed_of hlt (SameOn.swap A (by omega) (by omega)) HC1.out HW.out HI3.out k1 k2 k3⟩
      clear k1 k2 k3 HP
      go_wp2_with fail
      go_ret
      exact ⟨rfl, K.out⟩
end Go.Proofs.Ytgoejoiomjmfaaa
