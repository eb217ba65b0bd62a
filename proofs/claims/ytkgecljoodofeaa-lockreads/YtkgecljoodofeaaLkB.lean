/- lock: slices.IndexFunc and ContainsFunc with each closure that they are handed. Own lemmas, no statement. -/
import Derived.Test.YtkgecljoodofeaaLkA
set_option linter.unusedSimpArgs false
set_option linter.unusedVariables false
namespace Go.Proofs.Ytkgecljoodofeaa
open Go.ChangeShapes Go.WideShapes Go.ChangeAt Go.RowKit

set_option maxHeartbeats 1000000 in
theorem idxF_A (c1 : Value) (p : Wn → Bool) (v : Value) (ls : List Wn) (w : World) (h : RowW w v ls) (hl : ls.length ≤ 1000000)
    (hf : Hid (∀ (W : World) (x : Wn), Ext w W → x ∈ ls → Calls Try.prog 43 #[.agg #[.int .u64 x.num, .int .i64 x.node, .int .i64 x.mode], c1] W fun e w' => e = .returned (.bool (p x)) ∧ Ext W w')) :
    Calls Try.prog 57 #[v, .func (.func 43) #[] #[c1]] w fun e w' => IdxP p ls e ∧ Ext w w' := by
  obtain ⟨ao, c, rfl, h1, h2, _, h3⟩ := h
  have H3 : Hid (RowAt w ao ls) := h3
  obtain ⟨n, hn⟩ : ∃ n, ls.length = n := ⟨_, rfl⟩
  have HN : Hid (ls.length = n) := hn
  rw [hn] at h1 hl ⊢
  unfold maxLen at h2
  clear h3 hn
  go_enter Try.func57, Try.ntmps57
  go_wp2
  go_loopw [8] (fun vi wr => ∃ i : Nat, vi = .int .i64 (i : Int) ∧ i ≤ n ∧ (∀ j (hj : j < ls.length), j < i → p ls[j] = false) ∧ Ext w wr) (fun vi _ => n - (intOf vi).toNat)
  case atStart => exact ⟨0, rfl, Nat.zero_le _, fun j hj h => by omega, Ext.refl _⟩
  case round =>
    obtain ⟨i, rfl, hin, hp, hE⟩ := hrel
    have HP : Hid (∀ j (hj : j < ls.length), j < i → p ls[j] = false) := hp
    have HE : Hid (Ext w wr) := hE
    clear hp hE
    by_cases hlt : i < n
    · have hil : i < ls.length := by rw [HN.out]; exact hlt
      obtain ⟨ad, had⟩ := H3.out.ad hil
      subst had
      obtain ⟨k0, k1, k2⟩ := (H3.out.below HE.out).2 ad rfl i hil
      obtain ⟨x, hx⟩ : ∃ x, x = ls[i] := ⟨_, rfl⟩
      rw [← hx] at k0 k1 k2
      have HX : Hid (x = ls[i]) := hx
      have HF : Hid (Calls _ _ _ _ _) := hf.out wr x HE.out (by rw [hx]; exact List.getElem_mem _)
      clear hx
      go_wp2_with fail
      refine HF.out.mono ?_
      rintro e w2 ⟨rfl, hE2⟩
      have HE2 : Hid (Ext w w2) := HE.out.trans hE2
      clear hE2 HE HF k0 k1 k2
      cases hb : p x with
      | true =>
        have HB : Hid (p x = true) := hb
        clear hb
        go_wp2
        go_ret
        exact ⟨.inl ⟨i, hil, rfl, by rw [← HX.out]; exact HB.out, HP.out⟩, HE2.out⟩
      | false =>
        have HB : Hid (p x = false) := hb
        clear hb
        go_wp2
        go_roundw
        case rel =>
          refine ⟨i + 1, by go_num, hlt, fun j hj hji => ?_, HE2.out⟩
          rcases (show j < i ∨ j = i by omega) with h | rfl
          · exact HP.out j hj h
          · rw [← HX.out]; exact HB.out
        case measure => simp [intOf]; omega
    · have hni : i = n := by omega
      clear hin
      go_wp2
      go_ret
      refine ⟨.inr ⟨rfl, fun x hx => ?_⟩, HE.out⟩
      obtain ⟨j, hj, rfl⟩ := List.getElem_of_mem hx
      exact HP.out j hj (by have := HN.out; omega)
set_option maxHeartbeats 1000000 in
theorem containsF_A (c1 : Value) (p : Wn → Bool) (v : Value) (ls : List Wn) (w : World) (h : RowW w v ls) (hl : ls.length ≤ 1000000)
    (hf : Hid (∀ (W : World) (x : Wn), Ext w W → x ∈ ls → Calls Try.prog 43 #[.agg #[.int .u64 x.num, .int .i64 x.node, .int .i64 x.mode], c1] W fun e w' => e = .returned (.bool (p x)) ∧ Ext W w')) :
    Calls Try.prog 42 #[v, .func (.func 43) #[] #[c1]] w fun e w' => e = .returned (.bool (ls.any p)) ∧ Ext w w' := by
  have HI : Hid (Calls _ _ _ _ _) := idxF_A c1 p v ls w h hl hf
  clear h hl
  go_enter Try.func42, Try.ntmps42
  go_wp2_with fail
  refine HI.out.mono ?_
  rintro e w2 ⟨hv, hE⟩
  have HE : Hid (Ext w w2) := hE
  clear hE HI
  rcases hv with ⟨i, hi, rfl, hp, _⟩ | ⟨rfl, hp⟩
  · have HA : Hid (ls.any p = true) := List.any_eq_true.2 ⟨_, List.getElem_mem _, hp⟩
    have h0 : (0 : Int) ≤ (i : Int) := by omega
    clear hp hi
    go_wp2
    go_ret
    exact ⟨by rw [HA.out]; simp, HE.out⟩
  · have HA : Hid (ls.any p = false) := List.any_eq_false.2 fun x hx => by rw [hp x hx]; decide
    clear hp
    go_wp2
    go_ret
    exact ⟨by rw [HA.out]; rfl, HE.out⟩
set_option maxHeartbeats 1000000 in
theorem idxF_L (c1 : Value) (p : Wn → Bool) (v : Value) (ls : List Wn) (w : World) (h : RowW w v ls) (hl : ls.length ≤ 1000000)
    (hf : Hid (∀ (W : World) (x : Wn), Ext w W → x ∈ ls → Calls Try.prog 51 #[.agg #[.int .u64 x.num, .int .i64 x.node, .int .i64 x.mode], c1] W fun e w' => e = .returned (.bool (p x)) ∧ Ext W w')) :
    Calls Try.prog 57 #[v, .func (.func 51) #[] #[c1]] w fun e w' => IdxP p ls e ∧ Ext w w' := by
  obtain ⟨ao, c, rfl, h1, h2, _, h3⟩ := h
  have H3 : Hid (RowAt w ao ls) := h3
  obtain ⟨n, hn⟩ : ∃ n, ls.length = n := ⟨_, rfl⟩
  have HN : Hid (ls.length = n) := hn
  rw [hn] at h1 hl ⊢
  unfold maxLen at h2
  clear h3 hn
  go_enter Try.func57, Try.ntmps57
  go_wp2
  go_loopw [8] (fun vi wr => ∃ i : Nat, vi = .int .i64 (i : Int) ∧ i ≤ n ∧ (∀ j (hj : j < ls.length), j < i → p ls[j] = false) ∧ Ext w wr) (fun vi _ => n - (intOf vi).toNat)
  case atStart => exact ⟨0, rfl, Nat.zero_le _, fun j hj h => by omega, Ext.refl _⟩
  case round =>
    obtain ⟨i, rfl, hin, hp, hE⟩ := hrel
    have HP : Hid (∀ j (hj : j < ls.length), j < i → p ls[j] = false) := hp
    have HE : Hid (Ext w wr) := hE
    clear hp hE
    by_cases hlt : i < n
    · have hil : i < ls.length := by rw [HN.out]; exact hlt
      obtain ⟨ad, had⟩ := H3.out.ad hil
      subst had
      obtain ⟨k0, k1, k2⟩ := (H3.out.below HE.out).2 ad rfl i hil
      obtain ⟨x, hx⟩ : ∃ x, x = ls[i] := ⟨_, rfl⟩
      rw [← hx] at k0 k1 k2
      have HX : Hid (x = ls[i]) := hx
      have HF : Hid (Calls _ _ _ _ _) := hf.out wr x HE.out (by rw [hx]; exact List.getElem_mem _)
      clear hx
      go_wp2_with fail
      refine HF.out.mono ?_
      rintro e w2 ⟨rfl, hE2⟩
      have HE2 : Hid (Ext w w2) := HE.out.trans hE2
      clear hE2 HE HF k0 k1 k2
      cases hb : p x with
      | true =>
        have HB : Hid (p x = true) := hb
        clear hb
        go_wp2
        go_ret
        exact ⟨.inl ⟨i, hil, rfl, by rw [← HX.out]; exact HB.out, HP.out⟩, HE2.out⟩
      | false =>
        have HB : Hid (p x = false) := hb
        clear hb
        go_wp2
        go_roundw
        case rel =>
          refine ⟨i + 1, by go_num, hlt, fun j hj hji => ?_, HE2.out⟩
          rcases (show j < i ∨ j = i by omega) with h | rfl
          · exact HP.out j hj h
          · rw [← HX.out]; exact HB.out
        case measure => simp [intOf]; omega
    · have hni : i = n := by omega
      clear hin
      go_wp2
      go_ret
      refine ⟨.inr ⟨rfl, fun x hx => ?_⟩, HE.out⟩
      obtain ⟨j, hj, rfl⟩ := List.getElem_of_mem hx
      exact HP.out j hj (by have := HN.out; omega)
set_option maxHeartbeats 1000000 in
theorem idxF_G (c1 : Value) (p : Wn → Bool) (v : Value) (ls : List Wn) (w : World) (h : RowW w v ls) (hl : ls.length ≤ 1000000)
    (hf : Hid (∀ (W : World) (x : Wn), Ext w W → x ∈ ls → Calls Try.prog 44 #[c1, .agg #[.int .u64 x.num, .int .i64 x.node, .int .i64 x.mode]] W fun e w' => e = .returned (.bool (p x)) ∧ Ext W w')) :
    Calls Try.prog 57 #[v, .func (.func 44) #[c1] #[]] w fun e w' => IdxP p ls e ∧ Ext w w' := by
  obtain ⟨ao, c, rfl, h1, h2, _, h3⟩ := h
  have H3 : Hid (RowAt w ao ls) := h3
  obtain ⟨n, hn⟩ : ∃ n, ls.length = n := ⟨_, rfl⟩
  have HN : Hid (ls.length = n) := hn
  rw [hn] at h1 hl ⊢
  unfold maxLen at h2
  clear h3 hn
  go_enter Try.func57, Try.ntmps57
  go_wp2
  go_loopw [8] (fun vi wr => ∃ i : Nat, vi = .int .i64 (i : Int) ∧ i ≤ n ∧ (∀ j (hj : j < ls.length), j < i → p ls[j] = false) ∧ Ext w wr) (fun vi _ => n - (intOf vi).toNat)
  case atStart => exact ⟨0, rfl, Nat.zero_le _, fun j hj h => by omega, Ext.refl _⟩
  case round =>
    obtain ⟨i, rfl, hin, hp, hE⟩ := hrel
    have HP : Hid (∀ j (hj : j < ls.length), j < i → p ls[j] = false) := hp
    have HE : Hid (Ext w wr) := hE
    clear hp hE
    by_cases hlt : i < n
    · have hil : i < ls.length := by rw [HN.out]; exact hlt
      obtain ⟨ad, had⟩ := H3.out.ad hil
      subst had
      obtain ⟨k0, k1, k2⟩ := (H3.out.below HE.out).2 ad rfl i hil
      obtain ⟨x, hx⟩ : ∃ x, x = ls[i] := ⟨_, rfl⟩
      rw [← hx] at k0 k1 k2
      have HX : Hid (x = ls[i]) := hx
      have HF : Hid (Calls _ _ _ _ _) := hf.out wr x HE.out (by rw [hx]; exact List.getElem_mem _)
      clear hx
      go_wp2_with fail
      refine HF.out.mono ?_
      rintro e w2 ⟨rfl, hE2⟩
      have HE2 : Hid (Ext w w2) := HE.out.trans hE2
      clear hE2 HE HF k0 k1 k2
      cases hb : p x with
      | true =>
        have HB : Hid (p x = true) := hb
        clear hb
        go_wp2
        go_ret
        exact ⟨.inl ⟨i, hil, rfl, by rw [← HX.out]; exact HB.out, HP.out⟩, HE2.out⟩
      | false =>
        have HB : Hid (p x = false) := hb
        clear hb
        go_wp2
        go_roundw
        case rel =>
          refine ⟨i + 1, by go_num, hlt, fun j hj hji => ?_, HE2.out⟩
          rcases (show j < i ∨ j = i by omega) with h | rfl
          · exact HP.out j hj h
          · rw [← HX.out]; exact HB.out
        case measure => simp [intOf]; omega
    · have hni : i = n := by omega
      clear hin
      go_wp2
      go_ret
      refine ⟨.inr ⟨rfl, fun x hx => ?_⟩, HE.out⟩
      obtain ⟨j, hj, rfl⟩ := List.getElem_of_mem hx
      exact HP.out j hj (by have := HN.out; omega)
set_option maxHeartbeats 1000000 in
theorem containsF_G (c1 : Value) (p : Wn → Bool) (v : Value) (ls : List Wn) (w : World) (h : RowW w v ls) (hl : ls.length ≤ 1000000)
    (hf : Hid (∀ (W : World) (x : Wn), Ext w W → x ∈ ls → Calls Try.prog 44 #[c1, .agg #[.int .u64 x.num, .int .i64 x.node, .int .i64 x.mode]] W fun e w' => e = .returned (.bool (p x)) ∧ Ext W w')) :
    Calls Try.prog 42 #[v, .func (.func 44) #[c1] #[]] w fun e w' => e = .returned (.bool (ls.any p)) ∧ Ext w w' := by
  have HI : Hid (Calls _ _ _ _ _) := idxF_G c1 p v ls w h hl hf
  clear h hl
  go_enter Try.func42, Try.ntmps42
  go_wp2_with fail
  refine HI.out.mono ?_
  rintro e w2 ⟨hv, hE⟩
  have HE : Hid (Ext w w2) := hE
  clear hE HI
  rcases hv with ⟨i, hi, rfl, hp, _⟩ | ⟨rfl, hp⟩
  · have HA : Hid (ls.any p = true) := List.any_eq_true.2 ⟨_, List.getElem_mem _, hp⟩
    have h0 : (0 : Int) ≤ (i : Int) := by omega
    clear hp hi
    go_wp2
    go_ret
    exact ⟨by rw [HA.out]; simp, HE.out⟩
  · have HA : Hid (ls.any p = false) := List.any_eq_false.2 fun x hx => by rw [hp x hx]; decide
    clear hp
    go_wp2
    go_ret
    exact ⟨by rw [HA.out]; rfl, HE.out⟩
end Go.Proofs.Ytkgecljoodofeaa
