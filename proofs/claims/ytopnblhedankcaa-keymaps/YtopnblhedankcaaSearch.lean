/- What the Go text of sort.Search comes to, with the closure that it is handed in the program. Own lemmas, no statement. -/
import Derived.Test.YtopnblhedankcaaSeg
import Derived.Test.YtopnblhedankcaaHash
namespace Go.Proofs.Ytopnblhedankcaa
open Go.ChangeShapes Go.WideShapes Go.ChangeAt Go.RowKit

set_option maxHeartbeats 1000000 in
theorem search_any (n : Nat) (c1 c2 : Value) (p : Nat → Bool) (w : World) (hn : n ≤ 4611686018427387904)
    (hf : Hid (∀ (W : World) (i : Nat), Ext w W → i < n → Calls Try.prog 46 #[.int .i64 (i : Int), c1, c2] W fun e w' => e = .returned (.bool (p i)) ∧ Ext W w'))
    (hm : Hid (∀ a b, a ≤ b → b < n → p a = true → p b = true)) :
    Calls Try.prog 45 #[.int .i64 (n : Int), .func (.func 46) #[] #[c1, c2]] w fun e w' =>
      ∃ r : Nat, e = .returned (.int .i64 (r : Int)) ∧ r ≤ n ∧ (∀ j, j < r → p j = false) ∧ (∀ j, r ≤ j → j < n → p j = true) ∧ Ext w w' := by
  go_enter Try.func45, Try.ntmps45
  go_wp2
  go_loopw [5, 6] (fun vi vj wr => ∃ i j : Nat, vi = .int .i64 i ∧ vj = .int .i64 j ∧ i ≤ j ∧ j ≤ n ∧ (∀ k, k < i → p k = false) ∧ (∀ k, j ≤ k → k < n → p k = true) ∧ Ext w wr) (fun vi vj _ => (intOf vj).toNat - (intOf vi).toNat)
  case atStart => exact ⟨0, n, rfl, rfl, by omega, by omega, by omega, by omega, Ext.refl _⟩
  case round =>
    obtain ⟨i, j, rfl, rfl, hij, hjn, h1, h2, hE⟩ := hrel
    have H1 : Hid _ := h1
    have H2 : Hid _ := h2
    have HE : Hid (Ext w wr) := hE
    clear h1 h2 hE
    by_cases hlt : i < j
    · go_wp2_with fail
      obtain ⟨h, hh, hih, hhj⟩ : ∃ h : Nat, ((i : Int) + (j : Int)) / 2 = (h : Int) ∧ i ≤ h ∧ h < j := ⟨(i + j) / 2, by omega, by omega, by omega⟩
      rw [hh]
      clear hh
      refine (hf.out wr h HE.out (by omega)).mono ?_
      rintro e w2 ⟨rfl, hE2⟩
      have HE2 : Hid (Ext w w2) := HE.out.trans hE2
      clear hE2 HE
      cases hp : p h with
      | true =>
        have HP : Hid (p h = true) := hp
        clear hp
        go_wp2
        go_roundw
        case rel => exact ⟨i, h, rfl, rfl, hih, by omega, H1.out, fun k hk hkn => hm.out h k hk hkn HP.out, HE2.out⟩
        case measure => simp [intOf]; omega
      | false =>
        have HP : Hid (p h = false) := hp
        clear hp
        go_wp2
        go_roundw
        case rel =>
          refine ⟨h + 1, j, by go_num, rfl, by omega, hjn, fun k hk => ?_, H2.out, HE2.out⟩
          cases hq : p k with
          | false => rfl
          | true => have := hm.out k h (by omega) (by omega) hq; rw [HP.out] at this; cases this
        case measure => simp [intOf]; omega
    · go_wp2
      go_ret
      exact ⟨i, rfl, by omega, H1.out, fun k hk hkn => H2.out k (by omega) hkn, HE.out⟩
end Go.Proofs.Ytopnblhedankcaa
