/- lock: the law's same, of the same list; a wish made again, plainly. Own lemmas, no statement. -/
import Derived.Test.YtkgecljoodofeaaLkLS
set_option linter.unusedSimpArgs false
set_option linter.unusedVariables false
namespace Go.Proofs.Ytkgecljoodofeaa
open Go.ChangeShapes Go.WideShapes Go.ChangeAt Go.RowKit

set_option maxRecDepth 100000 in
set_option maxHeartbeats 4000000 in
theorem same12_ok (u v : Value) (ls : List Wn) (w : World) (h1 : RowW w u ls) (h2 : RowW w v ls) (hl : ls.length ≤ 10000) :
    Calls Try.prog 17 #[u, v] w fun e w' => e = .returned (.bool true) ∧ Ext w w' := by
  have H1 : Hid (RowW w u ls) := h1
  have H2 : Hid (RowW w v ls) := h2
  obtain ⟨n, hn⟩ : ∃ n, ls.length = n := ⟨_, rfl⟩
  have HN : Hid (ls.length = n) := hn
  obtain ⟨ua, uc, eu, _, _, _, _⟩ := h1
  obtain ⟨va, vc, ev, _, _, _, _⟩ := h2
  rw [hn] at eu ev hl
  clear hn
  subst eu ev
  have hne : ((n : Int) != (n : Int)) = false := by simp
  go_enter Try.func17, Try.ntmps17
  go_wp2_with fail
  go_loopw [13] (fun vi wr => ∃ i : Nat, vi = .int .i64 (i : Int) ∧ i ≤ n ∧ Ext w wr) (fun vi _ => n - (intOf vi).toNat)
  case atStart => exact ⟨0, rfl, Nat.zero_le _, Ext.refl _⟩
  case round =>
    obtain ⟨i, rfl, hi, hE⟩ := hrel
    have HE : Hid (Ext w wr) := hE
    clear hE
    by_cases hlt : i < n
    · have hil : i < ls.length := by rw [HN.out]; exact hlt
      obtain ⟨ad, e1, k0, k1, k2⟩ := (H1.out.below HE.out).cell3 rfl hil
      obtain ⟨bd, e2, j0, j1, j2⟩ := (H2.out.below HE.out).cell3 rfl hil
      subst e1 e2
      obtain ⟨x, hx⟩ : ∃ x, x = ls[i] := ⟨_, rfl⟩
      rw [← hx] at k0 k1 k2 j0 j1 j2
      clear hx
      obtain ⟨xn, xd, xm⟩ := x
      simp only at k0 k1 k2 j0 j1 j2
      have hii : (i : Int) + 1 ≤ 20000 := by omega
      go_upto_region 6 with fail
      go_quiet (fail)
      have HE6 : Hid (Ext w (wr.drewN nq)) := by have h := HE.out; exact ⟨h.os, h.tape, h.output, h.size, h.block⟩
      clear k0 k1 k2 j0 j1 j2
      go_wp2
      go_roundw
      case rel => exact ⟨i + 1, by go_num, hlt, HE6.out⟩
      case measure => simp [intOf]; omega
    · go_wp2
      go_ret
      exact ⟨rfl, HE.out⟩
theorem mode_self {x : Wn} {ls : List Wn} (hs : Srt ls) (hx : x ∈ ls) : modeT x.t ls = x.mode := by
  obtain ⟨i, hi, rfl⟩ := List.getElem_of_mem hx
  have hp := posT_mem hs hi rfl
  have hh : hasT ls[i].t ls = true := (hasT_mem hs).2 ⟨_, List.getElem_mem _, rfl⟩
  rw [modeT_at (hasT_lt hh) hh]
  congr 1
  exact getElem_congr rfl hp (hasT_lt hh)
/-- A wish made again: the same answer, and nothing turns. -/
theorem askL_again (t : Td) (m : Int) (has waits : List Wn) (hs : Srt has) : askL t m (askL t m has waits).has (askL t m has waits).waits = ⟨(askL t m has waits).ans, (askL t m has waits).has, (askL t m has waits).waits, false⟩ := by
  cases hl : (askL t m has waits).laid with
  | false =>
    obtain ⟨e1, e2⟩ := askL_still hl
    rw [e1, e2]
    have : askL t m has waits = ⟨(askL t m has waits).ans, (askL t m has waits).has, (askL t m has waits).waits, (askL t m has waits).laid⟩ := rfl
    rw [this, hl, e1, e2]
  | true =>
    rcases askL_parts t m has waits hl with ⟨e0, e1, e2⟩ | ⟨e0, e1, p, hp, e2, _⟩
    · rw [e0, e1, e2]
      have hm : modeT t (giveL ⟨t.num, t.node, m⟩ has) = m := mode_self (x := ⟨t.num, t.node, m⟩) (giveL_srt hs) (self_giveL _ _)
      unfold askL
      rw [if_pos (by rw [hm]; exact .inl rfl)]
    · rw [e0, e1, e2]
      unfold askL at hl ⊢
      split at hl
      · cases hl
      · rename_i h1
        rw [if_neg h1]
        rw [if_pos]
        refine List.any_eq_true.2 ⟨⟨t.num, t.node, m⟩, by simp, ?_⟩
        exact eqT_self t
end Go.Proofs.Ytkgecljoodofeaa
