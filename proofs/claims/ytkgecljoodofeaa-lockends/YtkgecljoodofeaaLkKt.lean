/- lock: Keys of a table that a law holds. Own lemmas, no statement. -/
import Derived.Test.YtkgecljoodofeaaLkHd
set_option linter.unusedSimpArgs false
set_option linter.unusedVariables false
namespace Go.Proofs.Ytkgecljoodofeaa
open Go.ChangeShapes Go.WideShapes Go.ChangeAt Go.RowKit

theorem keysT_any {B g n : Nat} {S : Say} {T : Tab} (w : World) (h : TT B w g n S T) (t : Td) (ht : t.wf) (hn : n ≤ 9000) :
    Calls Try.prog 21 #[.pointer (some ⟨g, 0, none⟩), .agg #[.int .u64 t.num, .int .i64 t.node]] w fun e w' => ∃ (v : Value) (ks : List ByteArray), e = .returned v ∧ (ks.Pairwise fun a b => ltK a b = true) ∧ (∀ q, q ∈ ks ↔ hasT t (S.has q) = true) ∧ OwnK w' w.heap.size v ks ∧ Ext w w' := by
  rw [← h.at_]
  refine (keys_any B T t w h.tab h.inv ht (Nat.le_trans h.n hn)).mono ?_
  rintro e w' ⟨v, ks, rfl, hk, ho, hx⟩
  refine ⟨v, _, rfl, List.Pairwise.filter _ hk.1, fun q => ?_, ho, hx⟩
  rw [List.mem_filter, hk.2 q, h.inv.asked t q, h.has q]
  constructor
  · rintro ⟨_, h2⟩
    cases hb : hasT t (T.ln q).has with
    | true => rfl
    | false =>
      rw [modeT_no hb] at h2
      simp at h2
  · intro hb
    obtain ⟨y, hy, e⟩ := (hasT_mem (h.inv.srt q)).1 hb
    refine ⟨⟨y, .inl hy, e⟩, ?_⟩
    have h1 := mode_self2 (h.inv.srt q) hy
    rw [e] at h1
    rw [h1]
    rcases h.inv.modes q y (.inl hy) with h2 | h2 <;> rw [h2] <;> rfl
end Go.Proofs.Ytkgecljoodofeaa
