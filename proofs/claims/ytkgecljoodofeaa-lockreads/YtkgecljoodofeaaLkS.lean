/- lock: a table that a law holds: what it says, and what a call turns. Own lemmas, no statement. -/
import Derived.Test.YtkgecljoodofeaaLkP1
import Derived.Test.YtkgecljoodofeaaLkP2
import Derived.Test.YtkgecljoodofeaaLkQ
import Derived.Test.YtkgecljoodofeaaLkR
set_option linter.unusedSimpArgs false
set_option linter.unusedVariables false
namespace Go.Proofs.Ytkgecljoodofeaa
open Go.ChangeShapes Go.WideShapes Go.ChangeAt Go.RowKit

/-- The table T lies at g, says S; n wishes were laid at most. -/
structure TT (B : Nat) (w : World) (g n : Nat) (S : Say) (T : Tab) : Prop where
  at_ : T.g = g
  tab : TabAt B w T none_
  inv : TInv T
  n : T.N ≤ n
  has : ∀ k, S.has k = (T.ln k).has
  waits : ∀ k, S.waits k = (T.ln k).waits
/-- A call turned the table from T to T', and nothing else that lay there. -/
structure StepT (w : World) (T : Tab) (w' : World) (T' : Tab) : Prop where
  chg : Chg (FT T none_) w w'
  ft : ∀ i, FT T' none_ i → FT T none_ i ∨ w.heap.size ≤ i
theorem StepT.of_ext {w w' : World} {T : Tab} (h : Ext w w') : StepT w T w' T := ⟨Chg.of_below h (fun i hi hn => absurd hi (Nat.not_lt.2 hn)), fun i hi => .inl hi⟩
theorem StepT.trans {w w1 w2 : World} {T T1 T2 : Tab} (h : StepT w T w1 T1) (k : StepT w1 T1 w2 T2) : StepT w T w2 T2 :=
  ⟨Chg.trans h.chg k.chg fun i hi e => by
    rcases h.ft i e with x | x
    · exact x
    · omega, fun i hi => by
    rcases k.ft i hi with x | x
    · exact h.ft i x
    · have := h.chg.size; exact .inr (by omega)⟩
/-- A block that is none of the table's stays. -/
theorem StepT.blk {w w' : World} {T T' : Tab} (h : StepT w T w' T') {b : Nat} {c : Array Value} {Y : TypeId} (hb : Blk w b c Y) (hn : ¬ FT T none_ b) : Blk w' b c Y ∧ ¬ FT T' none_ b :=
  ⟨hb.chg h.chg hn, fun e => by
    rcases h.ft b e with x | x
    · exact hn x
    · have := hb.lt; omega⟩
theorem TT.below {B : Nat} {w w' : World} {g n : Nat} {S : Say} {T : Tab} (h : TT B w g n S T) (he : Ext w w') : TT B w' g n S T := ⟨h.at_, h.tab.below he, h.inv, h.n, h.has, h.waits⟩
/-- Another table stays. -/
theorem StepT.other {B : Nat} {w w' : World} {T T' U : Tab} {g n : Nat} {S : Say} (h : StepT w T w' T') (hu : TT B w g n S U) (ha : ∀ i, FT U none_ i → ¬ FT T none_ i) : TT B w' g n S U ∧ ∀ i, FT U none_ i → ¬ FT T' none_ i :=
  ⟨⟨hu.at_, hu.tab.chg (fun _ e => e) h.chg (fun i hi e => ha i hi e), hu.inv, hu.n, hu.has, hu.waits⟩, fun i hi e => by
    have h1 := (hu.tab.ft_lt hi).2
    rcases h.ft i e with x | x
    · exact ha i hi x
    · omega⟩
def ansM (t : Td) (m : Int) (S : Say) (k : ByteArray) : Int := if m = 1 ∨ m = 2 then (askL t m (S.has k) (S.waits k)).ans else 3
def Say.askM (S : Say) (t : Td) (m : Int) (k : ByteArray) : Say := if m = 1 ∨ m = 2 then S.ask t m k else S
section
variable {B : Nat} {w : World} {g n : Nat} {S : Say} {T : Tab}
theorem TT.asked {w' : World} {t : Td} {m : Int} {k : ByteArray} {e : Ending} (h : TT B w g n S T) (hm : m = 1 ∨ m = 2) (hp : AskP B w T t m k e w') :
    e = .returned (.int .i64 (ansM t m S k)) ∧ ∃ T', TT B w' g (n + 1) (S.askM t m k) T' ∧ StepT w T w' T' := by
  have ea : askL t m (S.has k) (S.waits k) = askL t m (T.ln k).has (T.ln k).waits := by rw [h.has, h.waits]
  have eM : S.askM t m k = S.ask t m k := by unfold Say.askM; rw [if_pos hm]
  obtain ⟨he, hc⟩ := hp
  refine ⟨by unfold ansM; rw [if_pos hm, ea]; exact he, ?_⟩
  rw [eM]
  rcases hc with ⟨hl, ht, hx⟩ | ⟨hl, l, b, h1, h2, hb, hL, ht, hx⟩
  · obtain ⟨q1, q2⟩ := askL_still hl
    refine ⟨T, ⟨h.at_, ht, h.inv, Nat.le_trans h.n (Nat.le_succ _), fun q => ?_, fun q => ?_⟩, StepT.of_ext hx⟩
    · show (if q = k then (askL t m (S.has k) (S.waits k)).has else S.has q) = _
      split
      · rename_i e; rw [ea, q1, e]
      · exact h.has q
    · show (if q = k then (askL t m (S.has k) (S.waits k)).waits else S.waits q) = _
      split
      · rename_i e; rw [ea, q2, e]
      · exact h.waits q
  · refine ⟨T.kept t k l b, ⟨h.at_, ht, TInv.kept h.inv hm (TInv.waits0 T) hl h1 h2, Nat.succ_le_succ h.n, fun q => ?_, fun q => ?_⟩, hx, fun i hi => ?_⟩
    · show (if q = k then (askL t m (S.has k) (S.waits k)).has else S.has q) = _
      rw [Tab.kept_ln]
      split
      · rw [ea, h1]
      · exact h.has q
    · show (if q = k then (askL t m (S.has k) (S.waits k)).waits else S.waits q) = _
      rw [Tab.kept_ln]
      split
      · rw [ea, h2]
      · exact h.waits q
    · rcases hi with e | e | e | ⟨q, l', hq, _, hlb⟩ | ⟨u, hu⟩
      · exact .inl (.inl e)
      · exact .inl (.inr (.inl e))
      · exact .inl (.inr (.inr (.inl e)))
      · have hq2 : putF cLn T.F k l q = some l' := hq
        by_cases hqk : q = k
        · rw [hqk, putF_same cLn_ok] at hq2
          cases hq2
          rcases hL i hlb with x | x
          · exact .inl (h.tab.lb_ft x)
          · exact .inr x
        · rw [putF_other cLn_ok _ _ hqk] at hq2
          exact .inl (.inr (.inr (.inr (.inl ⟨q, l', hq2, fun e => e, hlb⟩))))
      · have hu2 : putF cAs T.A t (some b) u = some (some i) := hu
        by_cases hut : u = t
        · rw [hut, putF_same cAs_ok] at hu2
          cases hu2
          rcases hb with x | ⟨_, x⟩
          · exact .inl (.inr (.inr (.inr (.inr ⟨t, x⟩))))
          · exact .inr x
        · rw [putF_other cAs_ok _ _ hut] at hu2
          exact .inl (.inr (.inr (.inr (.inr ⟨u, hu2⟩))))
/-- Ask of any table that is there, in any mode. -/
theorem askT_any (h : TT B w g n S T) (t : Td) (m : Int) (k : ByteArray) (ht : t.wf) (hk : k.size ≤ maxLen) (hn : n ≤ 9000) :
    Calls Try.prog 12 #[.pointer (some ⟨g, 0, none⟩), .agg #[.int .u64 t.num, .int .i64 t.node], .string k, .int .i64 m] w fun e w' => e = .returned (.int .i64 (ansM t m S k)) ∧ ∃ T', TT B w' g (n + 1) (S.askM t m k) T' ∧ StepT w T w' T' := by
  have hN : T.N ≤ 9000 := Nat.le_trans h.n hn
  by_cases h1 : m = 1
  · subst h1
    rw [← h.at_]
    exact (ask1_any B T t k w h.tab h.inv ht hk hN).mono fun e w' hp => by rw [h.at_]; exact h.asked (.inl rfl) hp
  · by_cases h2 : m = 2
    · subst h2
      rw [← h.at_]
      exact (ask2_any B T t k w h.tab h.inv ht hk hN).mono fun e w' hp => by rw [h.at_]; exact h.asked (.inr rfl) hp
    · refine (askBad_any g t k m w h1 h2).mono fun e w' ⟨he, hx⟩ => ?_
      have hm : ¬ (m = 1 ∨ m = 2) := fun e => by rcases e with e | e; exact h1 e; exact h2 e
      unfold ansM Say.askM
      rw [if_neg hm, if_neg hm]
      exact ⟨he, T, ⟨h.at_, h.tab.below hx, h.inv, Nat.le_trans h.n (Nat.le_succ _), h.has, h.waits⟩, StepT.of_ext hx⟩
theorem newT_any (w : World) : Calls Try.prog 11 #[] w fun e w' => ∃ g T, e = .returned (.pointer (some ⟨g, 0, none⟩)) ∧ TT w.heap.size w' g 0 say0 T ∧ Ext w w' :=
  (new_any w).mono fun e w' ⟨g, mb, ab, he, ht, hx⟩ => ⟨g, _, he, ⟨rfl, ht, tinv0 g mb ab, Nat.le_refl _, fun k => rfl, fun k => rfl⟩, hx⟩
/-- A new table's blocks are new. -/
theorem TT.ge (h : TT B w g n S T) {i : Nat} (hi : FT T none_ i) : B ≤ i ∧ i < w.heap.size := h.tab.ft_lt hi
end
end Go.Proofs.Ytkgecljoodofeaa
