/- The Go texts of disk's forget, Sync and On. Own lemmas, no statement. -/
import Derived.Test.YtepfckckplbjjaaDisk3
import Derived.Deep.RegionHeld3
namespace Go.Proofs.Ytepfckckplbjjaa
open Go.ChangeShapes Go.WideShapes Go.ChangeAt Go.RowKit

theorem zeroCellsW (n : Nat) : (Builtin.zeroCells (Value.agg #[.int .i64 0, .slice none 0 0]).cells n).size = n * 2 := by
  simp [Builtin.zeroCells, Value.cells]
theorem zeroCellsW_one (n : Nat) : ∀ u ∈ (Builtin.zeroCells (Value.agg #[.int .i64 0, .slice none 0 0]).cells n).toList, u.oneCell' = true := by
  intro u hu
  simp [Builtin.zeroCells, Value.cells] at hu
  obtain ⟨k, hk, rfl⟩ := hu
  rcases (show k % 2 = 0 ∨ k % 2 = 1 by omega) with h | h <;> rw [h] <;> rfl

theorem run_clearW (w : World) (bs : Nat → Prop) (ao : Option Addr) (n cap : Nat) (ws : List (Nat × List UInt8)) (h : WaitsAt w bs (.slice ao n cap) ws) :
    ∃ w2, (∀ ty, (Builtin.clear_ #[68] ty #[.slice ao n cap]).run Try.prog w = .ok (.tuple #[]) w2) ∧ Chg (fun k => (Value.slice ao n cap).ownBlock = some k) w w2 ∧ WaitsAt w2 bs (.slice ao 0 cap) [] := by
  obtain ⟨xs, h1, h2⟩ := h
  rcases h1.2 with ⟨e, hn⟩ | ⟨g, cap', cur, e, hB, hg, h3, h4, h5, h6⟩
  · simp only [Value.slice.injEq] at e
    obtain ⟨rfl, rfl, rfl⟩ := e
    exact ⟨w, fun ty => by simp [Builtin.clear_, run_underlying Try.underlying68], Chg.refl _ _, [], World.ownsRow_nil _ _ _ _, fun i p hp => by simp at hp⟩
  · simp only [Value.slice.injEq] at e
    obtain ⟨rfl, hnn, rfl⟩ := e
    subst hnn
    by_cases hz : ws.length = 0
    · refine ⟨w, fun ty => by rw [hz]; simp [Builtin.clear_, run_underlying Try.underlying68], Chg.refl _ _, [], ⟨by simp, .inr ⟨g, cap, cur, rfl, hB, hg, Nat.zero_le _, h4, h5, by simp⟩⟩, fun i p hp => by simp at hp⟩
    · obtain ⟨row, hst, hrow⟩ : ∃ row : Array Value, (storeCells ⟨g, 0, none⟩ (Builtin.zeroCells (Value.agg #[.int .i64 0, .slice none 0 0]).cells ws.length).toList 0).run Try.prog w = .ok () (w.setRow g row) ∧ row.size = cap * 2 :=
        ⟨_, run_storeCells_at Try.prog g 0 88 (Builtin.zeroCells (Value.agg #[.int .i64 0, .slice none 0 0]).cells ws.length).toList 0 cur w hg (by rw [Array.length_toList, zeroCellsW]; omega) (zeroCellsW_one _), by simp [zeroCellsW]; omega⟩
      refine ⟨w.setRow g row, fun ty => ?_, ⟨rfl, rfl, rfl, by simp [World.setRow], fun k _ hn => setRow_other w g k _ (fun e => hn (by subst e; rfl))⟩, [], ⟨by simp, .inr ⟨g, cap, row, rfl, hB, setRow_heap _ _ _ _ _ _ hg, Nat.zero_le _, h4, hrow, by simp⟩⟩, fun i p hp => by simp at hp⟩
      obtain ⟨m, hm⟩ : ∃ m, ws.length = m + 1 := ⟨ws.length - 1, by omega⟩
      rw [hm] at hst ⊢
      simp [Builtin.clear_, run_underlying Try.underlying68, hst]

section
variable {w w' : World} {f : Foot} {st : DSt}
theorem DiskAt.waitsCell (h : DiskAt w f st) : ∃ ao n cap, w.cell? ⟨f.g, 2, none⟩ = some (.slice ao n cap) ∧ n = st.waits.length ∧ WaitsAt w f.bs (.slice ao n cap) st.waits ∧ (Value.slice ao n cap).ownBlock = f.w ∧ n ≤ cap ∧ cap ≤ maxLen := by
  obtain ⟨wv, c0, c1, c2, c3, c4, c5, hw, ho, hf, hB⟩ := h.cells
  obtain ⟨ao, cap, rfl, _, _, h1, h2⟩ := hw.form
  exact ⟨ao, _, cap, c2, rfl, hw, ho, h1, h2⟩
end

set_option maxHeartbeats 400000 in
theorem forget_any (f : Foot) (st : DSt) (w : World) (h : DiskAt w f st) (hsame : st.now = st.safe) :
    Calls Try.prog 47 #[dptr f.g] w fun e w' => e = .returned (.tuple #[]) ∧ DiskAt w' f { st with waits := [] } ∧ Turned f w f w' := by
  have HD : Hid (DiskAt w f st) := h
  have HS : Hid (st.now = st.safe) := hsame
  obtain ⟨ao, n, cap, c2, hn, hw, ho, h1, h2⟩ := h.waitsCell
  obtain ⟨w2, hcl, hch, hw2⟩ := run_clearW w f.bs ao n cap st.waits hw
  obtain ⟨n1, n2, n3, n4⟩ := h.gNe
  have hg2 : ¬ (Value.slice ao n cap).ownBlock = some f.g := by rw [ho]; exact n3
  have k2 : w2.cell? ⟨f.g, 2, none⟩ = some (.slice ao n cap) := by
    obtain ⟨wv, a1, _⟩ := h.head
    exact ((a1.chg hch hg2).cell 2).trans ((a1.cell 2).symm.trans c2)
  have k2f : w2.frozen? ⟨f.g, 2, none⟩ = false := by
    obtain ⟨wv, a1, _⟩ := h.head
    exact (a1.chg hch hg2).frozen 2
  have HO : Hid ((Value.slice ao n cap).ownBlock = f.w) := ho
  have HCH : Hid (Chg (fun k => (Value.slice ao n cap).ownBlock = some k) w w2) := hch
  have HW2 : Hid (WaitsAt w2 f.bs (.slice ao 0 cap) []) := hw2
  unfold maxLen at h2
  clear h hsame hn hw ho hch hw2 n1 n2 n3 n4 hg2
  go_enter Try.func47, Try.ntmps47
  go_wp2
  go_end0
  have hch5 : Chg (fun k => k = f.g) w2 (w2.setCell ⟨f.g, 2, none⟩ (.slice ao 0 cap)) := chgG (Chg.refl _ _) _ _
  have hD := HD.out
  have hch := HCH.out
  have h2' := HO.out
  obtain ⟨n1, n2, n3, n4⟩ := hD.gNe
  obtain ⟨m1, m2, m3, m4⟩ := hD.nNe
  obtain ⟨p1, p2, p3, p4⟩ := hD.sNe
  have p7 := hD.wNe
  have b4 : ∀ k, f.bs k → ¬ (Value.slice ao n cap).ownBlock = some k := fun k hk e => p7 k (by rw [← h2']; exact e) hk
  have b5 : ∀ k, f.bs k → ¬ k = f.g := fun k hk e => by subst e; exact n4 hk
  have hob : (Value.slice ao 0 cap).ownBlock = (Value.slice ao n cap).ownBlock := by cases ao <;> rfl
  refine ⟨rfl, ⟨⟨.slice ao 0 cap, ?_, ?_, HW2.out.chg hch5 (fun k hk e => n3 (by rw [← h2', ← hob, hk, e])) b5 (fun _ e => e)⟩, ?_, ?_, hD.ne, ?_, hD.len, hD.fuse, ?_, ?_⟩, rfl, fun k hk => .inl hk, ?_⟩
  · obtain ⟨wv, a1, _⟩ := hD.head
    exact (a1.chg hch (by rw [h2']; exact n3)).set 2 _
  · exact hob.trans h2'
  · exact (hD.now.chg hch (by rw [h2']; exact m3) b4 (fun _ e => e)).chg hch5 n1 b5 (fun _ e => e)
  · exact (hD.safe.chg hch (by rw [h2']; exact p3) b4 (fun _ e => e)).chg hch5 n2 b5 (fun _ e => e)
  · exact ⟨hD.inv.len, fun p hp => (by cases hp), fun i _ => by show st.now[i]? = st.safe[i]?; rw [HS.out], hD.inv.nows, hD.inv.safes, fun p hp => (by cases hp)⟩
  · intro k hk
    exact Nat.lt_of_lt_of_le (Nat.lt_of_lt_of_le (hD.lt k hk) hch.size) hch5.size
  · intro k hk
    obtain ⟨c, hc⟩ := hD.ty k hk
    exact ⟨c, (hc.chg hch (b4 k hk)).chg hch5 (b5 k hk)⟩
  · exact Chg.trans (hch.mono (fun k _ e => .inl (.inr (.inr (.inr (by rw [← h2']; exact e)))))) hch5 (fun k _ e => .inl (.inl e))
end Go.Proofs.Ytepfckckplbjjaa
