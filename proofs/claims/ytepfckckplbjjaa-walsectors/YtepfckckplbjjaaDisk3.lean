/- The Go texts of disk's Write and Read. Own lemmas, no statement. -/
import Derived.Test.YtepfckckplbjjaaDisk2
namespace Go.Proofs.Ytepfckckplbjjaa
open Go.ChangeShapes Go.WideShapes Go.ChangeAt Go.RowKit

section
variable {w : World} {f : Foot} {st : DSt}
theorem DiskAt.nNe (h : DiskAt w f st) : f.g ≠ f.n ∧ f.s ≠ f.n ∧ f.w ≠ some f.n ∧ ¬ f.bs f.n := by
  obtain ⟨wv, h1, h2, h3⟩ := h.head
  obtain ⟨c1, k1, _⟩ := h.now
  refine ⟨h1.ne k1 (by decide), fun e => h.ne e.symm, fun e => ?_, fun e => ?_⟩
  · obtain ⟨c, hc⟩ := h3.blk (by rw [h2]; exact e)
    exact hc.ne k1 (by decide) rfl
  · obtain ⟨c, hc⟩ := h.ty _ e
    exact hc.ne k1 (by decide) rfl
theorem DiskAt.sNe (h : DiskAt w f st) : f.g ≠ f.s ∧ f.n ≠ f.s ∧ f.w ≠ some f.s ∧ ¬ f.bs f.s := by
  obtain ⟨wv, h1, h2, h3⟩ := h.head
  obtain ⟨c1, k1, _⟩ := h.safe
  refine ⟨h1.ne k1 (by decide), h.ne, fun e => ?_, fun e => ?_⟩
  · obtain ⟨c, hc⟩ := h3.blk (by rw [h2]; exact e)
    exact hc.ne k1 (by decide) rfl
  · obtain ⟨c, hc⟩ := h.ty _ e
    exact hc.ne k1 (by decide) rfl
theorem DiskAt.wNe (h : DiskAt w f st) : ∀ k, f.w = some k → ¬ f.bs k := by
  obtain ⟨wv, h1, h2, h3⟩ := h.head
  intro k hk e
  obtain ⟨c, hc⟩ := h3.blk (by rw [h2]; exact hk)
  obtain ⟨c', hc'⟩ := h.ty _ e
  exact hc.ne hc' (by decide) rfl
/-- A write is laid: its sector, and that it waits. -/
theorem DiskAt.laid {W2 w4 : World} {i : Nat} {l : List UInt8} {wv v4 : Value} (h : DiskAt w f st) (hwv : w.cell? ⟨f.g, 2, none⟩ = some wv) (hS : SecsAt W2 f.bs f.n (st.now.set i (l, false))) (hch2 : Chg (fun k => k = f.n) w W2) (hch4 : Chg (fun k => wv.ownBlock = some k) W2 w4)
    (hW4 : WaitsAt w4 f.bs v4 (st.waits ++ [(i, l)])) (hat : v4.ownBlock = wv.ownBlock ∨ v4.ownBlock = some (W2.heap.size + 1)) (hi : i < st.now.length) (hl : l.length = 512) :
    DiskAt (w4.setCell ⟨f.g, 2, none⟩ v4) { f with w := v4.ownBlock } (st.written i l) ∧ Turned f w { f with w := v4.ownBlock } (w4.setCell ⟨f.g, 2, none⟩ v4) := by
  obtain ⟨n1, n2, n3, n4⟩ := h.gNe
  obtain ⟨m1, m2, m3, m4⟩ := h.nNe
  obtain ⟨p1, p2, p3, p4⟩ := h.sNe
  have p7 := h.wNe
  obtain ⟨wv', h1, h2, h3⟩ := h.head
  have hwv' : wv' = wv := by have := (h1.cell 2).symm.trans hwv; simpa [hd] using this
  subst hwv'
  have hch5 : Chg (fun k => k = f.g) w4 (w4.setCell ⟨f.g, 2, none⟩ v4) := chgG (Chg.refl _ _) _ _
  have b2 : ∀ k, f.bs k → ¬ k = f.n := fun k hk e => by subst e; exact m4 hk
  have b4 : ∀ k, f.bs k → ¬ wv'.ownBlock = some k := fun k hk e => p7 k (by rw [← h2]; exact e) hk
  have b5 : ∀ k, f.bs k → ¬ k = f.g := fun k hk e => by subst e; exact n4 hk
  have hgl := h1.lt
  have hgW : f.g < W2.heap.size := Nat.lt_of_lt_of_le hgl hch2.size
  have hv4 : ∀ k, v4.ownBlock = some k → ¬ k = f.g := fun k hk e => by
    subst e
    rcases hat with e | e
    · exact n3 (by rw [← h2, ← e, hk])
    · rw [hk] at e; have := Option.some.inj e; omega
  refine ⟨⟨⟨v4, ?_, rfl, hW4.chg hch5 hv4 b5 (fun _ e => e)⟩, ?_, ?_, h.ne, h.inv.written hi hl, by simpa [DSt.written] using h.len, h.fuse, ?_, ?_⟩, ⟨rfl, ?_, ?_⟩⟩
  · have := (((h1.chg hch2 m1).chg hch4 (fun e => n3 (by rw [← h2]; exact e))).set 2 v4)
    simpa [hd, DSt.written] using this
  · exact (hS.chg hch4 (fun e => m3 (by rw [← h2]; exact e)) b4 (fun _ e => e)).chg hch5 n1 b5 (fun _ e => e)
  · exact ((h.safe.chg hch2 m2 b2 (fun _ e => e)).chg hch4 (fun e => p3 (by rw [← h2]; exact e)) b4 (fun _ e => e)).chg hch5 n2 b5 (fun _ e => e)
  · intro k hk
    exact Nat.lt_of_lt_of_le (Nat.lt_of_lt_of_le (Nat.lt_of_lt_of_le (h.lt k hk) hch2.size) hch4.size) hch5.size
  · intro k hk
    obtain ⟨c, hc⟩ := h.ty k hk
    exact ⟨c, ((hc.chg hch2 (b2 k hk)).chg hch4 (b4 k hk)).chg hch5 (b5 k hk)⟩
  · intro k hk
    rcases hk with (hk | hk | hk | hk) | hk
    · exact .inl (.inl (.inl hk))
    · exact .inl (.inl (.inr (.inl hk)))
    · exact .inl (.inl (.inr (.inr (.inl hk))))
    · rcases hat with e | e
      · exact .inl (.inl (.inr (.inr (.inr (by rw [← h2, ← e]; exact hk)))))
      · have hk' : v4.ownBlock = some k := hk
        rw [hk'] at e
        cases e
        have := hch2.size
        exact .inr (by omega)
    · exact .inl (.inr hk)
  · refine Chg.trans (S' := fun k => k = f.g) (Chg.trans (S' := fun k => wv'.ownBlock = some k) (hch2.mono (fun k _ e => .inl (.inr (.inl e)))) hch4 (fun k _ e => .inl (.inr (.inr (.inr (by rw [← h2]; exact e)))))) hch5 (fun k _ e => .inl (.inl e))
end

/-- No such sector, or too many bytes. -/
def badW (st : DSt) (i : Int) (n : Nat) : Prop := ¬ (0 ≤ i ∧ i < (st.now.length : Int)) ∨ 512 < n

set_option maxHeartbeats 400000 in
theorem write_arg (f : Foot) (st : DSt) (i : Int) (ao : Option Addr) (n c : Nat) (w : World) (h : DiskAt w f st) (hn : badW st i n) (_hm : n ≤ maxLen) :
    Calls Try.prog 35 #[dptr f.g, .int .i64 i, .slice ao n c] w fun e w' => e = .returned (.int .i64 1) ∧ w' = w := by
  by_cases h0 : 0 ≤ i ∧ i < (st.now.length : Int)
  · have hd : decide (0 ≤ i ∧ i < (st.now.length : Int)) = true := decide_eq_true h0
    have hc := has_any f st i w h
    rw [hd] at hc
    have HC : Hid (Calls _ _ _ _ _) := hc
    have hn' : 512 < n := by rcases hn with hn | hn; exact absurd h0 hn; exact hn
    have hn2 : decide (512 < (n : Int)) = true := decide_eq_true (by omega)
    clear hc hd h0 hn
    go_enter Try.func35, Try.ntmps35
    go_wp2_with fail
    refine Calls.mono HC.out ?_
    rintro e w' ⟨rfl, hw⟩; rw [hw]; clear hw w'
    go_wp2
    go_ret
    exact ⟨rfl, rfl⟩
  · have hd : decide (0 ≤ i ∧ i < (st.now.length : Int)) = false := decide_eq_false h0
    have hc := has_any f st i w h
    rw [hd] at hc
    have HC : Hid (Calls _ _ _ _ _) := hc
    clear hc hd h0 hn
    go_enter Try.func35, Try.ntmps35
    go_wp2_with fail
    refine Calls.mono HC.out ?_
    rintro e w' ⟨rfl, hw⟩; rw [hw]; clear hw w'
    go_wp2
    go_ret
    exact ⟨rfl, rfl⟩

set_option maxHeartbeats 400000 in
theorem write_nil (i : Int) (ao : Option Addr) (n c : Nat) (w : World) :
    Calls Try.prog 35 #[.pointer none, .int .i64 i, .slice ao n c] w fun e w' => e = .returned (.int .i64 1) ∧ w' = w := by
  go_enter Try.func35, Try.ntmps35
  go_wp2_with fail
  refine (has_nil _ _).mono ?_
  rintro e w' ⟨rfl, hw⟩; rw [hw]; clear hw w'
  go_wp2
  go_ret
  exact ⟨rfl, rfl⟩

set_option maxHeartbeats 400000 in
theorem write_down (f : Foot) (st : DSt) (i : Nat) (ao : Option Addr) (n c : Nat) (w : World) (h : DiskAt w f st) (hi : i < st.now.length) (hn : n ≤ 512) (hdn : st.down = true) :
    Calls Try.prog 35 #[dptr f.g, .int .i64 (i : Int), .slice ao n c] w fun e w' => e = .returned (.int .i64 8) ∧ w' = w := by
  have hd : decide (0 ≤ (i : Int) ∧ (i : Int) < (st.now.length : Int)) = true := decide_eq_true (by omega)
  have hc := has_any f st i w h
  rw [hd] at hc
  have HC : Hid (Calls _ _ _ _ _) := hc
  have hn2 : decide (512 < (n : Int)) = false := decide_eq_false (by omega)
  obtain ⟨wv, c0, c1, c2, c3, c4, c5, hw, ho, hf, hB⟩ := h.cells
  rw [hdn] at c4
  clear hc hd h hn c0 c1 c2 c3 c5 hw ho hf hB hdn
  go_enter Try.func35, Try.ntmps35
  go_wp2_with fail
  refine Calls.mono HC.out ?_
  rintro e w' ⟨rfl, hw⟩; rw [hw]; clear hw w'
  go_wp2
  go_ret
  exact ⟨rfl, rfl⟩

set_option maxHeartbeats 1000000 in
theorem write_ok (f : Foot) (st : DSt) (i : Nat) (ao : Option Addr) (n c : Nat) (l : List UInt8) (w : World) (h : DiskAt w f st) (hi : i < st.now.length) (hs : Src w (.slice ao n c) l) (hl : l.length ≤ 512) (hdn : st.down = false) (hst : st.steps < 4611686018427387904) (hwl : st.waits.length < 1099511627776) :
    Calls Try.prog 35 #[dptr f.g, .int .i64 (i : Int), .slice ao n c] w fun e w' => e = .returned (.int .i64 st.stepErr) ∧ ∃ f', DiskAt w' f' (st.written i (pad l)).stepped ∧ Turned f w f' w' := by
  have hd : decide (0 ≤ (i : Int) ∧ (i : Int) < (st.now.length : Int)) = true := decide_eq_true (by omega)
  have hc := has_any f st i w h
  rw [hd] at hc
  have HC : Hid (Calls _ _ _ _ _) := hc
  obtain ⟨hnl, _⟩ := hs.at
  have hn2 : decide (512 < (n : Int)) = false := decide_eq_false (by omega)
  clear hnl
  obtain ⟨wv, c0, c1, c2, c3, c4, c5, hw, ho, hf, hB⟩ := h.cells
  rw [hdn] at c4
  have HF : Hid (Calls _ _ _ _ _) := filled_any ao n c l w hs hl
  clear hc hd c0 c1 c2 c3 c5 hw ho hf hB
  go_enter Try.func35, Try.ntmps35
  go_wp2_with fail
  refine Calls.mono HC.out ?_
  rintro e w' ⟨rfl, hw⟩; rw [hw]; clear hw w'
  go_wp2_with fail
  refine Calls.mono HF.out ?_
  rintro e w1 ⟨rfl, hB1, hb1, hz1⟩
  clear HC HF c4
  -- the disk in w1, its bytes with the new ones
  have hD1 : DiskAt w1 { f with bs := fun k => f.bs k ∨ k = w.heap.size } st := by
    have := h.below hb1
    obtain ⟨wv, a1, a2, a3⟩ := this.head
    have hm : ∀ k, f.bs k → (f.bs k ∨ k = w.heap.size) := fun k hk => .inl hk
    exact ⟨⟨wv, a1, a2, a3.chg (Chg.refl (fun _ => False) _) (fun _ _ e => e) (fun _ _ e => e) hm⟩, this.now.chg (Chg.refl (fun _ => False) _) (fun e => e) (fun _ _ e => e) hm, this.safe.chg (Chg.refl (fun _ => False) _) (fun e => e) (fun _ _ e => e) hm, this.ne, this.inv, this.len, this.fuse,
      fun k hk => by rcases hk with hk | rfl; exact this.lt k hk; omega, fun k hk => by rcases hk with hk | rfl; exact this.ty k hk; exact ⟨_, hB1⟩⟩
  have hT1 : Turned f w { f with bs := fun k => f.bs k ∨ k = w.heap.size } w1 := ⟨rfl, fun k hk => by
    rcases hk with hk | hk | rfl
    · exact .inl (.inl hk)
    · exact .inl (.inr hk)
    · exact .inr (Nat.le_refl _), Chg.of_below hb1 (fun k _ e => by omega)⟩
  have hbsz : w.heap.size < w1.heap.size := by omega
  have HBt : Hid (Byt w1 (fun k => f.bs k ∨ k = w.heap.size) (.slice (some ⟨w.heap.size, 0, none⟩) 512 512) (pad l)) := ⟨pad_length hl, .inr ⟨_, .inr rfl, rfl, hB1⟩⟩
  generalize (fun k => f.bs k ∨ k = w.heap.size) = bs at *
  have HD1 : Hid (DiskAt w1 { f with bs := bs } st) := hD1
  have HT1 : Hid (Turned f w { f with bs := bs } w1) := hT1
  obtain ⟨wv, c0, c2, hw, ho, hf⟩ : ∃ wv, w1.cell? ⟨f.g, 0, none⟩ = some (.slice (some ⟨f.n, 0, none⟩) st.now.length st.now.length) ∧ w1.cell? ⟨f.g, 2, none⟩ = some wv ∧ WaitsAt w1 bs wv st.waits ∧ wv.ownBlock = f.w ∧ ∀ i, w1.frozen? ⟨f.g, i, none⟩ = false := by
    obtain ⟨wv, c0, c1, c2, c3, c4, c5, hw, ho, hf, hB⟩ := hD1.cells
    exact ⟨wv, c0, c2, hw, ho, hf⟩
  obtain ⟨u, s0, s1, _, hfn⟩ : ∃ u, w1.cell? ⟨f.n, i * 2, none⟩ = some u ∧ w1.cell? ⟨f.n, i * 2 + 1, none⟩ = some (.bool st.now[i].2) ∧ Byt w1 bs u st.now[i].1 ∧ (∀ j, w1.frozen? ⟨f.n, j, none⟩ = false) := hD1.now.get hi
  obtain ⟨m1, m2, m3, m4⟩ : f.g ≠ f.n ∧ f.s ≠ f.n ∧ f.w ≠ some f.n ∧ ¬ bs f.n := hD1.nNe
  obtain ⟨_, _, m5, m6⟩ : f.n ≠ f.g ∧ f.s ≠ f.g ∧ f.w ≠ some f.g ∧ ¬ bs f.g := hD1.gNe
  have m7 : ∀ k, f.w = some k → ¬ bs k := hD1.wNe
  have hch2 : Chg (fun k => k = f.n) w1 ((w1.setCell ⟨f.n, i * 2, none⟩ (.slice (some ⟨w.heap.size, 0, none⟩) 512 512)).setCell ⟨f.n, i * 2 + 1, none⟩ (.bool false)) := chgG (chgG (Chg.refl _ _) _ _) _ _
  have hbn : ∀ k, bs k → ¬ k = f.n := fun k hk e => by subst e; exact m4 hk
  have HS2 : Hid (SecsAt _ bs f.n (st.now.set i (pad l, false))) := SecsAt.set (i := i) hD1.now (.slice (some ⟨w.heap.size, 0, none⟩) 512 512) (pad l) false HBt.out m4 hi
  have HA2 : Hid (SecsAt _ bs f.s st.safe) := hD1.safe.chg hch2 m2 hbn (fun _ e => e)
  have HW2 : Hid (WaitsAt _ bs wv st.waits) := hw.chg hch2 (fun b e hh => m3 (by rw [← ho, e, hh])) hbn (fun _ e => e)
  have HBt2 : Hid (Byt _ bs (.slice (some ⟨w.heap.size, 0, none⟩) 512 512) (pad l)) := HBt.out.chg hch2 hbn (fun _ e => e)
  have HC2 : Hid (Chg _ _ _) := hch2
  have HO : Hid (wv.ownBlock = f.w) := ho
  have HM : Hid (¬ bs f.n ∧ f.w ≠ some f.n ∧ f.w ≠ some f.g ∧ ¬ bs f.g ∧ (∀ k, f.w = some k → ¬ bs k)) := ⟨m4, m3, m5, m6, m7⟩
  have hi' : (i : Int) < (st.now.length : Int) := by omega
  have m1' : f.n ≠ f.g := fun e => m1 e.symm
  clear hD1 hT1 hch2 hw ho hbn m3 m4 m5 m6 m7 h hs hdn hB1 hb1 hz1 HBt
  go_wp2_with (first | (at_builtin; refine wpList_pushW _ rfl _ _ rfl bs wv st.waits i (.slice (some ⟨w.heap.size, 0, none⟩) 512 512) (pad l) HW2.out HBt2.out rfl ?_ rfl ?_ hwl ?_))
  · intro k hk; exact HM.out.2.2.2.2 k (by rw [← HO.out]; exact hk)
  · simp; rfl
  intro v4 w4 hW4 hch4 hat4
  have hat4' : v4.ownBlock = wv.ownBlock ∨ v4.ownBlock = some (((w1.setCell ⟨f.n, i * 2, none⟩ (.slice (some ⟨w.heap.size, 0, none⟩) 512 512)).setCell ⟨f.n, i * 2 + 1, none⟩ (.bool false)).heap.size + 1) := by simpa using hat4
  obtain ⟨ao4, n4, cap4, rfl⟩ : ∃ ao n cap, v4 = .slice ao n cap := by obtain ⟨ao, cap, e, _⟩ := hW4.form; exact ⟨ao, _, cap, e⟩
  obtain ⟨hD5, hT5⟩ := DiskAt.laid HD1.out c2 HS2.out HC2.out hch4 hW4 hat4' hi (pad_length hl)
  have HT5 : Hid (Turned f w { f with w := (Value.slice ao4 n4 cap4).ownBlock, bs := bs } (w4.setCell ⟨f.g, 2, none⟩ (.slice ao4 n4 cap4))) := HT1.out.trans hT5
  have HD5 : Hid (DiskAt (w4.setCell ⟨f.g, 2, none⟩ (.slice ao4 n4 cap4)) { f with w := (Value.slice ao4 n4 cap4).ownBlock, bs := bs } (st.written i (pad l))) := hD5
  have k2 : w4.cell? ⟨f.g, 2, none⟩ = some wv := by
    obtain ⟨wv', a1, _⟩ := HD1.out.head
    have e1 := ((Blk.chg a1 HC2.out m1).chg hch4 (fun e => HM.out.2.2.1 (by rw [← HO.out]; exact e)))
    have e2 := (a1.cell 2).symm.trans c2
    exact (e1.cell 2).trans e2
  have k2f : w4.frozen? ⟨f.g, 2, none⟩ = false := by
    obtain ⟨wv', a1, _⟩ := HD1.out.head
    have e1 := ((Blk.chg a1 HC2.out m1).chg hch4 (fun e => HM.out.2.2.1 (by rw [← HO.out]; exact e)))
    exact e1.frozen 2
  clear hD5 hT5 hat4 hat4' hW4 hch4 HD1 HT1 HS2 HA2 HW2 HBt2 HC2 HO HM c0 c2 hf s0 s1 hfn
  go_wp2_with fail
  refine (step_any { f with w := (Value.slice ao4 n4 cap4).ownBlock, bs := bs } (st.written i (pad l)) _ HD5.out hst).mono ?_
  rintro e w6 ⟨rfl, hD6, hch6⟩
  have HD6 : Hid (_) := hD6
  have HT6 : Hid (Turned f w { f with w := (Value.slice ao4 n4 cap4).ownBlock, bs := bs } w6) := HT5.out.trans (Turned.of_chg hch6)
  clear hD6 hch6 HD5 HT5 k2 k2f
  go_wp2
  go_ret
  exact ⟨rfl, _, HD6.out, HT6.out⟩

/-! Read. -/
set_option maxHeartbeats 400000 in
theorem read_nil (i : Int) (w : World) :
    Calls Try.prog 34 #[.pointer none, .int .i64 i] w fun e w' => e = .returned (.tuple #[.slice none 0 0, .int .i64 1]) ∧ w' = w := by
  go_enter Try.func34, Try.ntmps34
  go_wp2_with fail
  refine (has_nil _ _).mono ?_
  rintro e w' ⟨rfl, hw⟩; rw [hw]; clear hw w'
  go_wp2
  go_ret2
  exact ⟨rfl, rfl⟩
set_option maxHeartbeats 400000 in
theorem read_arg (f : Foot) (st : DSt) (i : Int) (w : World) (h : DiskAt w f st) (hn : ¬ (0 ≤ i ∧ i < (st.now.length : Int))) :
    Calls Try.prog 34 #[dptr f.g, .int .i64 i] w fun e w' => e = .returned (.tuple #[.slice none 0 0, .int .i64 1]) ∧ w' = w := by
  have hd : decide (0 ≤ i ∧ i < (st.now.length : Int)) = false := decide_eq_false hn
  have hc := has_any f st i w h
  rw [hd] at hc
  have HC : Hid (Calls _ _ _ _ _) := hc
  clear hc hd hn h
  go_enter Try.func34, Try.ntmps34
  go_wp2_with fail
  refine Calls.mono HC.out ?_
  rintro e w' ⟨rfl, hw⟩; rw [hw]; clear hw w'
  go_wp2
  go_ret2
  exact ⟨rfl, rfl⟩
set_option maxHeartbeats 400000 in
theorem read_down (f : Foot) (st : DSt) (i : Nat) (w : World) (h : DiskAt w f st) (hi : i < st.now.length) (hdn : st.down = true) :
    Calls Try.prog 34 #[dptr f.g, .int .i64 (i : Int)] w fun e w' => e = .returned (.tuple #[.slice none 0 0, .int .i64 8]) ∧ w' = w := by
  have hd : decide (0 ≤ (i : Int) ∧ (i : Int) < (st.now.length : Int)) = true := decide_eq_true (by omega)
  have hc := has_any f st i w h
  rw [hd] at hc
  have HC : Hid (Calls _ _ _ _ _) := hc
  obtain ⟨wv, c0, c1, c2, c3, c4, c5, hw, ho, hf, hB⟩ := h.cells
  rw [hdn] at c4
  clear hc hd h c0 c1 c2 c3 c5 hw ho hf hB hdn
  go_enter Try.func34, Try.ntmps34
  go_wp2_with fail
  refine Calls.mono HC.out ?_
  rintro e w' ⟨rfl, hw⟩; rw [hw]; clear hw w'
  go_wp2
  go_ret2
  exact ⟨rfl, rfl⟩
set_option maxHeartbeats 400000 in
theorem read_torn (f : Foot) (st : DSt) (i : Nat) (w : World) (h : DiskAt w f st) (hi : i < st.now.length) (hdn : st.down = false) (ht : st.now[i].2 = true) :
    Calls Try.prog 34 #[dptr f.g, .int .i64 (i : Int)] w fun e w' => e = .returned (.tuple #[.slice none 0 0, .int .i64 9]) ∧ w' = w := by
  have hd : decide (0 ≤ (i : Int) ∧ (i : Int) < (st.now.length : Int)) = true := decide_eq_true (by omega)
  have hc := has_any f st i w h
  rw [hd] at hc
  have HC : Hid (Calls _ _ _ _ _) := hc
  obtain ⟨wv, c0, c1, c2, c3, c4, c5, hw, ho, hf, hB⟩ := h.cells
  obtain ⟨u, s0, s1, _, hfn⟩ := h.now.get hi
  rw [hdn] at c4
  rw [ht] at s1
  have hi' : (i : Int) < (st.now.length : Int) := by omega
  clear hc hd h c1 c2 c3 c5 hw ho hf hB hdn ht
  go_enter Try.func34, Try.ntmps34
  go_wp2_with fail
  refine Calls.mono HC.out ?_
  rintro e w' ⟨rfl, hw⟩; rw [hw]; clear hw w'
  go_wp2
  go_ret2
  exact ⟨rfl, rfl⟩
set_option maxHeartbeats 400000 in
theorem read_ok (f : Foot) (st : DSt) (i : Nat) (w : World) (h : DiskAt w f st) (hi : i < st.now.length) (hdn : st.down = false) (ht : st.now[i].2 = false) :
    Calls Try.prog 34 #[dptr f.g, .int .i64 (i : Int)] w fun e w' => e = .returned (.tuple #[.slice (some ⟨w.heap.size, 0, none⟩) 512 512, .int .i64 0]) ∧ Blk w' w.heap.size (bv st.now[i].1).toArray 5 ∧ Below w.heap.size w w' ∧ w'.heap.size = w.heap.size + 1 := by
  have hd : decide (0 ≤ (i : Int) ∧ (i : Int) < (st.now.length : Int)) = true := decide_eq_true (by omega)
  have hc := has_any f st i w h
  rw [hd] at hc
  have HC : Hid (Calls _ _ _ _ _) := hc
  obtain ⟨wv, c0, c1, c2, c3, c4, c5, hw, ho, hf, hB⟩ := h.cells
  obtain ⟨u, s0, s1, hby, hfn⟩ := h.now.get hi
  rw [hdn] at c4
  rw [ht] at s1
  obtain ⟨m, hsrc, hpm, hml⟩ := hby.src
  obtain ⟨ao, n, rfl⟩ := hby.form
  have HF : Hid (Calls _ _ _ _ _) := filled_any ao n n m w hsrc hml
  have HP : Hid (pad m = st.now[i].1) := hpm
  have hi' : (i : Int) < (st.now.length : Int) := by omega
  clear hc hd h c1 c2 c3 c5 hw ho hf hB hdn ht hby hsrc hpm
  go_enter Try.func34, Try.ntmps34
  go_wp2_with fail
  refine Calls.mono HC.out ?_
  rintro e w' ⟨rfl, hw⟩; rw [hw]; clear hw w'
  go_wp2_with fail
  refine Calls.mono HF.out ?_
  rintro e w1 ⟨rfl, hB1, hb1, hz1⟩
  have HB1 : Hid (Blk w1 w.heap.size (bv (pad m)).toArray 5) := hB1
  have HZ1 : Hid (_) := hz1
  clear hB1 hz1 HC HF c0 s0 s1 c4
  go_wp2
  go_ret2
  exact ⟨rfl, by rw [← HP.out]; exact HB1.out, hb1, HZ1.out⟩
end Go.Proofs.Ytepfckckplbjjaa
