/- What the Go texts of a Reader's calls come to. Own lemmas, no statement. -/
import Derived.Test.YtefmeeffkjendaaFirst
namespace Go.Proofs.Ytefmeeffkjendaa
open Go.ChangeShapes Go.WideShapes Go.ChangeAt Go.RowKit

/-- A Reader at block g, its bytes in block b: l are left, err its error. -/
def Rdr (w : World) (g b : Nat) (l : List UInt8) (err : Nat) : Prop :=
  b ≠ g ∧ b < w.heap.size ∧ ∃ ao c, w.heap[g]? = some (.cells #[.slice ao l.length c, .int .i64 (err : Int)] 54 (0, 0)) ∧ l.length ≤ c ∧ c ≤ maxLen ∧ SrcAt w ao c l ∧ ∀ ad, ao = some ad → ad.block = b ∧ ad.spot = none

theorem Rdr.lt {w : World} {g b : Nat} {l : List UInt8} {err : Nat} (h : Rdr w g b l err) : g < w.heap.size := by
  obtain ⟨_, _, ao, c, h3, _⟩ := h
  exact (Array.getElem?_eq_some_iff.1 h3).1

/-- Other blocks may turn. -/
theorem Rdr.kept {w w' : World} {g b : Nat} {l : List UInt8} {err : Nat} (h : Rdr w g b l err) (hsz : w.heap.size ≤ w'.heap.size) (hg : w'.heap[g]? = w.heap[g]?) (hb : w'.heap[b]? = w.heap[b]?) : Rdr w' g b l err := by
  obtain ⟨h1, h2, ao, c, h3, h4, h5, h6, h7⟩ := h
  refine ⟨h1, by omega, ao, c, by rw [hg]; exact h3, h4, h5, ⟨h6.1, fun ad had j u hu => ?_⟩, h7⟩
  rw [World.cell?_of_block (w := w) (by
    have : (ad.add j).block = b := by rw [← (h7 ad had).1]; unfold Addr.add; split <;> rfl
    rw [this]; exact hb)]
  exact h6.2 ad had j u hu

theorem Rdr.below {w w' : World} {g b : Nat} {l : List UInt8} {err : Nat} (h : Rdr w g b l err) (hb : Below w.heap.size w w') : Rdr w' g b l err :=
  h.kept hb.size (hb.block g h.lt) (hb.block b h.2.1)

theorem Rdr.grown {w w' : World} {g b k : Nat} {l : List UInt8} {err : Nat} (h : Rdr w g b l err) (hg : w.grownBy w' (some k)) (h1 : g ≠ k) (h2 : b ≠ k) : Rdr w' g b l err :=
  h.kept hg.size (hg.block g h.lt (by simp; omega)) (hg.block b h.2.1 (by simp; omega))

theorem row_set2 {w : World} {g : Nat} {v0 v1 u0 u1 : Value} {T : TypeId} (h : w.heap[g]? = some (.cells #[v0, v1] T (0, 0))) :
    ((w.setCell ⟨g, 0, none⟩ u0).setCell ⟨g, 1, none⟩ u1).heap[g]? = some (.cells #[u0, u1] T (0, 0)) ∧ w.grownBy ((w.setCell ⟨g, 0, none⟩ u0).setCell ⟨g, 1, none⟩ u1) (some g) := by
  have h1 := heap_setCell_same w g 0 _ T u0 h
  have h2 := heap_setCell_same _ g 1 _ T u1 h1
  exact ⟨h2, ⟨rfl, rfl, rfl, by simp [World.setCell], fun k _ hk => by
    have hne : k ≠ g := fun e => hk (by rw [e])
    rw [Below.heap_setCell _ _ _ _ hne, Below.heap_setCell _ _ _ _ hne]⟩⟩

theorem row_set0 {w : World} {g : Nat} {v0 v1 u0 : Value} {T : TypeId} (h : w.heap[g]? = some (.cells #[v0, v1] T (0, 0))) :
    (w.setCell ⟨g, 0, none⟩ u0).heap[g]? = some (.cells #[u0, v1] T (0, 0)) ∧ w.grownBy (w.setCell ⟨g, 0, none⟩ u0) (some g) := by
  have h1 := heap_setCell_same w g 0 _ T u0 h
  exact ⟨h1, ⟨rfl, rfl, rfl, by simp [World.setCell], fun k _ hk => by
    have hne : k ≠ g := fun e => hk (by rw [e])
    rw [Below.heap_setCell _ _ _ _ hne]⟩⟩

set_option maxHeartbeats 400000 in
theorem read_any (ao : Option Addr) (n c : Nat) (l : List UInt8) (w : World) (hs : Src w (.slice ao n c) l) (hl : l.length < 900000000000) :
    Calls Try.prog 28 #[.slice ao n c] w fun e w' => ∃ g b, e = .returned (.pointer (some ⟨g, 0, none⟩)) ∧ Rdr w' g b l 0 ∧ Below w.heap.size w w' ∧ w.heap.size ≤ g ∧ w.heap.size ≤ b := by
  obtain ⟨rfl, h1, h2, h3⟩ := hs.at
  clear hs
  go_enter Try.func28, Try.ntmps28
  go_wp2_with fail
  refine (apart_any ao c l 0 0 _ rfl h3 h1 h2 (by omega)).mono ?_
  rintro e w1 ⟨v1, rfl, hown1, hb1, hnn⟩
  obtain ⟨g, cap, cur, rfl, hg1, hg2, hg3, hg4⟩ : ∃ g cap cur, v1 = .slice (some ⟨g, 0, none⟩) l.length cap ∧ w.heap.size ≤ g ∧ w1.heap[g]? = some (.cells cur 5 (0, 0)) ∧ l.length ≤ cap ∧ cap ≤ maxLen := by
    rcases hown1.2 with ⟨h, _⟩ | ⟨g, cap, cur, h, hb, hg, hnc, hcm, _⟩
    · exact absurd h hnn
    · exact ⟨g, cap, cur, h, hb, hg, hnc, hcm⟩
  have hsrc := hown1.src.at.2.2.2
  clear hown1 hnn
  have hgl : g < w1.heap.size := (Array.getElem?_eq_some_iff.1 hg2).1
  have hsz := hb1.size
  go_wp2
  go_ret
  refine ⟨w1.heap.size, g, rfl, ?_, hb1.alloc hsz _, hsz, hg1⟩
  have hb2 : Below w1.heap.size w1 (w1.alloc (.cells #[.slice (some ⟨g, 0, none⟩) l.length cap, .int .i64 0] 54)) := (Below.refl _ _).alloc (Nat.le_refl _) _
  have hs2 := (Src.below ⟨_, cap, rfl, hg3, hg4, hsrc⟩ hb2).at.2.2.2
  exact ⟨by omega, by simp; omega, _, cap, heap_alloc_new w1 _, hg3, hg4, hs2, fun ad had => by cases had; exact ⟨rfl, rfl⟩⟩

set_option maxHeartbeats 400000 in
theorem err_any (g b : Nat) (l : List UInt8) (err : Nat) (w : World) (h : Rdr w g b l err) :
    Calls Try.prog 38 #[.pointer (some ⟨g, 0, none⟩)] w fun e w' => e = .returned (.int .i64 (err : Int)) ∧ w' = w := by
  obtain ⟨h1, h2, ao, c, h3, h4, h5, h6, h7⟩ := h
  have c1 : w.cell? ⟨g, 1, none⟩ = some (.int .i64 (err : Int)) := by rw [cell_of_row w g 1 _ _ _ h3]; rfl
  go_enter Try.func38, Try.ntmps38
  go_wp2
  go_ret
  exact ⟨rfl, rfl⟩

set_option maxHeartbeats 400000 in
theorem fail_any (g b : Nat) (l : List UInt8) (err er : Nat) (w : World) (h : Rdr w g b l err) :
    Calls Try.prog 40 #[.pointer (some ⟨g, 0, none⟩), .int .i64 (er : Int)] w fun e w' => e = .returned (.tuple #[]) ∧ Rdr w' g b [] er ∧ w.grownBy w' (some g) := by
  obtain ⟨h1, h2, ao, c, h3, h4, h5, h6, h7⟩ := h
  have c0 : w.cell? ⟨g, 0, none⟩ = some (.slice ao l.length c) := by rw [cell_of_row w g 0 _ _ _ h3]; rfl
  have c1 : w.cell? ⟨g, 1, none⟩ = some (.int .i64 (err : Int)) := by rw [cell_of_row w g 1 _ _ _ h3]; rfl
  have f0 : w.frozen? ⟨g, 0, none⟩ = false := frozen_of_row w g 0 _ _ h3
  have f1 : w.frozen? ⟨g, 1, none⟩ = false := frozen_of_row w g 1 _ _ h3
  go_enter Try.func40, Try.ntmps40
  clear h6
  go_wp2
  go_end0
  obtain ⟨k1, k2⟩ := row_set2 (u0 := .slice none 0 0) (u1 := .int .i64 (er : Int)) h3
  refine ⟨rfl, ⟨h1, by have := k2.size; omega, none, 0, k1, Nat.le_refl _, Nat.zero_le _, ⟨fun _ => ⟨rfl, rfl⟩, fun ad h => by cases h⟩, fun ad h => by cases h⟩, k2⟩

/-- The next number of a Reader, what is left, and its error. -/
def rnum (l : List UInt8) (err most : Nat) : Nat × List UInt8 × Nat :=
  if err ≠ 0 then (0, l, err)
  else if (firstL l).2.2 ≠ 0 then (0, [], (firstL l).2.2)
  else if most < (firstL l).1 then (0, [], 3)
  else ((firstL l).1, l.drop (firstL l).2.1, 0)

theorem fstF_facts (l : List UInt8) : ∀ n i, n < 2 ^ (7 * i) → i ≤ 9 → (fstF n i l).2.2 ≤ 6 ∧ ((fstF n i l).2.2 = 0 → (fstF n i l).1 < 18446744073709551616 ∧ i + 1 ≤ (fstF n i l).2.1 ∧ (fstF n i l).2.1 ≤ i + l.length ∧ (fstF n i l).2.1 ≤ 10) := by
  induction l with
  | nil => intro n i _ _; simp [fstF]
  | cons c t ih =>
    intro n i hn hi
    have hc : c.toNat < 256 := c.toNat_lt
    unfold fstF
    split
    · simp
    · rename_i h9
      split
      · rename_i h128
        have hi' : i ≤ 8 := by omega
        have hb : n + (c.toNat - 128) * 2 ^ (7 * i) < 2 ^ (7 * (i + 1)) := by
          have : (c.toNat - 128) * 2 ^ (7 * i) ≤ 127 * 2 ^ (7 * i) := Nat.mul_le_mul (by omega) (Nat.le_refl _)
          rw [show 7 * (i + 1) = 7 * i + 7 by omega, Nat.pow_add]
          omega
        obtain ⟨e1, e2⟩ := ih _ (i + 1) hb (by omega)
        refine ⟨e1, fun h => ?_⟩
        obtain ⟨a1, a2, a3, a4⟩ := e2 h
        refine ⟨a1, by omega, ?_, a4⟩
        simp only [List.length_cons]
        omega
      · split
        · simp
        · refine ⟨Nat.zero_le _, fun _ => ⟨?_, Nat.le_refl _, by simp, by show i + 1 ≤ 10; omega⟩⟩
          show n + c.toNat * 2 ^ (7 * i) < _
          rcases (show i ≤ 8 ∨ i = 9 by omega) with h | h
          · have hp : 2 ^ (7 * i) ≤ 2 ^ 56 := Nat.pow_le_pow_right (by omega) (by omega)
            have : c.toNat * 2 ^ (7 * i) ≤ 127 * 2 ^ 56 := Nat.mul_le_mul (by omega) hp
            omega
          · subst h
            have : c.toNat ≤ 1 := by omega
            have : c.toNat * 2 ^ (7 * 9) ≤ 1 * 2 ^ (7 * 9) := Nat.mul_le_mul this (Nat.le_refl _)
            omega

theorem firstL_facts (l : List UInt8) : (firstL l).2.2 ≤ 6 ∧ ((firstL l).2.2 = 0 → (firstL l).1 < 18446744073709551616 ∧ 1 ≤ (firstL l).2.1 ∧ (firstL l).2.1 ≤ l.length ∧ (firstL l).2.1 ≤ 10) := by
  have := fstF_facts l 0 0 (by decide) (by omega)
  simp only [Nat.zero_add] at this
  exact this

theorem add_add (a : Addr) (i j : Nat) : (a.add i).add j = a.add (i + j) := by
  unfold Addr.add
  by_cases hi : i = 0 <;> by_cases hj : j = 0 <;> simp [hi, hj, Nat.add_assoc]
theorem add_block (a : Addr) (i : Nat) : (a.add i).block = a.block := by unfold Addr.add; split <;> rfl

theorem rdr_cut {w : World} {g b : Nat} {l : List UInt8} {S : Nat} {ao : Option Addr} {c : Nat} (h1 : b ≠ g) (h2 : b < w.heap.size)
    (h3 : w.heap[g]? = some (.cells #[.slice ao l.length c, .int .i64 ((0 : Nat) : Int)] 54 (0, 0))) (h4 : l.length ≤ c) (h5 : c ≤ maxLen) (h6 : SrcAt w ao c l) (h7 : ∀ ad, ao = some ad → ad.block = b ∧ ad.spot = none)
    (hS : S ≤ l.length) (ao' : Option Addr) (c' : Nat) (h : (c = S ∧ ao' = ao ∧ c' = 0) ∨ (¬ c = S ∧ ao' = Option.map (fun x => x.add S) ao ∧ c' = c - S)) :
    Rdr (w.setCell ⟨g, 0, none⟩ (.slice ao' (l.length - S) c')) g b (l.drop S) 0 ∧ w.grownBy (w.setCell ⟨g, 0, none⟩ (.slice ao' (l.length - S) c')) (some g) := by
  obtain ⟨k1, k2⟩ := row_set0 (u0 := .slice ao' (l.length - S) c') h3
  refine ⟨⟨h1, by have := k2.size; omega, ao', c', by rw [List.length_drop]; exact k1, ?_, ?_, ?_, ?_⟩, k2⟩
  · rw [List.length_drop]; rcases h with ⟨h, _, rfl⟩ | ⟨h, _, rfl⟩ <;> omega
  · rcases h with ⟨h, _, rfl⟩ | ⟨h, _, rfl⟩ <;> omega
  · rcases h with ⟨rfl, rfl, rfl⟩ | ⟨h, rfl, rfl⟩
    · have : l.drop c = [] := List.drop_of_length_le h4
      rw [this]
      exact ⟨fun _ => ⟨rfl, rfl⟩, fun ad _ j u hu => by simp [bv] at hu⟩
    · refine ⟨fun hn => ?_, fun ad had j u hu => ?_⟩
      · have hn' : ao = none := by cases ao <;> simp_all
        obtain ⟨rfl, rfl⟩ := h6.1 hn'
        exact ⟨by simp, by simp⟩
      · cases ao with
        | none => simp at had
        | some a =>
          simp at had
          subst had
          rw [add_add]
          have hb : ((a.add (S + j)).block) ≠ g := by rw [add_block, (h7 a rfl).1]; exact h1
          rw [World.cell?_of_block (w := w) (Below.heap_setCell _ _ _ _ hb)]
          refine h6.2 a rfl (S + j) u ?_
          rw [← hu]
          simp [bv]
  · intro ad had
    rcases h with ⟨_, rfl, _⟩ | ⟨_, rfl, _⟩
    · exact h7 ad had
    · cases ao with
      | none => simp at had
      | some a =>
        simp at had
        subst had
        refine ⟨by rw [add_block]; exact (h7 a rfl).1, ?_⟩
        have hsp := (h7 a rfl).2
        unfold Addr.add
        split <;> simp [hsp]

set_option maxHeartbeats 1000000 in
theorem num_any (g b : Nat) (l : List UInt8) (err most : Nat) (w : World) (h : Rdr w g b l err) :
    Calls Try.prog 29 #[.pointer (some ⟨g, 0, none⟩), .int .u64 (most : Int)] w fun e w' => e = .returned (.int .u64 ((rnum l err most).1 : Int)) ∧ Rdr w' g b (rnum l err most).2.1 (rnum l err most).2.2 ∧ w.grownBy w' (some g) := by
  by_cases h0 : err = 0
  · subst h0
    have hn : (((0 : Nat) : Int) != 0) = false := rfl
    have hF := firstL_facts l
    obtain ⟨hh1, hh2, ao, c, h3, h4, h5, h6, h7⟩ := h
    have hR : Rdr w g b l 0 := ⟨hh1, hh2, ao, c, h3, h4, h5, h6, h7⟩
    have c0 : w.cell? ⟨g, 0, none⟩ = some (.slice ao l.length c) := by rw [cell_of_row w g 0 _ _ _ h3]; rfl
    have f0 : w.frozen? ⟨g, 0, none⟩ = false := frozen_of_row w g 0 _ _ h3
    have hsrc : Src w (.slice ao l.length c) l := ⟨ao, c, rfl, h4, h5, h6⟩
    generalize hN : (firstL l).1 = N at *
    generalize hS : (firstL l).2.1 = S at *
    generalize hE : (firstL l).2.2 = E at *
    have HN : Hid ((firstL l).1 = N) := hN
    have HS : Hid ((firstL l).2.1 = S) := hS
    have HE : Hid ((firstL l).2.2 = E) := hE
    clear hN hS hE
    rcases (show E ≠ 0 ∨ E = 0 by omega) with hE | hE
    · have HR : Hid (rnum l 0 most = (0, [], E)) := by show rnum l 0 most = _; unfold rnum; rw [if_neg (by omega), HE.out, if_pos hE]
      go_enter Try.func29, Try.ntmps29
      go_wp2_with fail
      refine (err_any g b l 0 w hR).mono ?_
      rintro e w1 ⟨rfl, hw1⟩
      subst hw1
      go_wp2_with fail
      refine (first_any ao l.length c l _ hsrc).mono ?_
      rintro e w1 ⟨rfl, hw1⟩
      subst hw1
      rw [HN.out, HS.out, HE.out]
      go_wp2_with fail
      refine (fail_any g b l 0 E _ hR).mono ?_
      rintro e w2 ⟨rfl, hR2, hg2⟩
      clear hR hsrc c0 f0 h3 h6
      go_wp2
      go_ret
      exact ⟨by rw [HR.out]; rfl, by rw [HR.out]; exact hR2, hg2⟩
    · subst hE
      obtain ⟨hF1, hF2, hF3, hF4⟩ := hF.2 rfl
      rcases (show most < N ∨ N ≤ most by omega) with hmN | hmN
      · have HR : Hid (rnum l 0 most = (0, [], 3)) := by show rnum l 0 most = _; unfold rnum; rw [if_neg (by omega), HE.out, if_neg (by omega), HN.out, if_pos hmN]
        go_enter Try.func29, Try.ntmps29
        go_wp2_with fail
        refine (err_any g b l 0 w hR).mono ?_
        rintro e w1 ⟨rfl, hw1⟩
        subst hw1
        go_wp2_with fail
        refine (first_any ao l.length c l _ hsrc).mono ?_
        rintro e w1 ⟨rfl, hw1⟩
        subst hw1
        rw [HN.out, HS.out, HE.out]
        go_wp2_with fail
        refine (fail_any g b l 0 3 _ hR).mono ?_
        rintro e w2 ⟨rfl, hR2, hg2⟩
        clear hR hsrc c0 f0 h3 h6
        go_wp2
        go_ret
        exact ⟨by rw [HR.out]; rfl, by rw [HR.out]; exact hR2, hg2⟩
      · have HR : Hid (rnum l 0 most = (N, l.drop S, 0)) := by show rnum l 0 most = _; unfold rnum; rw [if_neg (by omega), HE.out, if_neg (by omega), HN.out, if_neg (by omega), HS.out]
        go_enter Try.func29, Try.ntmps29
        go_wp2_with fail
        refine (err_any g b l 0 w hR).mono ?_
        rintro e w1 ⟨rfl, hw1⟩
        subst hw1
        go_wp2_with fail
        refine (first_any ao l.length c l _ hsrc).mono ?_
        rintro e w1 ⟨rfl, hw1⟩
        subst hw1
        rw [HN.out, HS.out, HE.out]
        have cut := fun ao' c' hc => rdr_cut hh1 hh2 h3 h4 h5 h6 h7 hF3 ao' c' hc
        have CUT : Hid _ := cut
        clear cut hR hsrc h6 hF
        go_wp2
        · go_ret
          have := CUT.out ao 0 (.inl ⟨by assumption, rfl, rfl⟩)
          exact ⟨by rw [HR.out]; rfl, by rw [HR.out]; exact this.1, this.2⟩
        · go_ret
          have := CUT.out _ (c - S) (.inr ⟨by assumption, rfl, rfl⟩)
          exact ⟨by rw [HR.out]; rfl, by rw [HR.out]; exact this.1, this.2⟩
  · have HR : Hid (rnum l err most = (0, l, err)) := by show rnum l err most = _; unfold rnum; rw [if_pos h0]
    have hn : ((err : Int) != 0) = true := by rw [bne_iff_ne]; omega
    go_enter Try.func29, Try.ntmps29
    go_wp2_with fail
    refine (err_any g b l err w h).mono ?_
    rintro e w1 ⟨rfl, hw1⟩
    subst hw1
    go_wp2
    go_ret
    exact ⟨by rw [HR.out]; rfl, by rw [HR.out]; exact h, World.grownBy.refl _ _⟩

theorem rnum_facts (l : List UInt8) (err most : Nat) : (rnum l err most).1 < 18446744073709551616 ∧ ((rnum l err most).2.2 = 0 → (rnum l err most).1 ≤ most) ∧ (err ≤ 100 → (rnum l err most).2.2 ≤ 100) ∧ (rnum l err most).2.1.length ≤ l.length := by
  have hF := firstL_facts l
  unfold rnum
  split
  · refine ⟨by simp, fun _ => Nat.zero_le _, fun h => h, Nat.le_refl _⟩
  · split
    · refine ⟨by simp, fun _ => Nat.zero_le _, fun _ => by show (firstL l).2.2 ≤ 100; omega, Nat.zero_le _⟩
    · rename_i h
      split
      · refine ⟨by simp, fun _ => Nat.zero_le _, fun _ => by simp, Nat.zero_le _⟩
      · have := hF.2 (by omega)
        refine ⟨this.1, fun _ => by show (firstL l).1 ≤ most; omega, fun _ => Nat.zero_le _, ?_⟩
        show (l.drop _).length ≤ _
        simp

theorem grownBy_trans {a b c : World} {r : Option Nat} (h : a.grownBy b r) (k : b.grownBy c r) : a.grownBy c r :=
  ⟨k.os.trans h.os, k.tape.trans h.tape, k.output.trans h.output, Nat.le_trans h.size k.size, fun i hi hr => (k.block i (Nat.lt_of_lt_of_le hi h.size) hr).trans (h.block i hi hr)⟩

/-- The next text of a Reader. -/
def rtext (l : List UInt8) (err M : Nat) : List UInt8 × List UInt8 × Nat :=
  if (rnum l err M).2.2 ≠ 0 then ([], (rnum l err M).2.1, (rnum l err M).2.2)
  else if (rnum l err M).2.1.length < (rnum l err M).1 then ([], [], 6)
  else ((rnum l err M).2.1.take (rnum l err M).1, (rnum l err M).2.1.drop (rnum l err M).1, 0)

theorem src_take {w : World} {ao : Option Addr} {c : Nat} {l : List UInt8} (n : Nat) (h : SrcAt w ao c l) (h4 : l.length ≤ c) (h5 : c ≤ maxLen) (hn : n ≤ l.length) : Src w (.slice ao n c) (l.take n) := by
  refine ⟨ao, c, by rw [List.length_take, Nat.min_eq_left hn], by rw [List.length_take]; omega, h5, fun hn' => ?_, fun ad had j u hu => ?_⟩
  · obtain ⟨rfl, rfl⟩ := h.1 hn'
    exact ⟨by simp, rfl⟩
  · refine h.2 ad had j u ?_
    rw [← hu]
    simp only [bv, List.map_take, List.getElem?_take]
    rw [if_pos]
    have := (List.getElem?_eq_some_iff.1 hu).1
    simp [bv] at this
    omega

set_option maxRecDepth 10000 in
set_option maxHeartbeats 2000000 in
theorem text_read (g b : Nat) (l : List UInt8) (err : Nat) (most : Int) (w : World) (h : Rdr w g b l err) (hm : (Lit.int .i64 most).wf = true) :
    Calls Try.prog 41 #[.pointer (some ⟨g, 0, none⟩), .int .i64 most] w fun e w' => e = .returned (.string ⟨(rtext l err most.toNat).1.toArray⟩) ∧ Rdr w' g b (rtext l err most.toNat).2.1 (rtext l err most.toNat).2.2 ∧ w.grownBy w' (some g) := by
  have hb := bounds_i64 hm
  clear hm
  obtain ⟨M, hM, hM64⟩ : ∃ M : Nat, most.toNat = M ∧ M ≤ 9223372036854775807 := ⟨_, rfl, by omega⟩
  have hways : (most < 0 ∧ M = 0) ∨ (0 ≤ most ∧ most = (M : Int)) := by omega
  rw [hM]
  clear hM
  have hf := rnum_facts l err M
  have HT : Hid (rtext l err M = if (rnum l err M).2.2 ≠ 0 then ([], (rnum l err M).2.1, (rnum l err M).2.2) else if (rnum l err M).2.1.length < (rnum l err M).1 then ([], [], 6) else ((rnum l err M).2.1.take (rnum l err M).1, (rnum l err M).2.1.drop (rnum l err M).1, 0)) := rfl
  have HC : Hid (∀ W, Rdr W g b l err → Calls Try.prog 29 #[.pointer (some ⟨g, 0, none⟩), .int .u64 (M : Int)] W fun e w' => e = .returned (.int .u64 ((rnum l err M).1 : Int)) ∧ Rdr w' g b (rnum l err M).2.1 (rnum l err M).2.2 ∧ W.grownBy w' (some g)) := fun W hW => num_any g b l err M W hW
  generalize (rnum l err M).1 = N at *
  generalize (rnum l err M).2.1 = L at *
  generalize (rnum l err M).2.2 = E at *
  have hN64 := hf.1
  clear hf
  rcases hways with ⟨hw1, hw2⟩ | ⟨hw1, hw2⟩
  all_goals
    subst hw2
    go_enter Try.func41, Try.ntmps41
    go_wp2_with fail
    refine (HC.out w h).mono ?_
    rintro e w1 ⟨rfl, hR1, hg1⟩
    clear h
    go_wp2_with fail
    refine (err_any g b L E w1 hR1).mono ?_
    rintro e w2 ⟨rfl, hw2⟩
    subst hw2
    rcases (show E ≠ 0 ∨ E = 0 by omega) with hE | hE
    · have hEb : ((E : Int) != 0) = true := by rw [bne_iff_ne]; omega
      go_wp2
      go_ret
      have := HT.out
      rw [if_pos hE] at this
      exact ⟨by rw [this]; rfl, by rw [this]; exact hR1, hg1⟩
    · subst hE
      have hT := HT.out
      rw [if_neg (by omega)] at hT
      have HT2 : Hid _ := hT
      clear hT
      obtain ⟨hh1, hh2, ao, c, h3, h4, h5, h6, h7⟩ := hR1
      have hR : Rdr w2 g b L 0 := ⟨hh1, hh2, ao, c, h3, h4, h5, h6, h7⟩
      have c0 : w2.cell? ⟨g, 0, none⟩ = some (.slice ao L.length c) := by rw [cell_of_row w2 g 0 _ _ _ h3]; rfl
      have f0 : w2.frozen? ⟨g, 0, none⟩ = false := frozen_of_row w2 g 0 _ _ h3
      have hL : (L.length : Int) ≤ 9223372036854775807 := by unfold maxLen at h5; omega
      by_cases hlt : L.length < N
      · go_wp2_with fail
        refine (fail_any g b L 0 6 _ hR).mono ?_
        rintro e w3 ⟨rfl, hR3, hg3⟩
        clear hR c0 f0 h3 h6
        go_wp2
        go_ret
        have := HT2.out
        rw [if_pos hlt] at this
        exact ⟨by rw [this]; rfl, by rw [this]; exact hR3, grownBy_trans hg1 hg3⟩
      · have hstr := (src_take N h6 h4 h5 (by omega)).str
        have cut := fun ao' c' hc => rdr_cut hh1 hh2 h3 h4 h5 h6 h7 (show N ≤ L.length by omega) ao' c' hc
        have CUT : Hid _ := cut
        have hT3 := HT2.out
        rw [if_neg hlt] at hT3
        have HT3 : Hid _ := hT3
        have hNL : N ≤ L.length := by omega
        clear cut hR h6 hT3 HT2 HT
        go_wp2
        · go_ret
          have := CUT.out ao 0 (.inl ⟨by assumption, rfl, rfl⟩)
          exact ⟨by rw [HT3.out]; rfl, by rw [HT3.out]; exact this.1, grownBy_trans hg1 this.2⟩
        · go_ret
          have := CUT.out _ (c - N) (.inr ⟨by assumption, rfl, rfl⟩)
          exact ⟨by rw [HT3.out]; rfl, by rw [HT3.out]; exact this.1, grownBy_trans hg1 this.2⟩
end Go.Proofs.Ytefmeeffkjendaa
