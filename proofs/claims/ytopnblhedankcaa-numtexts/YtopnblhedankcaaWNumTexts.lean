/- NumTexts: the walk of the law's Go text. -/
import Derived.Test.YtopnblhedankcaaWNumTids
namespace Go.Proofs.Ytopnblhedankcaa
open Go.ChangeShapes Go.WideShapes Go.ChangeAt Go.RowKit

theorem rnum_drop {l : List UInt8} {m : Nat} (h : (rnum l 0 m).2.2 = 0) : (rnum l 0 m).2.1 = l.drop (l.length - (rnum l 0 m).2.1.length) := by
  have hF := firstL_facts l
  unfold rnum at h ⊢
  rw [if_neg (by omega)] at h ⊢
  split at h <;> rename_i h1
  · exact absurd h h1
  · rw [if_neg h1]
    split at h <;> rename_i h2
    · simp at h
    · rw [if_neg h2]
      have := (hF.2 (by omega)).2.2.1
      show l.drop _ = l.drop (l.length - (l.drop _).length)
      rw [List.length_drop, show l.length - (l.length - (firstL l).2.1) = (firstL l).2.1 by omega]

theorem srcAt_cut {w : World} {ao : Option Addr} {c S : Nat} {l : List UInt8} (h : SrcAt w ao c l) : SrcAt w (Option.map (fun x => x.add S) ao) (c - S) (l.drop S) := by
  refine ⟨fun hn => ?_, fun ad had j u hu => ?_⟩
  · have hn' : ao = none := by cases ao <;> simp_all
    obtain ⟨rfl, rfl⟩ := h.1 hn'
    exact ⟨by simp, by simp⟩
  · cases ao with
    | none => simp at had
    | some a =>
      simp at had
      subst had
      rw [add_add]
      refine h.2 a rfl (S + j) u ?_
      rw [← hu]
      simp [bv]

theorem mid_str {w : World} {a : Option Addr} {cap N : Nat} {l L : List UInt8} (h : Src w (.slice a l.length cap) l) (hL : L = l.drop (l.length - L.length)) (hl : L.length ≤ l.length) (hN : N ≤ L.length) :
    (cap = l.length - L.length → (convert 26 9 (.slice a N 0)).run Try.prog w = .ok (.string ⟨(L.take N).toArray⟩) w) ∧
    (¬ cap = l.length - L.length → (convert 26 9 (.slice (Option.map (fun x => x.add (l.length - L.length)) a) N (cap - (l.length - L.length)))).run Try.prog w = .ok (.string ⟨(L.take N).toArray⟩) w) := by
  obtain ⟨_, h1, h2, h3⟩ := h.at
  refine ⟨fun hc => ?_, fun hc => ?_⟩
  · have h0 : L.length = 0 := by omega
    have hL0 : L = [] := List.eq_nil_of_length_eq_zero h0
    have hN0 : N = 0 := by omega
    subst hL0 hN0
    exact Src.str (l := []) ⟨a, 0, rfl, Nat.le_refl _, Nat.zero_le _, fun _ => ⟨rfl, rfl⟩, fun ad _ j u hu => by simp [bv] at hu⟩
  · have hk := srcAt_cut (S := l.length - L.length) h3
    rw [← hL] at hk
    exact (src_take N hk (by omega) (by unfold maxLen at h2 ⊢; omega) hN).str

set_option maxHeartbeats 4000000 in
theorem walk_NumTexts (a : Option Addr) (len cap : Nat) (zs : List Int) (most : Int) (w : World) (hw : IsRow .u8 w a len cap zs) (hm : (Lit.int .i64 most).wf = true) :
    Calls Try.prog 4 #[.slice a len cap, .int .i64 most] w fun e w' => e = .returned (.bool true) ∧ Below w.heap.size w w' := by
  obtain ⟨l, hs, hlen⟩ := isRow_src hw
  clear hw
  subst hlen
  have hc := hs.at
  have hcm : cap ≤ 9223372036854775807 := by have := hc.2.2.1; unfold maxLen at this; omega
  have hlc := hc.2.1
  clear hc
  by_cases hl : l.length ≤ 300
  · have hbm := bounds_i64 hm
    obtain ⟨M, hM, hM64⟩ : ∃ M : Nat, most.toNat = M ∧ M ≤ 9223372036854775807 := ⟨_, rfl, by omega⟩
    have HTR : Hid (∀ W g b, Rdr W g b l 0 → Calls Try.prog 22 #[.pointer (some ⟨g, 0, none⟩), .int .i64 most] W fun e w' => e = .returned (.string ⟨(rtext l 0 M).1.toArray⟩) ∧ Rdr w' g b (rtext l 0 M).2.1 (rtext l 0 M).2.2 ∧ W.grownBy w' (some g)) := fun W g b hW => by
      have := text_read g b l 0 most W hW hm
      rw [hM] at this; exact this
    have hways : (most < 0 ∧ M = 0) ∨ (0 ≤ most ∧ most = (M : Int)) := by omega
    clear hm hM
    go_enter Try.func4, Try.ntmps4
    go_wp2_with fail
    refine (head_any _).mono ?_
    rintro e w1 ⟨rfl, hB1⟩
    go_wp2_with fail
    refine (read_any a l.length cap l w1 (hs.below hB1) (by omega)).mono ?_
    rintro e w2 ⟨g, b, rfl, hR2, hb2, hg2, hbb2⟩
    have hB2 := hB1.trans (hb2.mono hB1.size)
    have hs1 := hB1.size
    clear hb2 hB1
    go_wp2_with fail
    refine (HTR.out w2 g b hR2).mono ?_
    rintro e w3 ⟨rfl, hR3, hg3⟩
    have hB3 := turnB hB2 hg3 hB2.size (by omega)
    have hs3 := hB3.size
    have hgl3 := hR3.lt
    have hbl3 := hR3.2.1
    clear hR2 hB2 hg3 HTR
    have hf := rnum_facts l 0 M
    have hdr := fun h => rnum_drop (l := l) (m := M) h
    have HC1 : Hid (∀ W g b, Rdr W g b l 0 → Calls Try.prog 21 #[.pointer (some ⟨g, 0, none⟩), .int .u64 (M : Int)] W fun e w' => e = .returned (.int .u64 ((rnum l 0 M).1 : Int)) ∧ Rdr w' g b (rnum l 0 M).2.1 (rnum l 0 M).2.2 ∧ W.grownBy w' (some g)) := fun W g b hW => num_any g b l 0 M W hW
    obtain ⟨T, hT⟩ : ∃ T, T = rtext l 0 M := ⟨_, rfl⟩
    rw [← hT] at hR3 ⊢
    unfold rtext at hT
    generalize (rnum l 0 M).1 = N at *
    generalize (rnum l 0 M).2.1 = L at *
    generalize (rnum l 0 M).2.2 = E at *
    have HT : Hid _ := hT
    clear hT
    obtain ⟨X, LA, EA⟩ := T
    simp only at hR3 ⊢
    have HD : Hid _ := hdr
    have hf1 := hf.1
    have hf4 := hf.2.2.2
    clear hdr hf
    go_wp2_with fail
    refine (read_any a l.length cap l _ (hs.below hB3) (by omega)).mono ?_
    rintro e w5 ⟨g', b', rfl, hR5, hb5, hg5, hbb5⟩
    have hB5 := hB3.trans (hb5.mono hB3.size)
    have hRa5 : Rdr w5 g b LA EA := hR3.below hb5
    clear hb5 hB3 hR3
    have step : ∀ (e : Ending) (w6 : World), (e = .returned (.int .u64 (N : Int)) ∧ Rdr w6 g' b' L E ∧ w5.grownBy w6 (some g')) → Rdr w6 g b LA EA ∧ Below w.heap.size w w6 := fun e w6 h => ⟨hRa5.grown h.2.2 (by omega) (by omega), turnB hB5 h.2.2 hB5.size (by omega)⟩
    have ST : Hid _ := step
    clear step
    rcases hways with ⟨hw1, hw2⟩ | ⟨hw1, hw2⟩
    all_goals
      subst hw2
      go_wp2_with fail
      refine (HC1.out w5 g' b' hR5).mono ?_
      intro e w6 h6
      obtain ⟨hRa6, hB6⟩ := ST.out e w6 h6
      obtain ⟨rfl, hR6, _⟩ := h6
      clear HC1 hR5 hRa5 hB5 ST
      go_wp2_with fail
      refine (err_any g' b' L E w6 hR6).mono ?_
      rintro e w7 ⟨rfl, hw7⟩
      subst hw7
      by_cases hE : E = 0
      · subst hE
        have hX := HT.out
        rw [if_neg (by omega)] at hX
        have hD := HD.out rfl
        clear HT HD
        have HDD : Hid (L = l.drop (l.length - L.length)) := hD
        clear hD
        go_wp2_with fail
        refine (left_any g' b' L 0 _ hR6).mono ?_
        rintro e w8 ⟨rfl, hw8⟩
        subst hw8
        go_wp2_with fail
        refine (left_any g' b' L 0 _ hR6).mono ?_
        rintro e w8 ⟨rfl, hw8⟩
        subst hw8
        by_cases hNL : L.length < N
        · rw [if_pos hNL] at hX
          simp only [Prod.mk.injEq] at hX
          obtain ⟨rfl, rfl, rfl⟩ := hX
          go_wp2_with fail
          refine (err_any g b [] 6 _ hRa6).mono ?_
          rintro e w9 ⟨rfl, hw9⟩
          subst hw9
          go_wp2
          go_ret
          exact ⟨rfl, hB6⟩
        · rw [if_neg hNL] at hX
          simp only [Prod.mk.injEq] at hX
          obtain ⟨rfl, rfl, rfl⟩ := hX
          have HRA : Hid (Rdr w8 g b (List.drop N L) 0) := hRa6
          clear hRa6
          go_wp2_with fail
          refine (err_any g b _ 0 _ HRA.out).mono ?_
          rintro e w9 ⟨rfl, hw9⟩
          subst hw9
          obtain ⟨hA, hC⟩ := mid_str (hs.below hB6) HDD.out hf4 (show N ≤ L.length by omega)
          have hNL' : N ≤ L.length := by omega
          have hNi : ((List.drop N L).length : Int) = (L.length : Int) - (N : Int) := by rw [List.length_drop]; omega
          have HNi : Hid _ := hNi
          clear hNi
          go_wp2_with fail
          all_goals
            refine (left_any g b _ 0 _ HRA.out).mono ?_
            rintro e w10 ⟨rfl, hw10⟩
            subst hw10
            rw [HNi.out]
            go_wp2_with fail
            refine (left_any g' b' L 0 _ hR6).mono ?_
            rintro e w10 ⟨rfl, hw10⟩
            subst hw10
            go_wp2
            go_ret
            exact ⟨rfl, hB6⟩
      · have hX := HT.out
        rw [if_pos hE] at hX
        simp only [Prod.mk.injEq] at hX
        obtain ⟨rfl, rfl, rfl⟩ := hX
        have hEb : ((EA : Int) != 0) = true := by rw [bne_iff_ne]; omega
        clear HT HD
        go_wp2_with fail
        refine (err_any g b _ _ _ hRa6).mono ?_
        rintro e w8 ⟨rfl, hw8⟩
        subst hw8
        go_wp2_with fail
        refine (err_any g' b' _ _ _ hR6).mono ?_
        rintro e w8 ⟨rfl, hw8⟩
        subst hw8
        go_wp2
        go_ret
        exact ⟨rfl, hB6⟩
  · go_enter Try.func4, Try.ntmps4
    go_wp2_with fail
    refine (head_any _).mono ?_
    rintro e w1 ⟨rfl, hB1⟩
    go_wp2
    go_ret
    exact ⟨rfl, hB1⟩
end Go.Proofs.Ytopnblhedankcaa
