/- NumTids: the walk of the law's Go text. -/
import Derived.Test.YtopnblhedankcaaReader2
import Derived.Laws.StructEq
namespace Go.Proofs.Ytopnblhedankcaa
open Go.ChangeShapes Go.WideShapes Go.ChangeAt Go.RowKit

/-- Bytes that came in can be read. -/
theorem isRow_src {w : World} {a : Option Addr} {len cap : Nat} {zs : List Int} (h : IsRow .u8 w a len cap zs) : ∃ l : List UInt8, Src w (.slice a len cap) l ∧ l.length = len := by
  rcases h with ⟨rfl, rfl, rfl, rfl⟩ | ⟨x, rfl, hl, hm, hz, hcell, hwz⟩
  · exact ⟨[], Src.nil w, rfl⟩
  · have hlen : ((zs.take len).map fun n => UInt8.ofNat n.toNat).length = len := by simp; omega
    refine ⟨(zs.take len).map fun n => UInt8.ofNat n.toNat, ⟨some x, cap, by rw [hlen], by rw [hlen]; exact hl, hm, fun h => (by cases h), ?_⟩, hlen⟩
    intro ad had j u hu
    cases had
    have hj : j < len := by
      have := (List.getElem?_eq_some_iff.1 hu).1
      rw [bv_length, hlen] at this; exact this
    rw [hcell j (by omega)]
    have hjz : j < zs.length := by omega
    have hb := bounds_u8 (hwz zs[j] (List.getElem_mem _))
    simp [bv, hj, hjz] at hu
    rw [← hu]
    simp only [List.getD, List.getElem?_eq_getElem hjz, Option.getD_some]
    congr 2
    have : (zs[j].toNat : Int) = zs[j] := by omega
    omega

theorem rnum_err {l : List UInt8} {m : Nat} (h : (rnum l 0 m).2.2 ≠ 0) : (rnum l 0 m).2.1 = [] := by
  unfold rnum at h ⊢
  rw [if_neg (by omega)] at h ⊢
  split at h <;> rename_i h1
  · rw [if_pos h1]
  · rw [if_neg h1]
    split at h <;> rename_i h2
    · rw [if_pos h2]
    · simp at h
theorem rnum_more {l : List UInt8} {e m : Nat} (h : e ≠ 0) : rnum l e m = (0, l, e) := by unfold rnum; rw [if_pos h]

theorem rtid_eq (l : List UInt8) : rtid l 0 = if (rnum (rnum l 0 1099511627776).2.1 (rnum l 0 1099511627776).2.2 63).2.2 ≠ 0 then ((0, 0), [], (rnum (rnum l 0 1099511627776).2.1 (rnum l 0 1099511627776).2.2 63).2.2)
    else (((rnum l 0 1099511627776).1, (rnum (rnum l 0 1099511627776).2.1 (rnum l 0 1099511627776).2.2 63).1), (rnum (rnum l 0 1099511627776).2.1 (rnum l 0 1099511627776).2.2 63).2.1, 0) := by
  unfold rtid
  split
  · rename_i h
    by_cases he : (rnum l 0 1099511627776).2.2 = 0
    · rw [he] at h ⊢
      rw [rnum_err h]
    · rw [rnum_more he] at h ⊢
      rw [rnum_err he]
  · rfl

theorem turnB {B : Nat} {w w1 w2 : World} {g : Nat} (h : Below B w w1) (hg : w1.grownBy w2 (some g)) (hB : B ≤ w1.heap.size) (hr : B ≤ g) : Below B w w2 :=
  h.grown hg hB (fun k hk => by cases hk; exact hr)

set_option maxHeartbeats 4000000 in
theorem walk_NumTids (a : Option Addr) (len cap : Nat) (zs : List Int) (w : World) (hw : IsRow .u8 w a len cap zs) :
    Calls Try.prog 5 #[.slice a len cap] w fun e w' => e = .returned (.bool true) ∧ Below w.heap.size w w' := by
  obtain ⟨l, hs, hlen⟩ := isRow_src hw
  clear hw
  subst hlen
  have hc := hs.at
  have hcm : cap ≤ 9223372036854775807 := by have := hc.2.2.1; unfold maxLen at this; omega
  have hlc := hc.2.1
  clear hc
  by_cases hl : l.length ≤ 100
  · go_enter Try.func5, Try.ntmps5
    go_wp2_with fail
    refine (head_any _).mono ?_
    rintro e w1 ⟨rfl, hB1⟩
    go_wp2_with fail
    refine (read_any a l.length cap l w1 (hs.below hB1) (by omega)).mono ?_
    rintro e w2 ⟨g, b, rfl, hR2, hb2, hg2, hbb2⟩
    have hB2 := hB1.trans (hb2.mono hB1.size)
    clear hb2
    go_wp2_with fail
    refine (tid_read g b l 0 w2 hR2).mono ?_
    rintro e w3 ⟨rfl, hR3, hg3⟩
    have hs1 := hB1.size
    have hB3 := turnB hB2 hg3 hB2.size (by omega)
    have hs3 := hB3.size
    have hgl3 := hR3.lt
    have hbl3 := hR3.2.1
    rw [rtid_eq] at hR3 ⊢
    clear hR2 hB2 hg3 hB1
    have hB4 := hB3.alloc hs3 (.cells #[.int .u64 ((rtid l 0).1.1 : Int), .int .i64 ((rtid l 0).1.2 : Int)] 32)
    rw [rtid_eq] at hB4
    have hf := rnum_facts (rnum l 0 1099511627776).2.1 (rnum l 0 1099511627776).2.2 63
    have HC1 : Hid (∀ W g b, Rdr W g b l 0 → Calls Try.prog 21 #[.pointer (some ⟨g, 0, none⟩), .int .u64 1099511627776] W fun e w' => e = .returned (.int .u64 ((rnum l 0 1099511627776).1 : Int)) ∧ Rdr w' g b (rnum l 0 1099511627776).2.1 (rnum l 0 1099511627776).2.2 ∧ W.grownBy w' (some g)) := fun W g b hW => num_any g b l 0 1099511627776 W hW
    generalize (rnum l 0 1099511627776).1 = N at *
    generalize (rnum l 0 1099511627776).2.1 = L at *
    generalize (rnum l 0 1099511627776).2.2 = E at *
    have HC2 : Hid (∀ W g b, Rdr W g b L E → Calls Try.prog 21 #[.pointer (some ⟨g, 0, none⟩), .int .u64 63] W fun e w' => e = .returned (.int .u64 ((rnum L E 63).1 : Int)) ∧ Rdr w' g b (rnum L E 63).2.1 (rnum L E 63).2.2 ∧ W.grownBy w' (some g)) := fun W g b hW => num_any g b L E 63 W hW
    generalize (rnum L E 63).1 = N2 at *
    generalize (rnum L E 63).2.1 = L2 at *
    generalize (rnum L E 63).2.2 = E2 at *
    have hf2 := hf.2.1
    clear hf
    obtain ⟨T, hT⟩ : ∃ T, T = if E2 ≠ 0 then ((0, 0), [], E2) else ((N, N2), L2, 0) := ⟨_, rfl⟩
    rw [← hT] at hR3 hB4 ⊢
    have HT : Hid _ := hT
    clear hT
    obtain ⟨⟨t1, t2⟩, LA, EA⟩ := T
    simp only at hR3 hB4 ⊢
    go_wp2_with fail
    refine (read_any a l.length cap l _ (hs.below hB4) (by omega)).mono ?_
    rintro e w5 ⟨g', b', rfl, hR5, hb5, hg5, hbb5⟩
    have hB5 := hB4.trans (hb5.mono hB4.size)
    have hRa5 : Rdr w5 g b LA EA := (hR3.below ((Below.refl _ _).alloc (Nat.le_refl _) _)).below hb5
    have hblk5 : w5.heap[w3.heap.size]? = some (.cells #[.int .u64 (t1 : Int), .int .i64 (t2 : Int)] 32 (0, 0)) := by
      rw [hb5.block _ (by simp)]; exact heap_alloc_new w3 _
    have hsz5 := hb5.size
    simp at hg5 hbb5 hsz5
    clear hb5 hB4 hB3 hR3
    go_wp2_with fail
    refine (HC1.out w5 g' b' hR5).mono ?_
    rintro e w6 ⟨rfl, hR6, hg6⟩
    have hB6 := turnB hB5 hg6 hB5.size (by omega)
    have hRa6 := hRa5.grown hg6 (by omega) (by omega)
    have hblk6 : w6.heap[w3.heap.size]? = some (.cells #[.int .u64 (t1 : Int), .int .i64 (t2 : Int)] 32 (0, 0)) := by
      rw [hg6.block _ (by omega) (by simp; omega)]; exact hblk5
    have hsz6 := hg6.size
    clear hR5 hB5 hRa5 hblk5 hg6
    go_wp2_with fail
    refine (HC2.out w6 g' b' hR6).mono ?_
    rintro e w7 ⟨rfl, hR7, hg7⟩
    have hB7 := turnB hB6 hg7 hB6.size (by omega)
    have hRa7 := hRa6.grown hg7 (by omega) (by omega)
    have hblk7 : w7.heap[w3.heap.size]? = some (.cells #[.int .u64 (t1 : Int), .int .i64 (t2 : Int)] 32 (0, 0)) := by
      rw [hg7.block _ (by omega) (by simp; omega)]; exact hblk6
    clear hR6 hB6 hRa6 hblk6 hg7
    have c0 : w7.cell? ⟨w3.heap.size, 0, none⟩ = some (.int .u64 (t1 : Int)) := by rw [cell_of_row w7 _ 0 _ _ _ hblk7]; rfl
    have c1 : w7.cell? ⟨w3.heap.size, 1, none⟩ = some (.int .i64 (t2 : Int)) := by rw [cell_of_row w7 _ 1 _ _ _ hblk7]; rfl
    clear hblk7
    have HEa : Hid (∀ W, Rdr W g b LA EA → Calls Try.prog 26 #[.pointer (some ⟨g, 0, none⟩)] W fun e w' => e = .returned (.int .i64 (EA : Int)) ∧ w' = W) := fun W h => err_any g b LA EA W h
    go_wp2_with fail
    refine (err_any g' b' L2 E2 w7 hR7).mono ?_
    rintro e w8 ⟨rfl, hw8⟩
    subst hw8
    by_cases hE : E2 = 0
    · subst hE
      have := HT.out
      rw [if_neg (by omega)] at this
      simp only [Prod.mk.injEq] at this
      obtain ⟨⟨rfl, rfl⟩, rfl, rfl⟩ := this
      have hN2 := hf2 rfl
      clear HT hf2
      go_wp2_with fail
      refine (err_any g b LA 0 _ hRa7).mono ?_
      rintro e w9 ⟨rfl, hw9⟩
      subst hw9
      go_wp2_with fail
      refine (left_any g b LA 0 _ hRa7).mono ?_
      rintro e w9 ⟨rfl, hw9⟩
      subst hw9
      go_wp2_with fail
      refine (left_any g' b' LA 0 _ hR7).mono ?_
      rintro e w9 ⟨rfl, hw9⟩
      subst hw9
      go_wp2
      go_ret
      exact ⟨rfl, hB7⟩
    · have := HT.out
      rw [if_pos hE] at this
      simp only [Prod.mk.injEq] at this
      obtain ⟨⟨rfl, rfl⟩, rfl, rfl⟩ := this
      have hEb : ((EA : Int) != 0) = true := by rw [bne_iff_ne]; omega
      clear HT hf2
      go_wp2_with fail
      refine (err_any g b [] EA _ hRa7).mono ?_
      rintro e w9 ⟨rfl, hw9⟩
      subst hw9
      go_wp2_with fail
      refine (err_any g' b' L2 EA _ hR7).mono ?_
      rintro e w9 ⟨rfl, hw9⟩
      subst hw9
      go_wp2_with fail
      refine (left_any g b [] EA _ hRa7).mono ?_
      rintro e w9 ⟨rfl, hw9⟩
      subst hw9
      go_wp2
      go_ret
      exact ⟨rfl, hB7⟩
  · go_enter Try.func5, Try.ntmps5
    go_wp2_with fail
    refine (head_any _).mono ?_
    rintro e w1 ⟨rfl, hB1⟩
    go_wp2
    go_ret
    exact ⟨rfl, hB1⟩
end Go.Proofs.Ytopnblhedankcaa
