/- rec: readOpen, readDone, readChange. Own lemmas, no statement. -/
import Derived.Test.YthkmohcdgnldgaaGreatRecR2
import Derived.Lib.ConvBytes
set_option linter.unusedSimpArgs false
set_option linter.unusedVariables false
namespace Go.Proofs.YthkmohcdgnldgaaGreat
open Go.ChangeShapes Go.WideShapes Go.ChangeAt Go.RowKit

theorem rtk_mem {α : Type} {f : RF α} {P : α → Prop} (h : ∀ l e, P (f l e).1) : ∀ (k : Nat) (l : List UInt8) (e : Nat), ∀ x ∈ (rtk f k l e).1, P x
  | 0, l, e => fun x hx => by simp [rtk] at hx
  | k + 1, l, e => fun x hx => by
    unfold rtk at hx
    rcases List.mem_append.1 hx with h1 | h1
    · exact rtk_mem h k l e x h1
    · simp at h1
      rw [h1]
      exact h _ _
theorem rstr_size (M : Nat) (l : List UInt8) (e : Nat) : (rstr M l e).1.size ≤ M := (rtext_facts l e M).1
theorem rreads_size (l : List UInt8) (e : Nat) : ∀ s ∈ (rreads l e).1, s.size ≤ 24 := rtk_mem (fun l e => rstr_size 24 l e) _ _ _
theorem rint_le (M : Nat) (l : List UInt8) (e : Nat) : 0 ≤ (rint M l e).1 ∧ (rint M l e).1 ≤ (M : Int) := by
  have h : (rnum l e M).1 ≤ M := rnum_le _ _ _
  unfold rint
  exact ⟨by simp, by simp only; omega⟩

set_option maxRecDepth 100000 in
set_option maxHeartbeats 4000000 in
theorem ropen_read (g b : Nat) (l : List UInt8) (err : Nat) (w : World) (h : Rdr w g b l err) : Calls Tryz.prog 86 #[.pointer (some ⟨g, 0, none⟩)] w (ReadP ropen g b l err vOpen w) := by
  obtain ⟨T, hT⟩ : ∃ x, x = rtidI l err := ⟨_, rfl⟩
  obtain ⟨A, hA⟩ : ∃ x, x = rint 4611686018427387904 T.2.1 T.2.2 := ⟨_, rfl⟩
  obtain ⟨B, hB⟩ : ∃ x, x = rint 4611686018427387904 A.2.1 A.2.2 := ⟨_, rfl⟩
  obtain ⟨C, hC⟩ : ∃ x, x = rint 1073741824 B.2.1 B.2.2 := ⟨_, rfl⟩
  obtain ⟨F, hF⟩ : ∃ x, x = rflag C.2.1 C.2.2 := ⟨_, rfl⟩
  obtain ⟨R, hR⟩ : ∃ x, x = rreads F.2.1 F.2.2 := ⟨_, rfl⟩
  have HP : ropen l err = ((OpenQ.mk T.1.1 T.1.2 A.1 B.1 C.1 F.1 R.1), R.2.1, R.2.2) := by subst hR hF hC hB hA hT; rfl
  have HQ : Hid (∀ W v w', (vOpen W.heap.size w' v (OpenQ.mk T.1.1 T.1.2 A.1 B.1 C.1 F.1 R.1) ∧ Rdr w' g b R.2.1 R.2.2 ∧ W.grownBy w' (some g)) → ReadP ropen g b l err vOpen W (.returned v) w') := fun W v w' hh => ⟨v, rfl, by rw [HP]; exact hh.1, by rw [HP]; exact hh.2.1, hh.2.2⟩
  have HCT : Hid (∀ W, Rdr W g b l err → Calls Tryz.prog 35 #[.pointer (some ⟨g, 0, none⟩)] W fun e w' => ∃ v, e = .returned v ∧ vTid W.heap.size w' v T.1 ∧ Rdr w' g b T.2.1 T.2.2 ∧ W.grownBy w' (some g)) := fun W hW => by subst hT; exact rtid_read g b _ _ W hW
  have HCA : Hid (∀ W, Rdr W g b T.2.1 T.2.2 → Calls Tryz.prog 34 #[.pointer (some ⟨g, 0, none⟩), .int .u64 4611686018427387904] W fun e w' => ∃ v, e = .returned v ∧ vU64 W.heap.size w' v A.1 ∧ Rdr w' g b A.2.1 A.2.2 ∧ W.grownBy w' (some g)) := fun W hW => by subst hA; exact rint_read 4611686018427387904 g b _ _ W hW
  have HCB : Hid (∀ W, Rdr W g b A.2.1 A.2.2 → Calls Tryz.prog 34 #[.pointer (some ⟨g, 0, none⟩), .int .u64 4611686018427387904] W fun e w' => ∃ v, e = .returned v ∧ vU64 W.heap.size w' v B.1 ∧ Rdr w' g b B.2.1 B.2.2 ∧ W.grownBy w' (some g)) := fun W hW => by subst hB; exact rint_read 4611686018427387904 g b _ _ W hW
  have HCC : Hid (∀ W, Rdr W g b B.2.1 B.2.2 → Calls Tryz.prog 34 #[.pointer (some ⟨g, 0, none⟩), .int .u64 1073741824] W fun e w' => ∃ v, e = .returned v ∧ vU64 W.heap.size w' v C.1 ∧ Rdr w' g b C.2.1 C.2.2 ∧ W.grownBy w' (some g)) := fun W hW => by subst hC; exact rint_read 1073741824 g b _ _ W hW
  have FC : 0 ≤ C.1 ∧ C.1 ≤ 1073741824 := by subst hC; exact rint_le 1073741824 _ _
  have HCF : Hid (∀ W, Rdr W g b C.2.1 C.2.2 → Calls Tryz.prog 81 #[.pointer (some ⟨g, 0, none⟩)] W fun e w' => ∃ v, e = .returned v ∧ vBool W.heap.size w' v F.1 ∧ Rdr w' g b F.2.1 F.2.2 ∧ W.grownBy w' (some g)) := fun W hW => by subst hF; exact rflag_read g b _ _ W hW
  have HCR : Hid (∀ W, Rdr W g b F.2.1 F.2.2 → Calls Tryz.prog 83 #[.pointer (some ⟨g, 0, none⟩)] W fun e w' => ∃ v, e = .returned v ∧ vStrs W.heap.size w' v R.1 ∧ Rdr w' g b R.2.1 R.2.2 ∧ W.grownBy w' (some g)) := fun W hW => by subst hR; exact rreads_read g b _ _ W hW
  have FR : ∀ s ∈ R.1, s.size ≤ 24 := by subst hR; exact rreads_size _ _
  clear HP hR hF hC hB hA hT
  obtain ⟨⟨tx, ty⟩, Tl, Te⟩ := T
  obtain ⟨Av, Al, Ae⟩ := A
  obtain ⟨Bv, Bl, Be⟩ := B
  obtain ⟨Cv, Cl, Ce⟩ := C
  obtain ⟨Fv, Fl, Fe⟩ := F
  obtain ⟨Rv, Rl, Re⟩ := R
  simp only at FC FR
  have HGB : Hid (g < w.heap.size ∧ b < w.heap.size) := ⟨h.lt, h.2.1⟩
  have HB : Hid (Blk (w.alloc (.cells #[.int .u64 0, .int .i64 0, .int .u64 0, .int .u64 0, .int .i64 0, .bool false, .slice none 0 0] 45)) w.heap.size #[.int .u64 0, .int .i64 0, .int .u64 0, .int .u64 0, .int .i64 0, .bool false, .slice none 0 0] 45) := Blk.new _ _ _
  have HR : Hid (Rdr (w.alloc (.cells #[.int .u64 0, .int .i64 0, .int .u64 0, .int .u64 0, .int .i64 0, .bool false, .slice none 0 0] 45)) g b l err) := h.below (below_allocR _)
  have HG : Hid (w.grownBy (w.alloc (.cells #[.int .u64 0, .int .i64 0, .int .u64 0, .int .u64 0, .int .i64 0, .bool false, .slice none 0 0] 45)) (some g)) := World.grownBy_alloc _ _ _
  have HSZ : Hid (w.heap.size < (w.alloc (.cells #[.int .u64 0, .int .i64 0, .int .u64 0, .int .u64 0, .int .i64 0, .bool false, .slice none 0 0] 45)).heap.size) := by show _ < _; simp
  clear h
  go_enter Tryz.func86, Tryz.ntmps86
  go_upto_region 1 with fail
  generalize (w.alloc (.cells #[.int .u64 0, .int .i64 0, .int .u64 0, .int .u64 0, .int .i64 0, .bool false, .slice none 0 0] 45)) = w0 at *
  have HCC : Hid (Calls _ _ _ _ _) := HCT.out w0 HR.out
  go_wp2_with fail
  refine HCC.out.mono ?_
  rintro e w1 ⟨v0, rfl, hv0, h1, h2⟩
  have HB' : Hid (Blk w1 w.heap.size #[.int .u64 0, .int .i64 0, .int .u64 0, .int .u64 0, .int .i64 0, .bool false, .slice none 0 0] 45) := Blk.of HB.out (h2.block _ HB.out.lt (fun e => by cases e; exact absurd HGB.out.1 (Nat.lt_irrefl _)))
  have HR' : Hid (Rdr w1 g b Tl Te) := h1
  have HG' : Hid (w.grownBy w1 (some g)) := grownBy_trans HG.out h2
  have HSZ' : Hid (w.heap.size < w1.heap.size) := Nat.lt_of_lt_of_le HSZ.out h2.size
  have hv0' : v0 = .agg #[.int .u64 tx, .int .i64 ty] := hv0
  subst hv0'
  clear hv0
  clear h1 h2 HCC HB HR HG HSZ
  have HB := HB'
  have HR := HR'
  have HG := HG'
  have HSZ := HSZ'
  clear HB' HR' HG' HSZ'
  have HCC : Hid (Calls _ _ _ _ _) := HCA.out w1 HR.out
  go_wp2_with fail
  refine HCC.out.mono ?_
  rintro e w2 ⟨v1, rfl, hv1, h1, h2⟩
  have HB' : Hid (Blk w2 w.heap.size #[.int .u64 0, .int .i64 0, .int .u64 0, .int .u64 0, .int .i64 0, .bool false, .slice none 0 0] 45) := Blk.of HB.out (h2.block _ HB.out.lt (fun e => by cases e; exact absurd HGB.out.1 (Nat.lt_irrefl _)))
  have HR' : Hid (Rdr w2 g b Al Ae) := h1
  have HG' : Hid (w.grownBy w2 (some g)) := grownBy_trans HG.out h2
  have HSZ' : Hid (w.heap.size < w2.heap.size) := Nat.lt_of_lt_of_le HSZ.out h2.size
  have hv1' : v1 = .int .u64 Av := hv1
  subst hv1'
  clear hv1
  clear h1 h2 HCC HB HR HG HSZ
  have HB := HB'
  have HR := HR'
  have HG := HG'
  have HSZ := HSZ'
  clear HB' HR' HG' HSZ'
  have HCC : Hid (Calls _ _ _ _ _) := HCB.out w2 HR.out
  go_wp2_with fail
  refine HCC.out.mono ?_
  rintro e w3 ⟨v2, rfl, hv2, h1, h2⟩
  have HB' : Hid (Blk w3 w.heap.size #[.int .u64 0, .int .i64 0, .int .u64 0, .int .u64 0, .int .i64 0, .bool false, .slice none 0 0] 45) := Blk.of HB.out (h2.block _ HB.out.lt (fun e => by cases e; exact absurd HGB.out.1 (Nat.lt_irrefl _)))
  have HR' : Hid (Rdr w3 g b Bl Be) := h1
  have HG' : Hid (w.grownBy w3 (some g)) := grownBy_trans HG.out h2
  have HSZ' : Hid (w.heap.size < w3.heap.size) := Nat.lt_of_lt_of_le HSZ.out h2.size
  have hv2' : v2 = .int .u64 Bv := hv2
  subst hv2'
  clear hv2
  clear h1 h2 HCC HB HR HG HSZ
  have HB := HB'
  have HR := HR'
  have HG := HG'
  have HSZ := HSZ'
  clear HB' HR' HG' HSZ'
  have HCC : Hid (Calls _ _ _ _ _) := HCC.out w3 HR.out
  go_wp2_with fail
  refine HCC.out.mono ?_
  rintro e w4 ⟨v3, rfl, hv3, h1, h2⟩
  have HB' : Hid (Blk w4 w.heap.size #[.int .u64 0, .int .i64 0, .int .u64 0, .int .u64 0, .int .i64 0, .bool false, .slice none 0 0] 45) := Blk.of HB.out (h2.block _ HB.out.lt (fun e => by cases e; exact absurd HGB.out.1 (Nat.lt_irrefl _)))
  have HR' : Hid (Rdr w4 g b Cl Ce) := h1
  have HG' : Hid (w.grownBy w4 (some g)) := grownBy_trans HG.out h2
  have HSZ' : Hid (w.heap.size < w4.heap.size) := Nat.lt_of_lt_of_le HSZ.out h2.size
  have hv3' : v3 = .int .u64 Cv := hv3
  subst hv3'
  clear hv3
  clear h1 h2 HCC HB HR HG HSZ
  have HB := HB'
  have HR := HR'
  have HG := HG'
  have HSZ := HSZ'
  clear HB' HR' HG' HSZ'
  have HCC : Hid (Calls _ _ _ _ _) := HCF.out w4 HR.out
  go_wp2_with fail
  refine HCC.out.mono ?_
  rintro e w5 ⟨v4, rfl, hv4, h1, h2⟩
  have HB' : Hid (Blk w5 w.heap.size #[.int .u64 0, .int .i64 0, .int .u64 0, .int .u64 0, .int .i64 0, .bool false, .slice none 0 0] 45) := Blk.of HB.out (h2.block _ HB.out.lt (fun e => by cases e; exact absurd HGB.out.1 (Nat.lt_irrefl _)))
  have HR' : Hid (Rdr w5 g b Fl Fe) := h1
  have HG' : Hid (w.grownBy w5 (some g)) := grownBy_trans HG.out h2
  have HSZ' : Hid (w.heap.size < w5.heap.size) := Nat.lt_of_lt_of_le HSZ.out h2.size
  have hv4' : v4 = .bool Fv := hv4
  subst hv4'
  clear hv4
  clear h1 h2 HCC HB HR HG HSZ
  have HB := HB'
  have HR := HR'
  have HG := HG'
  have HSZ := HSZ'
  clear HB' HR' HG' HSZ'
  have HCC : Hid (Calls _ _ _ _ _) := HCR.out w5 HR.out
  go_wp2_with fail
  refine HCC.out.mono ?_
  rintro e w6 ⟨v5, rfl, hv5, h1, h2⟩
  have HB' : Hid (Blk w6 w.heap.size #[.int .u64 0, .int .i64 0, .int .u64 0, .int .u64 0, .int .i64 0, .bool false, .slice none 0 0] 45) := Blk.of HB.out (h2.block _ HB.out.lt (fun e => by cases e; exact absurd HGB.out.1 (Nat.lt_irrefl _)))
  have HR' : Hid (Rdr w6 g b Rl Re) := h1
  have HG' : Hid (w.grownBy w6 (some g)) := grownBy_trans HG.out h2
  have HSZ' : Hid (w.heap.size < w6.heap.size) := Nat.lt_of_lt_of_le HSZ.out h2.size
  obtain ⟨n5, a5, c5, rfl, hs5⟩ := hv5
  have HS5 : Hid (StaI w5.heap.size w6.heap.size w6 _) := hs5
  have HO5 : Hid (w.heap.size < w5.heap.size) := HSZ.out
  clear hs5
  clear h1 h2 HCC HB HR HG HSZ
  have HB := HB'
  have HR := HR'
  have HG := HG'
  have HSZ := HSZ'
  clear HB' HR' HG' HSZ'
  have z0 := HB.out.cell 0
  have f0 := HB.out.frozen 0
  have z1 := HB.out.cell 1
  have f1 := HB.out.frozen 1
  have z2 := HB.out.cell 2
  have f2 := HB.out.frozen 2
  have z3 := HB.out.cell 3
  have f3 := HB.out.frozen 3
  have z4 := HB.out.cell 4
  have f4 := HB.out.frozen 4
  have z5 := HB.out.cell 5
  have f5 := HB.out.frozen 5
  have z6 := HB.out.cell 6
  have f6 := HB.out.frozen 6
  go_wp2
  have K1 : Blk (putL w6 w.heap.size 0 [.int .u64 tx, .int .i64 ty, .int .u64 Av, .int .u64 Bv, .int .i64 Cv, .bool Fv, .slice a5 n5 c5]) w.heap.size #[.int .u64 tx, .int .i64 ty, .int .u64 Av, .int .u64 Bv, .int .i64 Cv, .bool Fv, .slice a5 n5 c5] 45 := putL_all [.int .u64 tx, .int .i64 ty, .int .u64 Av, .int .u64 Bv, .int .i64 Cv, .bool Fv, .slice a5 n5 c5] HB.out rfl
  have K3 : ∀ j, j ≠ w.heap.size → (putL w6 w.heap.size 0 [.int .u64 tx, .int .i64 ty, .int .u64 Av, .int .u64 Bv, .int .i64 Cv, .bool Fv, .slice a5 n5 c5]).heap[j]? = w6.heap[j]? := fun j hj => putL_other _ _ hj _ _ _
  have K4 := putL_size w.heap.size [.int .u64 tx, .int .i64 ty, .int .u64 Av, .int .u64 Bv, .int .i64 Cv, .bool Fv, .slice a5 n5 c5] 0 w6
  have K2 : w.grownBy (putL w6 w.heap.size 0 [.int .u64 tx, .int .i64 ty, .int .u64 Av, .int .u64 Bv, .int .i64 Cv, .bool Fv, .slice a5 n5 c5]) (some g) := by
    have h0 := putL_below (B := w.heap.size) (Nat.le_refl _) [.int .u64 tx, .int .i64 ty, .int .u64 Av, .int .u64 Bv, .int .i64 Cv, .bool Fv, .slice a5 n5 c5] 0 w6 (Below.refl _ w6)
    exact ⟨h0.os.trans HG.out.os, h0.tape.trans HG.out.tape, h0.output.trans HG.out.output, Nat.le_trans HG.out.size h0.size, fun i hi hr => (h0.block i hi).trans (HG.out.block i hi hr)⟩
  have hgo : ∀ (Q : World → Prop), Q (putL w6 w.heap.size 0 [.int .u64 tx, .int .i64 ty, .int .u64 Av, .int .u64 Bv, .int .i64 Cv, .bool Fv, .slice a5 n5 c5]) → Q (((((((w6.setCell ⟨w.heap.size, 0, none⟩ (.int .u64 tx)).setCell ⟨w.heap.size, 1, none⟩ (.int .i64 ty)).setCell ⟨w.heap.size, 2, none⟩ (.int .u64 Av)).setCell ⟨w.heap.size, 3, none⟩ (.int .u64 Bv)).setCell ⟨w.heap.size, 4, none⟩ (.int .i64 Cv)).setCell ⟨w.heap.size, 5, none⟩ (.bool Fv)).setCell ⟨w.heap.size, 6, none⟩ (.slice a5 n5 c5)) := fun _ h => h
  refine hgo _ ?_
  clear hgo z0 f0 z1 f1 z2 f2 z3 f3 z4 f4 z5 f5 z6 f6
  generalize (putL w6 w.heap.size 0 [.int .u64 tx, .int .i64 ty, .int .u64 Av, .int .u64 Bv, .int .i64 Cv, .bool Fv, .slice a5 n5 c5]) = W9 at *
  have z0 := K1.cell 0
  have z1 := K1.cell 1
  have z2 := K1.cell 2
  have z3 := K1.cell 3
  have z4 := K1.cell 4
  have z5 := K1.cell 5
  have z6 := K1.cell 6
  simp only [List.getElem?_toArray, List.getElem?_cons_zero, List.getElem?_cons_succ] at z0 z1 z2 z3 z4 z5 z6
  exact bodyPost_ret (v := .agg #[.int .u64 tx, .int .i64 ty, .int .u64 Av, .int .u64 Bv, .int .i64 Cv, .bool Fv, .slice a5 n5 c5]) (by simp [results, Tryz.results86, go_sem, z0, z1, z2, z3, z4, z5, z6]) rfl (HQ.out w _ _ ⟨⟨OpenV.mk tx ty Av Bv Cv Fv a5 n5 c5 Rv, rfl, rfl, ((HS5.out.move fun i h1 h2 => K3 i (by have := HO5.out; omega)).wide (Nat.le_of_lt HO5.out) K4).mono fun W hW => ⟨hW, fun s hs => Nat.le_trans (FR s hs) (by decide)⟩⟩, HR.out.kept K4 (K3 g (by have := HGB.out.1; omega)) (K3 b (by have := HGB.out.2; omega)), K2⟩)

set_option maxRecDepth 100000 in
set_option maxHeartbeats 4000000 in
theorem rdone_read (g b : Nat) (l : List UInt8) (err : Nat) (w : World) (h : Rdr w g b l err) : Calls Tryz.prog 88 #[.pointer (some ⟨g, 0, none⟩)] w (ReadP rdone g b l err vDone w) := by
  obtain ⟨T, hT⟩ : ∃ x, x = rtidI l err := ⟨_, rfl⟩
  obtain ⟨R, hR⟩ : ∃ x, x = rnodes T.2.1 T.2.2 := ⟨_, rfl⟩
  have HP : rdone l err = ((DoneQ.mk T.1.1 T.1.2 R.1), R.2.1, R.2.2) := by subst hR hT; rfl
  have HQ : Hid (∀ W v w', (vDone W.heap.size w' v (DoneQ.mk T.1.1 T.1.2 R.1) ∧ Rdr w' g b R.2.1 R.2.2 ∧ W.grownBy w' (some g)) → ReadP rdone g b l err vDone W (.returned v) w') := fun W v w' hh => ⟨v, rfl, by rw [HP]; exact hh.1, by rw [HP]; exact hh.2.1, hh.2.2⟩
  have HCT : Hid (∀ W, Rdr W g b l err → Calls Tryz.prog 35 #[.pointer (some ⟨g, 0, none⟩)] W fun e w' => ∃ v, e = .returned v ∧ vTid W.heap.size w' v T.1 ∧ Rdr w' g b T.2.1 T.2.2 ∧ W.grownBy w' (some g)) := fun W hW => by subst hT; exact rtid_read g b _ _ W hW
  have HCR : Hid (∀ W, Rdr W g b T.2.1 T.2.2 → Calls Tryz.prog 84 #[.pointer (some ⟨g, 0, none⟩)] W fun e w' => ∃ v, e = .returned v ∧ vInts W.heap.size w' v R.1 ∧ Rdr w' g b R.2.1 R.2.2 ∧ W.grownBy w' (some g)) := fun W hW => by subst hR; exact rnodes_read g b _ _ W hW
  clear HP hR hT
  obtain ⟨⟨tx, ty⟩, Tl, Te⟩ := T
  obtain ⟨Rv, Rl, Re⟩ := R
  have HGB : Hid (g < w.heap.size ∧ b < w.heap.size) := ⟨h.lt, h.2.1⟩
  have HB : Hid (Blk (w.alloc (.cells #[.int .u64 0, .int .i64 0, .slice none 0 0] 51)) w.heap.size #[.int .u64 0, .int .i64 0, .slice none 0 0] 51) := Blk.new _ _ _
  have HR : Hid (Rdr (w.alloc (.cells #[.int .u64 0, .int .i64 0, .slice none 0 0] 51)) g b l err) := h.below (below_allocR _)
  have HG : Hid (w.grownBy (w.alloc (.cells #[.int .u64 0, .int .i64 0, .slice none 0 0] 51)) (some g)) := World.grownBy_alloc _ _ _
  have HSZ : Hid (w.heap.size < (w.alloc (.cells #[.int .u64 0, .int .i64 0, .slice none 0 0] 51)).heap.size) := by show _ < _; simp
  clear h
  go_enter Tryz.func88, Tryz.ntmps88
  go_upto_region 1 with fail
  generalize (w.alloc (.cells #[.int .u64 0, .int .i64 0, .slice none 0 0] 51)) = w0 at *
  have HCC : Hid (Calls _ _ _ _ _) := HCT.out w0 HR.out
  go_wp2_with fail
  refine HCC.out.mono ?_
  rintro e w1 ⟨v0, rfl, hv0, h1, h2⟩
  have HB' : Hid (Blk w1 w.heap.size #[.int .u64 0, .int .i64 0, .slice none 0 0] 51) := Blk.of HB.out (h2.block _ HB.out.lt (fun e => by cases e; exact absurd HGB.out.1 (Nat.lt_irrefl _)))
  have HR' : Hid (Rdr w1 g b Tl Te) := h1
  have HG' : Hid (w.grownBy w1 (some g)) := grownBy_trans HG.out h2
  have HSZ' : Hid (w.heap.size < w1.heap.size) := Nat.lt_of_lt_of_le HSZ.out h2.size
  have hv0' : v0 = .agg #[.int .u64 tx, .int .i64 ty] := hv0
  subst hv0'
  clear hv0
  clear h1 h2 HCC HB HR HG HSZ
  have HB := HB'
  have HR := HR'
  have HG := HG'
  have HSZ := HSZ'
  clear HB' HR' HG' HSZ'
  have HCC : Hid (Calls _ _ _ _ _) := HCR.out w1 HR.out
  go_wp2_with fail
  refine HCC.out.mono ?_
  rintro e w2 ⟨v1, rfl, hv1, h1, h2⟩
  have HB' : Hid (Blk w2 w.heap.size #[.int .u64 0, .int .i64 0, .slice none 0 0] 51) := Blk.of HB.out (h2.block _ HB.out.lt (fun e => by cases e; exact absurd HGB.out.1 (Nat.lt_irrefl _)))
  have HR' : Hid (Rdr w2 g b Rl Re) := h1
  have HG' : Hid (w.grownBy w2 (some g)) := grownBy_trans HG.out h2
  have HSZ' : Hid (w.heap.size < w2.heap.size) := Nat.lt_of_lt_of_le HSZ.out h2.size
  obtain ⟨n1, a1, c1, rfl, hs1⟩ := hv1
  have HS1 : Hid (StaI w1.heap.size w2.heap.size w2 _) := hs1
  have HO1 : Hid (w.heap.size < w1.heap.size) := HSZ.out
  clear hs1
  clear h1 h2 HCC HB HR HG HSZ
  have HB := HB'
  have HR := HR'
  have HG := HG'
  have HSZ := HSZ'
  clear HB' HR' HG' HSZ'
  have z0 := HB.out.cell 0
  have f0 := HB.out.frozen 0
  have z1 := HB.out.cell 1
  have f1 := HB.out.frozen 1
  have z2 := HB.out.cell 2
  have f2 := HB.out.frozen 2
  go_wp2
  have K1 : Blk (putL w2 w.heap.size 0 [.int .u64 tx, .int .i64 ty, .slice a1 n1 c1]) w.heap.size #[.int .u64 tx, .int .i64 ty, .slice a1 n1 c1] 51 := putL_all [.int .u64 tx, .int .i64 ty, .slice a1 n1 c1] HB.out rfl
  have K3 : ∀ j, j ≠ w.heap.size → (putL w2 w.heap.size 0 [.int .u64 tx, .int .i64 ty, .slice a1 n1 c1]).heap[j]? = w2.heap[j]? := fun j hj => putL_other _ _ hj _ _ _
  have K4 := putL_size w.heap.size [.int .u64 tx, .int .i64 ty, .slice a1 n1 c1] 0 w2
  have K2 : w.grownBy (putL w2 w.heap.size 0 [.int .u64 tx, .int .i64 ty, .slice a1 n1 c1]) (some g) := by
    have h0 := putL_below (B := w.heap.size) (Nat.le_refl _) [.int .u64 tx, .int .i64 ty, .slice a1 n1 c1] 0 w2 (Below.refl _ w2)
    exact ⟨h0.os.trans HG.out.os, h0.tape.trans HG.out.tape, h0.output.trans HG.out.output, Nat.le_trans HG.out.size h0.size, fun i hi hr => (h0.block i hi).trans (HG.out.block i hi hr)⟩
  have hgo : ∀ (Q : World → Prop), Q (putL w2 w.heap.size 0 [.int .u64 tx, .int .i64 ty, .slice a1 n1 c1]) → Q (((w2.setCell ⟨w.heap.size, 0, none⟩ (.int .u64 tx)).setCell ⟨w.heap.size, 1, none⟩ (.int .i64 ty)).setCell ⟨w.heap.size, 2, none⟩ (.slice a1 n1 c1)) := fun _ h => h
  refine hgo _ ?_
  clear hgo z0 f0 z1 f1 z2 f2
  generalize (putL w2 w.heap.size 0 [.int .u64 tx, .int .i64 ty, .slice a1 n1 c1]) = W9 at *
  have z0 := K1.cell 0
  have z1 := K1.cell 1
  have z2 := K1.cell 2
  simp only [List.getElem?_toArray, List.getElem?_cons_zero, List.getElem?_cons_succ] at z0 z1 z2
  exact bodyPost_ret (v := .agg #[.int .u64 tx, .int .i64 ty, .slice a1 n1 c1]) (by simp [results, Tryz.results88, go_sem, z0, z1, z2]) rfl (HQ.out w _ _ ⟨⟨DoneV.mk tx ty a1 n1 c1 Rv, rfl, rfl, ((HS1.out.move fun i h1 h2 => K3 i (by have := HO1.out; omega)).wide (Nat.le_of_lt HO1.out) K4).mono fun W hW => ⟨hW⟩⟩, HR.out.kept K4 (K3 g (by have := HGB.out.1; omega)) (K3 b (by have := HGB.out.2; omega)), K2⟩)

theorem image_any (S : ByteArray) (v : Value) (w : World) (hs : Src w v S.data.toList) (hl : S.size ≤ 512) : Calls Tryz.prog 110 #[v] w fun e w' => ∃ kv vv dv X Y, e = .returned (.tuple #[pgv (rimage S) kv vv dv, .int .u64 X, .int .i64 Y]) ∧ PgO w' w.heap.size (rimage S) kv vv dv ∧ Below w.heap.size w w' := by
  have h1 : S.data.toList.length = S.size := rfl
  refine (decode_own v S.data.toList w hs (by omega)).mono ?_
  rintro e w' ⟨h, y⟩
  unfold rimage
  split at h
  · rename_i hd
    rw [if_pos hd]
    obtain ⟨kv, vv, dv, he, ho⟩ := h
    exact ⟨kv, vv, dv, _, _, he, ho, y⟩
  · rename_i hd
    rw [if_neg hd]
    exact ⟨_, _, _, _, _, h, ⟨OwnV.nil _ _ _, OwnV.nil _ _ _, OwnV.nil _ _ _, fun g e => (by cases e), fun g e => (by cases e), fun g e => (by cases e)⟩, y⟩
theorem image_ok (S : ByteArray) : (rimage S).Ok := by
  unfold rimage
  split
  · exact body_ok _ (rnum_le _ _ _) _ _
  · refine ⟨fun s hs => (by cases hs), fun s hs => (by cases hs), fun n hn => (by cases hn), ?_, ?_, ?_, ?_, ?_⟩ <;> simp [Pg.zero]
theorem pgO_sta {W : World} {B : Nat} {p : Pg} {kv vv dv : Value} (h : PgO W B p kv vv dv) : StaI B W.heap.size W fun W => PgAt W p kv vv dv := fun W2 h2 =>
  ⟨ownV_sta h.keys W2 h2, ownV_sta h.vals W2 h2, ownV_sta h.kids W2 h2⟩
theorem bytesW_below (w : World) (e : TypeId) (s : ByteArray) : Below w.heap.size w (Lib.bytesWorld w e s) :=
  ⟨rfl, rfl, rfl, by rw [Lib.bytesWorld_size]; omega, fun k hk => Lib.bytesWorld_at_old w e s k hk⟩
theorem bytesW_src (w : World) (s : ByteArray) (hs : s.size ≤ 512) : Src (Lib.bytesWorld w 5 s) (.slice (some ⟨w.heap.size, 0, none⟩) s.size (grownCap w s.size 0 5)) s.data.toList := by
  have hl : s.data.toList.length = s.size := rfl
  refine ⟨some ⟨w.heap.size, 0, none⟩, grownCap w s.size 0 5, by rw [hl], by rw [hl]; exact grownCap_ge _ _ _ _, grownCap_le_maxLen _ _ _ _ (by unfold maxLen; omega), fun e => (by cases e), fun ad had j u hu => ?_⟩
  cases had
  have hj : j < s.data.toList.length := by
    have := (List.getElem?_eq_some_iff.1 hu).1
    simpa [bv] using this
  rw [show (⟨w.heap.size, 0, none⟩ : Addr).add j = ⟨w.heap.size, j, none⟩ by by_cases h0 : j = 0 <;> simp [Addr.add, h0], Lib.bytesWorld_cell _ _ _ _ (by omega), ← hu]
  have hj2 : j < s.data.size := by simpa using hj
  simp [bv, List.getD, hj2, Array.getElem?_eq_getElem hj2]

set_option maxRecDepth 100000 in
set_option maxHeartbeats 4000000 in
theorem rchg_read (g b : Nat) (l : List UInt8) (err : Nat) (w : World) (h : Rdr w g b l err) : Calls Tryz.prog 103 #[.pointer (some ⟨g, 0, none⟩)] w (ReadP rchg g b l err vChg w) := by
  obtain ⟨N, hN⟩ : ∃ x, x = rint 65535 l err := ⟨_, rfl⟩
  obtain ⟨S, hS⟩ : ∃ x, x = rstr 512 N.2.1 N.2.2 := ⟨_, rfl⟩
  have HP : rchg l err = (ChgQ.mk N.1 (rimage S.1), S.2.1, S.2.2) := by subst hS hN; rfl
  have HQ : Hid (∀ W v w', (vChg W.heap.size w' v (ChgQ.mk N.1 (rimage S.1)) ∧ Rdr w' g b S.2.1 S.2.2 ∧ W.grownBy w' (some g)) → ReadP rchg g b l err vChg W (.returned v) w') := fun W v w' hh => ⟨v, rfl, by rw [HP]; exact hh.1, by rw [HP]; exact hh.2.1, hh.2.2⟩
  have HCN : Hid (∀ W, Rdr W g b l err → Calls Tryz.prog 34 #[.pointer (some ⟨g, 0, none⟩), .int .u64 65535] W fun e w' => ∃ v, e = .returned v ∧ vU64 W.heap.size w' v N.1 ∧ Rdr w' g b N.2.1 N.2.2 ∧ W.grownBy w' (some g)) := fun W hW => by subst hN; exact rint_read 65535 g b _ _ W hW
  have HCS : Hid (∀ W, Rdr W g b N.2.1 N.2.2 → Calls Tryz.prog 80 #[.pointer (some ⟨g, 0, none⟩), .int .i64 512] W fun e w' => ∃ v, e = .returned v ∧ vStr W.heap.size w' v S.1 ∧ Rdr w' g b S.2.1 S.2.2 ∧ W.grownBy w' (some g)) := fun W hW => by subst hS; exact rstr_read 512 (by omega) g b _ _ W hW
  have FN : 0 ≤ N.1 ∧ N.1 ≤ 65535 := by subst hN; exact rint_le 65535 _ _
  have FSz : S.1.size ≤ 512 := by subst hS; exact rstr_size 512 _ _
  clear HP hS hN
  obtain ⟨Nv, Nl, Ne⟩ := N
  obtain ⟨Sv, Sl, Se⟩ := S
  simp only at FN FSz
  have HFS : Hid (Sv.size ≤ 512) := FSz
  have HGB : Hid (g < w.heap.size ∧ b < w.heap.size) := ⟨h.lt, h.2.1⟩
  have HB : Hid (Blk (w.alloc (.cells #[.int .i64 0, .int .i64 0, .slice none 0 0, .slice none 0 0, .slice none 0 0, .int .i64 0, .int .i64 0, .int .i64 0, .int .i64 0] 49)) w.heap.size #[.int .i64 0, .int .i64 0, .slice none 0 0, .slice none 0 0, .slice none 0 0, .int .i64 0, .int .i64 0, .int .i64 0, .int .i64 0] 49) := Blk.new _ _ _
  have HR : Hid (Rdr (w.alloc (.cells #[.int .i64 0, .int .i64 0, .slice none 0 0, .slice none 0 0, .slice none 0 0, .int .i64 0, .int .i64 0, .int .i64 0, .int .i64 0] 49)) g b l err) := h.below (below_allocR _)
  have HG : Hid (w.grownBy (w.alloc (.cells #[.int .i64 0, .int .i64 0, .slice none 0 0, .slice none 0 0, .slice none 0 0, .int .i64 0, .int .i64 0, .int .i64 0, .int .i64 0] 49)) (some g)) := World.grownBy_alloc _ _ _
  have kc : ∀ w, (convert 9 34 (.string Sv)).run Tryz.prog w = .ok (.slice (some ⟨w.heap.size, 0, none⟩) Sv.size (grownCap w Sv.size 0 5)) (Lib.bytesWorld w 5 Sv) := fun w => Lib.run_convert_string_bytes (P := Tryz.prog) w 9 34 5 Sv Tryz.underlying9 Tryz.underlying34 Tryz.underlying5
  clear h
  go_enter Tryz.func103, Tryz.ntmps103
  go_upto_region 1 with fail
  generalize (w.alloc (.cells #[.int .i64 0, .int .i64 0, .slice none 0 0, .slice none 0 0, .slice none 0 0, .int .i64 0, .int .i64 0, .int .i64 0, .int .i64 0] 49)) = w0 at *
  have HCC : Hid (Calls _ _ _ _ _) := HCN.out w0 HR.out
  go_wp2_with fail
  refine HCC.out.mono ?_
  rintro e w1 ⟨v0, rfl, hv0, h1, h2⟩
  have HB1 : Hid (Blk w1 w.heap.size #[.int .i64 0, .int .i64 0, .slice none 0 0, .slice none 0 0, .slice none 0 0, .int .i64 0, .int .i64 0, .int .i64 0, .int .i64 0] 49) := Blk.of HB.out (h2.block _ HB.out.lt (fun e => by cases e; exact absurd HGB.out.1 (Nat.lt_irrefl _)))
  have HR1 : Hid (Rdr w1 g b Nl Ne) := h1
  have HG1 : Hid (w.grownBy w1 (some g)) := grownBy_trans HG.out h2
  have hv0' : v0 = .int .u64 Nv := hv0
  subst hv0'
  clear hv0 h1 h2 HCC HB HR HG
  have HCC : Hid (Calls _ _ _ _ _) := HCS.out w1 HR1.out
  go_wp2_with fail
  refine HCC.out.mono ?_
  rintro e w2 ⟨v1, rfl, hv1, h1, h2⟩
  have HB2 : Hid (Blk w2 w.heap.size #[.int .i64 0, .int .i64 0, .slice none 0 0, .slice none 0 0, .slice none 0 0, .int .i64 0, .int .i64 0, .int .i64 0, .int .i64 0] 49) := Blk.of HB1.out (h2.block _ HB1.out.lt (fun e => by cases e; exact absurd HGB.out.1 (Nat.lt_irrefl _)))
  have HR2 : Hid (Rdr w2 g b Sl Se) := h1
  have HG2 : Hid (w.grownBy w2 (some g)) := grownBy_trans HG1.out h2
  have hv1' : v1 = .string Sv := hv1
  subst hv1'
  have HSR : Hid (Src (Lib.bytesWorld w2 5 Sv) (.slice (some ⟨w2.heap.size, 0, none⟩) Sv.size (grownCap w2 Sv.size 0 5)) Sv.data.toList) := bytesW_src w2 Sv FSz
  have HBY : Hid (Below w2.heap.size w2 (Lib.bytesWorld w2 5 Sv)) := bytesW_below _ _ _
  clear hv1 h1 h2 HCC HB1 HR1 HG1 FSz
  go_wp2_with fail
  generalize Lib.bytesWorld w2 5 Sv = w3 at *
  generalize grownCap w2 Sv.size 0 5 = cap at *
  refine (image_any Sv _ w3 HSR.out HFS.out).mono ?_
  rintro e w4 ⟨kv, vv, dv, X, Y, rfl, ho, y⟩
  have HOK : Hid (rimage Sv).Ok := image_ok Sv
  generalize rimage Sv = P at *
  have hy : Below w2.heap.size w2 w4 := ext_trans HBY.out y
  have HB4 : Hid (Blk w4 w.heap.size #[.int .i64 0, .int .i64 0, .slice none 0 0, .slice none 0 0, .slice none 0 0, .int .i64 0, .int .i64 0, .int .i64 0, .int .i64 0] 49) := Blk.of HB2.out (hy.block _ HB2.out.lt)
  have HR4 : Hid (Rdr w4 g b Sl Se) := HR2.out.below hy
  have HG4 : Hid (w.grownBy w4 (some g)) := grownBy_trans HG2.out (grown_of_below hy)
  have HLO : Hid (w.heap.size < w3.heap.size) := Nat.lt_of_lt_of_le HB2.out.lt HBY.out.size
  obtain ⟨ka, kc2, va, vc, da, dc, rfl, rfl, rfl, _, _, _⟩ := ho.at.forms
  generalize P.keys.length = kn at *
  generalize P.vals.length = vn at *
  generalize P.kids.length = dn at *
  have HST : Hid (StaI w3.heap.size w4.heap.size w4 fun W => PgAt W P (.slice ka kn kc2) (.slice va vn vc) (.slice da dn dc)) := pgO_sta ho
  clear kc ho y hy HB2 HR2 HG2 HSR HBY HFS
  obtain ⟨w5, hw5⟩ : ∃ x, x = w4.alloc (.cells #[.int .i64 P.kind, .slice ka kn kc2, .slice va vn vc, .slice da dn dc, .int .i64 P.root, .int .i64 P.next, .int .i64 P.size, .int .i64 P.idle] 47) := ⟨_, rfl⟩
  have HA5 : Hid (Below w4.heap.size w4 w5) := by rw [hw5]; exact below_allocR _
  have HP5 : Hid (PBox w5 w4.heap.size P (.slice ka kn kc2) (.slice va vn vc) (.slice da dn dc)) := by rw [hw5]; exact Blk.new _ _ _
  unfold pgv
  go_upto_region 3 with fail
  rw [← hw5]
  clear hw5
  have HB5 : Hid (Blk w5 w.heap.size #[.int .i64 0, .int .i64 0, .slice none 0 0, .slice none 0 0, .slice none 0 0, .int .i64 0, .int .i64 0, .int .i64 0, .int .i64 0] 49) := Blk.of HB4.out (HA5.out.block _ HB4.out.lt)
  have HR5 : Hid (Rdr w5 g b Sl Se) := HR4.out.below HA5.out
  have HG5 : Hid (w.grownBy w5 (some g)) := grownBy_trans HG4.out (grown_of_below HA5.out)
  have HST5 : Hid (StaI w3.heap.size w4.heap.size w5 fun W => PgAt W P (.slice ka kn kc2) (.slice va vn vc) (.slice da dn dc)) := HST.out.below (Nat.le_refl _) HA5.out
  have HSZ5 : Hid (w4.heap.size ≤ w5.heap.size) := HA5.out.size
  clear HB4 HR4 HG4 HST HA5
  obtain ⟨pb, hpb⟩ : ∃ x, w4.heap.size = x := ⟨_, rfl⟩
  rw [hpb] at HP5 HST5 HSZ5 ⊢
  clear hpb
  obtain ⟨y0, y1, y2, y3, y4, y5, y6, y7⟩ := HP5.out.cells
  have z0 := HB5.out.cell 0
  have f0 := HB5.out.frozen 0
  have z1 := HB5.out.cell 1
  have f1 := HB5.out.frozen 1
  have z2 := HB5.out.cell 2
  have f2 := HB5.out.frozen 2
  have z3 := HB5.out.cell 3
  have f3 := HB5.out.frozen 3
  have z4 := HB5.out.cell 4
  have f4 := HB5.out.frozen 4
  have z5 := HB5.out.cell 5
  have f5 := HB5.out.frozen 5
  have z6 := HB5.out.cell 6
  have f6 := HB5.out.frozen 6
  have z7 := HB5.out.cell 7
  have f7 := HB5.out.frozen 7
  have z8 := HB5.out.cell 8
  have f8 := HB5.out.frozen 8
  go_wp2
  have K1 : Blk (putL w5 w.heap.size 0 [.int .i64 Nv, .int .i64 P.kind, .slice ka kn kc2, .slice va vn vc, .slice da dn dc, .int .i64 P.root, .int .i64 P.next, .int .i64 P.size, .int .i64 P.idle]) w.heap.size #[.int .i64 Nv, .int .i64 P.kind, .slice ka kn kc2, .slice va vn vc, .slice da dn dc, .int .i64 P.root, .int .i64 P.next, .int .i64 P.size, .int .i64 P.idle] 49 := putL_all [.int .i64 Nv, .int .i64 P.kind, .slice ka kn kc2, .slice va vn vc, .slice da dn dc, .int .i64 P.root, .int .i64 P.next, .int .i64 P.size, .int .i64 P.idle] HB5.out rfl
  have K3 : ∀ j, j ≠ w.heap.size → (putL w5 w.heap.size 0 [.int .i64 Nv, .int .i64 P.kind, .slice ka kn kc2, .slice va vn vc, .slice da dn dc, .int .i64 P.root, .int .i64 P.next, .int .i64 P.size, .int .i64 P.idle]).heap[j]? = w5.heap[j]? := fun j hj => putL_other _ _ hj _ _ _
  have K4 := putL_size w.heap.size [.int .i64 Nv, .int .i64 P.kind, .slice ka kn kc2, .slice va vn vc, .slice da dn dc, .int .i64 P.root, .int .i64 P.next, .int .i64 P.size, .int .i64 P.idle] 0 w5
  have K2 : w.grownBy (putL w5 w.heap.size 0 [.int .i64 Nv, .int .i64 P.kind, .slice ka kn kc2, .slice va vn vc, .slice da dn dc, .int .i64 P.root, .int .i64 P.next, .int .i64 P.size, .int .i64 P.idle]) (some g) := by
    have h0 := putL_below (B := w.heap.size) (Nat.le_refl _) [.int .i64 Nv, .int .i64 P.kind, .slice ka kn kc2, .slice va vn vc, .slice da dn dc, .int .i64 P.root, .int .i64 P.next, .int .i64 P.size, .int .i64 P.idle] 0 w5 (Below.refl _ w5)
    exact ⟨h0.os.trans HG5.out.os, h0.tape.trans HG5.out.tape, h0.output.trans HG5.out.output, Nat.le_trans HG5.out.size h0.size, fun i hi hr => (h0.block i hi).trans (HG5.out.block i hi hr)⟩
  have hgo : ∀ (Q : World → Prop), Q (putL w5 w.heap.size 0 [.int .i64 Nv, .int .i64 P.kind, .slice ka kn kc2, .slice va vn vc, .slice da dn dc, .int .i64 P.root, .int .i64 P.next, .int .i64 P.size, .int .i64 P.idle]) → Q (((((((((w5.setCell ⟨w.heap.size, 0, none⟩ (.int .i64 Nv)).setCell ⟨w.heap.size, 1, none⟩ (.int .i64 P.kind)).setCell ⟨w.heap.size, 2, none⟩ (.slice ka kn kc2)).setCell ⟨w.heap.size, 3, none⟩ (.slice va vn vc)).setCell ⟨w.heap.size, 4, none⟩ (.slice da dn dc)).setCell ⟨w.heap.size, 5, none⟩ (.int .i64 P.root)).setCell ⟨w.heap.size, 6, none⟩ (.int .i64 P.next)).setCell ⟨w.heap.size, 7, none⟩ (.int .i64 P.size)).setCell ⟨w.heap.size, 8, none⟩ (.int .i64 P.idle)) := fun _ h => h
  refine hgo _ ?_
  clear hgo z0 f0 z1 f1 z2 f2 z3 f3 z4 f4 z5 f5 z6 f6 z7 f7 z8 f8 y0 y1 y2 y3 y4 y5 y6 y7
  generalize (putL w5 w.heap.size 0 [.int .i64 Nv, .int .i64 P.kind, .slice ka kn kc2, .slice va vn vc, .slice da dn dc, .int .i64 P.root, .int .i64 P.next, .int .i64 P.size, .int .i64 P.idle]) = W9 at *
  have z0 := K1.cell 0
  have z1 := K1.cell 1
  have z2 := K1.cell 2
  have z3 := K1.cell 3
  have z4 := K1.cell 4
  have z5 := K1.cell 5
  have z6 := K1.cell 6
  have z7 := K1.cell 7
  have z8 := K1.cell 8
  simp only [List.getElem?_toArray, List.getElem?_cons_zero, List.getElem?_cons_succ] at z0 z1 z2 z3 z4 z5 z6 z7 z8
  exact bodyPost_ret (v := .agg #[.int .i64 Nv, .int .i64 P.kind, .slice ka kn kc2, .slice va vn vc, .slice da dn dc, .int .i64 P.root, .int .i64 P.next, .int .i64 P.size, .int .i64 P.idle]) (by simp [results, Tryz.results103, go_sem, z0, z1, z2, z3, z4, z5, z6, z7, z8]) rfl (HQ.out w _ _ ⟨⟨ChgV.mk Nv P ka kn kc2 va vn vc da dn dc, rfl, rfl, ((HST5.out.move fun i h1 h2 => K3 i (by have := HLO.out; omega)).wide (Nat.le_of_lt HLO.out) (Nat.le_trans HSZ5.out K4)).mono fun W hW => ⟨hW, HOK.out⟩⟩, HR5.out.kept K4 (K3 g (by have := HGB.out.1; omega)) (K3 b (by have := HGB.out.2; omega)), K2⟩)
end Go.Proofs.YthkmohcdgnldgaaGreat
