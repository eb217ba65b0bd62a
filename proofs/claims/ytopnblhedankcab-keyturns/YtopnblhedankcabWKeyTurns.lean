/- KeyTurns: the walk of the law's Go text. -/
import Derived.Test.YtopnblhedankcabMaps2
import Derived.Test.YtopnblhedankcabTurns
import Derived.Test.YtopnblhedankcabOpen
import Derived.Test.YtopnblhedankcabHome
namespace Go.Proofs.Ytopnblhedankcab
open Go.ChangeShapes Go.WideShapes Go.ChangeAt Go.RowKit

theorem same_true (ao bo : Option Addr) (n c n' c' : Nat) (m o : List KV) (w : World) (hp : Pairs w (.slice ao n c) m) (hq : Pairs w (.slice bo n' c') o) (h : m = o) :
    Calls Try.prog 7 #[.slice ao n c, .slice bo n' c'] w fun e w' => e = .returned (.bool true) ∧ Ext w w' := by
  have := same_any ao bo n c n' c' m o w hp hq
  rw [decide_eq_true h] at this
  exact this

set_option maxHeartbeats 4000000 in
theorem walk_KeyTurns (pa : Option Addr) (n c : Nat) (ps : List KV) (ka va kb vb : ByteArray) (w : World) (hps : IsPairs w pa n ps) (wa : ka.size ≤ maxLen ∧ va.size ≤ maxLen) (wb : kb.size ≤ maxLen ∧ vb.size ≤ maxLen) :
    Calls Try.prog 3 #[.slice pa n c, .agg #[.string ka, .string va], .agg #[.string kb, .string vb]] w fun e w' => e = .returned (.bool true) ∧ Below w.heap.size w w' := by
  obtain ⟨rfl, hn, hnil, hcs⟩ := hps
  have HC : Hid (_) := hcs
  obtain ⟨wa, _⟩ := wa
  obtain ⟨wb, _⟩ := wb
  unfold maxLen at hn wa wb
  have hB2 : Ext w ((w.alloc (.cells #[.string ka, .string va] 24)).alloc (.cells #[.string kb, .string vb] 24)) := ((Below.refl _ _).alloc (Nat.le_refl _) _).alloc (by simp) _
  clear hcs
  by_cases hsz : ps.length ≤ 20
  · by_cases hk : wrap64 ((ka.size : Int) + (kb.size : Int)) ≤ 80
    · go_enter Try.func3, Try.ntmps3
      go_wp2_with (first | (go_at_call 5; refine (head2_any _).mono ?_; rintro e w' ⟨rfl, rfl⟩))
      have hE3 : Ext ((w.alloc (.cells #[.string ka, .string va] 24)).alloc (.cells #[.string kb, .string vb] 24)) (((w.alloc (.cells #[.string ka, .string va] 24)).alloc (.cells #[.string kb, .string vb] 24)).alloc (.cells #[] 24)) := (Below.refl _ _).alloc (Nat.le_refl _) _
      have hP0 : Pairs (((w.alloc (.cells #[.string ka, .string va] 24)).alloc (.cells #[.string kb, .string vb] 24)).alloc (.cells #[] 24)) (.slice (some ⟨w.heap.size + 1 + 1, 0, none⟩) 0 0) [] := ⟨_, 0, rfl, Nat.le_refl _, Nat.zero_le _, fun h => (by cases h), fun ad _ j u hu => by simp [pv] at hu⟩
      have c0 : ((w.alloc (.cells #[.string ka, .string va] 24)).alloc (.cells #[.string kb, .string vb] 24)).cell? ⟨w.heap.size, 0, none⟩ = some (.string ka) := by go_simp
      have c1 : ((w.alloc (.cells #[.string ka, .string va] 24)).alloc (.cells #[.string kb, .string vb] 24)).cell? ⟨w.heap.size, 1, none⟩ = some (.string va) := by go_simp
      have c2 : ((w.alloc (.cells #[.string ka, .string va] 24)).alloc (.cells #[.string kb, .string vb] 24)).cell? ⟨w.heap.size + 1, 0, none⟩ = some (.string kb) := by go_simp
      have c3 : ((w.alloc (.cells #[.string ka, .string va] 24)).alloc (.cells #[.string kb, .string vb] 24)).cell? ⟨w.heap.size + 1, 1, none⟩ = some (.string vb) := by go_simp
      have HE3 : Hid (Ext _ _) := hE3
      have HP0 : Hid (Pairs _ _ _) := hP0
      clear hE3 hP0
      generalize (w.alloc (.cells #[.string ka, .string va] 24)).alloc (.cells #[.string kb, .string vb] 24) = W2 at *
      have C0 : Hid (_ = _) := c0
      have C1 : Hid (_ = _) := c1
      have C2 : Hid (_ = _) := c2
      have C3 : Hid (_ = _) := c3
      have HB2 : Hid (Ext w W2) := hB2
      clear c0 c1 c2 c3 hB2
      go_loopw [7, 31] (fun vm vi wr => ∃ (ao : Option Addr) (cc i : Nat) (m : List KV), vm = .slice ao m.length cc ∧ vi = .int .i64 (i : Int) ∧ i ≤ ps.length ∧ Pairs wr (.slice ao m.length cc) m ∧ Rising m ∧ m.length ≤ i ∧ Ext W2 wr) (fun _ vi _ => ps.length - (intOf vi).toNat)
      case atStart => exact ⟨_, _, 0, [], rfl, rfl, Nat.zero_le _, HP0.out, List.Pairwise.nil, Nat.le_refl _, HE3.out⟩
      case round =>
        obtain ⟨ao, cc, i, m, rfl, rfl, hi, hp, hr, hml, hE⟩ := hrel
        have HP : Hid (Pairs wr (.slice ao m.length cc) m) := hp
        have HR : Hid (Rising m) := hr
        have HE : Hid (Ext W2 wr) := hE
        clear hp hr hE HP0 HE3
        by_cases hlt : i < ps.length
        · obtain ⟨ad, rfl⟩ : ∃ ad, pa = some ad := by
            cases pa with
            | none => have := hnil rfl; omega
            | some ad => exact ⟨ad, rfl⟩
          obtain ⟨a1, a2, a3, a4⟩ := HC.out ad rfl i hlt
          have k1 := (Below.cell (HB2.out.trans HE.out) (cell_lt a1)).trans a1
          have k2 := cell_next ((Below.cell (HB2.out.trans HE.out) (cell_lt a2)).trans a2)
          clear a1 a2 hnil
          unfold maxLen at a3 a4
          generalize ps[i].1 = kk at *
          generalize ps[i].2 = vv at *
          by_cases hkk : kk.size ≤ 40
          · go_wp2_with fail
            have hA : Ext wr (wr.alloc (.cells #[.string kk, .string vv] 24)) := (Below.refl _ _).alloc (Nat.le_refl _) _
            have HA : Hid (Ext wr _) := hA
            clear hA
            refine (with_any ao m.length cc m kk vv _ (HP.out.below HA.out) HR.out (by omega)).mono ?_
            rintro e w3 ⟨g, cap, rfl, hown, hx⟩
            have H5 : Hid (Pairs w3 (.slice (some ⟨g, 0, none⟩) (ins kk vv m).length cap) (ins kk vv m)) := hown.pairs
            have H6 : Hid (Rising (ins kk vv m)) := ins_rising kk vv m HR.out
            have hl := ins_length kk vv m
            have H7 : Hid (Ext W2 w3) := HE.out.trans (HA.out.trans hx)
            clear hown hx HA HP HR
            generalize ins kk vv m = m' at *
            go_wp2
            go_roundw
            case rel => exact ⟨_, _, i + 1, m', rfl, by go_num, by omega, H5.out, H6.out, by omega, H7.out⟩
            case measure => simp [intOf]; omega
          · go_wp2_with fail
            go_ret
            exact ⟨rfl, Below.alloc (HB2.out.trans HE.out) (Below.size (HB2.out.trans HE.out)) _⟩
        · go_wp2_with fail
          have e0 : Hid (wr.cell? ⟨w.heap.size, 0, none⟩ = some (.string ka)) := (Below.cell HE.out (cell_lt C0.out)).trans C0.out
          have e1 : Hid (wr.cell? ⟨w.heap.size, 1, none⟩ = some (.string va)) := (Below.cell HE.out (cell_lt C1.out)).trans C1.out
          have e2 : Hid (wr.cell? ⟨w.heap.size + 1, 0, none⟩ = some (.string kb)) := (Below.cell HE.out (cell_lt C2.out)).trans C2.out
          have e3 : Hid (wr.cell? ⟨w.heap.size + 1, 1, none⟩ = some (.string vb)) := (Below.cell HE.out (cell_lt C3.out)).trans C3.out
          have HEw : Hid (Ext w wr) := HB2.out.trans HE.out
          clear C0 C1 C2 C3 HE HB2 HC
          have hl1 := ins_length ka va m
          have hl2 := ins_length kb vb m
          have hl3 := ins_length kb vb (ins ka va m)
          have hl4 := ins_length ka va (ins kb vb m)
          have hl5 := del_length ka (ins ka va m)
          have R1 : Hid _ := ins_rising ka va m HR.out
          have R2 : Hid _ := ins_rising kb vb m HR.out
          have R3 : Hid _ := ins_rising kb vb _ R1.out
          have R4 : Hid _ := del_rising ka _ R1.out
          have hD : Hid (Ext wr wr.drew) := Below.drew (Below.refl _ wr)
          have k0 := cellE (W0 := wr.drew) e0.out
          have k1 := cellE (W0 := wr.drew) e1.out
          have k2 := cellE (W0 := wr.drew) e2.out
          have k3 := cellE (W0 := wr.drew) e3.out
          haveI n1 := cls_ext wr.drew
          refine wp_region_ext (by kernel_rfl) ?_
          refine wpAnyH_seg (by kernel_rfl) (fun _ _ _ h => h) [0, 1, 2, 3, 4, 6, 7, 8, 9] 3 _ _ _ (Ext.refl _) (by kernel_rfl) ?_
          simp only [opsAt, List.getElem?_toArray, List.getElem?_cons_zero, List.getElem?_cons_succ, List.cons_append, List.nil_append]
          repeat (go_big_quiet_step (fail))
          refine wpQuiet_nil ?_
          clear k0 k1 k2 k3 n1
          refine wpAnyH_callE (i := 5) (fuel := 2) 51 rfl (by kernel_rfl) rfl (Ext.refl _) (by kernel_rfl) (f := 6) (args := #[.slice ao m.length cc, .string ka, .string va]) (by kernel_rfl) (with_any ao m.length cc m ka va _ (HP.out.below hD.out) HR.out (by omega)) ?_
          rintro e w1 ⟨g1, q1, rfl, o1, x1⟩
          refine ⟨_, rfl, x1, ?_⟩
          simp only [Act.put, List.setIfInBounds_toArray, List.set_cons_succ, List.set_cons_zero]
          refine wpAnyH_callE (i := 10) (fuel := 1) 56 rfl (by kernel_rfl) rfl (Ext.refl _) (by kernel_rfl) (f := 6) (args := #[.slice (some ⟨g1, 0, none⟩) (ins ka va m).length q1, .string kb, .string vb]) (by kernel_rfl) (with_any _ _ _ _ kb vb _ o1.pairs R1.out (by omega)) ?_
          rintro e w2 ⟨g2, q2, rfl, o2, x2⟩
          refine ⟨_, rfl, x2, ?_⟩
          simp only [Act.put, List.setIfInBounds_toArray, List.set_cons_succ, List.set_cons_zero]
          refine wpAnyH_seg (by kernel_rfl) (fun _ _ _ h => h) [11] 0 _ _ _ (Ext.refl _) (by kernel_rfl) ?_
          simp only [opsAt, List.getElem?_toArray, List.getElem?_cons_zero, List.getElem?_cons_succ, List.cons_append, List.nil_append]
          repeat (go_big_quiet_step (fail))
          refine wpQuiet_nil ?_
          refine wpAnyH_done (by kernel_rfl) (NoPanic.normal ?_) 0
          have X2 : Hid (Ext wr w2) := hD.out.trans (x1.trans x2)
          have P2 : Hid (Pairs w2 (.slice (some ⟨g2, 0, none⟩) (ins kb vb (ins ka va m)).length q2) (ins kb vb (ins ka va m))) := o2.pairs
          clear o1 o2 x1 x2 hD
          go_wp2_with fail
          have hD : Hid (Ext w2 w2.drew) := Below.drew (Below.refl _ w2)
          have k0 := cellE (W0 := w2.drew) ((Below.cell X2.out (cell_lt e0.out)).trans e0.out)
          have k1 := cellE (W0 := w2.drew) ((Below.cell X2.out (cell_lt e1.out)).trans e1.out)
          have k2 := cellE (W0 := w2.drew) ((Below.cell X2.out (cell_lt e2.out)).trans e2.out)
          have k3 := cellE (W0 := w2.drew) ((Below.cell X2.out (cell_lt e3.out)).trans e3.out)
          haveI n1 := cls_ext w2.drew
          refine wp_region_ext (by kernel_rfl) ?_
          refine wpAnyH_seg (by kernel_rfl) (fun _ _ _ h => h) [0, 1, 2, 3, 4, 6, 7, 8, 9] 3 _ _ _ (Ext.refl _) (by kernel_rfl) ?_
          simp only [opsAt, List.getElem?_toArray, List.getElem?_cons_zero, List.getElem?_cons_succ, List.cons_append, List.nil_append]
          repeat (go_big_quiet_step (fail))
          refine wpQuiet_nil ?_
          clear k0 k1 k2 k3 n1
          refine wpAnyH_callE (i := 5) (fuel := 2) 62 rfl (by kernel_rfl) rfl (Ext.refl _) (by kernel_rfl) (f := 6) (args := #[.slice ao m.length cc, .string kb, .string vb]) (by kernel_rfl) (with_any ao m.length cc m kb vb _ (HP.out.below (X2.out.trans hD.out)) HR.out (by omega)) ?_
          rintro e w3 ⟨g3, q3, rfl, o3, x3⟩
          refine ⟨_, rfl, x3, ?_⟩
          simp only [Act.put, List.setIfInBounds_toArray, List.set_cons_succ, List.set_cons_zero]
          refine wpAnyH_callE (i := 10) (fuel := 1) 67 rfl (by kernel_rfl) rfl (Ext.refl _) (by kernel_rfl) (f := 6) (args := #[.slice (some ⟨g3, 0, none⟩) (ins kb vb m).length q3, .string ka, .string va]) (by kernel_rfl) (with_any _ _ _ _ ka va _ o3.pairs R2.out (by omega)) ?_
          rintro e w4 ⟨g4, q4, rfl, o4, x4⟩
          refine ⟨_, rfl, x4, ?_⟩
          simp only [Act.put, List.setIfInBounds_toArray, List.set_cons_succ, List.set_cons_zero]
          refine wpAnyH_seg (by kernel_rfl) (fun _ _ _ h => h) [11] 0 _ _ _ (Ext.refl _) (by kernel_rfl) ?_
          simp only [opsAt, List.getElem?_toArray, List.getElem?_cons_zero, List.getElem?_cons_succ, List.cons_append, List.nil_append]
          repeat (go_big_quiet_step (fail))
          refine wpQuiet_nil ?_
          refine wpAnyH_done (by kernel_rfl) (NoPanic.normal ?_) 0
          have X4' : Hid (Ext w2 w4) := hD.out.trans (x3.trans x4)
          have X4 : Hid (Ext wr w4) := X2.out.trans X4'.out
          have P4 : Hid (Pairs w4 (.slice (some ⟨g4, 0, none⟩) (ins ka va (ins kb vb m)).length q4) (ins ka va (ins kb vb m))) := o4.pairs
          have P3 : Hid (Pairs w4 (.slice (some ⟨g2, 0, none⟩) (ins kb vb (ins ka va m)).length q2) (ins kb vb (ins ka va m))) := P2.out.below X4'.out
          clear o3 o4 x3 x4 hD P2 X2 X4'
          have f0 := (Below.cell X4.out (cell_lt e0.out)).trans e0.out
          have f2 := (Below.cell X4.out (cell_lt e2.out)).trans e2.out
          have f3 := (Below.cell X4.out (cell_lt e3.out)).trans e3.out
          have R5 : Hid (ka ≠ kb → ins kb vb (ins ka va m) = ins ka va (ins kb vb m)) := fun h => ins_comm ka kb va vb h m
          by_cases hkk : ka = kb
          · subst hkk
            have X5 : Hid (Ext w4 w4) := Ext.refl _
            go_wp2_with fail
            refine (with_any _ _ _ _ ka vb _ (P3.out.below X5.out) R3.out (by omega)).mono ?_
            rintro e w6 ⟨g6, q6, rfl, o6, x6⟩
            have X6 : Hid (Ext w4 w6) := X5.out.trans x6
            have P6 : Hid (Pairs w6 _ _) := o6.pairs
            clear o6 x6 f0 f2 f3
            go_wp2_with fail
            refine (same_true _ _ _ _ _ _ _ _ _ (P3.out.below X6.out) P6.out (ins_ins ka vb vb _).symm).mono ?_
            rintro e w7 ⟨rfl, x7⟩
            have X7 : Hid (Ext wr w7) := X4.out.trans (X6.out.trans x7)
            clear x7 P6 P3 P4 X6 X4 X5
            go_wp2_with fail
            have hD : Hid (Ext w7 w7.drew) := Below.drew (Below.refl _ w7)
            have k0 := cellE (W0 := w7.drew) ((Below.cell X7.out (cell_lt e0.out)).trans e0.out)
            have k1 := cellE (W0 := w7.drew) ((Below.cell X7.out (cell_lt e1.out)).trans e1.out)
            haveI n1 := cls_ext w7.drew
            refine wp_region_ext (by kernel_rfl) ?_
            refine wpAnyH_seg (by kernel_rfl) (fun _ _ _ h => h) [0, 1, 2, 3, 4, 6, 7] 3 _ _ _ (Ext.refl _) (by kernel_rfl) ?_
            simp only [opsAt, List.getElem?_toArray, List.getElem?_cons_zero, List.getElem?_cons_succ, List.cons_append, List.nil_append]
            repeat (go_big_quiet_step (fail))
            refine wpQuiet_nil ?_
            clear k0 k1 n1
            refine wpAnyH_callE (i := 5) (fuel := 2) 95 rfl (by kernel_rfl) rfl (Ext.refl _) (by kernel_rfl) (f := 6) (args := #[.slice ao m.length cc, .string ka, .string va]) (by kernel_rfl) (with_any ao m.length cc m ka va _ (HP.out.below (X7.out.trans hD.out)) HR.out (by omega)) ?_
            rintro e w8 ⟨g8, q8, rfl, o8, x8⟩
            refine ⟨_, rfl, x8, ?_⟩
            simp only [Act.put, List.setIfInBounds_toArray, List.set_cons_succ, List.set_cons_zero]
            refine wpAnyH_callE (i := 8) (fuel := 1) 98 rfl (by kernel_rfl) rfl (Ext.refl _) (by kernel_rfl) (f := 8) (args := #[.slice (some ⟨g8, 0, none⟩) (ins ka va m).length q8, .string ka]) (by kernel_rfl) (without_any _ _ _ _ ka _ o8.pairs R1.out (by omega)) ?_
            rintro e w9 ⟨g9, q9, rfl, o9, x9⟩
            refine ⟨_, rfl, x9, ?_⟩
            simp only [Act.put, List.setIfInBounds_toArray, List.set_cons_succ, List.set_cons_zero]
            refine wpAnyH_seg (by kernel_rfl) (fun _ _ _ h => h) [9] 0 _ _ _ (Ext.refl _) (by kernel_rfl) ?_
            simp only [opsAt, List.getElem?_toArray, List.getElem?_cons_zero, List.getElem?_cons_succ, List.cons_append, List.nil_append]
            repeat (go_big_quiet_step (fail))
            refine wpQuiet_nil ?_
            refine wpAnyH_done (by kernel_rfl) (NoPanic.normal ?_) 0
            have X9 : Hid (Ext wr w9) := X7.out.trans (hD.out.trans (x8.trans x9))
            have P9 : Hid (Pairs w9 (.slice (some ⟨g9, 0, none⟩) (del ka (ins ka va m)).length q9) (del ka (ins ka va m))) := o9.pairs
            clear o8 o9 x8 x9 hD X7
            have f0 := (Below.cell X9.out (cell_lt e0.out)).trans e0.out
            go_wp2_with fail
            refine (without_any ao m.length cc m ka _ (HP.out.below X9.out) HR.out (by omega)).mono ?_
            rintro e wa ⟨ga, qa, rfl, oa, xa⟩
            have Pa : Hid (Pairs wa _ _) := oa.pairs
            have Xa : Hid (Ext w9 wa) := xa
            clear oa xa f0
            go_wp2_with fail
            refine (same_true _ _ _ _ _ _ _ _ _ (P9.out.below Xa.out) Pa.out (del_ins ka va m)).mono ?_
            rintro e wb' ⟨rfl, xb⟩
            have Xb : Hid (Ext w9 wb') := Xa.out.trans xb
            clear xb Xa Pa
            have f0 := (Below.cell (X9.out.trans Xb.out) (cell_lt e0.out)).trans e0.out
            go_wp2_with fail
            refine (without_any _ _ _ _ ka _ (P9.out.below Xb.out) R4.out (by omega)).mono ?_
            rintro e wc ⟨gc, qc, rfl, oc, xc⟩
            have Pc : Hid (Pairs wc _ _) := oc.pairs
            have Xc : Hid (Ext w9 wc) := Xb.out.trans xc
            clear oc xc f0 Xb
            go_wp2_with fail
            refine (same_true _ _ _ _ _ _ _ _ _ (P9.out.below Xc.out) Pc.out (del_del ka _ R1.out).symm).mono ?_
            rintro e wd ⟨rfl, xd⟩
            have Xd : Hid (Ext w wd) := HEw.out.trans (X9.out.trans (Xc.out.trans xd))
            clear xd Pc Xc X9 P9
            go_wp2
            go_ret
            exact ⟨rfl, Xd.out⟩
          · have hkl : ¬ ka.toList = kb.toList := fun h => hkk (toList_inj h)
            go_wp2_with fail
            refine (same_true _ _ _ _ _ _ _ _ _ P3.out P4.out (R5.out hkk)).mono ?_
            rintro e w5 ⟨rfl, x5⟩
            have X5 : Hid (Ext w4 w5) := x5
            have f2 := (Below.cell x5 (cell_lt f2)).trans f2
            have f3 := (Below.cell x5 (cell_lt f3)).trans f3
            clear x5
            go_wp2_with fail
            refine (with_any _ _ _ _ kb vb _ (P3.out.below X5.out) R3.out (by omega)).mono ?_
            rintro e w6 ⟨g6, q6, rfl, o6, x6⟩
            have X6 : Hid (Ext w4 w6) := X5.out.trans x6
            have P6 : Hid (Pairs w6 _ _) := o6.pairs
            clear o6 x6 f0 f2 f3
            go_wp2_with fail
            refine (same_true _ _ _ _ _ _ _ _ _ (P3.out.below X6.out) P6.out (ins_ins kb vb vb _).symm).mono ?_
            rintro e w7 ⟨rfl, x7⟩
            have X7 : Hid (Ext wr w7) := X4.out.trans (X6.out.trans x7)
            clear x7 P6 P3 P4 X6 X4 X5
            go_wp2_with fail
            have hD : Hid (Ext w7 w7.drew) := Below.drew (Below.refl _ w7)
            have k0 := cellE (W0 := w7.drew) ((Below.cell X7.out (cell_lt e0.out)).trans e0.out)
            have k1 := cellE (W0 := w7.drew) ((Below.cell X7.out (cell_lt e1.out)).trans e1.out)
            haveI n1 := cls_ext w7.drew
            refine wp_region_ext (by kernel_rfl) ?_
            refine wpAnyH_seg (by kernel_rfl) (fun _ _ _ h => h) [0, 1, 2, 3, 4, 6, 7] 3 _ _ _ (Ext.refl _) (by kernel_rfl) ?_
            simp only [opsAt, List.getElem?_toArray, List.getElem?_cons_zero, List.getElem?_cons_succ, List.cons_append, List.nil_append]
            repeat (go_big_quiet_step (fail))
            refine wpQuiet_nil ?_
            clear k0 k1 n1
            refine wpAnyH_callE (i := 5) (fuel := 2) 95 rfl (by kernel_rfl) rfl (Ext.refl _) (by kernel_rfl) (f := 6) (args := #[.slice ao m.length cc, .string ka, .string va]) (by kernel_rfl) (with_any ao m.length cc m ka va _ (HP.out.below (X7.out.trans hD.out)) HR.out (by omega)) ?_
            rintro e w8 ⟨g8, q8, rfl, o8, x8⟩
            refine ⟨_, rfl, x8, ?_⟩
            simp only [Act.put, List.setIfInBounds_toArray, List.set_cons_succ, List.set_cons_zero]
            refine wpAnyH_callE (i := 8) (fuel := 1) 98 rfl (by kernel_rfl) rfl (Ext.refl _) (by kernel_rfl) (f := 8) (args := #[.slice (some ⟨g8, 0, none⟩) (ins ka va m).length q8, .string ka]) (by kernel_rfl) (without_any _ _ _ _ ka _ o8.pairs R1.out (by omega)) ?_
            rintro e w9 ⟨g9, q9, rfl, o9, x9⟩
            refine ⟨_, rfl, x9, ?_⟩
            simp only [Act.put, List.setIfInBounds_toArray, List.set_cons_succ, List.set_cons_zero]
            refine wpAnyH_seg (by kernel_rfl) (fun _ _ _ h => h) [9] 0 _ _ _ (Ext.refl _) (by kernel_rfl) ?_
            simp only [opsAt, List.getElem?_toArray, List.getElem?_cons_zero, List.getElem?_cons_succ, List.cons_append, List.nil_append]
            repeat (go_big_quiet_step (fail))
            refine wpQuiet_nil ?_
            refine wpAnyH_done (by kernel_rfl) (NoPanic.normal ?_) 0
            have X9 : Hid (Ext wr w9) := X7.out.trans (hD.out.trans (x8.trans x9))
            have P9 : Hid (Pairs w9 (.slice (some ⟨g9, 0, none⟩) (del ka (ins ka va m)).length q9) (del ka (ins ka va m))) := o9.pairs
            clear o8 o9 x8 x9 hD X7
            have f0 := (Below.cell X9.out (cell_lt e0.out)).trans e0.out
            go_wp2_with fail
            refine (without_any ao m.length cc m ka _ (HP.out.below X9.out) HR.out (by omega)).mono ?_
            rintro e wa ⟨ga, qa, rfl, oa, xa⟩
            have Pa : Hid (Pairs wa _ _) := oa.pairs
            have Xa : Hid (Ext w9 wa) := xa
            clear oa xa f0
            go_wp2_with fail
            refine (same_true _ _ _ _ _ _ _ _ _ (P9.out.below Xa.out) Pa.out (del_ins ka va m)).mono ?_
            rintro e wb' ⟨rfl, xb⟩
            have Xb : Hid (Ext w9 wb') := Xa.out.trans xb
            clear xb Xa Pa
            have f0 := (Below.cell (X9.out.trans Xb.out) (cell_lt e0.out)).trans e0.out
            go_wp2_with fail
            refine (without_any _ _ _ _ ka _ (P9.out.below Xb.out) R4.out (by omega)).mono ?_
            rintro e wc ⟨gc, qc, rfl, oc, xc⟩
            have Pc : Hid (Pairs wc _ _) := oc.pairs
            have Xc : Hid (Ext w9 wc) := Xb.out.trans xc
            clear oc xc f0 Xb
            go_wp2_with fail
            refine (same_true _ _ _ _ _ _ _ _ _ (P9.out.below Xc.out) Pc.out (del_del ka _ R1.out).symm).mono ?_
            rintro e wd ⟨rfl, xd⟩
            have Xd : Hid (Ext w wd) := HEw.out.trans (X9.out.trans (Xc.out.trans xd))
            clear xd Pc Xc X9 P9
            go_wp2
            go_ret
            exact ⟨rfl, Xd.out⟩
    · go_enter Try.func3, Try.ntmps3
      go_wp2_with (first | (go_at_call 5; refine (head2_any _).mono ?_; rintro e w' ⟨rfl, rfl⟩))
      go_ret
      exact ⟨rfl, hB2⟩
  · go_enter Try.func3, Try.ntmps3
    go_wp2_with (first | (go_at_call 5; refine (head2_any _).mono ?_; rintro e w' ⟨rfl, rfl⟩))
    go_ret
    exact ⟨rfl, hB2⟩
end Go.Proofs.Ytopnblhedankcab
