/- KeySame: the walk of the law's Go text. -/
import Derived.Test.YtopnblhedankcaaMaps2
import Derived.Test.YtopnblhedankcaaGet
import Derived.Test.YtopnblhedankcaaSame
import Derived.Test.YtopnblhedankcaaOpen
import Derived.Test.YtopnblhedankcaaHome
namespace Go.Proofs.Ytopnblhedankcaa
open Go.ChangeShapes Go.WideShapes Go.ChangeAt Go.RowKit

theorem add_xs (k : ByteArray) (hk : k.size < 9223372036854775806) (W : World) : (binOp .add 9 (.string k) (.string ⟨#[120]⟩)).run Try.prog W = .ok (.string (xs k)) W := by
  have h1 : ByteArray.size ⟨#[120]⟩ = 1 := rfl
  unfold xs
  simp [go_sem, h1]
  omega

theorem same_is (b : Bool) (ao bo : Option Addr) (n c n' c' : Nat) (m o : List KV) (w : World) (hp : Pairs w (.slice ao n c) m) (hq : Pairs w (.slice bo n' c') o) (h : decide (m = o) = b) :
    Calls Try.prog 37 #[.slice ao n c, .slice bo n' c'] w fun e w' => e = .returned (.bool b) ∧ Ext w w' := by
  have := same_any ao bo n c n' c' m o w hp hq
  rw [h] at this
  exact this

set_option maxHeartbeats 4000000 in
theorem walk_KeySame (pa : Option Addr) (n c : Nat) (ks : List ByteArray) (turn : Int) (more : ByteArray) (w : World) (hps : IsStrs w pa n c ks) (hsz : ∀ k ∈ ks, k.size ≤ 140737488351232) (_wt : (Lit.int .i64 turn).wf = true) (_wm : more.size ≤ maxLen) :
    Calls Try.prog 14 #[.slice pa n c, .int .i64 turn, .string more] w fun e w' => e = .returned (.bool true) ∧ Below w.heap.size w w' := by
  obtain ⟨rfl, hn, hnc, hnil, hcs⟩ := hps
  have HC : Hid (_) := hcs
  have HZ : Hid (_) := hsz
  unfold maxLen at hnc
  clear hcs hsz _wt _wm
  by_cases hle : ks.length ≤ 20
  · obtain ⟨T, hT, hand⟩ := and255 turn
    go_enter Try.func14, Try.ntmps14
    go_wp2_with (first | (go_at_call 29; refine (head2_any _).mono ?_; rintro e w' ⟨rfl, hw⟩; rw [hw]; clear hw w'))
    have hE2 : Ext w ((w.alloc (.cells #[] 70)).alloc (.cells #[] 70)) := ((Below.refl _ _).alloc (Nat.le_refl _) _).alloc (by simp) _
    have HE2 : Hid (Ext _ _) := hE2
    have P1 : Hid (Pairs ((w.alloc (.cells #[] 70)).alloc (.cells #[] 70)) (.slice (some ⟨w.heap.size, 0, none⟩) 0 0) []) := ⟨_, 0, rfl, Nat.le_refl _, Nat.zero_le _, fun h => (by cases h), fun ad _ j u hu => by simp [pv] at hu⟩
    have P2 : Hid (Pairs ((w.alloc (.cells #[] 70)).alloc (.cells #[] 70)) (.slice (some ⟨w.heap.size + 1, 0, none⟩) 0 0) []) := ⟨_, 0, rfl, Nat.le_refl _, Nat.zero_le _, fun h => (by cases h), fun ad _ j u hu => by simp [pv] at hu⟩
    clear hE2
    go_loopw [7, 8, 27] (fun va vb vi wr => ∃ (ao bo : Option Addr) (ca cb i : Nat), va = .slice ao (mkL (ks.take i)).length ca ∧ vb = .slice bo (mkL (rot ks T i)).length cb ∧ vi = .int .i64 (i : Int) ∧ i ≤ ks.length ∧ Pairs wr (.slice ao (mkL (ks.take i)).length ca) (mkL (ks.take i)) ∧ Pairs wr (.slice bo (mkL (rot ks T i)).length cb) (mkL (rot ks T i)) ∧ Ext w wr) (fun _ _ vi _ => ks.length - (intOf vi).toNat)
    case atStart => exact ⟨_, _, _, _, 0, rfl, rfl, rfl, Nat.zero_le _, P1.out, P2.out, HE2.out⟩
    case round =>
      obtain ⟨ao, bo, ca, cb, i, rfl, rfl, rfl, hi, hpa, hpb, hE⟩ := hrel
      have HA : Hid (Pairs wr (.slice ao (mkL (ks.take i)).length ca) (mkL (ks.take i))) := hpa
      have HB : Hid (Pairs wr (.slice bo (mkL (rot ks T i)).length cb) (mkL (rot ks T i))) := hpb
      have HE : Hid (Ext w wr) := hE
      clear hpa hpb hE P1 P2 HE2
      by_cases hlt : i < ks.length
      · obtain ⟨ad, rfl⟩ : ∃ ad, pa = some ad := by
          cases pa with
          | none => have := (hnil rfl).1; omega
          | some ad => exact ⟨ad, rfl⟩
        have la := mkL_length (ks.take i)
        have lb := mkL_length (rot ks T i)
        rw [List.length_take, Nat.min_eq_left hi] at la
        rw [rot_length] at lb
        obtain ⟨a1, a2⟩ := HC.out ad rfl i hlt
        have k1 := (Below.cell HE.out (cell_lt a1)).trans a1
        have hz := HZ.out ks[i] (List.getElem_mem hlt)
        have hadd := fun W => add_xs ks[i] (by omega) W
        have HS : Hid (ks.take (i + 1) = ks.take i ++ [ks[i]]) := List.take_succ_eq_append_getElem hlt
        have RA : Hid _ := mkL_rising (ks.take i)
        have RB : Hid _ := mkL_rising (rot ks T i)
        have HM : Hid (mkL (ks.take (i + 1)) = ins ks[i] (xs ks[i]) (mkL (ks.take i))) := by
          show _ = _
          rw [HS.out, mkL_snoc]
        clear a1 a2 hnil HS
        obtain ⟨J, hJ, hJn⟩ : ∃ J, J = (i + T) % ks.length ∧ J < ks.length := ⟨_, rfl, Nat.mod_lt _ (by omega)⟩
        obtain ⟨b1, _⟩ := HC.out ad rfl J hJn
        have hzJ := HZ.out ks[J] (List.getElem_mem hJn)
        have haddJ := fun W => add_xs ks[J] (by omega) W
        have HM2 : Hid (mkL (rot ks T (i + 1)) = ins ks[J] (xs ks[J]) (mkL (rot ks T i))) := by
          show _ = _
          rw [rot_succ, mkL_snoc, ← hJ, List.getD_eq_getElem?_getD, List.getElem?_eq_getElem hJn]; rfl
        have B1 : Hid (_ = _) := b1
        have HJ : Hid (J = (i + T) % ks.length) := hJ
        clear b1 hJ
        generalize mkL (ks.take i) = ma at *
        generalize mkL (rot ks T i) = mb at *
        generalize ks[i] = kk at *
        generalize ks[J] = kj at *
        by_cases hkk : kk.size ≤ 40
        · go_wp2_with fail
          refine (with_any ao ma.length ca ma kk (xs kk) _ HA.out RA.out (by omega)).mono ?_
          rintro e w3 ⟨g, cap, rfl, hown, hx⟩
          have H5 : Hid (Pairs w3 (.slice (some ⟨g, 0, none⟩) (ins kk (xs kk) ma).length cap) (ins kk (xs kk) ma)) := hown.pairs
          have HX : Hid (Ext wr w3) := hx
          clear hown hx k1
          go_wp2_with fail
          have hJe : ((i : Int) + (T : Int)) % (ks.length : Int) = (J : Int) := by rw [HJ.out, Int.natCast_emod, Int.natCast_add]
          rw [hJe]
          have hD : Hid (Ext w3 w3.drew) := Below.drew (Below.refl _ w3)
          have k2 := cellE (W0 := w3.drew) ((Below.cell (HE.out.trans HX.out) (cell_lt B1.out)).trans B1.out)
          haveI n1 := cls_ext w3.drew
          clear hJe hand
          refine wp_region_ext (by kernel_rfl) ?_
          refine wpAnyH_seg (by kernel_rfl) (fun _ _ _ h => h) [0, 1, 2, 3, 4, 5, 6, 7, 8, 9] 2 _ _ _ (Ext.refl _) (by kernel_rfl) ?_
          simp only [opsAt, List.getElem?_toArray, List.getElem?_cons_zero, List.getElem?_cons_succ, List.cons_append, List.nil_append]
          repeat (go_big_quiet_step (fail))
          refine wpQuiet_nil ?_
          clear k2 n1
          refine wpAnyH_callE (i := 10) (fuel := 1) 57 rfl (by kernel_rfl) rfl (Ext.refl _) (by kernel_rfl) (f := 35) (args := #[.slice bo mb.length cb, .string kj, .string (xs kj)]) (by kernel_rfl) (with_any bo mb.length cb mb kj (xs kj) _ (HB.out.below (HX.out.trans hD.out)) RB.out (by omega)) ?_
          rintro e w4 ⟨g4, q4, rfl, o4, x4⟩
          refine ⟨_, rfl, x4, ?_⟩
          simp only [Act.put, List.setIfInBounds_toArray, List.set_cons_succ, List.set_cons_zero]
          refine wpAnyH_seg (by kernel_rfl) (fun _ _ _ h => h) [11] 0 _ _ _ (Ext.refl _) (by kernel_rfl) ?_
          simp only [opsAt, List.getElem?_toArray, List.getElem?_cons_zero, List.getElem?_cons_succ, List.cons_append, List.nil_append]
          repeat (go_big_quiet_step (fail))
          refine wpQuiet_nil ?_
          refine wpAnyH_done (by kernel_rfl) (NoPanic.normal ?_) 0
          have H6 : Hid (Pairs w4 (.slice (some ⟨g4, 0, none⟩) (ins kj (xs kj) mb).length q4) (ins kj (xs kj) mb)) := o4.pairs
          have H7 : Hid (Pairs w4 (.slice (some ⟨g, 0, none⟩) (ins kk (xs kk) ma).length cap) (ins kk (xs kk) ma)) := H5.out.below (hD.out.trans x4)
          have H8 : Hid (Ext w w4) := HE.out.trans (HX.out.trans (hD.out.trans x4))
          clear o4 x4 hD H5 HX hadd haddJ HA HB RA RB
          go_wp2
          go_roundw
          case rel => exact ⟨some ⟨g, 0, none⟩, some ⟨g4, 0, none⟩, cap, q4, i + 1, by rw [HM.out], by rw [HM2.out], by go_num, by omega, by rw [HM.out]; exact H7.out, by rw [HM2.out]; exact H6.out, H8.out⟩
          case measure => simp [intOf]; omega
        · go_wp2_with fail
          go_ret
          exact ⟨rfl, HE.out⟩
      · have hin : i = ks.length := by omega
        subst hin
        have la := mkL_length ks
        have RA0 := mkL_rising ks
        have HAB0 := mkL_rot ks T
        have hA0 := HA.out
        have hB0 := HB.out
        rw [List.take_length] at hA0
        clear HA HB HC HZ hnil
        rw [List.take_length]
        generalize mkL (rot ks T ks.length) = B at *
        generalize mkL ks = A at *
        have HAB : Hid (A = B) := HAB0
        have RA : Hid (Rising A) := RA0
        have HA : Hid (Pairs wr (.slice ao A.length ca) A) := hA0
        have HB : Hid (Pairs wr (.slice bo B.length cb) B) := hB0
        have RC : Hid (Rising (ins more ⟨#[121]⟩ A)) := ins_rising _ _ _ RA0
        have lc := ins_length more ⟨#[121]⟩ A
        clear HAB0 RA0 hA0 hB0
        have hY : (⟨#[121]⟩ : ByteArray).toList = [121] := by rw [ByteArray.toList_eq]
        cases hgk : getK more A with
        | none =>
          have HG : Hid (∀ W, Pairs W (.slice ao A.length ca) A → Calls Try.prog 34 #[.slice ao A.length ca, .string more] W fun e w' => e = .returned (.tuple #[.string ByteArray.empty, .bool false]) ∧ Ext W w') := fun W hW => by
            have := get_any ao A.length ca A more W hW RA.out (by omega)
            rw [hgk] at this; exact this
          have HCC : Hid (decide (A = ins more ⟨#[121]⟩ A) = false) := by
            show _ = _
            rw [decide_eq_false_iff_not, ins_same_iff, hgk]; simp
          have HDD : Hid (decide (A = del more A) = true) := by
            show _ = _
            rw [decide_eq_true_eq, del_same_iff _ _ RA.out]; exact hgk
          clear hgk hY
          go_wp2_with fail
          refine (with_any ao A.length ca A more ⟨#[121]⟩ _ HA.out RA.out (by omega)).mono ?_
          rintro e w1 ⟨g1, q1, rfl, o1, x1⟩
          have X1 : Hid (Ext wr w1) := x1
          have PC : Hid (Pairs w1 _ _) := o1.pairs
          clear x1 o1
          go_wp2_with fail
          refine (without_any ao A.length ca A more _ (HA.out.below X1.out) RA.out (by omega)).mono ?_
          rintro e w2 ⟨g2, q2, rfl, o2, x2⟩
          have X2 : Hid (Ext w1 w2) := x2
          have PD : Hid (Pairs w2 _ _) := o2.pairs
          clear x2 o2
          go_wp2_with fail
          refine (HG.out _ (HA.out.below (X1.out.trans X2.out))).mono ?_
          rintro e w3 ⟨rfl, x3⟩
          have X3 : Hid (Ext w2 w3) := x3
          clear x3
          go_wp2_with fail
          refine (HG.out _ (HA.out.below (X1.out.trans (X2.out.trans X3.out)))).mono ?_
          rintro e w4 ⟨rfl, x4⟩
          have X4 : Hid (Ext w2 w4) := X3.out.trans x4
          clear x4 X3 HG
          have Y4 : Hid (Ext wr w4) := X1.out.trans (X2.out.trans X4.out)
          have PA : Hid (Pairs w4 (.slice ao A.length ca) A) := HA.out.below Y4.out
          have PB : Hid (Pairs w4 (.slice bo B.length cb) B) := HB.out.below Y4.out
          have PC4 : Hid (Pairs w4 _ _) := PC.out.below (X2.out.trans X4.out)
          have PD4 : Hid (Pairs w4 _ _) := PD.out.below X4.out
          clear PC PD X1 X2 X4 HA HB
          go_wp2_with fail
          refine (same_is true _ _ _ _ _ _ _ _ _ PA.out PB.out (decide_eq_true HAB.out)).mono ?_
          rintro e w5 ⟨rfl, x5⟩
          have X5 : Hid (Ext w4 w5) := x5
          clear x5
          go_wp2_with fail
          refine (same_is true _ _ _ _ _ _ _ _ _ (PB.out.below X5.out) (PA.out.below X5.out) (decide_eq_true HAB.out.symm)).mono ?_
          rintro e w6 ⟨rfl, x6⟩
          have X6 : Hid (Ext w4 w6) := X5.out.trans x6
          clear x6 X5
          go_wp2_with fail
          refine (same_is false _ _ _ _ _ _ _ _ _ (PA.out.below X6.out) (PC4.out.below X6.out) HCC.out).mono ?_
          rintro e w7 ⟨rfl, x7⟩
          have X7 : Hid (Ext w4 w7) := X6.out.trans x7
          clear x7 X6
          go_wp2_with fail
          refine (same_is true _ _ _ _ _ _ _ _ _ (PA.out.below X7.out) (PD4.out.below X7.out) HDD.out).mono ?_
          rintro e w8 ⟨rfl, x8⟩
          have X8 : Hid (Ext w4 w8) := X7.out.trans x8
          clear x8 X7
          go_wp2_with fail
          refine (without_any _ _ _ _ more _ (PC4.out.below X8.out) RC.out (by omega)).mono ?_
          rintro e w9 ⟨g9, q9, rfl, o9, x9⟩
          have X9 : Hid (Ext w4 w9) := X8.out.trans x9
          have P9 : Hid (Pairs w9 _ _) := o9.pairs
          clear x9 o9 X8
          go_wp2_with fail
          refine (same_is true _ _ _ _ _ _ _ _ _ P9.out (PD4.out.below X9.out) (decide_eq_true (del_ins more ⟨#[121]⟩ A))).mono ?_
          rintro e wz ⟨rfl, xz⟩
          have XZ : Hid (Ext w wz) := HE.out.trans (Y4.out.trans (X9.out.trans xz))
          clear xz X9 P9 PA PB PC4 PD4
          go_wp2
          go_ret
          exact ⟨rfl, XZ.out⟩
        | some vv =>
          have HG : Hid (∀ W, Pairs W (.slice ao A.length ca) A → Calls Try.prog 34 #[.slice ao A.length ca, .string more] W fun e w' => e = .returned (.tuple #[.string vv, .bool true]) ∧ Ext W w') := fun W hW => by
            have := get_any ao A.length ca A more W hW RA.out (by omega)
            rw [hgk] at this; exact this
          have HDD : Hid (decide (A = del more A) = false) := by
            show _ = _
            rw [decide_eq_false_iff_not, del_same_iff _ _ RA.out, hgk]; simp
          by_cases hv : vv.toList = [121]
          · have HCC : Hid (decide (A = ins more ⟨#[121]⟩ A) = true) := by
              show _ = _
              rw [decide_eq_true_eq, ins_same_iff, hgk, toList_inj (hv.trans hY.symm)]
            clear hgk hY
            go_wp2_with fail
            refine (with_any ao A.length ca A more ⟨#[121]⟩ _ HA.out RA.out (by omega)).mono ?_
            rintro e w1 ⟨g1, q1, rfl, o1, x1⟩
            have X1 : Hid (Ext wr w1) := x1
            have PC : Hid (Pairs w1 _ _) := o1.pairs
            clear x1 o1
            go_wp2_with fail
            refine (without_any ao A.length ca A more _ (HA.out.below X1.out) RA.out (by omega)).mono ?_
            rintro e w2 ⟨g2, q2, rfl, o2, x2⟩
            have X2 : Hid (Ext w1 w2) := x2
            have PD : Hid (Pairs w2 _ _) := o2.pairs
            clear x2 o2
            go_wp2_with fail
            refine (HG.out _ (HA.out.below (X1.out.trans X2.out))).mono ?_
            rintro e w3 ⟨rfl, x3⟩
            have X3 : Hid (Ext w2 w3) := x3
            clear x3
            go_wp2_with fail
            refine (HG.out _ (HA.out.below (X1.out.trans (X2.out.trans X3.out)))).mono ?_
            rintro e w4 ⟨rfl, x4⟩
            have X4 : Hid (Ext w2 w4) := X3.out.trans x4
            clear x4 X3 HG
            have Y4 : Hid (Ext wr w4) := X1.out.trans (X2.out.trans X4.out)
            have PA : Hid (Pairs w4 (.slice ao A.length ca) A) := HA.out.below Y4.out
            have PB : Hid (Pairs w4 (.slice bo B.length cb) B) := HB.out.below Y4.out
            have PC4 : Hid (Pairs w4 _ _) := PC.out.below (X2.out.trans X4.out)
            have PD4 : Hid (Pairs w4 _ _) := PD.out.below X4.out
            clear PC PD X1 X2 X4 HA HB
            go_wp2_with fail
            refine (same_is true _ _ _ _ _ _ _ _ _ PA.out PB.out (decide_eq_true HAB.out)).mono ?_
            rintro e w5 ⟨rfl, x5⟩
            have X5 : Hid (Ext w4 w5) := x5
            clear x5
            go_wp2_with fail
            refine (same_is true _ _ _ _ _ _ _ _ _ (PB.out.below X5.out) (PA.out.below X5.out) (decide_eq_true HAB.out.symm)).mono ?_
            rintro e w6 ⟨rfl, x6⟩
            have X6 : Hid (Ext w4 w6) := X5.out.trans x6
            clear x6 X5
            go_wp2_with fail
            refine (same_is true _ _ _ _ _ _ _ _ _ (PA.out.below X6.out) (PC4.out.below X6.out) HCC.out).mono ?_
            rintro e w7 ⟨rfl, x7⟩
            have X7 : Hid (Ext w4 w7) := X6.out.trans x7
            clear x7 X6
            go_wp2_with fail
            refine (same_is false _ _ _ _ _ _ _ _ _ (PA.out.below X7.out) (PD4.out.below X7.out) HDD.out).mono ?_
            rintro e w8 ⟨rfl, x8⟩
            have X8 : Hid (Ext w4 w8) := X7.out.trans x8
            clear x8 X7
            go_wp2_with fail
            refine (without_any _ _ _ _ more _ (PC4.out.below X8.out) RC.out (by omega)).mono ?_
            rintro e w9 ⟨g9, q9, rfl, o9, x9⟩
            have X9 : Hid (Ext w4 w9) := X8.out.trans x9
            have P9 : Hid (Pairs w9 _ _) := o9.pairs
            clear x9 o9 X8
            go_wp2_with fail
            refine (same_is true _ _ _ _ _ _ _ _ _ P9.out (PD4.out.below X9.out) (decide_eq_true (del_ins more ⟨#[121]⟩ A))).mono ?_
            rintro e wz ⟨rfl, xz⟩
            have XZ : Hid (Ext w wz) := HE.out.trans (Y4.out.trans (X9.out.trans xz))
            clear xz X9 P9 PA PB PC4 PD4
            go_wp2
            go_ret
            exact ⟨rfl, XZ.out⟩
          · have HCC : Hid (decide (A = ins more ⟨#[121]⟩ A) = false) := by
              show _ = _
              rw [decide_eq_false_iff_not, ins_same_iff, hgk]
              intro h
              rw [Option.some.inj h] at hv
              exact hv hY
            clear hgk hY
            go_wp2_with fail
            refine (with_any ao A.length ca A more ⟨#[121]⟩ _ HA.out RA.out (by omega)).mono ?_
            rintro e w1 ⟨g1, q1, rfl, o1, x1⟩
            have X1 : Hid (Ext wr w1) := x1
            have PC : Hid (Pairs w1 _ _) := o1.pairs
            clear x1 o1
            go_wp2_with fail
            refine (without_any ao A.length ca A more _ (HA.out.below X1.out) RA.out (by omega)).mono ?_
            rintro e w2 ⟨g2, q2, rfl, o2, x2⟩
            have X2 : Hid (Ext w1 w2) := x2
            have PD : Hid (Pairs w2 _ _) := o2.pairs
            clear x2 o2
            go_wp2_with fail
            refine (HG.out _ (HA.out.below (X1.out.trans X2.out))).mono ?_
            rintro e w3 ⟨rfl, x3⟩
            have X3 : Hid (Ext w2 w3) := x3
            clear x3
            go_wp2_with fail
            refine (HG.out _ (HA.out.below (X1.out.trans (X2.out.trans X3.out)))).mono ?_
            rintro e w4 ⟨rfl, x4⟩
            have X4 : Hid (Ext w2 w4) := X3.out.trans x4
            clear x4 X3 HG
            have Y4 : Hid (Ext wr w4) := X1.out.trans (X2.out.trans X4.out)
            have PA : Hid (Pairs w4 (.slice ao A.length ca) A) := HA.out.below Y4.out
            have PB : Hid (Pairs w4 (.slice bo B.length cb) B) := HB.out.below Y4.out
            have PC4 : Hid (Pairs w4 _ _) := PC.out.below (X2.out.trans X4.out)
            have PD4 : Hid (Pairs w4 _ _) := PD.out.below X4.out
            clear PC PD X1 X2 X4 HA HB
            go_wp2_with fail
            refine (same_is true _ _ _ _ _ _ _ _ _ PA.out PB.out (decide_eq_true HAB.out)).mono ?_
            rintro e w5 ⟨rfl, x5⟩
            have X5 : Hid (Ext w4 w5) := x5
            clear x5
            go_wp2_with fail
            refine (same_is true _ _ _ _ _ _ _ _ _ (PB.out.below X5.out) (PA.out.below X5.out) (decide_eq_true HAB.out.symm)).mono ?_
            rintro e w6 ⟨rfl, x6⟩
            have X6 : Hid (Ext w4 w6) := X5.out.trans x6
            clear x6 X5
            go_wp2_with fail
            refine (same_is false _ _ _ _ _ _ _ _ _ (PA.out.below X6.out) (PC4.out.below X6.out) HCC.out).mono ?_
            rintro e w7 ⟨rfl, x7⟩
            have X7 : Hid (Ext w4 w7) := X6.out.trans x7
            clear x7 X6
            go_wp2_with fail
            refine (same_is false _ _ _ _ _ _ _ _ _ (PA.out.below X7.out) (PD4.out.below X7.out) HDD.out).mono ?_
            rintro e w8 ⟨rfl, x8⟩
            have X8 : Hid (Ext w4 w8) := X7.out.trans x8
            clear x8 X7
            go_wp2_with fail
            refine (without_any _ _ _ _ more _ (PC4.out.below X8.out) RC.out (by omega)).mono ?_
            rintro e w9 ⟨g9, q9, rfl, o9, x9⟩
            have X9 : Hid (Ext w4 w9) := X8.out.trans x9
            have P9 : Hid (Pairs w9 _ _) := o9.pairs
            clear x9 o9 X8
            go_wp2_with fail
            refine (same_is true _ _ _ _ _ _ _ _ _ P9.out (PD4.out.below X9.out) (decide_eq_true (del_ins more ⟨#[121]⟩ A))).mono ?_
            rintro e wz ⟨rfl, xz⟩
            have XZ : Hid (Ext w wz) := HE.out.trans (Y4.out.trans (X9.out.trans xz))
            clear xz X9 P9 PA PB PC4 PD4
            go_wp2
            go_ret
            exact ⟨ret_bool (by simp [hv]), XZ.out⟩
  · go_enter Try.func14, Try.ntmps14
    go_wp2_with (first | (go_at_call 29; refine (head2_any _).mono ?_; rintro e w' ⟨rfl, hw⟩; rw [hw]; clear hw w'))
    go_ret
    exact ⟨rfl, Below.refl _ _⟩
end Go.Proofs.Ytopnblhedankcaa
