/- DiskTorn: the walk of the law's Go text. -/
import Derived.Test.YtfcpoieahbfpaaaDisk8
import Derived.Test.YtfcpoieahbfpaaaSrcSeg
namespace Go.Proofs.Ytfcpoieahbfpaaa
open Go.ChangeShapes Go.WideShapes Go.ChangeAt Go.RowKit

theorem nSec8 : nSec 8 = 8 := by decide
theorem pad_takeT {l : List UInt8} {n : Nat} (h : n = l.length) : (pad l).take n = l := by subst h; unfold pad; exact List.take_left
/-- 'a & m', m a small number: not more than m. -/
theorem and_le (a : Int) (m : Nat) (hm : m < 9223372036854775808) : ∃ i : Nat, i ≤ m ∧ bits .and .i64 a (m : Int) = (i : Int) := by
  refine ⟨(BitVec.ofInt 64 a &&& BitVec.ofInt 64 (m : Int)).toNat, ?_, ?_⟩
  · rw [BitVec.toNat_and]
    refine Nat.le_trans Nat.and_le_right ?_
    rw [BitVec.ofInt_natCast, BitVec.toNat_ofNat]
    exact Nat.mod_le _ _
  · have hle : (BitVec.ofInt 64 a &&& BitVec.ofInt 64 (m : Int)).toNat ≤ m := by
      rw [BitVec.toNat_and]
      refine Nat.le_trans Nat.and_le_right ?_
      rw [BitVec.ofInt_natCast, BitVec.toNat_ofNat]
      exact Nat.mod_le _ _
    show IntKind.i64.wrap ((BitVec.ofInt 64 a &&& BitVec.ofInt 64 (m : Int)).toNat : Int) = _
    rw [IntKind.wrap_i64]
    omega
def nowK (x : Sec) : Nat → List Sec
  | 0 => List.replicate 8 (zeros, false)
  | k + 1 => (nowK x k).set k x
def waitsK (b : List UInt8) : Nat → List (Nat × List UInt8)
  | 0 => []
  | k + 1 => waitsK b k ++ [(k, b)]
theorem nowK_length (x : Sec) : ∀ k, (nowK x k).length = 8
  | 0 => by simp [nowK]
  | k + 1 => by simp [nowK, nowK_length x k]
theorem waitsK_length (b : List UInt8) : ∀ k, (waitsK b k).length = k
  | 0 => rfl
  | k + 1 => by simp [waitsK, waitsK_length b k]
theorem nowK8 (x : Sec) : nowK x 8 = List.replicate 8 x := by simp [nowK, List.replicate_succ]

set_option maxRecDepth 10000 in
set_option maxHeartbeats 4000000 in
theorem torn_main (aa ab : Option Addr) (na ca nb cb : Nat) (la lb : List UInt8) (at_ : Int) (keep : Bool) (w : World) (ha : Src w (.slice aa na ca) la) (hb : Src w (.slice ab nb cb) lb) (h1 : na ≤ 512) (h2 : nb ≤ 512) (l1 : na = la.length) (l2 : nb = lb.length) :
    Calls Try.prog 7 #[.slice aa na ca, .slice ab nb cb, .int .i64 at_, .bool keep] w fun e w' => e = .returned (.bool true) ∧ Below w.heap.size w w' := by
  have HA : Hid (Src w (.slice aa na ca) la) := ha
  have HB : Hid (Src w (.slice ab nb cb) lb) := hb
  have q1 : decide (512 < (na : Int)) = false := decide_eq_false (by omega)
  have q2 : decide (512 < (nb : Int)) = false := decide_eq_false (by omega)
  have m1 : la.length ≤ na := by omega
  have m2 : lb.length ≤ nb := by omega
  have k1 : na ≤ la.length := by omega
  have k2 : nb ≤ lb.length := by omega
  obtain ⟨i, hi7, hia⟩ := and_le at_ 7 (by omega)
  have hia' : bits BinOp.and IntKind.i64 at_ 7 = (i : Int) := hia
  clear ha hb l1 l2 hia
  go_enter Try.func7, Try.ntmps7
  go_wp2_with fail
  refine (head4_any _).mono ?_
  rintro e w1 ⟨rfl, hb1⟩
  have HB1 : Hid (Below w.heap.size w w1) := hb1
  clear hb1
  go_wp2_with fail
  refine (new_new 8 8 nSec8 w w.heap.size w1 HB1.out (Nat.le_refl _)).mono ?_
  rintro e w2 ⟨g, f, rfl, hN2, -, -⟩
  have HN2 : Hid (NewAt w w.heap.size w2 g f ⟨nowK (pad la, false) 0, List.replicate 8 (zeros, false), waitsK (pad la) 0, 0, false, 0⟩) := hN2
  clear hN2 hia'
  go_wp2_with fail
  go_loopw [10] (fun vi wr => ∃ (k : Nat) (f : Foot), vi = .int .i64 (k : Int) ∧ k ≤ 8 ∧ NewAt w w.heap.size wr g f ⟨nowK (pad la, false) k, List.replicate 8 (zeros, false), waitsK (pad la) k, 0, false, k⟩) (fun vi _ => 8 - (intOf vi).toNat)
  case atStart => exact ⟨0, f, rfl, by omega, HN2.out⟩
  case round =>
    obtain ⟨k, f, rfl, hk, hN⟩ := hrel
    have HN : Hid (NewAt w w.heap.size wr g f _) := hN
    clear hN
    by_cases hlt : k < 8
    · go_wp2_with fail
      refine (write_new k aa na ca la HN.out (by rw [nowK_length]; omega) (HA.out.below HN.out.bel) (by omega) (by omega) (by rw [waitsK_length]; omega)).mono ?_
      rintro e w3 ⟨rfl, f3, hN3, -⟩
      have HN3 : Hid (NewAt w w.heap.size w3 g f3 _) := hN3
      clear hN3 HN
      go_wp2_with fail
      go_roundw
      case rel => exact ⟨k + 1, f3, by go_num, by omega, HN3.out⟩
      case measure => simp [intOf]; omega
    · have hN0 := HN.out
      rw [show k = 8 by omega, nowK8] at hN0
      have HN0 : Hid (NewAt w w.heap.size wr g f ⟨List.replicate 8 (pad la, false), List.replicate 8 (zeros, false), waitsK (pad la) 8, 0, false, 8⟩) := hN0
      clear hN0 HN
      go_wp2_with fail
      refine (sync_new HN0.out (by omega)).mono ?_
      rintro e w4 ⟨rfl, hN4, -⟩
      have HN4 : Hid (NewAt w w.heap.size w4 g f _) := hN4
      clear hN4 HN0
      go_wp2_with fail
      refine (write_new i ab nb cb lb HN4.out (by simp; omega) (HB.out.below HN4.out.bel) (by omega) (by omega) (by simp)).mono ?_
      rintro e w5 ⟨rfl, f5, hN5, -⟩
      have HN5 : Hid (NewAt w w.heap.size w5 g f5 _) := hN5
      clear hN5 HN4
      cases keep
      all_goals go_wp2_with fail
      · have hbe : Below w5.heap.size w5 (w5.alloc (.cells ([false].map Value.bool).toArray 4)) := (Below.refl _ _).alloc (Nat.le_refl _) _
        refine (on_new (some ⟨w5.heap.size, 0, none⟩) 1 1 [false] 0 (HN5.out.below hbe) (Bools.new w5 [false]) (fun ad e => by cases e; intro e; have := HN5.out.at_.hasLt _ e; simp at this) (by unfold maxLen; omega) ((List.replicate 8 (pad la, false)).set i (zeros, true)) (by simp [staysTo])).mono ?_
        rintro e w6 ⟨rfl, hN6, -⟩
        have HN6 : Hid (NewAt w w.heap.size w6 g f5 _) := hN6
        clear hN6 HN5 hbe
        have HS : Hid (((List.replicate 8 (pad la, false)).set i (zeros, true)).length = 8) := by show _ = _; simp
        have HSi : Hid (((List.replicate 8 (pad la, false)).set i (zeros, true))[i]? = some (zeros, true)) := by show _ = _; rw [List.getElem?_set, if_pos rfl, if_pos (by simp; omega)]
        have HSj : Hid (∀ j, j < 8 → j ≠ i → ((List.replicate 8 (pad la, false)).set i (zeros, true))[j]? = some (pad la, false)) := by intro j hj hne; rw [List.getElem?_set, if_neg (by omega), List.getElem?_replicate, if_pos hj]
        generalize (List.replicate 8 (pad la, false)).set i (zeros, true) = S at *
        go_wp2_with fail
        go_loopw [11] (fun vi wr => ∃ k : Nat, vi = .int .i64 (k : Int) ∧ k ≤ 8 ∧ NewAt w w.heap.size wr g f5 ⟨S, S, [], 0, false, 8 + 1 + 1⟩) (fun vi _ => 8 - (intOf vi).toNat)
        case atStart => exact ⟨0, rfl, by omega, HN6.out⟩
        case round =>
          obtain ⟨k, rfl, hk, hN⟩ := hrel
          have HN : Hid (NewAt w w.heap.size wr g f5 _) := hN
          clear hN
          by_cases hlt : k < 8
          · by_cases hki : k = i
            · subst hki
              go_wp2_with fail
              refine (read_new_torn k HN.out zeros HSi.out).mono ?_
              rintro e w' ⟨rfl, hw⟩; rw [hw]; clear hw w'
              have HNd : Hid (NewAt w w.heap.size wr g f5 _) := HN.out
              go_wp2_with fail
              go_roundw
              case rel => exact ⟨k + 1, by go_num, by omega, HNd.out⟩
              case measure => simp [intOf]; omega
            · have hkb : ((k : Int) == (i : Int)) = false := beq_eq_false_iff_ne.2 (by omega)
              go_wp2_with fail
              refine (read_new k HN.out (pad la) (HSj.out k hlt hki)).mono ?_
              rintro e w7 ⟨rfl, hN7, hB7, -, -, -⟩
              have HN7 : Hid (NewAt w w.heap.size w7 g f5 _) := hN7
              have HB7 : Hid (Blk w7 wr.heap.size (bv (pad la)).toArray 5) := hB7
              clear hN7 hB7
              have hpl : (pad la).length = 512 := pad_length (by omega)
              have i1 := (Blk.src (w := w7.drew) (k := na) (c := 512) HB7.out.drew (by omega) (by omega) (by unfold maxLen; omega)).strE
              have i2 := (HA.out.below HN7.out.bel.drew).strE
              have htk : (pad la).take na = la := pad_takeT (by omega)
              rw [htk] at i1
              clear htk hpl
              go_wp2_with fail
              refine wp_region_ext (by kernel_rfl) ?_
              haveI n1 := cls_ext w7.drew
              refine wpAnyH_seg (by kernel_rfl) (fun _ _ _ h => h) [0, 1, 2, 3, 4, 5, 6, 7, 8, 9, 10, 11, 12] 0 _ _ _ (Ext.refl _) (by kernel_rfl) ?_
              simp only [opsAt, List.getElem?_toArray, List.getElem?_cons_zero, List.getElem?_cons_succ, List.cons_append, List.nil_append]
              repeat (go_big_quiet_step (fail))
              refine wpQuiet_nil ?_
              refine wpAnyH_done (by kernel_rfl) (NoPanic.normal ?_) 0
              clear n1 i1 i2
              have HNd : Hid (NewAt w w.heap.size w7.drew g f5 _) := HN7.out.below (Below.refl _ _).drew
              go_wp2_with fail
              go_roundw
              case rel => exact ⟨k + 1, by go_num, by omega, HNd.out⟩
              case measure => simp [intOf]; omega
          · go_wp2_with fail
            refine (write_new i aa na ca la HN.out (by rw [HS.out]; omega) (HA.out.below HN.out.bel) (by omega) (by omega) (by simp)).mono ?_
            rintro e w8 ⟨rfl, f8, hN8, -⟩
            have HN8 : Hid (NewAt w w.heap.size w8 g f8 _) := hN8
            clear hN8
            go_wp2_with fail
            refine (read_new i HN8.out (pad la) (by rw [List.getElem?_set, if_pos rfl, if_pos (by rw [HS.out]; omega)])).mono ?_
            rintro e w9 ⟨rfl, hN9, hB9, -, -, -⟩
            have HN9 : Hid (NewAt w w.heap.size w9 g f8 _) := hN9
            have HB9 : Hid (Blk w9 w8.heap.size (bv (pad la)).toArray 5) := hB9
            clear hN9 hB9
            have hpl : (pad la).length = 512 := pad_length (by omega)
            have i1 := (Blk.src (w := w9.drew) (k := na) (c := 512) HB9.out.drew (by omega) (by omega) (by unfold maxLen; omega)).strE
            have i2 := (HA.out.below HN9.out.bel.drew).strE
            have htk : (pad la).take na = la := pad_takeT (by omega)
            rw [htk] at i1
            clear htk hpl
            go_wp2_with fail
            refine wp_region_ext (by kernel_rfl) ?_
            haveI n1 := cls_ext w9.drew
            refine wpAnyH_seg (by kernel_rfl) (fun _ _ _ h => h) [0, 1, 2, 3, 4, 5, 6, 7, 8, 9, 10, 11, 12] 0 _ _ _ (Ext.refl _) (by kernel_rfl) ?_
            simp only [opsAt, List.getElem?_toArray, List.getElem?_cons_zero, List.getElem?_cons_succ, List.cons_append, List.nil_append]
            repeat (go_big_quiet_step (fail))
            refine wpQuiet_nil ?_
            refine wpAnyH_done (by kernel_rfl) (NoPanic.normal ?_) 0
            clear n1 i1 i2
            go_wp2
            go_ret
            exact ⟨rfl, HN9.out.bel.drew⟩
      · have hbe : Below w5.heap.size w5 (w5.alloc (.cells ([true].map Value.bool).toArray 4)) := (Below.refl _ _).alloc (Nat.le_refl _) _
        refine (on_new (some ⟨w5.heap.size, 0, none⟩) 1 1 [true] 0 (HN5.out.below hbe) (Bools.new w5 [true]) (fun ad e => by cases e; intro e; have := HN5.out.at_.hasLt _ e; simp at this) (by unfold maxLen; omega) ((List.replicate 8 (pad la, false)).set i (pad lb, false)) (by simp [staysTo])).mono ?_
        rintro e w6 ⟨rfl, hN6, -⟩
        have HN6 : Hid (NewAt w w.heap.size w6 g f5 _) := hN6
        clear hN6 HN5 hbe
        have HS : Hid (((List.replicate 8 (pad la, false)).set i (pad lb, false)).length = 8) := by show _ = _; simp
        have HSi : Hid (((List.replicate 8 (pad la, false)).set i (pad lb, false))[i]? = some (pad lb, false)) := by show _ = _; rw [List.getElem?_set, if_pos rfl, if_pos (by simp; omega)]
        have HSj : Hid (∀ j, j < 8 → j ≠ i → ((List.replicate 8 (pad la, false)).set i (pad lb, false))[j]? = some (pad la, false)) := by intro j hj hne; rw [List.getElem?_set, if_neg (by omega), List.getElem?_replicate, if_pos hj]
        generalize (List.replicate 8 (pad la, false)).set i (pad lb, false) = S at *
        go_wp2_with fail
        go_loopw [11] (fun vi wr => ∃ k : Nat, vi = .int .i64 (k : Int) ∧ k ≤ 8 ∧ NewAt w w.heap.size wr g f5 ⟨S, S, [], 0, false, 8 + 1 + 1⟩) (fun vi _ => 8 - (intOf vi).toNat)
        case atStart => exact ⟨0, rfl, by omega, HN6.out⟩
        case round =>
          obtain ⟨k, rfl, hk, hN⟩ := hrel
          have HN : Hid (NewAt w w.heap.size wr g f5 _) := hN
          clear hN
          by_cases hlt : k < 8
          · by_cases hki : k = i
            · subst hki
              go_wp2_with fail
              refine (read_new k HN.out (pad lb) HSi.out).mono ?_
              rintro e w7 ⟨rfl, hN7, hB7, -, -, -⟩
              have HN7 : Hid (NewAt w w.heap.size w7 g f5 _) := hN7
              have HB7 : Hid (Blk w7 wr.heap.size (bv (pad lb)).toArray 5) := hB7
              clear hN7 hB7
              have hpl : (pad lb).length = 512 := pad_length (by omega)
              have i1 := (Blk.src (w := w7.drew) (k := nb) (c := 512) HB7.out.drew (by omega) (by omega) (by unfold maxLen; omega)).strE
              have i2 := (HB.out.below HN7.out.bel.drew).strE
              have htk : (pad lb).take nb = lb := pad_takeT (by omega)
              rw [htk] at i1
              clear htk hpl
              go_wp2_with fail
              refine wp_region_ext (by kernel_rfl) ?_
              haveI n1 := cls_ext w7.drew
              refine wpAnyH_seg (by kernel_rfl) (fun _ _ _ h => h) [0, 1, 2, 3, 4, 5, 6, 7, 8, 9, 10, 11] 0 _ _ _ (Ext.refl _) (by kernel_rfl) ?_
              simp only [opsAt, List.getElem?_toArray, List.getElem?_cons_zero, List.getElem?_cons_succ, List.cons_append, List.nil_append]
              repeat (go_big_quiet_step (fail))
              refine wpQuiet_nil ?_
              refine wpAnyH_done (by kernel_rfl) (NoPanic.normal ?_) 0
              clear n1 i1 i2
              have HNd : Hid (NewAt w w.heap.size w7.drew g f5 _) := HN7.out.below (Below.refl _ _).drew
              go_wp2_with fail
              go_roundw
              case rel => exact ⟨k + 1, by go_num, by omega, HNd.out⟩
              case measure => simp [intOf]; omega
            · have hkb : ((k : Int) == (i : Int)) = false := beq_eq_false_iff_ne.2 (by omega)
              go_wp2_with fail
              refine (read_new k HN.out (pad la) (HSj.out k hlt hki)).mono ?_
              rintro e w7 ⟨rfl, hN7, hB7, -, -, -⟩
              have HN7 : Hid (NewAt w w.heap.size w7 g f5 _) := hN7
              have HB7 : Hid (Blk w7 wr.heap.size (bv (pad la)).toArray 5) := hB7
              clear hN7 hB7
              have hpl : (pad la).length = 512 := pad_length (by omega)
              have i1 := (Blk.src (w := w7.drew) (k := na) (c := 512) HB7.out.drew (by omega) (by omega) (by unfold maxLen; omega)).strE
              have i2 := (HA.out.below HN7.out.bel.drew).strE
              have htk : (pad la).take na = la := pad_takeT (by omega)
              rw [htk] at i1
              clear htk hpl
              go_wp2_with fail
              refine wp_region_ext (by kernel_rfl) ?_
              haveI n1 := cls_ext w7.drew
              refine wpAnyH_seg (by kernel_rfl) (fun _ _ _ h => h) [0, 1, 2, 3, 4, 5, 6, 7, 8, 9, 10, 11, 12] 0 _ _ _ (Ext.refl _) (by kernel_rfl) ?_
              simp only [opsAt, List.getElem?_toArray, List.getElem?_cons_zero, List.getElem?_cons_succ, List.cons_append, List.nil_append]
              repeat (go_big_quiet_step (fail))
              refine wpQuiet_nil ?_
              refine wpAnyH_done (by kernel_rfl) (NoPanic.normal ?_) 0
              clear n1 i1 i2
              have HNd : Hid (NewAt w w.heap.size w7.drew g f5 _) := HN7.out.below (Below.refl _ _).drew
              go_wp2_with fail
              go_roundw
              case rel => exact ⟨k + 1, by go_num, by omega, HNd.out⟩
              case measure => simp [intOf]; omega
          · go_wp2_with fail
            refine (write_new i aa na ca la HN.out (by rw [HS.out]; omega) (HA.out.below HN.out.bel) (by omega) (by omega) (by simp)).mono ?_
            rintro e w8 ⟨rfl, f8, hN8, -⟩
            have HN8 : Hid (NewAt w w.heap.size w8 g f8 _) := hN8
            clear hN8
            go_wp2_with fail
            refine (read_new i HN8.out (pad la) (by rw [List.getElem?_set, if_pos rfl, if_pos (by rw [HS.out]; omega)])).mono ?_
            rintro e w9 ⟨rfl, hN9, hB9, -, -, -⟩
            have HN9 : Hid (NewAt w w.heap.size w9 g f8 _) := hN9
            have HB9 : Hid (Blk w9 w8.heap.size (bv (pad la)).toArray 5) := hB9
            clear hN9 hB9
            have hpl : (pad la).length = 512 := pad_length (by omega)
            have i1 := (Blk.src (w := w9.drew) (k := na) (c := 512) HB9.out.drew (by omega) (by omega) (by unfold maxLen; omega)).strE
            have i2 := (HA.out.below HN9.out.bel.drew).strE
            have htk : (pad la).take na = la := pad_takeT (by omega)
            rw [htk] at i1
            clear htk hpl
            go_wp2_with fail
            refine wp_region_ext (by kernel_rfl) ?_
            haveI n1 := cls_ext w9.drew
            refine wpAnyH_seg (by kernel_rfl) (fun _ _ _ h => h) [0, 1, 2, 3, 4, 5, 6, 7, 8, 9, 10, 11, 12] 0 _ _ _ (Ext.refl _) (by kernel_rfl) ?_
            simp only [opsAt, List.getElem?_toArray, List.getElem?_cons_zero, List.getElem?_cons_succ, List.cons_append, List.nil_append]
            repeat (go_big_quiet_step (fail))
            refine wpQuiet_nil ?_
            refine wpAnyH_done (by kernel_rfl) (NoPanic.normal ?_) 0
            clear n1 i1 i2
            go_wp2
            go_ret
            exact ⟨rfl, HN9.out.bel.drew⟩

set_option maxHeartbeats 4000000 in
theorem walk_DiskTorn (aa : Option Addr) (na ca : Nat) (za : List Int) (ab : Option Addr) (nb cb : Nat) (zb : List Int) (at_ : Int) (keep : Bool) (w : World) (ha : IsRow .u8 w aa na ca za) (hb : IsRow .u8 w ab nb cb zb) (_hat : (Lit.int .i64 at_).wf = true) :
    Calls Try.prog 7 #[.slice aa na ca, .slice ab nb cb, .int .i64 at_, .bool keep] w fun e w' => e = .returned (.bool true) ∧ Below w.heap.size w w' := by
  obtain ⟨la, sa, la'⟩ := isRow_src ha
  obtain ⟨lb, sb, lb'⟩ := isRow_src hb
  by_cases h : na ≤ 512 ∧ nb ≤ 512
  · exact torn_main aa ab na ca nb cb la lb at_ keep w sa sb h.1 h.2 la'.symm lb'.symm
  · clear sa sb la' lb' ha hb
    rcases (show 512 < na ∨ (na ≤ 512 ∧ 512 < nb) by omega) with h1 | ⟨h1, h2⟩
    · have q1 : decide (512 < (na : Int)) = true := decide_eq_true (by omega)
      go_enter Try.func7, Try.ntmps7
      go_wp2_with fail
      refine (head4_any _).mono ?_
      rintro e w1 ⟨rfl, hb1⟩
      go_wp2_with fail
      go_ret
      exact ⟨rfl, hb1⟩
    · have q1 : decide (512 < (na : Int)) = false := decide_eq_false (by omega)
      have q2 : decide (512 < (nb : Int)) = true := decide_eq_true (by omega)
      go_enter Try.func7, Try.ntmps7
      go_wp2_with fail
      refine (head4_any _).mono ?_
      rintro e w1 ⟨rfl, hb1⟩
      go_wp2_with fail
      go_ret
      exact ⟨rfl, hb1⟩
end Go.Proofs.Ytfcpoieahbfpaaa
