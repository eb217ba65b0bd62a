/- PageGreatest: the walk of the law's Go text. -/
import Derived.Test.YtonhgekkdohpkaaPg8
import Derived.Test.YtonhgekkdohpkaaBox
import Derived.Test.YtonhgekkdohpkaaGr
import Derived.Test.YtonhgekkdohpkaaSrcSeg
import Derived.Deep.Cut
namespace Go.Proofs.Ytonhgekkdohpkaa
open Go.ChangeShapes Go.WideShapes Go.ChangeAt Go.RowKit

/-- A row of bytes of which the first ones are laid. -/
def fillL (n j C : Nat) : List UInt8 := rep C j ++ List.replicate (n - j) 0
def fillA (n j C : Nat) : Array Value := (bv (fillL n j C)).toArray
theorem fillL_length {n j C : Nat} (h : j ≤ n) : (fillL n j C).length = n := by simp [fillL, rep]; omega
theorem bv_set (l : List UInt8) (i : Nat) (x : UInt8) : (bv l).toArray.setIfInBounds i (.int .u8 (x.toNat : Int)) = (bv (l.set i x)).toArray := by
  unfold bv
  simp [List.map_set]
theorem fillA_set {n j C : Nat} (h : j < n) (hC : C < 256) : (fillA n j C).setIfInBounds j (.int .u8 (C : Int)) = fillA n (j + 1) C := by
  have e : (((UInt8.ofNat C).toNat : Nat) : Int) = (C : Int) := by rw [UInt8.toNat_ofNat']; omega
  rw [← e, fillA, bv_set, fillA]
  congr 2
  unfold fillL rep
  apply List.ext_getElem
  · simp; omega
  · intro i h1 h2
    simp only [List.getElem_set, List.getElem_append, List.length_replicate, List.getElem_replicate]
    by_cases e1 : j = i
    · subst e1; simp
    · rw [if_neg e1]
      by_cases e2 : i < j
      · rw [dif_pos e2, dif_pos (by omega)]
      · rw [dif_neg e2, dif_neg (by omega)]
theorem fillA_last (C k : Nat) (hk : k < 200) : (fillA 24 24 C).setIfInBounds 0 (.int .u8 ((k : Int) + 1)) = (bv (UInt8.ofNat (k + 1) :: rep C 23)).toArray := by
  have e : (((UInt8.ofNat (k + 1)).toNat : Nat) : Int) = (k : Int) + 1 := by rw [UInt8.toNat_ofNat']; omega
  rw [← e, fillA, bv_set]
  rfl
theorem fillA_all (n C : Nat) : fillA n n C = (bv (rep C n)).toArray := by
  unfold fillA fillL
  simp
theorem run_make8 (n C : Nat) (hn : n ≤ 512) (w : World) : (Instr.makeSlice 29 (.int .i64 (n : Int)) (.int .i64 (n : Int))).run Try.prog w = .ok (.slice (some ⟨w.heap.size, 0, none⟩) n n) (w.alloc (.cells (fillA n 0 C) 5)) := by
  obtain ⟨i0, hi, hz0, hz1, hz2⟩ := info_parts info8
  have := run_make (P := Try.prog) w 29 5 i0 (.int .u8 0) Try.underlying29 hi hz0 .i64 .i64 n n (by omega) (by omega) (by rw [hz2]; omega) (by omega)
  rw [this, hz1]
  simp only [Int.toNat_natCast, Nat.mul_one]
  have e : madeCells #[.int .u8 0] n = fillA n 0 C := by
    apply Array.toList_inj.1
    rw [toList_madeCells_one]
    unfold fillA fillL rep bv
    simp
  exact congrArg (fun a => Result.ok _ (w.alloc (.cells a 5))) e
theorem fill_cell {W : World} {g n j C : Nat} (h : Blk W g (fillA n j C) 5) (hj : j ≤ n) {i : Nat} (hi : i < n) : ∃ v, W.cell? ⟨g, i, none⟩ = some v := by
  have : i < (fillA n j C).size := by
    unfold fillA
    simp [bv_length, fillL_length hj]; exact hi
  exact ⟨_, by rw [h.cell]; exact Array.getElem?_eq_getElem this⟩
theorem row_str {W : World} {g n : Nat} {l : List UInt8} (h : Blk W g (bv l).toArray 5) (hl : l.length = n) (hn : n ≤ 512) : (convert 29 9 (.slice (some ⟨g, 0, none⟩) n n)).run Try.prog W = .ok (.string ⟨l.toArray⟩) W := by
  subst hl
  have := (Blk.src (k := l.length) (c := l.length) h (Nat.le_refl _) (Nat.le_refl _) (by unfold maxLen; omega)).str
  rw [List.take_length] at this
  exact this

/-- The two rows of a round. -/
def KV2 (W : World) (g C k : Nat) : Prop := Blk W g (bv (UInt8.ofNat (k + 1) :: rep C 23)).toArray 5 ∧ Blk W (g + 1) (bv (rep C 48)).toArray 5
theorem KV2.push {W W' : World} {g C k b i : Nat} {v u : Value} {o : Obj} (h : KV2 W g C k) (hg : (W.alloc o).grownBy W' v.ownBlock) (hv : ∀ x, v.ownBlock = some x → x < g) (hb : b < g) : KV2 (W'.setCell ⟨b, i, none⟩ u) g C k :=
  ⟨h.1.of (turn_kept hg g h.1.lt (fun e => Nat.lt_irrefl _ (hv g e)) (by omega) u), h.2.of (turn_kept hg (g + 1) h.2.lt (fun e => by have := hv _ e; omega) (by omega) u)⟩
theorem KV2.k {W : World} {g C k : Nat} (h : KV2 W g C k) : (convert 29 9 (.slice (some ⟨g, 0, none⟩) 24 24)).run Try.prog W = .ok (.string (gk C k)) W := row_str h.1 (by simp [rep]) (by omega)
theorem KV2.v {W : World} {g C k : Nat} (h : KV2 W g C k) : (convert 29 9 (.slice (some ⟨g + 1, 0, none⟩) 48 48)).run Try.prog W = .ok (.string (gv C)) W := row_str h.2 (by simp [rep]) (by omega)

set_option maxRecDepth 100000 in
set_option maxHeartbeats 8000000 in
theorem walk_PageGreatest (c lsn : Int) (w : World) (hc : (Lit.int .u8 c).wf = true) (hlsn : (Lit.int .u64 lsn).wf = true) :
    Calls Try.prog 6 #[.int .u8 c, .int .u64 lsn] w fun e w' => e = .returned (.bool true) ∧ Below w.heap.size w w' := by
  have hcb := bounds_u8 hc
  have hlb := bounds_u64 hlsn
  obtain ⟨C, hC, hC256⟩ : ∃ C : Nat, c = (C : Int) ∧ C < 256 := ⟨c.toNat, by omega, by omega⟩
  obtain ⟨L, hL, hL64⟩ : ∃ L : Nat, lsn = (L : Int) ∧ L < 18446744073709551616 := ⟨lsn.toNat, by omega, by omega⟩
  subst hC hL
  clear hc hcb hlsn hlb
  go_enter Try.func6, Try.ntmps6
  go_wp2_with fail
  refine (head6_any _).mono ?_
  rintro e w1 ⟨rfl, y⟩
  have Y1 : Hid (Below w.heap.size w w1) := y
  clear y
  have HB1 : Hid (Box (((w1.alloc (.cells #[.int .i64 1, .slice none 0 0, .slice none 0 0, .slice none 0 0, .int .i64 0, .int .i64 0, .int .i64 0, .int .i64 0] 25)).alloc (.cells #[.int .i64 65535] 3)).alloc (.cells #[.int .i64 2, .slice none 0 0, .slice none 0 0, .slice (some ⟨w1.heap.size + 1, 0, none⟩) 1 1, .int .i64 0, .int .i64 0, .int .i64 0, .int .i64 0] 25)) w.heap.size w1.heap.size (glP C 0) (.slice none 0 0) (.slice none 0 0) (.slice none 0 0)) :=
    ⟨((Blk.new _ _ _).alloc _).alloc _, ⟨OwnV.nil _ _ _, OwnV.nil _ _ _, OwnV.nil _ _ _, fun g e => (by cases e), fun g e => (by cases e), fun g e => (by cases e)⟩, Y1.out.size, by simp [Value.ownBlock], by simp [Value.ownBlock], by simp [Value.ownBlock]⟩
  have hb3 : PBox (((w1.alloc (.cells #[.int .i64 1, .slice none 0 0, .slice none 0 0, .slice none 0 0, .int .i64 0, .int .i64 0, .int .i64 0, .int .i64 0] 25)).alloc (.cells #[.int .i64 65535] 3)).alloc (.cells #[.int .i64 2, .slice none 0 0, .slice none 0 0, .slice (some ⟨w1.heap.size + 1, 0, none⟩) 1 1, .int .i64 0, .int .i64 0, .int .i64 0, .int .i64 0] 25)) (w1.heap.size + 1 + 1) (giP C 0) (.slice none 0 0) (.slice none 0 0) (.slice (some ⟨w1.heap.size + 1, 0, none⟩) 1 1) := by
    have := Blk.new ((w1.alloc (.cells #[.int .i64 1, .slice none 0 0, .slice none 0 0, .slice none 0 0, .int .i64 0, .int .i64 0, .int .i64 0, .int .i64 0] 25)).alloc (.cells #[.int .i64 65535] 3)) (pgc (giP C 0) (.slice none 0 0) (.slice none 0 0) (.slice (some ⟨w1.heap.size + 1, 0, none⟩) 1 1)) 25
    rw [show (((w1.alloc (.cells #[.int .i64 1, .slice none 0 0, .slice none 0 0, .slice none 0 0, .int .i64 0, .int .i64 0, .int .i64 0, .int .i64 0] 25)).alloc (.cells #[.int .i64 65535] 3)).heap.size) = w1.heap.size + 1 + 1 by simp] at this
    exact this
  have hk3 : OwnV (((w1.alloc (.cells #[.int .i64 1, .slice none 0 0, .slice none 0 0, .slice none 0 0, .int .i64 0, .int .i64 0, .int .i64 0, .int .i64 0] 25)).alloc (.cells #[.int .i64 65535] 3)).alloc (.cells #[.int .i64 2, .slice none 0 0, .slice none 0 0, .slice (some ⟨w1.heap.size + 1, 0, none⟩) 1 1, .int .i64 0, .int .i64 0, .int .i64 0, .int .i64 0] 25)) w.heap.size 3 (.slice (some ⟨w1.heap.size + 1, 0, none⟩) 1 1) (iv (grD 0)) := by
    have := World.ownsRow_lit (base := w.heap.size) (e := 3) (size := 1) (w1.alloc (.cells #[.int .i64 1, .slice none 0 0, .slice none 0 0, .slice none 0 0, .int .i64 0, .int .i64 0, .int .i64 0, .int .i64 0] 25)) #[.int .i64 65535] 1 (by have := Y1.out.size; simp; omega) (by simp [maxLen]) rfl
    rw [show (w1.alloc (.cells #[.int .i64 1, .slice none 0 0, .slice none 0 0, .slice none 0 0, .int .i64 0, .int .i64 0, .int .i64 0, .int .i64 0] 25)).heap.size = w1.heap.size + 1 by simp] at this
    exact World.ownsRow.alloc this _
  have HB3 : Hid (Box (((w1.alloc (.cells #[.int .i64 1, .slice none 0 0, .slice none 0 0, .slice none 0 0, .int .i64 0, .int .i64 0, .int .i64 0, .int .i64 0] 25)).alloc (.cells #[.int .i64 65535] 3)).alloc (.cells #[.int .i64 2, .slice none 0 0, .slice none 0 0, .slice (some ⟨w1.heap.size + 1, 0, none⟩) 1 1, .int .i64 0, .int .i64 0, .int .i64 0, .int .i64 0] 25)) w.heap.size (w1.heap.size + 1 + 1) (giP C 0) (.slice none 0 0) (.slice none 0 0) (.slice (some ⟨w1.heap.size + 1, 0, none⟩) 1 1)) :=
    ⟨hb3, ⟨OwnV.nil _ _ _, OwnV.nil _ _ _, hk3, fun g e => (by cases e), fun g e => (by cases e), fun g e => (by cases e)⟩, by have := Y1.out.size; omega, by simp [Value.ownBlock], by simp [Value.ownBlock], by simp [Value.ownBlock]⟩
  have HD0 : Hid (Dis w1.heap.size (.slice none 0 0) (.slice none 0 0) (.slice none 0 0) (w1.heap.size + 1 + 1) (.slice none 0 0) (.slice none 0 0) (.slice (some ⟨w1.heap.size + 1, 0, none⟩) 1 1)) := fun g h1 h2 => by
    simp [fp, Value.ownBlock] at h1 h2
    omega
  have HY0 : Hid (Below w.heap.size w (((w1.alloc (.cells #[.int .i64 1, .slice none 0 0, .slice none 0 0, .slice none 0 0, .int .i64 0, .int .i64 0, .int .i64 0, .int .i64 0] 25)).alloc (.cells #[.int .i64 65535] 3)).alloc (.cells #[.int .i64 2, .slice none 0 0, .slice none 0 0, .slice (some ⟨w1.heap.size + 1, 0, none⟩) 1 1, .int .i64 0, .int .i64 0, .int .i64 0, .int .i64 0] 25))) := ((Y1.out.alloc Y1.out.size _).alloc (by have := Y1.out.size; simp; omega) _).alloc (by have := Y1.out.size; simp; omega) _
  clear hb3 hk3
  go_wp2
  go_loopw [7, 8] (fun vi _ wr => ∃ (k : Nat) (kv vv dv kv' vv' dv' : Value), vi = .int .i64 k ∧ k ≤ 7 ∧ Box wr w.heap.size w1.heap.size (glP C k) kv vv dv ∧ Box wr w.heap.size (w1.heap.size + 1 + 1) (giP C k) kv' vv' dv' ∧ Dis w1.heap.size kv vv dv (w1.heap.size + 1 + 1) kv' vv' dv' ∧ Below w.heap.size w wr) (fun vi _ _ => 7 - (intOf vi).toNat)
  case atStart => exact ⟨0, _, _, _, _, _, _, rfl, Nat.zero_le _, HB1.out, HB3.out, HD0.out, HY0.out⟩
  case round =>
    obtain ⟨k, kv, vv, dv, kv', vv', dv', rfl, hkN, hb1, hb3, hd, hy⟩ := hrel
    clear HB1 HB3 HD0 HY0 Y1
    have BA : Hid (Box wr w.heap.size w1.heap.size (glP C k) kv vv dv) := hb1
    have BB : Hid (Box wr w.heap.size (w1.heap.size + 1 + 1) (giP C k) kv' vv' dv') := hb3
    have DS : Hid (Dis w1.heap.size kv vv dv (w1.heap.size + 1 + 1) kv' vv' dv') := hd
    have HY : Hid (Below w.heap.size w wr) := hy
    clear hb1 hb3 hd hy
    by_cases hlt : k < 7
    · have m24 : ∀ w, (Instr.makeSlice 29 (.int .i64 24) (.int .i64 24)).run Try.prog w = .ok (.slice (some ⟨w.heap.size, 0, none⟩) 24 24) (w.alloc (.cells (fillA 24 0 C) 5)) := run_make8 24 C (by omega)
      have m48 : ∀ w, (Instr.makeSlice 29 (.int .i64 48) (.int .i64 48)).run Try.prog w = .ok (.slice (some ⟨w.heap.size, 0, none⟩) 48 48) (w.alloc (.cells (fillA 48 0 C) 5)) := run_make8 48 C (by omega)
      rename World => wo
      go_upto_region 10 with fail
      have hbl : Below wo.heap.size wo ((wo.alloc (.cells (fillA 24 0 C) 5)).alloc (.cells (fillA 48 0 C) 5)) := ((Below.refl _ _).alloc (Nat.le_refl _) _).alloc (by simp) _
      have BL1 : Hid (Blk ((wo.alloc (.cells (fillA 24 0 C) 5)).alloc (.cells (fillA 48 0 C) 5)) wo.heap.size (fillA 24 0 C) 5) := (Blk.new _ _ _).alloc _
      have BL2 : Hid (Blk ((wo.alloc (.cells (fillA 24 0 C) 5)).alloc (.cells (fillA 48 0 C) 5)) (wo.heap.size + 1) (fillA 48 0 C) 5) := by
        have := Blk.new (wo.alloc (.cells (fillA 24 0 C) 5)) (fillA 48 0 C) 5
        show Blk _ _ _ _
        simpa using this
      have SZ : Hid (wo.heap.size + 1 < ((wo.alloc (.cells (fillA 24 0 C) 5)).alloc (.cells (fillA 48 0 C) 5)).heap.size) := by show _ < _; simp
      have HBL : Hid (Below wo.heap.size wo ((wo.alloc (.cells (fillA 24 0 C) 5)).alloc (.cells (fillA 48 0 C) 5))) := hbl
      clear hbl m24 m48
      generalize (wo.alloc (.cells (fillA 24 0 C) 5)).alloc (.cells (fillA 48 0 C) 5) = W0 at *
      go_wp2
      go_loopw [31] (fun v wr => ∃ j : Nat, v = .int .i64 (j : Int) ∧ j ≤ 24 ∧ Blk wr wo.heap.size (fillA 24 j C) 5 ∧ Chg (fun g => g = wo.heap.size) W0 wr) (fun v _ => 24 - (intOf v).toNat)
      case atStart => exact ⟨0, rfl, Nat.zero_le _, BL1.out, Chg.refl _ _⟩
      case round =>
        obtain ⟨j, rfl, hj24, hB, hC1⟩ := hrel
        have HB : Hid (Blk wr wo.heap.size (fillA 24 j C) 5) := hB
        have HC1 : Hid (Chg (fun g => g = wo.heap.size) W0 wr) := hC1
        clear hB hC1
        by_cases hj : j < 24
        · obtain ⟨x0, hx0⟩ := fill_cell HB.out hj24 hj
          have hf := HB.out.frozen j
          go_wp2
          go_roundw
          case rel => exact ⟨j + 1, by go_num, by omega, by rw [← fillA_set hj hC256]; exact HB.out.set _ _, HC1.out.setCell _ (fun _ => rfl) _⟩
          case measure => simp [intOf]; omega
        · have hj' : j = 24 := by omega
          subst hj'
          clear hj hj24
          rename World => wi
          go_wp2
          go_loopw [41] (fun v wr => ∃ j : Nat, v = .int .i64 (j : Int) ∧ j ≤ 48 ∧ Blk wr (wo.heap.size + 1) (fillA 48 j C) 5 ∧ Chg (fun g => g = wo.heap.size + 1) wi wr) (fun v _ => 48 - (intOf v).toNat)
          case atStart => exact ⟨0, rfl, Nat.zero_le _, BL2.out.chg HC1.out (by omega), Chg.refl _ _⟩
          case round =>
            obtain ⟨j, rfl, hj48, hB2, hC2⟩ := hrel
            have HB2 : Hid (Blk wr (wo.heap.size + 1) (fillA 48 j C) 5) := hB2
            have HC2 : Hid (Chg (fun g => g = wo.heap.size + 1) wi wr) := hC2
            clear hB2 hC2
            by_cases hj : j < 48
            · obtain ⟨x0, hx0⟩ := fill_cell HB2.out hj48 hj
              have hf := HB2.out.frozen j
              go_wp2
              go_roundw
              case rel => exact ⟨j + 1, by go_num, by omega, by rw [← fillA_set hj hC256]; exact HB2.out.set _ _, HC2.out.setCell _ (fun _ => rfl) _⟩
              case measure => simp [intOf]; omega
            · have hj' : j = 48 := by omega
              subst hj'
              clear hj hj48
              rename World => wj
              have HB1 : Hid (Blk wj wo.heap.size (fillA 24 24 C) 5) := HB.out.chg HC2.out (by omega)
              obtain ⟨x0, hx0⟩ := fill_cell HB1.out (Nat.le_refl _) (show 0 < 24 by omega)
              have hf := HB1.out.frozen 0
              go_upto_region 21 with fail
              clear hx0 hf
              have hwa : Blk (wj.setCell ⟨wo.heap.size, 0, none⟩ (.int .u8 ((k : Int) + 1))) wo.heap.size (bv (UInt8.ofNat (k + 1) :: rep C 23)).toArray 5 := by rw [← fillA_last C k (by omega)]; exact HB1.out.set _ _
              have hwb : Blk (wj.setCell ⟨wo.heap.size, 0, none⟩ (.int .u8 ((k : Int) + 1))) (wo.heap.size + 1) (bv (rep C 48)).toArray 5 := by rw [← fillA_all]; exact HB2.out.setOther _ _ (by omega)
              have hwc : Below wo.heap.size wo (wj.setCell ⟨wo.heap.size, 0, none⟩ (.int .u8 ((k : Int) + 1))) := by
                have h1 : Chg (fun g => wo.heap.size ≤ g) W0 (wj.setCell ⟨wo.heap.size, 0, none⟩ (.int .u8 ((k : Int) + 1))) := ((HC1.out.mono (fun i _ e => by omega)).trans (HC2.out.mono (S' := fun g => wo.heap.size ≤ g) (fun i _ e => by omega)) (fun _ _ e => e)).setCell _ (fun _ => Nat.le_refl _) _
                exact HBL.out.trans (h1.below (Nat.le_of_lt (Nat.lt_trans (Nat.lt_succ_self _) SZ.out)) (fun _ e => e))
              have BA1 : Hid (Box (wj.setCell ⟨wo.heap.size, 0, none⟩ (.int .u8 ((k : Int) + 1))) w.heap.size w1.heap.size (glP C k) kv vv dv) := BA.out.below hwc
              have BB1 : Hid (Box (wj.setCell ⟨wo.heap.size, 0, none⟩ (.int .u8 ((k : Int) + 1))) w.heap.size (w1.heap.size + 1 + 1) (giP C k) kv' vv' dv') := BB.out.below hwc
              have HYs : Hid (Below w.heap.size w (wj.setCell ⟨wo.heap.size, 0, none⟩ (.int .u8 ((k : Int) + 1)))) := ext_trans HY.out hwc
              have RWs : Hid (KV2 (wj.setCell ⟨wo.heap.size, 0, none⟩ (.int .u8 ((k : Int) + 1))) wo.heap.size C k) := ⟨hwa, hwb⟩
              clear hwa hwb hwc HB1 HB2 HC2 HC1 HB BL1 BL2 SZ HBL HY
              generalize wj.setCell ⟨wo.heap.size, 0, none⟩ (.int .u8 ((k : Int) + 1)) = WA at *
              by_cases hk6 : k < 6
              · have hm : min k 6 = k := by omega
                have KK : Hid ((glP C k).keys = grK C k) := by show grK C (min k 6) = _; rw [hm]
                have VV : Hid ((glP C k).vals = grV C k) := by show grV C (min k 6) = _; rw [hm]
                obtain ⟨z0, z1, z2, z3, z4, z5, z6, z7⟩ := BA1.out.box.cells
                have lta := Blk.lt BA1.out.box
                have hst := RWs.out.k
                go_wp2_with (at_builtin; refine wpList_pushS WA rfl _ _ rfl w.heap.size kv (glP C k).keys (gk C k) BA1.out.own.keys rfl rfl (by rw [KK.out, grK_length]; omega) HYs.out.size ?_)
                intro aa na ca Xa hna ho hg hat
                have BXa : Hid (Box (Xa.setCell ⟨w1.heap.size, 1, none⟩ (.slice aa na ca)) w.heap.size w1.heap.size _ (.slice aa na ca) vv dv) := BA1.out.pushK ho hg hat
                have BOa : Hid (Box (Xa.setCell ⟨w1.heap.size, 1, none⟩ (.slice aa na ca)) w.heap.size (w1.heap.size + 1 + 1) _ kv' vv' dv') := BB1.out.other (DS.out) (fun g e => .inr (.inl e)) hg _
                have Da : Hid (Dis w1.heap.size (.slice aa na ca) vv dv (w1.heap.size + 1 + 1) kv' vv' dv') := (DS.out).pushK BB1.out hat
                have RWa : Hid (KV2 (Xa.setCell ⟨w1.heap.size, 1, none⟩ (.slice aa na ca)) wo.heap.size C k) := RWs.out.push hg (fun x e => (BA.out.own.keys.blk x e).2) (Blk.lt BA.out.box)
                have HYa : Hid (Below w.heap.size w (Xa.setCell ⟨w1.heap.size, 1, none⟩ (.slice aa na ca))) := push_below HYs.out HYs.out.size (fun g e => (BA1.out.own.keys.blk g e).1) BA1.out.hb hg _
                have pre := BA1.out.pre BA1.out.nk hg
                clear z0 z1 z2 z3 z4 z5 z6 z7 ho hg hat lta hst
                obtain ⟨z0, z1, z2, z3, z4, z5, z6, z7⟩ := pre.cells
                have ff := pre.frozen 1
                clear pre BA1 BB1 DS HYs hna RWs
                go_upto_region 23 with fail
                generalize Xa.setCell ⟨w1.heap.size, 1, none⟩ (.slice aa na ca) = WB at *
                clear z0 z1 z2 z3 z4 z5 z6 z7 ff
                obtain ⟨z0, z1, z2, z3, z4, z5, z6, z7⟩ := BXa.out.box.cells
                have ltb := Blk.lt BXa.out.box
                have hst := RWa.out.v
                go_wp2_with (at_builtin; refine wpList_pushS WB rfl _ _ rfl w.heap.size vv (glP C k).vals (gv C) BXa.out.own.vals rfl rfl (by rw [VV.out, grV_length]; omega) HYa.out.size ?_)
                intro ab nb cb Xb hnb ho hg hat
                have BXb : Hid (Box (Xb.setCell ⟨w1.heap.size, 2, none⟩ (.slice ab nb cb)) w.heap.size w1.heap.size _ (.slice aa na ca) (.slice ab nb cb) dv) := BXa.out.pushV ho hg hat
                have BOb : Hid (Box (Xb.setCell ⟨w1.heap.size, 2, none⟩ (.slice ab nb cb)) w.heap.size (w1.heap.size + 1 + 1) _ kv' vv' dv') := BOa.out.other (Da.out) (fun g e => .inr (.inr (.inl e))) hg _
                have Db : Hid (Dis w1.heap.size (.slice aa na ca) (.slice ab nb cb) dv (w1.heap.size + 1 + 1) kv' vv' dv') := (Da.out).pushV BOa.out hat
                have RWb : Hid (KV2 (Xb.setCell ⟨w1.heap.size, 2, none⟩ (.slice ab nb cb)) wo.heap.size C k) := RWa.out.push hg (fun x e => (BA.out.own.vals.blk x e).2) (Blk.lt BA.out.box)
                have HYb : Hid (Below w.heap.size w (Xb.setCell ⟨w1.heap.size, 2, none⟩ (.slice ab nb cb))) := push_below HYa.out HYa.out.size (fun g e => (BXa.out.own.vals.blk g e).1) BXa.out.hb hg _
                have pre := BXa.out.pre BXa.out.nv hg
                clear z0 z1 z2 z3 z4 z5 z6 z7 ho hg hat ltb hst
                obtain ⟨z0, z1, z2, z3, z4, z5, z6, z7⟩ := pre.cells
                have ff := pre.frozen 2
                clear pre BXa BOa Da HYa hnb RWa
                go_upto_region 24 with fail
                generalize Xb.setCell ⟨w1.heap.size, 2, none⟩ (.slice ab nb cb) = WC at *
                clear z0 z1 z2 z3 z4 z5 z6 z7 ff
                obtain ⟨z0, z1, z2, z3, z4, z5, z6, z7⟩ := BOb.out.box.cells
                have ltc := Blk.lt BOb.out.box
                have hst := RWb.out.k
                go_wp2_with (at_builtin; refine wpList_pushS WC rfl _ _ rfl w.heap.size kv' (grK C k) (gk C k) BOb.out.own.keys rfl rfl (by rw [grK_length]; omega) HYb.out.size ?_)
                intro ac nc cc Xc hnc ho hg hat
                have BXc : Hid (Box (Xc.setCell ⟨(w1.heap.size + 1 + 1), 1, none⟩ (.slice ac nc cc)) w.heap.size (w1.heap.size + 1 + 1) _ (.slice ac nc cc) vv' dv') := BOb.out.pushK ho hg hat
                have BOc : Hid (Box (Xc.setCell ⟨(w1.heap.size + 1 + 1), 1, none⟩ (.slice ac nc cc)) w.heap.size w1.heap.size _ (.slice aa na ca) (.slice ab nb cb) dv) := BXb.out.other (Db.out.symm) (fun g e => .inr (.inl e)) hg _
                have Dc : Hid (Dis w1.heap.size (.slice aa na ca) (.slice ab nb cb) dv (w1.heap.size + 1 + 1) (.slice ac nc cc) vv' dv') := ((Db.out.symm).pushK BXb.out hat).symm
                have RWc : Hid (KV2 (Xc.setCell ⟨(w1.heap.size + 1 + 1), 1, none⟩ (.slice ac nc cc)) wo.heap.size C k) := RWb.out.push hg (fun x e => (BB.out.own.keys.blk x e).2) (Blk.lt BB.out.box)
                have HYc : Hid (Below w.heap.size w (Xc.setCell ⟨(w1.heap.size + 1 + 1), 1, none⟩ (.slice ac nc cc))) := push_below HYb.out HYb.out.size (fun g e => (BOb.out.own.keys.blk g e).1) BOb.out.hb hg _
                have pre := BOb.out.pre BOb.out.nk hg
                clear z0 z1 z2 z3 z4 z5 z6 z7 ho hg hat ltc hst
                obtain ⟨z0, z1, z2, z3, z4, z5, z6, z7⟩ := pre.cells
                have ff := pre.frozen 1
                clear pre BOb BXb Db HYb hnc RWb
                go_upto_region 25 with fail
                generalize Xc.setCell ⟨(w1.heap.size + 1 + 1), 1, none⟩ (.slice ac nc cc) = WD at *
                clear z0 z1 z2 z3 z4 z5 z6 z7 ff
                obtain ⟨z0, z1, z2, z3, z4, z5, z6, z7⟩ := BXc.out.box.cells
                have ltd := Blk.lt BXc.out.box
                go_wp2_with (at_builtin; refine wpList_pushI WD rfl _ _ rfl w.heap.size dv' (grD k) (65535 - (k : Int)) BXc.out.own.kids rfl rfl (by rw [grD_length]; omega) HYc.out.size ?_)
                intro ad nd cd Xd hnd ho hg hat
                have BXd : Hid (Box (Xd.setCell ⟨(w1.heap.size + 1 + 1), 3, none⟩ (.slice ad nd cd)) w.heap.size (w1.heap.size + 1 + 1) _ (.slice ac nc cc) vv' (.slice ad nd cd)) := BXc.out.pushD ho hg hat
                have BOd : Hid (Box (Xd.setCell ⟨(w1.heap.size + 1 + 1), 3, none⟩ (.slice ad nd cd)) w.heap.size w1.heap.size _ (.slice aa na ca) (.slice ab nb cb) dv) := BOc.out.other (Dc.out.symm) (fun g e => .inr (.inr (.inr e))) hg _
                have Dd : Hid (Dis w1.heap.size (.slice aa na ca) (.slice ab nb cb) dv (w1.heap.size + 1 + 1) (.slice ac nc cc) vv' (.slice ad nd cd)) := ((Dc.out.symm).pushD BOc.out hat).symm
                have RWd : Hid (KV2 (Xd.setCell ⟨(w1.heap.size + 1 + 1), 3, none⟩ (.slice ad nd cd)) wo.heap.size C k) := RWc.out.push hg (fun x e => (BB.out.own.kids.blk x e).2) (Blk.lt BB.out.box)
                have HYd : Hid (Below w.heap.size w (Xd.setCell ⟨(w1.heap.size + 1 + 1), 3, none⟩ (.slice ad nd cd))) := push_below HYc.out HYc.out.size (fun g e => (BXc.out.own.kids.blk g e).1) BXc.out.hb hg _
                have pre := BXc.out.pre BXc.out.nd hg
                clear z0 z1 z2 z3 z4 z5 z6 z7 ho hg hat ltd
                obtain ⟨z0, z1, z2, z3, z4, z5, z6, z7⟩ := pre.cells
                have ff := pre.frozen 3
                clear pre BXc BOc Dc HYc hnd RWc
                go_upto_region 7 with fail
                generalize Xd.setCell ⟨(w1.heap.size + 1 + 1), 3, none⟩ (.slice ad nd cd) = WE at *
                clear z0 z1 z2 z3 z4 z5 z6 z7 ff
                have hi1 : giP C (k + 1) = { { giP C k with keys := grK C k ++ [gk C k] } with kids := grD k ++ [65535 - (k : Int)] } := by rw [giP, grK_succ, grD_succ]; rfl
                have hl1 : glP C (k + 1) = { { glP C k with keys := (glP C k).keys ++ [gk C k] } with vals := (glP C k).vals ++ [gv C] } := by rw [KK.out, VV.out, ← grK_succ, ← grV_succ]; show Pg.mk _ (grK C (min (k + 1) 6)) (grV C (min (k + 1) 6)) _ _ _ _ _ = _; rw [show min (k + 1) 6 = k + 1 by omega]; rfl
                have R1 : Hid (Box WE w.heap.size w1.heap.size (glP C (k + 1)) (.slice aa na ca) (.slice ab nb cb) dv) := by rw [hl1]; exact BOd.out
                have R2 : Hid (Box WE w.heap.size (w1.heap.size + 1 + 1) (giP C (k + 1)) (.slice ac nc cc) vv' (.slice ad nd cd)) := by rw [hi1]; exact BXd.out
                clear hi1 hl1 RWd BA BB
                go_wp2
                go_roundw
                case rel => exact ⟨k + 1, _, _, _, _, _, _, by go_num, by omega, R1.out, R2.out, Dd.out, HYd.out⟩
                case measure => simp [intOf]; omega
              · have hk : k = 6 := by omega
                subst hk
                go_upto_region 24 with fail
                obtain ⟨z0, z1, z2, z3, z4, z5, z6, z7⟩ := BB1.out.box.cells
                have ltc := Blk.lt BB1.out.box
                have hst := RWs.out.k
                go_wp2_with (at_builtin; refine wpList_pushS WA rfl _ _ rfl w.heap.size kv' (grK C 6) (gk C 6) BB1.out.own.keys rfl rfl (by rw [grK_length]; omega) HYs.out.size ?_)
                intro ac nc cc Xc hnc ho hg hat
                have BXc : Hid (Box (Xc.setCell ⟨(w1.heap.size + 1 + 1), 1, none⟩ (.slice ac nc cc)) w.heap.size (w1.heap.size + 1 + 1) _ (.slice ac nc cc) vv' dv') := BB1.out.pushK ho hg hat
                have BOc : Hid (Box (Xc.setCell ⟨(w1.heap.size + 1 + 1), 1, none⟩ (.slice ac nc cc)) w.heap.size w1.heap.size _ kv vv dv) := BA1.out.other (DS.out.symm) (fun g e => .inr (.inl e)) hg _
                have Dc : Hid (Dis w1.heap.size kv vv dv (w1.heap.size + 1 + 1) (.slice ac nc cc) vv' dv') := ((DS.out.symm).pushK BA1.out hat).symm
                have RWc : Hid (KV2 (Xc.setCell ⟨(w1.heap.size + 1 + 1), 1, none⟩ (.slice ac nc cc)) wo.heap.size C 6) := RWs.out.push hg (fun x e => (BB.out.own.keys.blk x e).2) (Blk.lt BB.out.box)
                have HYc : Hid (Below w.heap.size w (Xc.setCell ⟨(w1.heap.size + 1 + 1), 1, none⟩ (.slice ac nc cc))) := push_below HYs.out HYs.out.size (fun g e => (BB1.out.own.keys.blk g e).1) BB1.out.hb hg _
                have pre := BB1.out.pre BB1.out.nk hg
                clear z0 z1 z2 z3 z4 z5 z6 z7 ho hg hat ltc hst
                obtain ⟨z0, z1, z2, z3, z4, z5, z6, z7⟩ := pre.cells
                have ff := pre.frozen 1
                clear pre BB1 BA1 DS HYs hnc RWs
                go_upto_region 25 with fail
                generalize Xc.setCell ⟨(w1.heap.size + 1 + 1), 1, none⟩ (.slice ac nc cc) = WD at *
                clear z0 z1 z2 z3 z4 z5 z6 z7 ff
                obtain ⟨z0, z1, z2, z3, z4, z5, z6, z7⟩ := BXc.out.box.cells
                have ltd := Blk.lt BXc.out.box
                go_wp2_with (at_builtin; refine wpList_pushI WD rfl _ _ rfl w.heap.size dv' (grD 6) 65529 BXc.out.own.kids rfl rfl (by rw [grD_length]; omega) HYc.out.size ?_)
                intro ad nd cd Xd hnd ho hg hat
                have BXd : Hid (Box (Xd.setCell ⟨(w1.heap.size + 1 + 1), 3, none⟩ (.slice ad nd cd)) w.heap.size (w1.heap.size + 1 + 1) _ (.slice ac nc cc) vv' (.slice ad nd cd)) := BXc.out.pushD ho hg hat
                have BOd : Hid (Box (Xd.setCell ⟨(w1.heap.size + 1 + 1), 3, none⟩ (.slice ad nd cd)) w.heap.size w1.heap.size _ kv vv dv) := BOc.out.other (Dc.out.symm) (fun g e => .inr (.inr (.inr e))) hg _
                have Dd : Hid (Dis w1.heap.size kv vv dv (w1.heap.size + 1 + 1) (.slice ac nc cc) vv' (.slice ad nd cd)) := ((Dc.out.symm).pushD BOc.out hat).symm
                have RWd : Hid (KV2 (Xd.setCell ⟨(w1.heap.size + 1 + 1), 3, none⟩ (.slice ad nd cd)) wo.heap.size C 6) := RWc.out.push hg (fun x e => (BB.out.own.kids.blk x e).2) (Blk.lt BB.out.box)
                have HYd : Hid (Below w.heap.size w (Xd.setCell ⟨(w1.heap.size + 1 + 1), 3, none⟩ (.slice ad nd cd))) := push_below HYc.out HYc.out.size (fun g e => (BXc.out.own.kids.blk g e).1) BXc.out.hb hg _
                have pre := BXc.out.pre BXc.out.nd hg
                clear z0 z1 z2 z3 z4 z5 z6 z7 ho hg hat ltd
                obtain ⟨z0, z1, z2, z3, z4, z5, z6, z7⟩ := pre.cells
                have ff := pre.frozen 3
                clear pre BXc BOc Dc HYc hnd RWc
                go_upto_region 7 with fail
                generalize Xd.setCell ⟨(w1.heap.size + 1 + 1), 3, none⟩ (.slice ad nd cd) = WE at *
                clear z0 z1 z2 z3 z4 z5 z6 z7 ff
                have hi1 : giP C (6 + 1) = { { giP C 6 with keys := grK C 6 ++ [gk C 6] } with kids := grD 6 ++ [65529] } := by rw [giP, grK_succ, grD_succ]; rfl
                have hl1 : glP C (6 + 1) = glP C 6 := rfl
                have R1 : Hid (Box WE w.heap.size w1.heap.size (glP C (6 + 1)) kv vv dv) := by rw [hl1]; exact BOd.out
                have R2 : Hid (Box WE w.heap.size (w1.heap.size + 1 + 1) (giP C (6 + 1)) (.slice ac nc cc) vv' (.slice ad nd cd)) := by rw [hi1]; exact BXd.out
                clear hi1 hl1 RWd BA BB
                go_wp2
                go_roundw
                case rel => exact ⟨6 + 1, _, _, _, _, _, _, by go_num, by omega, R1.out, R2.out, Dd.out, HYd.out⟩
                case measure => simp [intOf]
    · have hk7 : k = 7 := by omega
      subst hk7
      have E1 : Hid (∀ W kv vv dv, Box W w.heap.size w1.heap.size (glP C 7) kv vv dv → Calls Try.prog 17 #[pgv (glP C 7) kv vv dv, .int .u64 (L : Int)] W fun e w' => (∃ ao n c, e = .returned (.tuple #[.slice ao n c, .int .i64 0]) ∧ 444 ≤ n ∧ n ≤ 512) ∧ Below W.heap.size W w') := fun W kv vv dv h => (encode_any _ L kv vv dv W h.own.at (gl_ok C 7) hL64).mono fun e w' he => by
        obtain ⟨h1, h2⟩ := he
        rw [gl_right, if_pos rfl] at h1
        obtain ⟨v, rfl, hs⟩ := h1
        obtain ⟨ao, c, rfl⟩ := hs.form
        exact ⟨⟨ao, _, c, rfl, gl_least C L 7 (by omega), encP_length (gl_right C 7)⟩, h2⟩
      have E2 : Hid (∀ W kv vv dv, Box W w.heap.size (w1.heap.size + 1 + 1) (giP C 7) kv vv dv → Calls Try.prog 17 #[pgv (giP C 7) kv vv dv, .int .u64 (L : Int)] W fun e w' => (∃ ao n c, e = .returned (.tuple #[.slice ao n c, .int .i64 0]) ∧ n ≤ 512) ∧ Below W.heap.size W w') := fun W kv vv dv h => (encode_any _ L kv vv dv W h.own.at (gi_ok C 7 (by omega)) hL64).mono fun e w' he => by
        obtain ⟨h1, h2⟩ := he
        rw [gi_right C 7 (by omega) (by omega), if_pos rfl] at h1
        obtain ⟨v, rfl, hs⟩ := h1
        obtain ⟨ao, c, rfl⟩ := hs.form
        exact ⟨⟨ao, _, c, rfl, encP_length (gi_right C 7 (by omega) (by omega))⟩, h2⟩
      have E3 : Hid (∀ W kv vv dv, Box W w.heap.size w1.heap.size (bigP C) kv vv dv → Calls Try.prog 17 #[pgv (bigP C) kv vv dv, .int .u64 (L : Int)] W fun e w' => e = .returned (.tuple #[.slice none 0 0, .int .i64 1]) ∧ Below W.heap.size W w') := fun W kv vv dv h => (encode_any _ L kv vv dv W h.own.at (big_ok C) hL64).mono fun e w' he => by
        obtain ⟨h1, h2⟩ := he
        rw [big_wrong, if_neg (by simp)] at h1
        exact ⟨h1, h2⟩
      obtain ⟨ka, kc, va, vc, da, dc, rfl, rfl, rfl, _, _, _⟩ := BA.out.own.at.forms
      obtain ⟨ka', kc', va', vc', da', dc', rfl, rfl, rfl, _, _, _⟩ := BB.out.own.at.forms
      unfold pgv at *
      generalize (glP C 7).keys.length = q1 at *
      generalize (glP C 7).vals.length = q2 at *
      generalize (glP C 7).kids.length = q3 at *
      generalize (giP C 7).keys.length = q4 at *
      generalize (giP C 7).vals.length = q5 at *
      generalize (giP C 7).kids.length = q6 at *
      obtain ⟨x0, x1', x2', x3, x4, x5, x6, x7⟩ := BA.out.box.cells
      obtain ⟨z0, z1, z2, z3, z4, z5, z6, z7⟩ := BB.out.box.cells
      go_wp2_with fail
      refine (E1.out _ _ _ _ BA.out).mono ?_
      rintro e w2 ⟨⟨ao1, n1, c1, rfl, hn1⟩, y⟩
      have N1 : Hid (444 ≤ n1 ∧ n1 ≤ 512) := hn1
      have YA : Hid (Below w.heap.size w w2) := ext_trans HY.out y
      have PA : Hid (Box w2 w.heap.size w1.heap.size (glP C 7) _ _ _) := BA.out.below y
      have PB : Hid (Box w2 w.heap.size (w1.heap.size + 1 + 1) (giP C 7) _ _ _) := BB.out.below y
      clear y BA BB HY x0 x1' x2' x3 x4 x5 x6 x7 z0 z1 z2 z3 z4 z5 z6 z7 hn1
      obtain ⟨z0, z1, z2, z3, z4, z5, z6, z7⟩ := PB.out.box.cells
      go_wp2_with fail
      refine (E2.out _ _ _ _ PB.out).mono ?_
      rintro e w3 ⟨⟨ao2, n2, c2, rfl, hn2⟩, y⟩
      have N2 : Hid (n2 ≤ 512) := hn2
      have YB : Hid (Below w.heap.size w w3) := ext_trans YA.out y
      have QA : Hid (Box w3 w.heap.size w1.heap.size (glP C 7) _ _ _) := PA.out.below y
      have QB : Hid (Box w3 w.heap.size (w1.heap.size + 1 + 1) (giP C 7) _ _ _) := PB.out.below y
      clear y PA PB YA z0 z1 z2 z3 z4 z5 z6 z7 hn2
      go_upto_region 28 with fail
      obtain ⟨z0, z1, z2, z3, z4, z5, z6, z7⟩ := QA.out.box.cells
      have lte := Blk.lt QA.out.box
      go_wp2_with (at_builtin; refine wpList_pushS w3 rfl _ _ rfl w.heap.size (.slice ka q1 kc) (glP C 7).keys ⟨#[8]⟩ QA.out.own.keys rfl rfl (by show (grK C 6).length < _; rw [grK_length]; omega) YB.out.size ?_)
      intro ae ne ce Xe hne ho hg hat
      have BXe : Hid (Box (Xe.setCell ⟨w1.heap.size, 1, none⟩ (.slice ae ne ce)) w.heap.size w1.heap.size _ (.slice ae ne ce) (.slice va q2 vc) (.slice da q3 dc)) := QA.out.pushK ho hg hat
      have BOe : Hid (Box (Xe.setCell ⟨w1.heap.size, 1, none⟩ (.slice ae ne ce)) w.heap.size (w1.heap.size + 1 + 1) _ (.slice ka' q4 kc') (.slice va' q5 vc') (.slice da' q6 dc')) := QB.out.other (DS.out) (fun g e => .inr (.inl e)) hg _
      have De : Hid (Dis w1.heap.size (.slice ae ne ce) (.slice va q2 vc) (.slice da q3 dc) (w1.heap.size + 1 + 1) (.slice ka' q4 kc') (.slice va' q5 vc') (.slice da' q6 dc')) := (DS.out).pushK QB.out hat
      have HYe : Hid (Below w.heap.size w (Xe.setCell ⟨w1.heap.size, 1, none⟩ (.slice ae ne ce))) := push_below YB.out YB.out.size (fun g e => (QA.out.own.keys.blk g e).1) QA.out.hb hg _
      have pre := QA.out.pre QA.out.nk hg
      clear z0 z1 z2 z3 z4 z5 z6 z7 ho hg hat lte
      obtain ⟨z0, z1, z2, z3, z4, z5, z6, z7⟩ := pre.cells
      have ff := pre.frozen 1
      clear pre QA QB DS YB hne
      go_upto_region 29 with fail
      generalize Xe.setCell ⟨w1.heap.size, 1, none⟩ (.slice ae ne ce) = WY at *
      clear z0 z1 z2 z3 z4 z5 z6 z7 ff
      obtain ⟨z0, z1, z2, z3, z4, z5, z6, z7⟩ := BXe.out.box.cells
      have ltf := Blk.lt BXe.out.box
      go_wp2_with (at_builtin; refine wpList_pushS WY rfl _ _ rfl w.heap.size (.slice va q2 vc) (glP C 7).vals ⟨#[]⟩ BXe.out.own.vals rfl rfl (by show (grV C 6).length < _; rw [grV_length]; omega) HYe.out.size ?_)
      intro af nf cf Xf hnf ho hg hat
      have BXf : Hid (Box (Xf.setCell ⟨w1.heap.size, 2, none⟩ (.slice af nf cf)) w.heap.size w1.heap.size _ (.slice ae ne ce) (.slice af nf cf) (.slice da q3 dc)) := BXe.out.pushV ho hg hat
      have BOf : Hid (Box (Xf.setCell ⟨w1.heap.size, 2, none⟩ (.slice af nf cf)) w.heap.size (w1.heap.size + 1 + 1) _ (.slice ka' q4 kc') (.slice va' q5 vc') (.slice da' q6 dc')) := BOe.out.other (De.out) (fun g e => .inr (.inr (.inl e))) hg _
      have Df : Hid (Dis w1.heap.size (.slice ae ne ce) (.slice af nf cf) (.slice da q3 dc) (w1.heap.size + 1 + 1) (.slice ka' q4 kc') (.slice va' q5 vc') (.slice da' q6 dc')) := (De.out).pushV BOe.out hat
      have HYf : Hid (Below w.heap.size w (Xf.setCell ⟨w1.heap.size, 2, none⟩ (.slice af nf cf))) := push_below HYe.out HYe.out.size (fun g e => (BXe.out.own.vals.blk g e).1) BXe.out.hb hg _
      have pre := BXe.out.pre BXe.out.nv hg
      clear z0 z1 z2 z3 z4 z5 z6 z7 ho hg hat ltf
      obtain ⟨z0, z1, z2, z3, z4, z5, z6, z7⟩ := pre.cells
      have ff := pre.frozen 2
      clear pre BXe BOe De HYe hnf
      go_upto_region 30 with fail
      generalize Xf.setCell ⟨w1.heap.size, 2, none⟩ (.slice af nf cf) = WZ at *
      clear z0 z1 z2 z3 z4 z5 z6 z7 ff
      have hbig : bigP C = { { glP C 7 with keys := (glP C 7).keys ++ [(⟨#[8]⟩ : ByteArray)] } with vals := (glP C 7).vals ++ [(⟨#[]⟩ : ByteArray)] } := rfl
      have R1 : Hid (Box WZ w.heap.size w1.heap.size (bigP C) (.slice ae ne ce) (.slice af nf cf) (.slice da q3 dc)) := by rw [hbig]; exact BXf.out
      clear hbig BXf BOf Df
      obtain ⟨z0, z1, z2, z3, z4, z5, z6, z7⟩ := R1.out.box.cells
      go_wp2_with fail
      refine (E3.out _ _ _ _ R1.out).mono ?_
      rintro e w6 ⟨rfl, y⟩
      have YC : Hid (Below w.heap.size w w6) := ext_trans HYf.out y
      clear y R1 z0 z1 z2 z3 z4 z5 z6 z7 HYf E1 E2 E3
      obtain ⟨m1, m2⟩ := N1.out
      have m3 := N2.out
      go_wp2
      go_ret
      exact ⟨rfl, YC.out⟩
end Go.Proofs.Ytonhgekkdohpkaa
