/- rec: readAll of structs. Own lemmas, no statement. -/
import Derived.Test.YthkmohcdgnldgaaGreatRecR3
set_option linter.unusedSimpArgs false
set_option linter.unusedVariables false
namespace Go.Proofs.YthkmohcdgnldgaaGreat
open Go.ChangeShapes Go.WideShapes Go.ChangeAt Go.RowKit

theorem OpenV_len (x : OpenV) : (OpenV.c x).length = 7 := rfl
theorem OpenV_one (x : OpenV) : ∀ u ∈ OpenV.c x, u.oneCell' = true := by
  intro u hu
  simp only [OpenV.c, List.mem_cons, List.not_mem_nil, or_false] at hu
  rcases hu with rfl | rfl | rfl | rfl | rfl | rfl | rfl <;> rfl
theorem infoOpenV : (Tryz.prog.info? 45).map (fun i => (i.zero, i.size, i.bytes)) = some (some (.agg #[.int .u64 0, .int .i64 0, .int .u64 0, .int .u64 0, .int .i64 0, .bool false, .slice none 0 0]), 7, 72) := by kernel_rfl
set_option maxRecDepth 100000 in
set_option maxHeartbeats 4000000 in
theorem readAllO (most : Nat) (hm : most ≤ 1000) (g b : Nat) (l : List UInt8) (err : Nat) (w : World) (h : Rdr w g b l err) :
    Calls Tryz.prog 85 #[.pointer (some ⟨g, 0, none⟩), .int .u64 (most : Int), .func (.func 86) #[] #[]] w (ReadP (rall ropen most) g b l err (vRows 7 OpenV.c (fun W x => OpenV.At W x) OpenV.q) w) := by
  have HC : Hid (Calls _ _ _ _ _) := num_any g b l err most w h
  have hle : (rnum l err most).1 ≤ most := rnum_le _ _ _
  have HGB : Hid (g < w.heap.size ∧ b < w.heap.size) := ⟨h.lt, h.2.1⟩
  have HP : Hid (ReadP (rall ropen most) g b l err (vRows 7 OpenV.c (fun W x => OpenV.At W x) OpenV.q) w = ReadP (fun _ _ => rtk ropen (rnum l err most).1 (rnum l err most).2.1 (rnum l err most).2.2) g b l err (vRows 7 OpenV.c (fun W x => OpenV.At W x) OpenV.q) w) := rfl
  rw [HP.out]
  clear h HP
  generalize rnum l err most = R at *
  obtain ⟨N, L, E⟩ := R
  simp only at hle
  have hN : N ≤ 1000 := by omega
  clear hle hm
  go_enter Tryz.func85, Tryz.ntmps85
  go_wp2_with fail
  refine HC.out.mono ?_
  rintro e w1 ⟨rfl, h1, h2⟩
  have HR : Hid (Rdr w1 g b L E) := h1
  have HG : Hid (w.grownBy w1 (some g)) := h2
  clear h1 h2 HC
  go_wp2
  go_loopw [7, 11] (fun v i wr => ∃ (k : Nat) (xs : List OpenV), i = .int .u64 (k : Int) ∧ k ≤ N ∧ xs.length = k ∧ RowI wr w.heap.size 45 7 OpenV.c (fun W x => OpenV.At W x) v xs ∧ xs.map OpenV.q = (rtk ropen k L E).1 ∧ Rdr wr g b (rtk ropen k L E).2.1 (rtk ropen k L E).2.2 ∧ w.grownBy wr (some g)) (fun _ i _ => N - (intOf i).toNat)
  case atStart => exact ⟨0, [], rfl, Nat.zero_le _, rfl, RowI.nil _ _ _ _ _ _, rfl, HR.out, HG.out⟩
  case round =>
    obtain ⟨k, xs, rfl, hk, hxl, ho, hq, hr, hg⟩ := hrel
    clear HR HG
    have HO : Hid (RowI wr w.heap.size 45 7 OpenV.c (fun W x => OpenV.At W x) _ xs) := ho
    have HR : Hid (Rdr wr g b (rtk ropen k L E).2.1 (rtk ropen k L E).2.2) := hr
    have HG : Hid (w.grownBy wr (some g)) := hg
    have HQ : Hid (xs.map OpenV.q = (rtk ropen k L E).1) := hq
    have HL : Hid (xs.length = k) := hxl
    clear ho hr hg hq hxl
    by_cases hlt : k < N
    · have hi2 : (k : Int) < (N : Int) := by omega
      have HS : Hid (rtk ropen (k + 1) L E = ((rtk ropen k L E).1 ++ [(ropen (rtk ropen k L E).2.1 (rtk ropen k L E).2.2).1], (ropen (rtk ropen k L E).2.1 (rtk ropen k L E).2.2).2.1, (ropen (rtk ropen k L E).2.1 (rtk ropen k L E).2.2).2.2)) := rtk_succ ropen k L E
      have HC : Hid (Calls _ _ _ _ _) := ropen_read g b _ _ wr HR.out
      generalize rtk ropen k L E = S at *
      obtain ⟨S1, S2, S3⟩ := S
      go_wp2_with fail
      refine HC.out.mono ?_
      rintro e w2 ⟨v2, rfl, hv, h1, h2⟩
      obtain ⟨x, hvx, hxq, hsta⟩ := hv
      have HXQ : Hid (x.q = (ropen S2 S3).1) := hxq
      have HSTA : Hid (StaI wr.heap.size w2.heap.size w2 fun W => OpenV.At W x) := hsta
      have HR2 : Hid (Rdr w2 g b (ropen S2 S3).2.1 (ropen S2 S3).2.2) := h1
      have HO2 : Hid (RowI w2 w.heap.size 45 7 OpenV.c (fun W x => OpenV.At W x) _ xs) := HO.out.grown h2 HGB.out.1
      have HAP : Hid (∀ j, Value.ownBlock _ = some j → j < wr.heap.size ∨ w2.heap.size ≤ j) := fun j hj => .inl (HO.out.own.lt j hj).2
      have HWS : Hid (w.heap.size ≤ wr.heap.size) := HG.out.size
      have HG2 : Hid (w.grownBy w2 (some g)) := grownBy_trans HG.out h2
      clear hxq hsta h1 h2 HC HO HR HG
      generalize (ropen S2 S3).1 = X at *
      generalize (ropen S2 S3).2.1 = L2 at *
      generalize (ropen S2 S3).2.2 = E2 at *
      have hvx2 : v2 = .agg #[.int .u64 x.num, .int .i64 x.node, .int .u64 x.last, .int .u64 x.first, .int .i64 x.count, .bool x.ready, .slice x.ra x.rn x.rc] := hvx
      subst hvx2
      clear hvx
      have HSZ : Hid (w.heap.size ≤ w2.heap.size) := HG2.out.size
      go_wp2_with (at_builtin; refine wpList_pushN w2 rfl _ _ 28 45 (.agg #[.int .u64 0, .int .i64 0, .int .u64 0, .int .u64 0, .int .i64 0, .bool false, .slice none 0 0]) 7 72 Tryz.underlying28 infoOpenV rfl (by decide) rfl w.heap.size _ OpenV.c xs x _ rfl OpenV_len (OpenV_one x) HO2.out.own rfl rfl (by have := HL.out; omega) (by decide) HSZ.out ?_)
      intro a3 n3 c3 w3 hn3 ho hg hat
      have HO3 : Hid (RowI w3 w.heap.size 45 7 OpenV.c (fun W x => OpenV.At W x) (.slice a3 n3 c3) (xs ++ [x])) := HO2.out.push HSTA.out HWS.out (Nat.le_refl _) HAP.out ho hg hat
      have HR3 : Hid (Rdr w3 g b L2 E2) := rdr_push HR2.out hg (fun j hj => by have h1 := (HO2.out.own.lt j hj).1; have h2 := HGB.out; omega)
      have HG3 : Hid (w.grownBy w3 (some g)) := grown_push HG2.out hg (fun j hj => (HO2.out.own.lt j hj).1)
      have HQ3 : Hid ((xs ++ [x]).map OpenV.q = S1 ++ [X]) := by
        have h1 := HQ.out
        show _ = _
        rw [List.map_append, h1, List.map_singleton, HXQ.out]
      have HL3 : Hid ((xs ++ [x]).length = k + 1) := by show _ = _; rw [List.length_append, HL.out]; rfl
      clear hn3 ho hg hat HO2 HR2 HG2 HSTA HAP HWS
      generalize xs ++ [x] = ys at *
      go_wp2
      go_roundw
      case rel => exact ⟨k + 1, ys, by go_num, by omega, HL3.out, HO3.out, by rw [HS.out]; exact HQ3.out, by rw [HS.out]; exact HR3.out, HG3.out⟩
      case measure => simp [intOf]; omega
    · have hkn : k = N := by omega
      subst hkn
      clear hlt hk
      have hrow := rows_of_own OpenV_len HO.out.own
      obtain ⟨n4, a4, c4, hv4⟩ := hrow.any
      subst hv4
      clear hrow
      go_wp2
      go_ret
      exact ⟨_, rfl, ⟨xs, HQ.out, ⟨_, _, _, rfl⟩, HO.out.sta OpenV_len⟩, HR.out, HG.out⟩

theorem DoneV_len (x : DoneV) : (DoneV.c x).length = 3 := rfl
theorem DoneV_one (x : DoneV) : ∀ u ∈ DoneV.c x, u.oneCell' = true := by
  intro u hu
  simp only [DoneV.c, List.mem_cons, List.not_mem_nil, or_false] at hu
  rcases hu with rfl | rfl | rfl <;> rfl
theorem infoDoneV : (Tryz.prog.info? 51).map (fun i => (i.zero, i.size, i.bytes)) = some (some (.agg #[.int .u64 0, .int .i64 0, .slice none 0 0]), 3, 40) := by kernel_rfl
set_option maxRecDepth 100000 in
set_option maxHeartbeats 4000000 in
theorem readAllD (most : Nat) (hm : most ≤ 1000) (g b : Nat) (l : List UInt8) (err : Nat) (w : World) (h : Rdr w g b l err) :
    Calls Tryz.prog 87 #[.pointer (some ⟨g, 0, none⟩), .int .u64 (most : Int), .func (.func 88) #[] #[]] w (ReadP (rall rdone most) g b l err (vRows 3 DoneV.c (fun W x => DoneV.At W x) DoneV.q) w) := by
  have HC : Hid (Calls _ _ _ _ _) := num_any g b l err most w h
  have hle : (rnum l err most).1 ≤ most := rnum_le _ _ _
  have HGB : Hid (g < w.heap.size ∧ b < w.heap.size) := ⟨h.lt, h.2.1⟩
  have HP : Hid (ReadP (rall rdone most) g b l err (vRows 3 DoneV.c (fun W x => DoneV.At W x) DoneV.q) w = ReadP (fun _ _ => rtk rdone (rnum l err most).1 (rnum l err most).2.1 (rnum l err most).2.2) g b l err (vRows 3 DoneV.c (fun W x => DoneV.At W x) DoneV.q) w) := rfl
  rw [HP.out]
  clear h HP
  generalize rnum l err most = R at *
  obtain ⟨N, L, E⟩ := R
  simp only at hle
  have hN : N ≤ 1000 := by omega
  clear hle hm
  go_enter Tryz.func87, Tryz.ntmps87
  go_wp2_with fail
  refine HC.out.mono ?_
  rintro e w1 ⟨rfl, h1, h2⟩
  have HR : Hid (Rdr w1 g b L E) := h1
  have HG : Hid (w.grownBy w1 (some g)) := h2
  clear h1 h2 HC
  go_wp2
  go_loopw [7, 11] (fun v i wr => ∃ (k : Nat) (xs : List DoneV), i = .int .u64 (k : Int) ∧ k ≤ N ∧ xs.length = k ∧ RowI wr w.heap.size 51 3 DoneV.c (fun W x => DoneV.At W x) v xs ∧ xs.map DoneV.q = (rtk rdone k L E).1 ∧ Rdr wr g b (rtk rdone k L E).2.1 (rtk rdone k L E).2.2 ∧ w.grownBy wr (some g)) (fun _ i _ => N - (intOf i).toNat)
  case atStart => exact ⟨0, [], rfl, Nat.zero_le _, rfl, RowI.nil _ _ _ _ _ _, rfl, HR.out, HG.out⟩
  case round =>
    obtain ⟨k, xs, rfl, hk, hxl, ho, hq, hr, hg⟩ := hrel
    clear HR HG
    have HO : Hid (RowI wr w.heap.size 51 3 DoneV.c (fun W x => DoneV.At W x) _ xs) := ho
    have HR : Hid (Rdr wr g b (rtk rdone k L E).2.1 (rtk rdone k L E).2.2) := hr
    have HG : Hid (w.grownBy wr (some g)) := hg
    have HQ : Hid (xs.map DoneV.q = (rtk rdone k L E).1) := hq
    have HL : Hid (xs.length = k) := hxl
    clear ho hr hg hq hxl
    by_cases hlt : k < N
    · have hi2 : (k : Int) < (N : Int) := by omega
      have HS : Hid (rtk rdone (k + 1) L E = ((rtk rdone k L E).1 ++ [(rdone (rtk rdone k L E).2.1 (rtk rdone k L E).2.2).1], (rdone (rtk rdone k L E).2.1 (rtk rdone k L E).2.2).2.1, (rdone (rtk rdone k L E).2.1 (rtk rdone k L E).2.2).2.2)) := rtk_succ rdone k L E
      have HC : Hid (Calls _ _ _ _ _) := rdone_read g b _ _ wr HR.out
      generalize rtk rdone k L E = S at *
      obtain ⟨S1, S2, S3⟩ := S
      go_wp2_with fail
      refine HC.out.mono ?_
      rintro e w2 ⟨v2, rfl, hv, h1, h2⟩
      obtain ⟨x, hvx, hxq, hsta⟩ := hv
      have HXQ : Hid (x.q = (rdone S2 S3).1) := hxq
      have HSTA : Hid (StaI wr.heap.size w2.heap.size w2 fun W => DoneV.At W x) := hsta
      have HR2 : Hid (Rdr w2 g b (rdone S2 S3).2.1 (rdone S2 S3).2.2) := h1
      have HO2 : Hid (RowI w2 w.heap.size 51 3 DoneV.c (fun W x => DoneV.At W x) _ xs) := HO.out.grown h2 HGB.out.1
      have HAP : Hid (∀ j, Value.ownBlock _ = some j → j < wr.heap.size ∨ w2.heap.size ≤ j) := fun j hj => .inl (HO.out.own.lt j hj).2
      have HWS : Hid (w.heap.size ≤ wr.heap.size) := HG.out.size
      have HG2 : Hid (w.grownBy w2 (some g)) := grownBy_trans HG.out h2
      clear hxq hsta h1 h2 HC HO HR HG
      generalize (rdone S2 S3).1 = X at *
      generalize (rdone S2 S3).2.1 = L2 at *
      generalize (rdone S2 S3).2.2 = E2 at *
      have hvx2 : v2 = .agg #[.int .u64 x.num, .int .i64 x.node, .slice x.na x.nn x.nc] := hvx
      subst hvx2
      clear hvx
      have HSZ : Hid (w.heap.size ≤ w2.heap.size) := HG2.out.size
      go_wp2_with (at_builtin; refine wpList_pushN w2 rfl _ _ 29 51 (.agg #[.int .u64 0, .int .i64 0, .slice none 0 0]) 3 40 Tryz.underlying29 infoDoneV rfl (by decide) rfl w.heap.size _ DoneV.c xs x _ rfl DoneV_len (DoneV_one x) HO2.out.own rfl rfl (by have := HL.out; omega) (by decide) HSZ.out ?_)
      intro a3 n3 c3 w3 hn3 ho hg hat
      have HO3 : Hid (RowI w3 w.heap.size 51 3 DoneV.c (fun W x => DoneV.At W x) (.slice a3 n3 c3) (xs ++ [x])) := HO2.out.push HSTA.out HWS.out (Nat.le_refl _) HAP.out ho hg hat
      have HR3 : Hid (Rdr w3 g b L2 E2) := rdr_push HR2.out hg (fun j hj => by have h1 := (HO2.out.own.lt j hj).1; have h2 := HGB.out; omega)
      have HG3 : Hid (w.grownBy w3 (some g)) := grown_push HG2.out hg (fun j hj => (HO2.out.own.lt j hj).1)
      have HQ3 : Hid ((xs ++ [x]).map DoneV.q = S1 ++ [X]) := by
        have h1 := HQ.out
        show _ = _
        rw [List.map_append, h1, List.map_singleton, HXQ.out]
      have HL3 : Hid ((xs ++ [x]).length = k + 1) := by show _ = _; rw [List.length_append, HL.out]; rfl
      clear hn3 ho hg hat HO2 HR2 HG2 HSTA HAP HWS
      generalize xs ++ [x] = ys at *
      go_wp2
      go_roundw
      case rel => exact ⟨k + 1, ys, by go_num, by omega, HL3.out, HO3.out, by rw [HS.out]; exact HQ3.out, by rw [HS.out]; exact HR3.out, HG3.out⟩
      case measure => simp [intOf]; omega
    · have hkn : k = N := by omega
      subst hkn
      clear hlt hk
      have hrow := rows_of_own DoneV_len HO.out.own
      obtain ⟨n4, a4, c4, hv4⟩ := hrow.any
      subst hv4
      clear hrow
      go_wp2
      go_ret
      exact ⟨_, rfl, ⟨xs, HQ.out, ⟨_, _, _, rfl⟩, HO.out.sta DoneV_len⟩, HR.out, HG.out⟩

theorem ChgV_len (x : ChgV) : (ChgV.c x).length = 9 := rfl
theorem ChgV_one (x : ChgV) : ∀ u ∈ ChgV.c x, u.oneCell' = true := by
  intro u hu
  simp only [ChgV.c, List.mem_cons, List.not_mem_nil, or_false] at hu
  rcases hu with rfl | rfl | rfl | rfl | rfl | rfl | rfl | rfl | rfl <;> rfl
theorem infoChgV : (Tryz.prog.info? 49).map (fun i => (i.zero, i.size, i.bytes)) = some (some (.agg #[.int .i64 0, .int .i64 0, .slice none 0 0, .slice none 0 0, .slice none 0 0, .int .i64 0, .int .i64 0, .int .i64 0, .int .i64 0]), 9, 120) := by kernel_rfl
set_option maxRecDepth 100000 in
set_option maxHeartbeats 4000000 in
theorem readAllC (most : Nat) (hm : most ≤ 1000) (g b : Nat) (l : List UInt8) (err : Nat) (w : World) (h : Rdr w g b l err) :
    Calls Tryz.prog 102 #[.pointer (some ⟨g, 0, none⟩), .int .u64 (most : Int), .func (.func 103) #[] #[]] w (ReadP (rall rchg most) g b l err (vRows 9 ChgV.c (fun W x => ChgV.At W x) ChgV.q) w) := by
  have HC : Hid (Calls _ _ _ _ _) := num_any g b l err most w h
  have hle : (rnum l err most).1 ≤ most := rnum_le _ _ _
  have HGB : Hid (g < w.heap.size ∧ b < w.heap.size) := ⟨h.lt, h.2.1⟩
  have HP : Hid (ReadP (rall rchg most) g b l err (vRows 9 ChgV.c (fun W x => ChgV.At W x) ChgV.q) w = ReadP (fun _ _ => rtk rchg (rnum l err most).1 (rnum l err most).2.1 (rnum l err most).2.2) g b l err (vRows 9 ChgV.c (fun W x => ChgV.At W x) ChgV.q) w) := rfl
  rw [HP.out]
  clear h HP
  generalize rnum l err most = R at *
  obtain ⟨N, L, E⟩ := R
  simp only at hle
  have hN : N ≤ 1000 := by omega
  clear hle hm
  go_enter Tryz.func102, Tryz.ntmps102
  go_wp2_with fail
  refine HC.out.mono ?_
  rintro e w1 ⟨rfl, h1, h2⟩
  have HR : Hid (Rdr w1 g b L E) := h1
  have HG : Hid (w.grownBy w1 (some g)) := h2
  clear h1 h2 HC
  go_wp2
  go_loopw [7, 11] (fun v i wr => ∃ (k : Nat) (xs : List ChgV), i = .int .u64 (k : Int) ∧ k ≤ N ∧ xs.length = k ∧ RowI wr w.heap.size 49 9 ChgV.c (fun W x => ChgV.At W x) v xs ∧ xs.map ChgV.q = (rtk rchg k L E).1 ∧ Rdr wr g b (rtk rchg k L E).2.1 (rtk rchg k L E).2.2 ∧ w.grownBy wr (some g)) (fun _ i _ => N - (intOf i).toNat)
  case atStart => exact ⟨0, [], rfl, Nat.zero_le _, rfl, RowI.nil _ _ _ _ _ _, rfl, HR.out, HG.out⟩
  case round =>
    obtain ⟨k, xs, rfl, hk, hxl, ho, hq, hr, hg⟩ := hrel
    clear HR HG
    have HO : Hid (RowI wr w.heap.size 49 9 ChgV.c (fun W x => ChgV.At W x) _ xs) := ho
    have HR : Hid (Rdr wr g b (rtk rchg k L E).2.1 (rtk rchg k L E).2.2) := hr
    have HG : Hid (w.grownBy wr (some g)) := hg
    have HQ : Hid (xs.map ChgV.q = (rtk rchg k L E).1) := hq
    have HL : Hid (xs.length = k) := hxl
    clear ho hr hg hq hxl
    by_cases hlt : k < N
    · have hi2 : (k : Int) < (N : Int) := by omega
      have HS : Hid (rtk rchg (k + 1) L E = ((rtk rchg k L E).1 ++ [(rchg (rtk rchg k L E).2.1 (rtk rchg k L E).2.2).1], (rchg (rtk rchg k L E).2.1 (rtk rchg k L E).2.2).2.1, (rchg (rtk rchg k L E).2.1 (rtk rchg k L E).2.2).2.2)) := rtk_succ rchg k L E
      have HC : Hid (Calls _ _ _ _ _) := rchg_read g b _ _ wr HR.out
      generalize rtk rchg k L E = S at *
      obtain ⟨S1, S2, S3⟩ := S
      go_wp2_with fail
      refine HC.out.mono ?_
      rintro e w2 ⟨v2, rfl, hv, h1, h2⟩
      obtain ⟨x, hvx, hxq, hsta⟩ := hv
      have HXQ : Hid (x.q = (rchg S2 S3).1) := hxq
      have HSTA : Hid (StaI wr.heap.size w2.heap.size w2 fun W => ChgV.At W x) := hsta
      have HR2 : Hid (Rdr w2 g b (rchg S2 S3).2.1 (rchg S2 S3).2.2) := h1
      have HO2 : Hid (RowI w2 w.heap.size 49 9 ChgV.c (fun W x => ChgV.At W x) _ xs) := HO.out.grown h2 HGB.out.1
      have HAP : Hid (∀ j, Value.ownBlock _ = some j → j < wr.heap.size ∨ w2.heap.size ≤ j) := fun j hj => .inl (HO.out.own.lt j hj).2
      have HWS : Hid (w.heap.size ≤ wr.heap.size) := HG.out.size
      have HG2 : Hid (w.grownBy w2 (some g)) := grownBy_trans HG.out h2
      clear hxq hsta h1 h2 HC HO HR HG
      generalize (rchg S2 S3).1 = X at *
      generalize (rchg S2 S3).2.1 = L2 at *
      generalize (rchg S2 S3).2.2 = E2 at *
      have hvx2 : v2 = .agg #[.int .i64 x.n, .int .i64 x.p.kind, .slice x.ka x.kn x.kc, .slice x.va x.vn x.vc, .slice x.da x.dn x.dc, .int .i64 x.p.root, .int .i64 x.p.next, .int .i64 x.p.size, .int .i64 x.p.idle] := hvx
      subst hvx2
      clear hvx
      have HSZ : Hid (w.heap.size ≤ w2.heap.size) := HG2.out.size
      go_wp2_with (at_builtin; refine wpList_pushN w2 rfl _ _ 27 49 (.agg #[.int .i64 0, .int .i64 0, .slice none 0 0, .slice none 0 0, .slice none 0 0, .int .i64 0, .int .i64 0, .int .i64 0, .int .i64 0]) 9 120 Tryz.underlying27 infoChgV rfl (by decide) rfl w.heap.size _ ChgV.c xs x _ rfl ChgV_len (ChgV_one x) HO2.out.own rfl rfl (by have := HL.out; omega) (by decide) HSZ.out ?_)
      intro a3 n3 c3 w3 hn3 ho hg hat
      have HO3 : Hid (RowI w3 w.heap.size 49 9 ChgV.c (fun W x => ChgV.At W x) (.slice a3 n3 c3) (xs ++ [x])) := HO2.out.push HSTA.out HWS.out (Nat.le_refl _) HAP.out ho hg hat
      have HR3 : Hid (Rdr w3 g b L2 E2) := rdr_push HR2.out hg (fun j hj => by have h1 := (HO2.out.own.lt j hj).1; have h2 := HGB.out; omega)
      have HG3 : Hid (w.grownBy w3 (some g)) := grown_push HG2.out hg (fun j hj => (HO2.out.own.lt j hj).1)
      have HQ3 : Hid ((xs ++ [x]).map ChgV.q = S1 ++ [X]) := by
        have h1 := HQ.out
        show _ = _
        rw [List.map_append, h1, List.map_singleton, HXQ.out]
      have HL3 : Hid ((xs ++ [x]).length = k + 1) := by show _ = _; rw [List.length_append, HL.out]; rfl
      clear hn3 ho hg hat HO2 HR2 HG2 HSTA HAP HWS
      generalize xs ++ [x] = ys at *
      go_wp2
      go_roundw
      case rel => exact ⟨k + 1, ys, by go_num, by omega, HL3.out, HO3.out, by rw [HS.out]; exact HQ3.out, by rw [HS.out]; exact HR3.out, HG3.out⟩
      case measure => simp [intOf]; omega
    · have hkn : k = N := by omega
      subst hkn
      clear hlt hk
      have hrow := rows_of_own ChgV_len HO.out.own
      obtain ⟨n4, a4, c4, hv4⟩ := hrow.any
      subst hv4
      clear hrow
      go_wp2
      go_ret
      exact ⟨_, rfl, ⟨xs, HQ.out, ⟨_, _, _, rfl⟩, HO.out.sta ChgV_len⟩, HR.out, HG.out⟩
end Go.Proofs.YthkmohcdgnldgaaGreat
