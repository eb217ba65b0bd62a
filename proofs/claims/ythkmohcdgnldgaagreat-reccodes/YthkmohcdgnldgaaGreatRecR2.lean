/- rec: readAll of texts and of numbers. Own lemmas, no statement. -/
import Derived.Test.YthkmohcdgnldgaaGreatRecR1
set_option linter.unusedSimpArgs false
set_option linter.unusedVariables false
namespace Go.Proofs.YthkmohcdgnldgaaGreat
open Go.ChangeShapes Go.WideShapes Go.ChangeAt Go.RowKit

set_option maxRecDepth 100000 in
set_option maxHeartbeats 4000000 in
theorem readAllS (most : Nat) (hm : most ≤ 1000) (g b : Nat) (l : List UInt8) (err : Nat) (w : World) (h : Rdr w g b l err) :
    Calls Tryz.prog 104 #[.pointer (some ⟨g, 0, none⟩), .int .u64 (most : Int), .func (.func 105) #[] #[]] w (ReadP (rall (rstr 24) most) g b l err vStrs w) := by
  have HC : Hid (Calls _ _ _ _ _) := num_any g b l err most w h
  have hle : (rnum l err most).1 ≤ most := rnum_le _ _ _
  have HGB : Hid (g < w.heap.size ∧ b < w.heap.size) := ⟨h.lt, h.2.1⟩
  have HP : Hid (ReadP (rall (rstr 24) most) g b l err vStrs w = ReadP (fun _ _ => rtk (rstr 24) (rnum l err most).1 (rnum l err most).2.1 (rnum l err most).2.2) g b l err vStrs w) := rfl
  rw [HP.out]
  clear h HP
  generalize rnum l err most = R at *
  obtain ⟨N, L, E⟩ := R
  simp only at hle
  have hN : N ≤ 1000 := by omega
  clear hle hm
  go_enter Tryz.func104, Tryz.ntmps104
  go_wp2_with fail
  refine HC.out.mono ?_
  rintro e w1 ⟨rfl, h1, h2⟩
  have HR : Hid (Rdr w1 g b L E) := h1
  have HG : Hid (w.grownBy w1 (some g)) := h2
  clear h1 h2 HC
  go_wp2
  go_loopw [7, 11] (fun v i wr => ∃ k : Nat, i = .int .u64 (k : Int) ∧ k ≤ N ∧ OwnV wr w.heap.size 9 v (sv (rtk (rstr 24) k L E).1) ∧ (rtk (rstr 24) k L E).1.length = k ∧ Rdr wr g b (rtk (rstr 24) k L E).2.1 (rtk (rstr 24) k L E).2.2 ∧ w.grownBy wr (some g)) (fun _ i _ => N - (intOf i).toNat)
  case atStart => exact ⟨0, rfl, Nat.zero_le _, OwnV.nil _ _ _, rfl, HR.out, HG.out⟩
  case round =>
    obtain ⟨k, rfl, hk, ho, hkl, hr, hg⟩ := hrel
    clear HR HG
    have HO : Hid (OwnV wr w.heap.size 9 _ (sv (rtk (rstr 24) k L E).1)) := ho
    have HR : Hid (Rdr wr g b (rtk (rstr 24) k L E).2.1 (rtk (rstr 24) k L E).2.2) := hr
    have HG : Hid (w.grownBy wr (some g)) := hg
    have HL : Hid ((rtk (rstr 24) k L E).1.length = k) := hkl
    clear ho hr hg hkl
    by_cases hlt : k < N
    · have hi2 : (k : Int) < (N : Int) := by omega
      have HS : Hid (rtk (rstr 24) (k + 1) L E = ((rtk (rstr 24) k L E).1 ++ [((rstr 24) (rtk (rstr 24) k L E).2.1 (rtk (rstr 24) k L E).2.2).1], ((rstr 24) (rtk (rstr 24) k L E).2.1 (rtk (rstr 24) k L E).2.2).2.1, ((rstr 24) (rtk (rstr 24) k L E).2.1 (rtk (rstr 24) k L E).2.2).2.2)) := rtk_succ (rstr 24) k L E
      have HC : Hid (Calls _ _ _ _ _) := rkey_read g b _ _ wr HR.out
      generalize rtk (rstr 24) k L E = S at *
      obtain ⟨S1, S2, S3⟩ := S
      go_wp2_with fail
      refine HC.out.mono ?_
      rintro e w2 ⟨v2, rfl, hv, h1, h2⟩
      have HV : Hid (v2 = .string ((rstr 24) S2 S3).1) := hv
      have HR2 : Hid (Rdr w2 g b ((rstr 24) S2 S3).2.1 ((rstr 24) S2 S3).2.2) := h1
      have HO2 : Hid (OwnV w2 w.heap.size 9 _ (sv S1)) := OwnV.kept HO.out fun j hj => h2.block j (HO.out.blk j hj).2 (fun e => by cases e; have := (HO.out.blk _ hj).1; have := HGB.out.1; omega)
      have HG2 : Hid (w.grownBy w2 (some g)) := grownBy_trans HG.out h2
      clear hv h1 h2 HC HO HR HG
      have hv2 := HV.out
      generalize ((rstr 24) S2 S3).1 = X at *
      generalize ((rstr 24) S2 S3).2.1 = L2 at *
      generalize ((rstr 24) S2 S3).2.2 = E2 at *
      subst hv2
      have HSZ : Hid (w.heap.size ≤ w2.heap.size) := HG2.out.size
      go_wp2_with (at_builtin; refine wpList_pushS w2 rfl _ _ rfl w.heap.size _ S1 X HO2.out rfl rfl (by have := HL.out; omega) HSZ.out ?_)
      intro a3 n3 c3 w3 hn3 ho hg hat
      have HO3 : Hid (OwnV w3 w.heap.size 9 (.slice a3 n3 c3) (sv (S1 ++ [X]))) := ho
      have HR3 : Hid (Rdr w3 g b L2 E2) := rdr_push HR2.out hg (fun j hj => by have h1 := (HO2.out.blk j hj).1; have h2 := HGB.out; omega)
      have HG3 : Hid (w.grownBy w3 (some g)) := grown_push HG2.out hg (fun j hj => (HO2.out.blk j hj).1)
      clear hn3 ho hg hat HO2 HR2 HG2 HV
      go_wp2
      go_roundw
      case rel => exact ⟨k + 1, by go_num, by omega, by rw [HS.out]; exact HO3.out, by rw [HS.out]; have := HL.out; simp [this], by rw [HS.out]; exact HR3.out, HG3.out⟩
      case measure => simp [intOf]; omega
    · have hkn : k = N := by omega
      subst hkn
      clear hlt hk
      obtain ⟨a4, c4, hv4⟩ := HO.out.rd.form
      subst hv4
      go_wp2
      go_ret
      exact ⟨_, rfl, ⟨_, _, _, rfl, ownV_sta HO.out⟩, HR.out, HG.out⟩

set_option maxRecDepth 100000 in
set_option maxHeartbeats 4000000 in
theorem readAllI (most : Nat) (hm : most ≤ 1000) (g b : Nat) (l : List UInt8) (err : Nat) (w : World) (h : Rdr w g b l err) :
    Calls Tryz.prog 106 #[.pointer (some ⟨g, 0, none⟩), .int .u64 (most : Int), .func (.func 107) #[] #[]] w (ReadP (rall (rint 63) most) g b l err vInts w) := by
  have HC : Hid (Calls _ _ _ _ _) := num_any g b l err most w h
  have hle : (rnum l err most).1 ≤ most := rnum_le _ _ _
  have HGB : Hid (g < w.heap.size ∧ b < w.heap.size) := ⟨h.lt, h.2.1⟩
  have HP : Hid (ReadP (rall (rint 63) most) g b l err vInts w = ReadP (fun _ _ => rtk (rint 63) (rnum l err most).1 (rnum l err most).2.1 (rnum l err most).2.2) g b l err vInts w) := rfl
  rw [HP.out]
  clear h HP
  generalize rnum l err most = R at *
  obtain ⟨N, L, E⟩ := R
  simp only at hle
  have hN : N ≤ 1000 := by omega
  clear hle hm
  go_enter Tryz.func106, Tryz.ntmps106
  go_wp2_with fail
  refine HC.out.mono ?_
  rintro e w1 ⟨rfl, h1, h2⟩
  have HR : Hid (Rdr w1 g b L E) := h1
  have HG : Hid (w.grownBy w1 (some g)) := h2
  clear h1 h2 HC
  go_wp2
  go_loopw [7, 11] (fun v i wr => ∃ k : Nat, i = .int .u64 (k : Int) ∧ k ≤ N ∧ OwnV wr w.heap.size 3 v (iv (rtk (rint 63) k L E).1) ∧ (rtk (rint 63) k L E).1.length = k ∧ Rdr wr g b (rtk (rint 63) k L E).2.1 (rtk (rint 63) k L E).2.2 ∧ w.grownBy wr (some g)) (fun _ i _ => N - (intOf i).toNat)
  case atStart => exact ⟨0, rfl, Nat.zero_le _, OwnV.nil _ _ _, rfl, HR.out, HG.out⟩
  case round =>
    obtain ⟨k, rfl, hk, ho, hkl, hr, hg⟩ := hrel
    clear HR HG
    have HO : Hid (OwnV wr w.heap.size 3 _ (iv (rtk (rint 63) k L E).1)) := ho
    have HR : Hid (Rdr wr g b (rtk (rint 63) k L E).2.1 (rtk (rint 63) k L E).2.2) := hr
    have HG : Hid (w.grownBy wr (some g)) := hg
    have HL : Hid ((rtk (rint 63) k L E).1.length = k) := hkl
    clear ho hr hg hkl
    by_cases hlt : k < N
    · have hi2 : (k : Int) < (N : Int) := by omega
      have HS : Hid (rtk (rint 63) (k + 1) L E = ((rtk (rint 63) k L E).1 ++ [((rint 63) (rtk (rint 63) k L E).2.1 (rtk (rint 63) k L E).2.2).1], ((rint 63) (rtk (rint 63) k L E).2.1 (rtk (rint 63) k L E).2.2).2.1, ((rint 63) (rtk (rint 63) k L E).2.1 (rtk (rint 63) k L E).2.2).2.2)) := rtk_succ (rint 63) k L E
      have HC : Hid (Calls _ _ _ _ _) := rnode_read g b _ _ wr HR.out
      generalize rtk (rint 63) k L E = S at *
      obtain ⟨S1, S2, S3⟩ := S
      go_wp2_with fail
      refine HC.out.mono ?_
      rintro e w2 ⟨v2, rfl, hv, h1, h2⟩
      have HV : Hid (v2 = .int .i64 ((rint 63) S2 S3).1) := hv
      have HR2 : Hid (Rdr w2 g b ((rint 63) S2 S3).2.1 ((rint 63) S2 S3).2.2) := h1
      have HO2 : Hid (OwnV w2 w.heap.size 3 _ (iv S1)) := OwnV.kept HO.out fun j hj => h2.block j (HO.out.blk j hj).2 (fun e => by cases e; have := (HO.out.blk _ hj).1; have := HGB.out.1; omega)
      have HG2 : Hid (w.grownBy w2 (some g)) := grownBy_trans HG.out h2
      clear hv h1 h2 HC HO HR HG
      have hv2 := HV.out
      generalize ((rint 63) S2 S3).1 = X at *
      generalize ((rint 63) S2 S3).2.1 = L2 at *
      generalize ((rint 63) S2 S3).2.2 = E2 at *
      subst hv2
      have HSZ : Hid (w.heap.size ≤ w2.heap.size) := HG2.out.size
      go_wp2_with (at_builtin; refine wpList_pushI w2 rfl _ _ rfl w.heap.size _ S1 X HO2.out rfl rfl (by have := HL.out; omega) HSZ.out ?_)
      intro a3 n3 c3 w3 hn3 ho hg hat
      have HO3 : Hid (OwnV w3 w.heap.size 3 (.slice a3 n3 c3) (iv (S1 ++ [X]))) := ho
      have HR3 : Hid (Rdr w3 g b L2 E2) := rdr_push HR2.out hg (fun j hj => by have h1 := (HO2.out.blk j hj).1; have h2 := HGB.out; omega)
      have HG3 : Hid (w.grownBy w3 (some g)) := grown_push HG2.out hg (fun j hj => (HO2.out.blk j hj).1)
      clear hn3 ho hg hat HO2 HR2 HG2 HV
      go_wp2
      go_roundw
      case rel => exact ⟨k + 1, by go_num, by omega, by rw [HS.out]; exact HO3.out, by rw [HS.out]; have := HL.out; simp [this], by rw [HS.out]; exact HR3.out, HG3.out⟩
      case measure => simp [intOf]; omega
    · have hkn : k = N := by omega
      subst hkn
      clear hlt hk
      obtain ⟨a4, c4, hv4⟩ := HO.out.rd.form
      subst hv4
      go_wp2
      go_ret
      exact ⟨_, rfl, ⟨_, _, _, rfl, ownV_sta HO.out⟩, HR.out, HG.out⟩

set_option maxHeartbeats 1000000 in
theorem rreads_read (g b : Nat) (l : List UInt8) (err : Nat) (w : World) (h : Rdr w g b l err) : Calls Tryz.prog 83 #[.pointer (some ⟨g, 0, none⟩)] w (ReadP rreads g b l err vStrs w) := by
  have HC : Hid (Calls _ _ _ _ _) := readAllS 100 (by omega) g b l err w h
  clear h
  go_enter Tryz.func83, Tryz.ntmps83
  go_wp2_with fail
  refine HC.out.mono ?_
  rintro e w' ⟨v, rfl, hv, h1, h2⟩
  have H : Hid (ReadP rreads g b l err vStrs w (.returned v) w') := ⟨v, rfl, hv, h1, h2⟩
  obtain ⟨n, a, c, rfl, _⟩ := hv
  clear h1 h2 HC
  go_wp2
  go_ret
  exact H.out

set_option maxHeartbeats 1000000 in
theorem rnodes_read (g b : Nat) (l : List UInt8) (err : Nat) (w : World) (h : Rdr w g b l err) : Calls Tryz.prog 84 #[.pointer (some ⟨g, 0, none⟩)] w (ReadP rnodes g b l err vInts w) := by
  have HC : Hid (Calls _ _ _ _ _) := readAllI 64 (by omega) g b l err w h
  clear h
  go_enter Tryz.func84, Tryz.ntmps84
  go_wp2_with fail
  refine HC.out.mono ?_
  rintro e w' ⟨v, rfl, hv, h1, h2⟩
  have H : Hid (ReadP rnodes g b l err vInts w (.returned v) w') := ⟨v, rfl, hv, h1, h2⟩
  obtain ⟨n, a, c, rfl, _⟩ := hv
  clear h1 h2 HC
  go_wp2
  go_ret
  exact H.out
end Go.Proofs.YthkmohcdgnldgaaGreat
