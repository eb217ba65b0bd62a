/- Reading pages: readInner. Own lemmas, no statement. -/
import Derived.Test.YtbgofajldkblmaaGreatDec2
namespace Go.Proofs.YtbgofajldkblmaaGreat
open Go.ChangeShapes Go.WideShapes Go.ChangeAt Go.RowKit

/-- What readInner has read behind so many pages. -/
structure IS where
  ks : List ByteArray
  ds : List Int
  l : List UInt8
  e : Nat
def isT (s : IS) : List UInt8 × List UInt8 × Nat := rtext s.l s.e 24
def isK (n : Nat) (s : IS) : IS := if n = 0 then s else ⟨s.ks ++ [⟨(isT s).1.toArray⟩], s.ds, (isT s).2.1, (isT s).2.2⟩
def isD (s : IS) : Nat × List UInt8 × Nat := rnum s.l s.e 65535
def isS (s : IS) : IS := ⟨s.ks, s.ds ++ [((isD s).1 : Int)], (isD s).2.1, (isD s).2.2⟩
def innR (l : List UInt8) (e : Nat) : Nat → IS
  | 0 => ⟨[], [], l, e⟩
  | n + 1 => isS (isK n (innR l e n))
theorem innR_len (l : List UInt8) (e n : Nat) : (innR l e n).ks.length = n - 1 ∧ (innR l e n).ds.length = n := by
  induction n with
  | zero => exact ⟨rfl, rfl⟩
  | succ n ih =>
    unfold innR isS isK
    by_cases h : n = 0
    · subst h
      simp [innR]
    · simp [h, ih.1, ih.2]
      omega
def withI (p : Pg) (s : IS) : Pg := { p with keys := s.ks, kids := s.ds }

set_option maxRecDepth 100000 in
set_option maxHeartbeats 8000000 in
theorem readInner_any (B b g rb : Nat) (p : Pg) (kv vv dv : Value) (l : List UInt8) (err : Nat) (w : World) (h : RBox w B b p kv vv dv g rb l err) (hp : p.keys = [] ∧ p.kids = []) :
    Calls Tryz.prog 112 #[.pointer (some ⟨b, 0, none⟩), .pointer (some ⟨g, 0, none⟩)] w fun e w' => e = .returned (.tuple #[]) ∧ ∃ kv' dv', RBox w' B b (withI p (innR (rnum l err 8).2.1 (rnum l err 8).2.2 (rnum l err 8).1)) kv' vv dv' g rb (innR (rnum l err 8).2.1 (rnum l err 8).2.2 (rnum l err 8).1).l (innR (rnum l err 8).2.1 (rnum l err 8).2.2 (rnum l err 8).1).e ∧ Below B w w' := by
  have HC : Hid (Calls _ _ _ _ _) := num_any g rb l err 8 w h.rdr
  have H : Hid (RBox w B b p kv vv dv g rb l err) := h
  have HP0 : Hid (withI p ⟨[], [], (rnum l err 8).2.1, (rnum l err 8).2.2⟩ = p) := by
    show _ = _
    cases p
    simp only at hp
    obtain ⟨rfl, rfl⟩ := hp
    rfl
  have hN := rnum_le l err 8
  clear h hp
  generalize (rnum l err 8).1 = N at *
  generalize (rnum l err 8).2.1 = l1 at *
  generalize (rnum l err 8).2.2 = e1 at *
  go_enter Tryz.func112, Tryz.ntmps112
  go_wp2_with fail
  refine HC.out.mono ?_
  rintro e w1 ⟨rfl, hr1, hg1⟩
  have H1 : Hid (RBox w1 B b (withI p (innR l1 e1 0)) kv vv dv g rb (innR l1 e1 0).l (innR l1 e1 0).e) := by
    show RBox _ _ _ _ _ _ _ _ _ _ _
    rw [show innR l1 e1 0 = ⟨[], [], l1, e1⟩ from rfl, HP0.out]
    exact H.out.read hr1 hg1
  have Y1 : Hid (Below B w w1) := (Below.refl _ _).grown hg1 H.out.box.sizeB (fun k hk => by simp at hk; rw [← hk]; exact H.out.hg)
  clear hr1 hg1 HC H HP0
  go_wp2
  go_loopw [4, 7] (fun _ vi wr => ∃ (k : Nat) (kv' dv' : Value), vi = .int .u64 k ∧ k ≤ N ∧ RBox wr B b (withI p (innR l1 e1 k)) kv' vv dv' g rb (innR l1 e1 k).l (innR l1 e1 k).e ∧ Below B w wr) (fun _ vi _ => N - (intOf vi).toNat)
  case atStart => exact ⟨0, kv, dv, rfl, Nat.zero_le _, H1.out, Y1.out⟩
  case round =>
    obtain ⟨k, kx, dx, rfl, hkN, hR, hY⟩ := hrel
    have RX : Hid (RBox wr B b (withI p (innR l1 e1 k)) kx vv dx g rb (innR l1 e1 k).l (innR l1 e1 k).e) := hR
    have YX : Hid (Below B w wr) := hY
    clear hR hY H1 Y1
    by_cases hlt : k < N
    · have HS : Hid (innR l1 e1 (k + 1) = isS (isK k (innR l1 e1 k))) := rfl
      have LENK : Hid ((innR l1 e1 k).ks.length < 1099511627776) := by show _ < _; rw [(innR_len l1 e1 k).1]; omega
      have LEND : Hid ((innR l1 e1 k).ds.length < 1099511627776) := by show _ < _; rw [(innR_len l1 e1 k).2]; omega
      have HD : Hid (∀ (s : IS) W, Rdr W g rb s.l s.e → Calls Tryz.prog 113 #[.pointer (some ⟨g, 0, none⟩)] W fun e w' => e = .returned (.int .i64 ((isD s).1 : Int)) ∧ Rdr w' g rb (isD s).2.1 (isD s).2.2 ∧ W.grownBy w' (some g)) := fun s W hW => readPage_any g rb s.l s.e W hW
      have HT : Hid (Calls Tryz.prog 80 #[.pointer (some ⟨g, 0, none⟩), .int .i64 24] wr.drew fun e w' => e = .returned (.string ⟨(isT (innR l1 e1 k)).1.toArray⟩) ∧ Rdr w' g rb (isT (innR l1 e1 k)).2.1 (isT (innR l1 e1 k)).2.2 ∧ wr.drew.grownBy w' (some g)) := text_read g rb _ _ 24 wr.drew RX.out.drew.rdr (by decide)
      rcases (show k = 0 ∨ 0 < k by omega) with hk0 | hk0
      · have hk1 : ¬ 0 < k := by omega
        have hk2 : ¬ (0 : Int) < (k : Int) := by omega
        have HS2 : Hid (innR l1 e1 (k + 1) = isS (innR l1 e1 k)) := by show _ = _; rw [HS.out, isK, if_pos hk0]
        have HT2 : Hid _ := HD.out (innR l1 e1 k) wr.drew RX.out.drew.rdr
        have LEN := LEND
        have HK0 : Hid (k = 0) := hk0
        clear HT HD LENK LEND HS hk0
        generalize innR l1 e1 k = Z at *
        go_upto_region 5 with fail
        have LD0 : Hid (wr.drew.cell? ⟨b, 3, none⟩ = some dx) := Blk.cell RX.out.box.box 3
        refine wp_region_seg (fun _ => True) (by kernel_rfl) ?_
        haveI nA : Nonempty (Cls (fun _ => True)) := ⟨⟨wr.drew, trivial⟩⟩
        refine wpAnyH_seg (by kernel_rfl) (fun _ _ _ h => h) [0, 1, 2, 3, 5] 7 _ _ _ trivial (by kernel_rfl) ?_
        simp only [opsAt, List.getElem?_toArray, List.getElem?_cons_zero, List.getElem?_cons_succ, List.cons_append, List.nil_append]
        repeat (go_big_quiet_step (fail))
        refine wpQuiet_nil ?_
        clear nA
        refine wpAnyH_all (rs := [4, 6]) (fuel := 6) (by kernel_rfl) (by simp) fun j hj => ?_
        rcases (show j = 4 ∨ j = 6 by simpa using hj) with rfl | rfl
        · refine wpOp_value 27 rfl (by kernel_rfl) rfl (exec_load1 rfl rfl Tryz.underlying25 rfl LD0.out) ?_
          refine ⟨trivial, ?_⟩
          simp only [Act.put, List.setIfInBounds_toArray, List.set_cons_succ, List.set_cons_zero]
          refine wpAnyH_all (rs := [6]) (fuel := 5) (by kernel_rfl) (by simp) fun j hj => ?_
          obtain rfl : j = 6 := by simpa using hj
          refine wpOp_enter 29 rfl (by kernel_rfl) rfl (f := 113) (args := #[.pointer (some ⟨g, 0, none⟩)]) (by kernel_rfl) HT2.out ?_
          rintro e w2 ⟨rfl, hr2, hg2⟩
          have R2 : Hid (RBox w2 B b _ kx vv dx g rb _ _) := RX.out.drew.read hr2 hg2
          have Y2 : Hid (Below B w w2) := (Below.drew YX.out).grown hg2 RX.out.box.sizeB (fun k hk => by simp at hk; rw [← hk]; exact RX.out.hg)
          clear hr2 hg2
          refine ⟨_, rfl, trivial, ?_⟩
          simp only [Act.put, List.setIfInBounds_toArray, List.set_cons_succ, List.set_cons_zero]
          refine wpAnyH_all (rs := [7]) (fuel := 4) (by kernel_rfl) (by simp) fun j hj => ?_
          obtain rfl : j = 7 := by simpa using hj
          refine wpOp_value 30 rfl (by kernel_rfl) rfl (exec_buildI rfl rfl) ?_
          refine ⟨trivial, ?_⟩
          simp only [Act.put, List.setIfInBounds_toArray, List.set_cons_succ, List.set_cons_zero]
          obtain ⟨a4, n4, c4, w4, hrun, ho4, hg4, hat4⟩ := run_pushI w2 25 B dx Z.ds ((isD Z).1 : Int) R2.out.box.own.kids LEN.out R2.out.box.sizeB
          have HRUN : Hid _ := hrun
          have R4 : Hid (RBox (w4.setCell ⟨b, 3, none⟩ (.slice a4 n4 c4)) B b _ kx vv (.slice a4 n4 c4) g rb _ _) := R2.out.pushD ho4 hg4 hat4
          have Y4 : Hid (Below B w (w4.setCell ⟨b, 3, none⟩ (.slice a4 n4 c4))) := push_below Y2.out R2.out.box.sizeB (fun k e => (R2.out.box.own.kids.blk k e).1) R2.out.box.hb hg4 _
          have pre : Hid (PBox w4 b _ kx vv dx) := R2.out.box.pre R2.out.box.nd hg4
          clear hrun ho4 hg4 hat4
          refine wpAnyH_all (rs := [8]) (fuel := 3) (by kernel_rfl) (by simp) fun j hj => ?_
          obtain rfl : j = 8 := by simpa using hj
          refine wpOp_value 31 rfl (by kernel_rfl) rfl (exec_app rfl rfl rfl HRUN.out) ?_
          refine ⟨trivial, ?_⟩
          simp only [Act.put, List.setIfInBounds_toArray, List.set_cons_succ, List.set_cons_zero]
          haveI nB : Nonempty (Cls (fun _ => True)) := ⟨⟨w4, trivial⟩⟩
          refine wpAnyH_seg (by kernel_rfl) (fun _ _ _ h => h) [9, 10] 1 _ _ _ trivial (by kernel_rfl) ?_
          simp only [opsAt, List.getElem?_toArray, List.getElem?_cons_zero, List.getElem?_cons_succ, List.cons_append, List.nil_append]
          repeat (go_big_quiet_step (fail))
          refine wpQuiet_nil ?_
          clear nB
          refine wpAnyH_all (rs := [11]) (fuel := 0) (by kernel_rfl) (by simp) fun j hj => ?_
          obtain rfl : j = 11 := by simpa using hj
          refine wpOp_store1 rfl (by kernel_rfl) 25 _ _ rfl rfl b 3 (.slice a4 n4 c4) rfl rfl (thereN 1 pre.out (by simp [pgc])) (by kernel_rfl) rfl ?_
          refine ⟨trivial, ?_⟩
          refine wpAnyH_done (by kernel_rfl) (NoPanic.normal ?_) 0
          clear HRUN pre R2 Y2
          generalize w4.setCell ⟨b, 3, none⟩ (.slice a4 n4 c4) = W5 at *
          have R6 : Hid (RBox W5 B b (withI p (innR l1 e1 (k + 1))) kx vv (.slice a4 n4 c4) g rb (innR l1 e1 (k + 1)).l (innR l1 e1 (k + 1)).e) := by
            show RBox _ _ _ _ _ _ _ _ _ _ _
            rw [HS2.out]
            exact R4.out
          clear R4 HS2 HT2 LEN LD0 RX YX
          go_wp2
          go_roundw
          case rel => exact ⟨k + 1, _, _, by go_num, by omega, R6.out, Y4.out⟩
          case measure => simp [intOf]; omega
        · refine wpOp_enter 29 rfl (by kernel_rfl) rfl (f := 113) (args := #[.pointer (some ⟨g, 0, none⟩)]) (by kernel_rfl) HT2.out ?_
          rintro e w2 ⟨rfl, hr2, hg2⟩
          have R2 : Hid (RBox w2 B b _ kx vv dx g rb _ _) := RX.out.drew.read hr2 hg2
          have Y2 : Hid (Below B w w2) := (Below.drew YX.out).grown hg2 RX.out.box.sizeB (fun k hk => by simp at hk; rw [← hk]; exact RX.out.hg)
          clear hr2 hg2
          refine ⟨_, rfl, trivial, ?_⟩
          simp only [Act.put, List.setIfInBounds_toArray, List.set_cons_succ, List.set_cons_zero]
          refine wpAnyH_all (rs := [4, 7]) (fuel := 5) (by kernel_rfl) (by simp) fun j hj => ?_
          rcases (show j = 4 ∨ j = 7 by simpa using hj) with rfl | rfl
          · refine wpOp_value 27 rfl (by kernel_rfl) rfl (exec_load1 rfl rfl Tryz.underlying25 rfl (Blk.cell R2.out.box.box 3)) ?_
            refine ⟨trivial, ?_⟩
            simp only [Act.put, List.setIfInBounds_toArray, List.set_cons_succ, List.set_cons_zero]
            refine wpAnyH_all (rs := [7]) (fuel := 4) (by kernel_rfl) (by simp) fun j hj => ?_
            obtain rfl : j = 7 := by simpa using hj
            refine wpOp_value 30 rfl (by kernel_rfl) rfl (exec_buildI rfl rfl) ?_
            refine ⟨trivial, ?_⟩
            simp only [Act.put, List.setIfInBounds_toArray, List.set_cons_succ, List.set_cons_zero]
            obtain ⟨a4, n4, c4, w4, hrun, ho4, hg4, hat4⟩ := run_pushI w2 25 B dx Z.ds ((isD Z).1 : Int) R2.out.box.own.kids LEN.out R2.out.box.sizeB
            have HRUN : Hid _ := hrun
            have R4 : Hid (RBox (w4.setCell ⟨b, 3, none⟩ (.slice a4 n4 c4)) B b _ kx vv (.slice a4 n4 c4) g rb _ _) := R2.out.pushD ho4 hg4 hat4
            have Y4 : Hid (Below B w (w4.setCell ⟨b, 3, none⟩ (.slice a4 n4 c4))) := push_below Y2.out R2.out.box.sizeB (fun k e => (R2.out.box.own.kids.blk k e).1) R2.out.box.hb hg4 _
            have pre : Hid (PBox w4 b _ kx vv dx) := R2.out.box.pre R2.out.box.nd hg4
            clear hrun ho4 hg4 hat4
            refine wpAnyH_all (rs := [8]) (fuel := 3) (by kernel_rfl) (by simp) fun j hj => ?_
            obtain rfl : j = 8 := by simpa using hj
            refine wpOp_value 31 rfl (by kernel_rfl) rfl (exec_app rfl rfl rfl HRUN.out) ?_
            refine ⟨trivial, ?_⟩
            simp only [Act.put, List.setIfInBounds_toArray, List.set_cons_succ, List.set_cons_zero]
            haveI nB : Nonempty (Cls (fun _ => True)) := ⟨⟨w4, trivial⟩⟩
            refine wpAnyH_seg (by kernel_rfl) (fun _ _ _ h => h) [9, 10] 1 _ _ _ trivial (by kernel_rfl) ?_
            simp only [opsAt, List.getElem?_toArray, List.getElem?_cons_zero, List.getElem?_cons_succ, List.cons_append, List.nil_append]
            repeat (go_big_quiet_step (fail))
            refine wpQuiet_nil ?_
            clear nB
            refine wpAnyH_all (rs := [11]) (fuel := 0) (by kernel_rfl) (by simp) fun j hj => ?_
            obtain rfl : j = 11 := by simpa using hj
            refine wpOp_store1 rfl (by kernel_rfl) 25 _ _ rfl rfl b 3 (.slice a4 n4 c4) rfl rfl (thereN 1 pre.out (by simp [pgc])) (by kernel_rfl) rfl ?_
            refine ⟨trivial, ?_⟩
            refine wpAnyH_done (by kernel_rfl) (NoPanic.normal ?_) 0
            clear HRUN pre R2 Y2
            generalize w4.setCell ⟨b, 3, none⟩ (.slice a4 n4 c4) = W5 at *
            have R6 : Hid (RBox W5 B b (withI p (innR l1 e1 (k + 1))) kx vv (.slice a4 n4 c4) g rb (innR l1 e1 (k + 1)).l (innR l1 e1 (k + 1)).e) := by
              show RBox _ _ _ _ _ _ _ _ _ _ _
              rw [HS2.out]
              exact R4.out
            clear R4 HS2 HT2 LEN LD0 RX YX
            go_wp2
            go_roundw
            case rel => exact ⟨k + 1, _, _, by go_num, by omega, R6.out, Y4.out⟩
            case measure => simp [intOf]; omega
          · refine wpOp_value 30 rfl (by kernel_rfl) rfl (exec_buildI rfl rfl) ?_
            refine ⟨trivial, ?_⟩
            simp only [Act.put, List.setIfInBounds_toArray, List.set_cons_succ, List.set_cons_zero]
            refine wpAnyH_all (rs := [4]) (fuel := 4) (by kernel_rfl) (by simp) fun j hj => ?_
            obtain rfl : j = 4 := by simpa using hj
            refine wpOp_value 27 rfl (by kernel_rfl) rfl (exec_load1 rfl rfl Tryz.underlying25 rfl (Lib.cell?_alloc_some _ (show w2.cell? ⟨b, 3, none⟩ = some dx from Blk.cell R2.out.box.box 3))) ?_
            refine ⟨trivial, ?_⟩
            simp only [Act.put, List.setIfInBounds_toArray, List.set_cons_succ, List.set_cons_zero]
            obtain ⟨a4, n4, c4, w4, hrun, ho4, hg4, hat4⟩ := run_pushI w2 25 B dx Z.ds ((isD Z).1 : Int) R2.out.box.own.kids LEN.out R2.out.box.sizeB
            have HRUN : Hid _ := hrun
            have R4 : Hid (RBox (w4.setCell ⟨b, 3, none⟩ (.slice a4 n4 c4)) B b _ kx vv (.slice a4 n4 c4) g rb _ _) := R2.out.pushD ho4 hg4 hat4
            have Y4 : Hid (Below B w (w4.setCell ⟨b, 3, none⟩ (.slice a4 n4 c4))) := push_below Y2.out R2.out.box.sizeB (fun k e => (R2.out.box.own.kids.blk k e).1) R2.out.box.hb hg4 _
            have pre : Hid (PBox w4 b _ kx vv dx) := R2.out.box.pre R2.out.box.nd hg4
            clear hrun ho4 hg4 hat4
            refine wpAnyH_all (rs := [8]) (fuel := 3) (by kernel_rfl) (by simp) fun j hj => ?_
            obtain rfl : j = 8 := by simpa using hj
            refine wpOp_value 31 rfl (by kernel_rfl) rfl (exec_app rfl rfl rfl HRUN.out) ?_
            refine ⟨trivial, ?_⟩
            simp only [Act.put, List.setIfInBounds_toArray, List.set_cons_succ, List.set_cons_zero]
            haveI nB : Nonempty (Cls (fun _ => True)) := ⟨⟨w4, trivial⟩⟩
            refine wpAnyH_seg (by kernel_rfl) (fun _ _ _ h => h) [9, 10] 1 _ _ _ trivial (by kernel_rfl) ?_
            simp only [opsAt, List.getElem?_toArray, List.getElem?_cons_zero, List.getElem?_cons_succ, List.cons_append, List.nil_append]
            repeat (go_big_quiet_step (fail))
            refine wpQuiet_nil ?_
            clear nB
            refine wpAnyH_all (rs := [11]) (fuel := 0) (by kernel_rfl) (by simp) fun j hj => ?_
            obtain rfl : j = 11 := by simpa using hj
            refine wpOp_store1 rfl (by kernel_rfl) 25 _ _ rfl rfl b 3 (.slice a4 n4 c4) rfl rfl (thereN 1 pre.out (by simp [pgc])) (by kernel_rfl) rfl ?_
            refine ⟨trivial, ?_⟩
            refine wpAnyH_done (by kernel_rfl) (NoPanic.normal ?_) 0
            clear HRUN pre R2 Y2
            generalize w4.setCell ⟨b, 3, none⟩ (.slice a4 n4 c4) = W5 at *
            have R6 : Hid (RBox W5 B b (withI p (innR l1 e1 (k + 1))) kx vv (.slice a4 n4 c4) g rb (innR l1 e1 (k + 1)).l (innR l1 e1 (k + 1)).e) := by
              show RBox _ _ _ _ _ _ _ _ _ _ _
              rw [HS2.out]
              exact R4.out
            clear R4 HS2 HT2 LEN LD0 RX YX
            go_wp2
            go_roundw
            case rel => exact ⟨k + 1, _, _, by go_num, by omega, R6.out, Y4.out⟩
            case measure => simp [intOf]; omega
      · have hk1 : 0 < k := hk0
        have hk2 : (0 : Int) < (k : Int) := by omega
        have HS2 : Hid (innR l1 e1 (k + 1) = isS ⟨(innR l1 e1 k).ks ++ [⟨(isT (innR l1 e1 k)).1.toArray⟩], (innR l1 e1 k).ds, (isT (innR l1 e1 k)).2.1, (isT (innR l1 e1 k)).2.2⟩) := by show _ = _; rw [HS.out, isK, if_neg (by omega)]
        have LEN := LENK
        clear LENK HS
        generalize isT (innR l1 e1 k) = TK at *
        generalize innR l1 e1 k = Z at *
        go_upto_region 4 with fail
        have LD0 : Hid (wr.drew.cell? ⟨b, 1, none⟩ = some kx) := Blk.cell RX.out.box.box 1
        refine wp_region_seg (fun _ => True) (by kernel_rfl) ?_
        haveI nA : Nonempty (Cls (fun _ => True)) := ⟨⟨wr.drew, trivial⟩⟩
        refine wpAnyH_seg (by kernel_rfl) (fun _ _ _ h => h) [0, 1, 2, 3, 5] 7 _ _ _ trivial (by kernel_rfl) ?_
        simp only [opsAt, List.getElem?_toArray, List.getElem?_cons_zero, List.getElem?_cons_succ, List.cons_append, List.nil_append]
        repeat (go_big_quiet_step (fail))
        refine wpQuiet_nil ?_
        clear nA
        refine wpAnyH_all (rs := [4, 6]) (fuel := 6) (by kernel_rfl) (by simp) fun j hj => ?_
        rcases (show j = 4 ∨ j = 6 by simpa using hj) with rfl | rfl
        · refine wpOp_value 16 rfl (by kernel_rfl) rfl (exec_load1 rfl rfl Tryz.underlying26 rfl LD0.out) ?_
          refine ⟨trivial, ?_⟩
          simp only [Act.put, List.setIfInBounds_toArray, List.set_cons_succ, List.set_cons_zero]
          refine wpAnyH_all (rs := [6]) (fuel := 5) (by kernel_rfl) (by simp) fun j hj => ?_
          obtain rfl : j = 6 := by simpa using hj
          refine wpOp_enter 18 rfl (by kernel_rfl) rfl (f := 80) (args := #[.pointer (some ⟨g, 0, none⟩), .int .i64 24]) (by kernel_rfl) HT.out ?_
          rintro e w2 ⟨rfl, hr2, hg2⟩
          have R2 : Hid (RBox w2 B b _ kx vv dx g rb _ _) := RX.out.drew.read hr2 hg2
          have Y2 : Hid (Below B w w2) := (Below.drew YX.out).grown hg2 RX.out.box.sizeB (fun k hk => by simp at hk; rw [← hk]; exact RX.out.hg)
          clear hr2 hg2
          refine ⟨_, rfl, trivial, ?_⟩
          simp only [Act.put, List.setIfInBounds_toArray, List.set_cons_succ, List.set_cons_zero]
          refine wpAnyH_all (rs := [7]) (fuel := 4) (by kernel_rfl) (by simp) fun j hj => ?_
          obtain rfl : j = 7 := by simpa using hj
          refine wpOp_value 19 rfl (by kernel_rfl) rfl (exec_buildS rfl rfl) ?_
          refine ⟨trivial, ?_⟩
          simp only [Act.put, List.setIfInBounds_toArray, List.set_cons_succ, List.set_cons_zero]
          obtain ⟨a4, n4, c4, w4, hrun, ho4, hg4, hat4⟩ := run_pushS w2 26 B kx Z.ks ⟨TK.1.toArray⟩ R2.out.box.own.keys LEN.out R2.out.box.sizeB
          have HRUN : Hid _ := hrun
          have R4 : Hid (RBox (w4.setCell ⟨b, 1, none⟩ (.slice a4 n4 c4)) B b _ (.slice a4 n4 c4) vv dx g rb _ _) := R2.out.pushK ho4 hg4 hat4
          have Y4 : Hid (Below B w (w4.setCell ⟨b, 1, none⟩ (.slice a4 n4 c4))) := push_below Y2.out R2.out.box.sizeB (fun k e => (R2.out.box.own.keys.blk k e).1) R2.out.box.hb hg4 _
          have pre : Hid (PBox w4 b _ kx vv dx) := R2.out.box.pre R2.out.box.nk hg4
          clear hrun ho4 hg4 hat4
          refine wpAnyH_all (rs := [8]) (fuel := 3) (by kernel_rfl) (by simp) fun j hj => ?_
          obtain rfl : j = 8 := by simpa using hj
          refine wpOp_value 20 rfl (by kernel_rfl) rfl (exec_app rfl rfl rfl HRUN.out) ?_
          refine ⟨trivial, ?_⟩
          simp only [Act.put, List.setIfInBounds_toArray, List.set_cons_succ, List.set_cons_zero]
          haveI nB : Nonempty (Cls (fun _ => True)) := ⟨⟨w4, trivial⟩⟩
          refine wpAnyH_seg (by kernel_rfl) (fun _ _ _ h => h) [9, 10] 1 _ _ _ trivial (by kernel_rfl) ?_
          simp only [opsAt, List.getElem?_toArray, List.getElem?_cons_zero, List.getElem?_cons_succ, List.cons_append, List.nil_append]
          repeat (go_big_quiet_step (fail))
          refine wpQuiet_nil ?_
          clear nB
          refine wpAnyH_all (rs := [11]) (fuel := 0) (by kernel_rfl) (by simp) fun j hj => ?_
          obtain rfl : j = 11 := by simpa using hj
          refine wpOp_store1 rfl (by kernel_rfl) 26 _ _ rfl rfl b 1 (.slice a4 n4 c4) rfl rfl (thereN 1 pre.out (by simp [pgc])) (by kernel_rfl) rfl ?_
          refine ⟨trivial, ?_⟩
          refine wpAnyH_done (by kernel_rfl) (NoPanic.normal ?_) 0
          clear HRUN pre R2 Y2
          generalize w4.setCell ⟨b, 1, none⟩ (.slice a4 n4 c4) = W5 at *
          obtain ⟨a5, ha5⟩ : ∃ x, x = a4 := ⟨_, rfl⟩
          obtain ⟨n5, hn5⟩ : ∃ x, x = n4 := ⟨_, rfl⟩
          obtain ⟨c5, hc5⟩ : ∃ x, x = c4 := ⟨_, rfl⟩
          subst ha5 hn5 hc5
          obtain ⟨wq, hwq⟩ : ∃ x, x = W5 := ⟨_, rfl⟩
          subst hwq
          obtain ⟨ZZ, hZZ⟩ : ∃ s : IS, s = ⟨Z.ks ++ [⟨TK.1.toArray⟩], Z.ds, TK.2.1, TK.2.2⟩ := ⟨_, rfl⟩
          have R7 : Hid (RBox wq B b (withI p ZZ) (.slice a5 n5 c5) vv dx g rb ZZ.l ZZ.e) := by rw [hZZ]; exact R4.out
          have Y7 := Y4
          rw [← hZZ] at HS2
          have HT2 : Hid _ := HD.out ZZ wq.drew R7.out.drew.rdr
          have LEN := LEND
          have HZD : Hid (ZZ.ds = Z.ds) := by rw [hZZ]; exact rfl
          clear hZZ R4 Y4 LD0 HT RX YX HD
          go_upto_region 5 with fail
          have LD0 : Hid (wq.drew.cell? ⟨b, 3, none⟩ = some dx) := Blk.cell R7.out.box.box 3
          refine wp_region_seg (fun _ => True) (by kernel_rfl) ?_
          haveI nA : Nonempty (Cls (fun _ => True)) := ⟨⟨wq.drew, trivial⟩⟩
          refine wpAnyH_seg (by kernel_rfl) (fun _ _ _ h => h) [0, 1, 2, 3, 5] 7 _ _ _ trivial (by kernel_rfl) ?_
          simp only [opsAt, List.getElem?_toArray, List.getElem?_cons_zero, List.getElem?_cons_succ, List.cons_append, List.nil_append]
          repeat (go_big_quiet_step (fail))
          refine wpQuiet_nil ?_
          clear nA
          refine wpAnyH_all (rs := [4, 6]) (fuel := 6) (by kernel_rfl) (by simp) fun j hj => ?_
          rcases (show j = 4 ∨ j = 6 by simpa using hj) with rfl | rfl
          · refine wpOp_value 27 rfl (by kernel_rfl) rfl (exec_load1 rfl rfl Tryz.underlying25 rfl LD0.out) ?_
            refine ⟨trivial, ?_⟩
            simp only [Act.put, List.setIfInBounds_toArray, List.set_cons_succ, List.set_cons_zero]
            refine wpAnyH_all (rs := [6]) (fuel := 5) (by kernel_rfl) (by simp) fun j hj => ?_
            obtain rfl : j = 6 := by simpa using hj
            refine wpOp_enter 29 rfl (by kernel_rfl) rfl (f := 113) (args := #[.pointer (some ⟨g, 0, none⟩)]) (by kernel_rfl) HT2.out ?_
            rintro e w2 ⟨rfl, hr2, hg2⟩
            have R2 : Hid (RBox w2 B b _ (.slice a5 n5 c5) vv dx g rb _ _) := R7.out.drew.read hr2 hg2
            have Y2 : Hid (Below B w w2) := (Below.drew Y7.out).grown hg2 R7.out.box.sizeB (fun k hk => by simp at hk; rw [← hk]; exact R7.out.hg)
            clear hr2 hg2
            refine ⟨_, rfl, trivial, ?_⟩
            simp only [Act.put, List.setIfInBounds_toArray, List.set_cons_succ, List.set_cons_zero]
            refine wpAnyH_all (rs := [7]) (fuel := 4) (by kernel_rfl) (by simp) fun j hj => ?_
            obtain rfl : j = 7 := by simpa using hj
            refine wpOp_value 30 rfl (by kernel_rfl) rfl (exec_buildI rfl rfl) ?_
            refine ⟨trivial, ?_⟩
            simp only [Act.put, List.setIfInBounds_toArray, List.set_cons_succ, List.set_cons_zero]
            obtain ⟨a4, n4, c4, w4, hrun, ho4, hg4, hat4⟩ := run_pushI w2 25 B dx ZZ.ds ((isD ZZ).1 : Int) R2.out.box.own.kids (show ZZ.ds.length < 1099511627776 by rw [HZD.out]; exact LEN.out) R2.out.box.sizeB
            have HRUN : Hid _ := hrun
            have R4 : Hid (RBox (w4.setCell ⟨b, 3, none⟩ (.slice a4 n4 c4)) B b _ (.slice a5 n5 c5) vv (.slice a4 n4 c4) g rb _ _) := R2.out.pushD ho4 hg4 hat4
            have Y4 : Hid (Below B w (w4.setCell ⟨b, 3, none⟩ (.slice a4 n4 c4))) := push_below Y2.out R2.out.box.sizeB (fun k e => (R2.out.box.own.kids.blk k e).1) R2.out.box.hb hg4 _
            have pre : Hid (PBox w4 b _ (.slice a5 n5 c5) vv dx) := R2.out.box.pre R2.out.box.nd hg4
            clear hrun ho4 hg4 hat4
            refine wpAnyH_all (rs := [8]) (fuel := 3) (by kernel_rfl) (by simp) fun j hj => ?_
            obtain rfl : j = 8 := by simpa using hj
            refine wpOp_value 31 rfl (by kernel_rfl) rfl (exec_app rfl rfl rfl HRUN.out) ?_
            refine ⟨trivial, ?_⟩
            simp only [Act.put, List.setIfInBounds_toArray, List.set_cons_succ, List.set_cons_zero]
            haveI nB : Nonempty (Cls (fun _ => True)) := ⟨⟨w4, trivial⟩⟩
            refine wpAnyH_seg (by kernel_rfl) (fun _ _ _ h => h) [9, 10] 1 _ _ _ trivial (by kernel_rfl) ?_
            simp only [opsAt, List.getElem?_toArray, List.getElem?_cons_zero, List.getElem?_cons_succ, List.cons_append, List.nil_append]
            repeat (go_big_quiet_step (fail))
            refine wpQuiet_nil ?_
            clear nB
            refine wpAnyH_all (rs := [11]) (fuel := 0) (by kernel_rfl) (by simp) fun j hj => ?_
            obtain rfl : j = 11 := by simpa using hj
            refine wpOp_store1 rfl (by kernel_rfl) 25 _ _ rfl rfl b 3 (.slice a4 n4 c4) rfl rfl (thereN 1 pre.out (by simp [pgc])) (by kernel_rfl) rfl ?_
            refine ⟨trivial, ?_⟩
            refine wpAnyH_done (by kernel_rfl) (NoPanic.normal ?_) 0
            clear HRUN pre R2 Y2
            generalize w4.setCell ⟨b, 3, none⟩ (.slice a4 n4 c4) = W5 at *
            have R6 : Hid (RBox W5 B b (withI p (innR l1 e1 (k + 1))) (.slice a5 n5 c5) vv (.slice a4 n4 c4) g rb (innR l1 e1 (k + 1)).l (innR l1 e1 (k + 1)).e) := by
              show RBox _ _ _ _ _ _ _ _ _ _ _
              rw [HS2.out]
              exact R4.out
            clear R4 HS2 HT2 LEN LD0 R7 Y7
            go_wp2
            go_roundw
            case rel => exact ⟨k + 1, _, _, by go_num, by omega, R6.out, Y4.out⟩
            case measure => simp [intOf]; omega
          · refine wpOp_enter 29 rfl (by kernel_rfl) rfl (f := 113) (args := #[.pointer (some ⟨g, 0, none⟩)]) (by kernel_rfl) HT2.out ?_
            rintro e w2 ⟨rfl, hr2, hg2⟩
            have R2 : Hid (RBox w2 B b _ (.slice a5 n5 c5) vv dx g rb _ _) := R7.out.drew.read hr2 hg2
            have Y2 : Hid (Below B w w2) := (Below.drew Y7.out).grown hg2 R7.out.box.sizeB (fun k hk => by simp at hk; rw [← hk]; exact R7.out.hg)
            clear hr2 hg2
            refine ⟨_, rfl, trivial, ?_⟩
            simp only [Act.put, List.setIfInBounds_toArray, List.set_cons_succ, List.set_cons_zero]
            refine wpAnyH_all (rs := [4, 7]) (fuel := 5) (by kernel_rfl) (by simp) fun j hj => ?_
            rcases (show j = 4 ∨ j = 7 by simpa using hj) with rfl | rfl
            · refine wpOp_value 27 rfl (by kernel_rfl) rfl (exec_load1 rfl rfl Tryz.underlying25 rfl (Blk.cell R2.out.box.box 3)) ?_
              refine ⟨trivial, ?_⟩
              simp only [Act.put, List.setIfInBounds_toArray, List.set_cons_succ, List.set_cons_zero]
              refine wpAnyH_all (rs := [7]) (fuel := 4) (by kernel_rfl) (by simp) fun j hj => ?_
              obtain rfl : j = 7 := by simpa using hj
              refine wpOp_value 30 rfl (by kernel_rfl) rfl (exec_buildI rfl rfl) ?_
              refine ⟨trivial, ?_⟩
              simp only [Act.put, List.setIfInBounds_toArray, List.set_cons_succ, List.set_cons_zero]
              obtain ⟨a4, n4, c4, w4, hrun, ho4, hg4, hat4⟩ := run_pushI w2 25 B dx ZZ.ds ((isD ZZ).1 : Int) R2.out.box.own.kids (show ZZ.ds.length < 1099511627776 by rw [HZD.out]; exact LEN.out) R2.out.box.sizeB
              have HRUN : Hid _ := hrun
              have R4 : Hid (RBox (w4.setCell ⟨b, 3, none⟩ (.slice a4 n4 c4)) B b _ (.slice a5 n5 c5) vv (.slice a4 n4 c4) g rb _ _) := R2.out.pushD ho4 hg4 hat4
              have Y4 : Hid (Below B w (w4.setCell ⟨b, 3, none⟩ (.slice a4 n4 c4))) := push_below Y2.out R2.out.box.sizeB (fun k e => (R2.out.box.own.kids.blk k e).1) R2.out.box.hb hg4 _
              have pre : Hid (PBox w4 b _ (.slice a5 n5 c5) vv dx) := R2.out.box.pre R2.out.box.nd hg4
              clear hrun ho4 hg4 hat4
              refine wpAnyH_all (rs := [8]) (fuel := 3) (by kernel_rfl) (by simp) fun j hj => ?_
              obtain rfl : j = 8 := by simpa using hj
              refine wpOp_value 31 rfl (by kernel_rfl) rfl (exec_app rfl rfl rfl HRUN.out) ?_
              refine ⟨trivial, ?_⟩
              simp only [Act.put, List.setIfInBounds_toArray, List.set_cons_succ, List.set_cons_zero]
              haveI nB : Nonempty (Cls (fun _ => True)) := ⟨⟨w4, trivial⟩⟩
              refine wpAnyH_seg (by kernel_rfl) (fun _ _ _ h => h) [9, 10] 1 _ _ _ trivial (by kernel_rfl) ?_
              simp only [opsAt, List.getElem?_toArray, List.getElem?_cons_zero, List.getElem?_cons_succ, List.cons_append, List.nil_append]
              repeat (go_big_quiet_step (fail))
              refine wpQuiet_nil ?_
              clear nB
              refine wpAnyH_all (rs := [11]) (fuel := 0) (by kernel_rfl) (by simp) fun j hj => ?_
              obtain rfl : j = 11 := by simpa using hj
              refine wpOp_store1 rfl (by kernel_rfl) 25 _ _ rfl rfl b 3 (.slice a4 n4 c4) rfl rfl (thereN 1 pre.out (by simp [pgc])) (by kernel_rfl) rfl ?_
              refine ⟨trivial, ?_⟩
              refine wpAnyH_done (by kernel_rfl) (NoPanic.normal ?_) 0
              clear HRUN pre R2 Y2
              generalize w4.setCell ⟨b, 3, none⟩ (.slice a4 n4 c4) = W5 at *
              have R6 : Hid (RBox W5 B b (withI p (innR l1 e1 (k + 1))) (.slice a5 n5 c5) vv (.slice a4 n4 c4) g rb (innR l1 e1 (k + 1)).l (innR l1 e1 (k + 1)).e) := by
                show RBox _ _ _ _ _ _ _ _ _ _ _
                rw [HS2.out]
                exact R4.out
              clear R4 HS2 HT2 LEN LD0 R7 Y7
              go_wp2
              go_roundw
              case rel => exact ⟨k + 1, _, _, by go_num, by omega, R6.out, Y4.out⟩
              case measure => simp [intOf]; omega
            · refine wpOp_value 30 rfl (by kernel_rfl) rfl (exec_buildI rfl rfl) ?_
              refine ⟨trivial, ?_⟩
              simp only [Act.put, List.setIfInBounds_toArray, List.set_cons_succ, List.set_cons_zero]
              refine wpAnyH_all (rs := [4]) (fuel := 4) (by kernel_rfl) (by simp) fun j hj => ?_
              obtain rfl : j = 4 := by simpa using hj
              refine wpOp_value 27 rfl (by kernel_rfl) rfl (exec_load1 rfl rfl Tryz.underlying25 rfl (Lib.cell?_alloc_some _ (show w2.cell? ⟨b, 3, none⟩ = some dx from Blk.cell R2.out.box.box 3))) ?_
              refine ⟨trivial, ?_⟩
              simp only [Act.put, List.setIfInBounds_toArray, List.set_cons_succ, List.set_cons_zero]
              obtain ⟨a4, n4, c4, w4, hrun, ho4, hg4, hat4⟩ := run_pushI w2 25 B dx ZZ.ds ((isD ZZ).1 : Int) R2.out.box.own.kids (show ZZ.ds.length < 1099511627776 by rw [HZD.out]; exact LEN.out) R2.out.box.sizeB
              have HRUN : Hid _ := hrun
              have R4 : Hid (RBox (w4.setCell ⟨b, 3, none⟩ (.slice a4 n4 c4)) B b _ (.slice a5 n5 c5) vv (.slice a4 n4 c4) g rb _ _) := R2.out.pushD ho4 hg4 hat4
              have Y4 : Hid (Below B w (w4.setCell ⟨b, 3, none⟩ (.slice a4 n4 c4))) := push_below Y2.out R2.out.box.sizeB (fun k e => (R2.out.box.own.kids.blk k e).1) R2.out.box.hb hg4 _
              have pre : Hid (PBox w4 b _ (.slice a5 n5 c5) vv dx) := R2.out.box.pre R2.out.box.nd hg4
              clear hrun ho4 hg4 hat4
              refine wpAnyH_all (rs := [8]) (fuel := 3) (by kernel_rfl) (by simp) fun j hj => ?_
              obtain rfl : j = 8 := by simpa using hj
              refine wpOp_value 31 rfl (by kernel_rfl) rfl (exec_app rfl rfl rfl HRUN.out) ?_
              refine ⟨trivial, ?_⟩
              simp only [Act.put, List.setIfInBounds_toArray, List.set_cons_succ, List.set_cons_zero]
              haveI nB : Nonempty (Cls (fun _ => True)) := ⟨⟨w4, trivial⟩⟩
              refine wpAnyH_seg (by kernel_rfl) (fun _ _ _ h => h) [9, 10] 1 _ _ _ trivial (by kernel_rfl) ?_
              simp only [opsAt, List.getElem?_toArray, List.getElem?_cons_zero, List.getElem?_cons_succ, List.cons_append, List.nil_append]
              repeat (go_big_quiet_step (fail))
              refine wpQuiet_nil ?_
              clear nB
              refine wpAnyH_all (rs := [11]) (fuel := 0) (by kernel_rfl) (by simp) fun j hj => ?_
              obtain rfl : j = 11 := by simpa using hj
              refine wpOp_store1 rfl (by kernel_rfl) 25 _ _ rfl rfl b 3 (.slice a4 n4 c4) rfl rfl (thereN 1 pre.out (by simp [pgc])) (by kernel_rfl) rfl ?_
              refine ⟨trivial, ?_⟩
              refine wpAnyH_done (by kernel_rfl) (NoPanic.normal ?_) 0
              clear HRUN pre R2 Y2
              generalize w4.setCell ⟨b, 3, none⟩ (.slice a4 n4 c4) = W5 at *
              have R6 : Hid (RBox W5 B b (withI p (innR l1 e1 (k + 1))) (.slice a5 n5 c5) vv (.slice a4 n4 c4) g rb (innR l1 e1 (k + 1)).l (innR l1 e1 (k + 1)).e) := by
                show RBox _ _ _ _ _ _ _ _ _ _ _
                rw [HS2.out]
                exact R4.out
              clear R4 HS2 HT2 LEN LD0 R7 Y7
              go_wp2
              go_roundw
              case rel => exact ⟨k + 1, _, _, by go_num, by omega, R6.out, Y4.out⟩
              case measure => simp [intOf]; omega
        · refine wpOp_enter 18 rfl (by kernel_rfl) rfl (f := 80) (args := #[.pointer (some ⟨g, 0, none⟩), .int .i64 24]) (by kernel_rfl) HT.out ?_
          rintro e w2 ⟨rfl, hr2, hg2⟩
          have R2 : Hid (RBox w2 B b _ kx vv dx g rb _ _) := RX.out.drew.read hr2 hg2
          have Y2 : Hid (Below B w w2) := (Below.drew YX.out).grown hg2 RX.out.box.sizeB (fun k hk => by simp at hk; rw [← hk]; exact RX.out.hg)
          clear hr2 hg2
          refine ⟨_, rfl, trivial, ?_⟩
          simp only [Act.put, List.setIfInBounds_toArray, List.set_cons_succ, List.set_cons_zero]
          refine wpAnyH_all (rs := [4, 7]) (fuel := 5) (by kernel_rfl) (by simp) fun j hj => ?_
          rcases (show j = 4 ∨ j = 7 by simpa using hj) with rfl | rfl
          · refine wpOp_value 16 rfl (by kernel_rfl) rfl (exec_load1 rfl rfl Tryz.underlying26 rfl (Blk.cell R2.out.box.box 1)) ?_
            refine ⟨trivial, ?_⟩
            simp only [Act.put, List.setIfInBounds_toArray, List.set_cons_succ, List.set_cons_zero]
            refine wpAnyH_all (rs := [7]) (fuel := 4) (by kernel_rfl) (by simp) fun j hj => ?_
            obtain rfl : j = 7 := by simpa using hj
            refine wpOp_value 19 rfl (by kernel_rfl) rfl (exec_buildS rfl rfl) ?_
            refine ⟨trivial, ?_⟩
            simp only [Act.put, List.setIfInBounds_toArray, List.set_cons_succ, List.set_cons_zero]
            obtain ⟨a4, n4, c4, w4, hrun, ho4, hg4, hat4⟩ := run_pushS w2 26 B kx Z.ks ⟨TK.1.toArray⟩ R2.out.box.own.keys LEN.out R2.out.box.sizeB
            have HRUN : Hid _ := hrun
            have R4 : Hid (RBox (w4.setCell ⟨b, 1, none⟩ (.slice a4 n4 c4)) B b _ (.slice a4 n4 c4) vv dx g rb _ _) := R2.out.pushK ho4 hg4 hat4
            have Y4 : Hid (Below B w (w4.setCell ⟨b, 1, none⟩ (.slice a4 n4 c4))) := push_below Y2.out R2.out.box.sizeB (fun k e => (R2.out.box.own.keys.blk k e).1) R2.out.box.hb hg4 _
            have pre : Hid (PBox w4 b _ kx vv dx) := R2.out.box.pre R2.out.box.nk hg4
            clear hrun ho4 hg4 hat4
            refine wpAnyH_all (rs := [8]) (fuel := 3) (by kernel_rfl) (by simp) fun j hj => ?_
            obtain rfl : j = 8 := by simpa using hj
            refine wpOp_value 20 rfl (by kernel_rfl) rfl (exec_app rfl rfl rfl HRUN.out) ?_
            refine ⟨trivial, ?_⟩
            simp only [Act.put, List.setIfInBounds_toArray, List.set_cons_succ, List.set_cons_zero]
            haveI nB : Nonempty (Cls (fun _ => True)) := ⟨⟨w4, trivial⟩⟩
            refine wpAnyH_seg (by kernel_rfl) (fun _ _ _ h => h) [9, 10] 1 _ _ _ trivial (by kernel_rfl) ?_
            simp only [opsAt, List.getElem?_toArray, List.getElem?_cons_zero, List.getElem?_cons_succ, List.cons_append, List.nil_append]
            repeat (go_big_quiet_step (fail))
            refine wpQuiet_nil ?_
            clear nB
            refine wpAnyH_all (rs := [11]) (fuel := 0) (by kernel_rfl) (by simp) fun j hj => ?_
            obtain rfl : j = 11 := by simpa using hj
            refine wpOp_store1 rfl (by kernel_rfl) 26 _ _ rfl rfl b 1 (.slice a4 n4 c4) rfl rfl (thereN 1 pre.out (by simp [pgc])) (by kernel_rfl) rfl ?_
            refine ⟨trivial, ?_⟩
            refine wpAnyH_done (by kernel_rfl) (NoPanic.normal ?_) 0
            clear HRUN pre R2 Y2
            generalize w4.setCell ⟨b, 1, none⟩ (.slice a4 n4 c4) = W5 at *
            obtain ⟨a5, ha5⟩ : ∃ x, x = a4 := ⟨_, rfl⟩
            obtain ⟨n5, hn5⟩ : ∃ x, x = n4 := ⟨_, rfl⟩
            obtain ⟨c5, hc5⟩ : ∃ x, x = c4 := ⟨_, rfl⟩
            subst ha5 hn5 hc5
            obtain ⟨wq, hwq⟩ : ∃ x, x = W5 := ⟨_, rfl⟩
            subst hwq
            obtain ⟨ZZ, hZZ⟩ : ∃ s : IS, s = ⟨Z.ks ++ [⟨TK.1.toArray⟩], Z.ds, TK.2.1, TK.2.2⟩ := ⟨_, rfl⟩
            have R7 : Hid (RBox wq B b (withI p ZZ) (.slice a5 n5 c5) vv dx g rb ZZ.l ZZ.e) := by rw [hZZ]; exact R4.out
            have Y7 := Y4
            rw [← hZZ] at HS2
            have HT2 : Hid _ := HD.out ZZ wq.drew R7.out.drew.rdr
            have LEN := LEND
            have HZD : Hid (ZZ.ds = Z.ds) := by rw [hZZ]; exact rfl
            clear hZZ R4 Y4 LD0 HT RX YX HD
            go_upto_region 5 with fail
            have LD0 : Hid (wq.drew.cell? ⟨b, 3, none⟩ = some dx) := Blk.cell R7.out.box.box 3
            refine wp_region_seg (fun _ => True) (by kernel_rfl) ?_
            haveI nA : Nonempty (Cls (fun _ => True)) := ⟨⟨wq.drew, trivial⟩⟩
            refine wpAnyH_seg (by kernel_rfl) (fun _ _ _ h => h) [0, 1, 2, 3, 5] 7 _ _ _ trivial (by kernel_rfl) ?_
            simp only [opsAt, List.getElem?_toArray, List.getElem?_cons_zero, List.getElem?_cons_succ, List.cons_append, List.nil_append]
            repeat (go_big_quiet_step (fail))
            refine wpQuiet_nil ?_
            clear nA
            refine wpAnyH_all (rs := [4, 6]) (fuel := 6) (by kernel_rfl) (by simp) fun j hj => ?_
            rcases (show j = 4 ∨ j = 6 by simpa using hj) with rfl | rfl
            · refine wpOp_value 27 rfl (by kernel_rfl) rfl (exec_load1 rfl rfl Tryz.underlying25 rfl LD0.out) ?_
              refine ⟨trivial, ?_⟩
              simp only [Act.put, List.setIfInBounds_toArray, List.set_cons_succ, List.set_cons_zero]
              refine wpAnyH_all (rs := [6]) (fuel := 5) (by kernel_rfl) (by simp) fun j hj => ?_
              obtain rfl : j = 6 := by simpa using hj
              refine wpOp_enter 29 rfl (by kernel_rfl) rfl (f := 113) (args := #[.pointer (some ⟨g, 0, none⟩)]) (by kernel_rfl) HT2.out ?_
              rintro e w2 ⟨rfl, hr2, hg2⟩
              have R2 : Hid (RBox w2 B b _ (.slice a5 n5 c5) vv dx g rb _ _) := R7.out.drew.read hr2 hg2
              have Y2 : Hid (Below B w w2) := (Below.drew Y7.out).grown hg2 R7.out.box.sizeB (fun k hk => by simp at hk; rw [← hk]; exact R7.out.hg)
              clear hr2 hg2
              refine ⟨_, rfl, trivial, ?_⟩
              simp only [Act.put, List.setIfInBounds_toArray, List.set_cons_succ, List.set_cons_zero]
              refine wpAnyH_all (rs := [7]) (fuel := 4) (by kernel_rfl) (by simp) fun j hj => ?_
              obtain rfl : j = 7 := by simpa using hj
              refine wpOp_value 30 rfl (by kernel_rfl) rfl (exec_buildI rfl rfl) ?_
              refine ⟨trivial, ?_⟩
              simp only [Act.put, List.setIfInBounds_toArray, List.set_cons_succ, List.set_cons_zero]
              obtain ⟨a4, n4, c4, w4, hrun, ho4, hg4, hat4⟩ := run_pushI w2 25 B dx ZZ.ds ((isD ZZ).1 : Int) R2.out.box.own.kids (show ZZ.ds.length < 1099511627776 by rw [HZD.out]; exact LEN.out) R2.out.box.sizeB
              have HRUN : Hid _ := hrun
              have R4 : Hid (RBox (w4.setCell ⟨b, 3, none⟩ (.slice a4 n4 c4)) B b _ (.slice a5 n5 c5) vv (.slice a4 n4 c4) g rb _ _) := R2.out.pushD ho4 hg4 hat4
              have Y4 : Hid (Below B w (w4.setCell ⟨b, 3, none⟩ (.slice a4 n4 c4))) := push_below Y2.out R2.out.box.sizeB (fun k e => (R2.out.box.own.kids.blk k e).1) R2.out.box.hb hg4 _
              have pre : Hid (PBox w4 b _ (.slice a5 n5 c5) vv dx) := R2.out.box.pre R2.out.box.nd hg4
              clear hrun ho4 hg4 hat4
              refine wpAnyH_all (rs := [8]) (fuel := 3) (by kernel_rfl) (by simp) fun j hj => ?_
              obtain rfl : j = 8 := by simpa using hj
              refine wpOp_value 31 rfl (by kernel_rfl) rfl (exec_app rfl rfl rfl HRUN.out) ?_
              refine ⟨trivial, ?_⟩
              simp only [Act.put, List.setIfInBounds_toArray, List.set_cons_succ, List.set_cons_zero]
              haveI nB : Nonempty (Cls (fun _ => True)) := ⟨⟨w4, trivial⟩⟩
              refine wpAnyH_seg (by kernel_rfl) (fun _ _ _ h => h) [9, 10] 1 _ _ _ trivial (by kernel_rfl) ?_
              simp only [opsAt, List.getElem?_toArray, List.getElem?_cons_zero, List.getElem?_cons_succ, List.cons_append, List.nil_append]
              repeat (go_big_quiet_step (fail))
              refine wpQuiet_nil ?_
              clear nB
              refine wpAnyH_all (rs := [11]) (fuel := 0) (by kernel_rfl) (by simp) fun j hj => ?_
              obtain rfl : j = 11 := by simpa using hj
              refine wpOp_store1 rfl (by kernel_rfl) 25 _ _ rfl rfl b 3 (.slice a4 n4 c4) rfl rfl (thereN 1 pre.out (by simp [pgc])) (by kernel_rfl) rfl ?_
              refine ⟨trivial, ?_⟩
              refine wpAnyH_done (by kernel_rfl) (NoPanic.normal ?_) 0
              clear HRUN pre R2 Y2
              generalize w4.setCell ⟨b, 3, none⟩ (.slice a4 n4 c4) = W5 at *
              have R6 : Hid (RBox W5 B b (withI p (innR l1 e1 (k + 1))) (.slice a5 n5 c5) vv (.slice a4 n4 c4) g rb (innR l1 e1 (k + 1)).l (innR l1 e1 (k + 1)).e) := by
                show RBox _ _ _ _ _ _ _ _ _ _ _
                rw [HS2.out]
                exact R4.out
              clear R4 HS2 HT2 LEN LD0 R7 Y7
              go_wp2
              go_roundw
              case rel => exact ⟨k + 1, _, _, by go_num, by omega, R6.out, Y4.out⟩
              case measure => simp [intOf]; omega
            · refine wpOp_enter 29 rfl (by kernel_rfl) rfl (f := 113) (args := #[.pointer (some ⟨g, 0, none⟩)]) (by kernel_rfl) HT2.out ?_
              rintro e w2 ⟨rfl, hr2, hg2⟩
              have R2 : Hid (RBox w2 B b _ (.slice a5 n5 c5) vv dx g rb _ _) := R7.out.drew.read hr2 hg2
              have Y2 : Hid (Below B w w2) := (Below.drew Y7.out).grown hg2 R7.out.box.sizeB (fun k hk => by simp at hk; rw [← hk]; exact R7.out.hg)
              clear hr2 hg2
              refine ⟨_, rfl, trivial, ?_⟩
              simp only [Act.put, List.setIfInBounds_toArray, List.set_cons_succ, List.set_cons_zero]
              refine wpAnyH_all (rs := [4, 7]) (fuel := 5) (by kernel_rfl) (by simp) fun j hj => ?_
              rcases (show j = 4 ∨ j = 7 by simpa using hj) with rfl | rfl
              · refine wpOp_value 27 rfl (by kernel_rfl) rfl (exec_load1 rfl rfl Tryz.underlying25 rfl (Blk.cell R2.out.box.box 3)) ?_
                refine ⟨trivial, ?_⟩
                simp only [Act.put, List.setIfInBounds_toArray, List.set_cons_succ, List.set_cons_zero]
                refine wpAnyH_all (rs := [7]) (fuel := 4) (by kernel_rfl) (by simp) fun j hj => ?_
                obtain rfl : j = 7 := by simpa using hj
                refine wpOp_value 30 rfl (by kernel_rfl) rfl (exec_buildI rfl rfl) ?_
                refine ⟨trivial, ?_⟩
                simp only [Act.put, List.setIfInBounds_toArray, List.set_cons_succ, List.set_cons_zero]
                obtain ⟨a4, n4, c4, w4, hrun, ho4, hg4, hat4⟩ := run_pushI w2 25 B dx ZZ.ds ((isD ZZ).1 : Int) R2.out.box.own.kids (show ZZ.ds.length < 1099511627776 by rw [HZD.out]; exact LEN.out) R2.out.box.sizeB
                have HRUN : Hid _ := hrun
                have R4 : Hid (RBox (w4.setCell ⟨b, 3, none⟩ (.slice a4 n4 c4)) B b _ (.slice a5 n5 c5) vv (.slice a4 n4 c4) g rb _ _) := R2.out.pushD ho4 hg4 hat4
                have Y4 : Hid (Below B w (w4.setCell ⟨b, 3, none⟩ (.slice a4 n4 c4))) := push_below Y2.out R2.out.box.sizeB (fun k e => (R2.out.box.own.kids.blk k e).1) R2.out.box.hb hg4 _
                have pre : Hid (PBox w4 b _ (.slice a5 n5 c5) vv dx) := R2.out.box.pre R2.out.box.nd hg4
                clear hrun ho4 hg4 hat4
                refine wpAnyH_all (rs := [8]) (fuel := 3) (by kernel_rfl) (by simp) fun j hj => ?_
                obtain rfl : j = 8 := by simpa using hj
                refine wpOp_value 31 rfl (by kernel_rfl) rfl (exec_app rfl rfl rfl HRUN.out) ?_
                refine ⟨trivial, ?_⟩
                simp only [Act.put, List.setIfInBounds_toArray, List.set_cons_succ, List.set_cons_zero]
                haveI nB : Nonempty (Cls (fun _ => True)) := ⟨⟨w4, trivial⟩⟩
                refine wpAnyH_seg (by kernel_rfl) (fun _ _ _ h => h) [9, 10] 1 _ _ _ trivial (by kernel_rfl) ?_
                simp only [opsAt, List.getElem?_toArray, List.getElem?_cons_zero, List.getElem?_cons_succ, List.cons_append, List.nil_append]
                repeat (go_big_quiet_step (fail))
                refine wpQuiet_nil ?_
                clear nB
                refine wpAnyH_all (rs := [11]) (fuel := 0) (by kernel_rfl) (by simp) fun j hj => ?_
                obtain rfl : j = 11 := by simpa using hj
                refine wpOp_store1 rfl (by kernel_rfl) 25 _ _ rfl rfl b 3 (.slice a4 n4 c4) rfl rfl (thereN 1 pre.out (by simp [pgc])) (by kernel_rfl) rfl ?_
                refine ⟨trivial, ?_⟩
                refine wpAnyH_done (by kernel_rfl) (NoPanic.normal ?_) 0
                clear HRUN pre R2 Y2
                generalize w4.setCell ⟨b, 3, none⟩ (.slice a4 n4 c4) = W5 at *
                have R6 : Hid (RBox W5 B b (withI p (innR l1 e1 (k + 1))) (.slice a5 n5 c5) vv (.slice a4 n4 c4) g rb (innR l1 e1 (k + 1)).l (innR l1 e1 (k + 1)).e) := by
                  show RBox _ _ _ _ _ _ _ _ _ _ _
                  rw [HS2.out]
                  exact R4.out
                clear R4 HS2 HT2 LEN LD0 R7 Y7
                go_wp2
                go_roundw
                case rel => exact ⟨k + 1, _, _, by go_num, by omega, R6.out, Y4.out⟩
                case measure => simp [intOf]; omega
              · refine wpOp_value 30 rfl (by kernel_rfl) rfl (exec_buildI rfl rfl) ?_
                refine ⟨trivial, ?_⟩
                simp only [Act.put, List.setIfInBounds_toArray, List.set_cons_succ, List.set_cons_zero]
                refine wpAnyH_all (rs := [4]) (fuel := 4) (by kernel_rfl) (by simp) fun j hj => ?_
                obtain rfl : j = 4 := by simpa using hj
                refine wpOp_value 27 rfl (by kernel_rfl) rfl (exec_load1 rfl rfl Tryz.underlying25 rfl (Lib.cell?_alloc_some _ (show w2.cell? ⟨b, 3, none⟩ = some dx from Blk.cell R2.out.box.box 3))) ?_
                refine ⟨trivial, ?_⟩
                simp only [Act.put, List.setIfInBounds_toArray, List.set_cons_succ, List.set_cons_zero]
                obtain ⟨a4, n4, c4, w4, hrun, ho4, hg4, hat4⟩ := run_pushI w2 25 B dx ZZ.ds ((isD ZZ).1 : Int) R2.out.box.own.kids (show ZZ.ds.length < 1099511627776 by rw [HZD.out]; exact LEN.out) R2.out.box.sizeB
                have HRUN : Hid _ := hrun
                have R4 : Hid (RBox (w4.setCell ⟨b, 3, none⟩ (.slice a4 n4 c4)) B b _ (.slice a5 n5 c5) vv (.slice a4 n4 c4) g rb _ _) := R2.out.pushD ho4 hg4 hat4
                have Y4 : Hid (Below B w (w4.setCell ⟨b, 3, none⟩ (.slice a4 n4 c4))) := push_below Y2.out R2.out.box.sizeB (fun k e => (R2.out.box.own.kids.blk k e).1) R2.out.box.hb hg4 _
                have pre : Hid (PBox w4 b _ (.slice a5 n5 c5) vv dx) := R2.out.box.pre R2.out.box.nd hg4
                clear hrun ho4 hg4 hat4
                refine wpAnyH_all (rs := [8]) (fuel := 3) (by kernel_rfl) (by simp) fun j hj => ?_
                obtain rfl : j = 8 := by simpa using hj
                refine wpOp_value 31 rfl (by kernel_rfl) rfl (exec_app rfl rfl rfl HRUN.out) ?_
                refine ⟨trivial, ?_⟩
                simp only [Act.put, List.setIfInBounds_toArray, List.set_cons_succ, List.set_cons_zero]
                haveI nB : Nonempty (Cls (fun _ => True)) := ⟨⟨w4, trivial⟩⟩
                refine wpAnyH_seg (by kernel_rfl) (fun _ _ _ h => h) [9, 10] 1 _ _ _ trivial (by kernel_rfl) ?_
                simp only [opsAt, List.getElem?_toArray, List.getElem?_cons_zero, List.getElem?_cons_succ, List.cons_append, List.nil_append]
                repeat (go_big_quiet_step (fail))
                refine wpQuiet_nil ?_
                clear nB
                refine wpAnyH_all (rs := [11]) (fuel := 0) (by kernel_rfl) (by simp) fun j hj => ?_
                obtain rfl : j = 11 := by simpa using hj
                refine wpOp_store1 rfl (by kernel_rfl) 25 _ _ rfl rfl b 3 (.slice a4 n4 c4) rfl rfl (thereN 1 pre.out (by simp [pgc])) (by kernel_rfl) rfl ?_
                refine ⟨trivial, ?_⟩
                refine wpAnyH_done (by kernel_rfl) (NoPanic.normal ?_) 0
                clear HRUN pre R2 Y2
                generalize w4.setCell ⟨b, 3, none⟩ (.slice a4 n4 c4) = W5 at *
                have R6 : Hid (RBox W5 B b (withI p (innR l1 e1 (k + 1))) (.slice a5 n5 c5) vv (.slice a4 n4 c4) g rb (innR l1 e1 (k + 1)).l (innR l1 e1 (k + 1)).e) := by
                  show RBox _ _ _ _ _ _ _ _ _ _ _
                  rw [HS2.out]
                  exact R4.out
                clear R4 HS2 HT2 LEN LD0 R7 Y7
                go_wp2
                go_roundw
                case rel => exact ⟨k + 1, _, _, by go_num, by omega, R6.out, Y4.out⟩
                case measure => simp [intOf]; omega
          · refine wpOp_value 19 rfl (by kernel_rfl) rfl (exec_buildS rfl rfl) ?_
            refine ⟨trivial, ?_⟩
            simp only [Act.put, List.setIfInBounds_toArray, List.set_cons_succ, List.set_cons_zero]
            refine wpAnyH_all (rs := [4]) (fuel := 4) (by kernel_rfl) (by simp) fun j hj => ?_
            obtain rfl : j = 4 := by simpa using hj
            refine wpOp_value 16 rfl (by kernel_rfl) rfl (exec_load1 rfl rfl Tryz.underlying26 rfl (Lib.cell?_alloc_some _ (show w2.cell? ⟨b, 1, none⟩ = some kx from Blk.cell R2.out.box.box 1))) ?_
            refine ⟨trivial, ?_⟩
            simp only [Act.put, List.setIfInBounds_toArray, List.set_cons_succ, List.set_cons_zero]
            obtain ⟨a4, n4, c4, w4, hrun, ho4, hg4, hat4⟩ := run_pushS w2 26 B kx Z.ks ⟨TK.1.toArray⟩ R2.out.box.own.keys LEN.out R2.out.box.sizeB
            have HRUN : Hid _ := hrun
            have R4 : Hid (RBox (w4.setCell ⟨b, 1, none⟩ (.slice a4 n4 c4)) B b _ (.slice a4 n4 c4) vv dx g rb _ _) := R2.out.pushK ho4 hg4 hat4
            have Y4 : Hid (Below B w (w4.setCell ⟨b, 1, none⟩ (.slice a4 n4 c4))) := push_below Y2.out R2.out.box.sizeB (fun k e => (R2.out.box.own.keys.blk k e).1) R2.out.box.hb hg4 _
            have pre : Hid (PBox w4 b _ kx vv dx) := R2.out.box.pre R2.out.box.nk hg4
            clear hrun ho4 hg4 hat4
            refine wpAnyH_all (rs := [8]) (fuel := 3) (by kernel_rfl) (by simp) fun j hj => ?_
            obtain rfl : j = 8 := by simpa using hj
            refine wpOp_value 20 rfl (by kernel_rfl) rfl (exec_app rfl rfl rfl HRUN.out) ?_
            refine ⟨trivial, ?_⟩
            simp only [Act.put, List.setIfInBounds_toArray, List.set_cons_succ, List.set_cons_zero]
            haveI nB : Nonempty (Cls (fun _ => True)) := ⟨⟨w4, trivial⟩⟩
            refine wpAnyH_seg (by kernel_rfl) (fun _ _ _ h => h) [9, 10] 1 _ _ _ trivial (by kernel_rfl) ?_
            simp only [opsAt, List.getElem?_toArray, List.getElem?_cons_zero, List.getElem?_cons_succ, List.cons_append, List.nil_append]
            repeat (go_big_quiet_step (fail))
            refine wpQuiet_nil ?_
            clear nB
            refine wpAnyH_all (rs := [11]) (fuel := 0) (by kernel_rfl) (by simp) fun j hj => ?_
            obtain rfl : j = 11 := by simpa using hj
            refine wpOp_store1 rfl (by kernel_rfl) 26 _ _ rfl rfl b 1 (.slice a4 n4 c4) rfl rfl (thereN 1 pre.out (by simp [pgc])) (by kernel_rfl) rfl ?_
            refine ⟨trivial, ?_⟩
            refine wpAnyH_done (by kernel_rfl) (NoPanic.normal ?_) 0
            clear HRUN pre R2 Y2
            generalize w4.setCell ⟨b, 1, none⟩ (.slice a4 n4 c4) = W5 at *
            obtain ⟨a5, ha5⟩ : ∃ x, x = a4 := ⟨_, rfl⟩
            obtain ⟨n5, hn5⟩ : ∃ x, x = n4 := ⟨_, rfl⟩
            obtain ⟨c5, hc5⟩ : ∃ x, x = c4 := ⟨_, rfl⟩
            subst ha5 hn5 hc5
            obtain ⟨wq, hwq⟩ : ∃ x, x = W5 := ⟨_, rfl⟩
            subst hwq
            obtain ⟨ZZ, hZZ⟩ : ∃ s : IS, s = ⟨Z.ks ++ [⟨TK.1.toArray⟩], Z.ds, TK.2.1, TK.2.2⟩ := ⟨_, rfl⟩
            have R7 : Hid (RBox wq B b (withI p ZZ) (.slice a5 n5 c5) vv dx g rb ZZ.l ZZ.e) := by rw [hZZ]; exact R4.out
            have Y7 := Y4
            rw [← hZZ] at HS2
            have HT2 : Hid _ := HD.out ZZ wq.drew R7.out.drew.rdr
            have LEN := LEND
            have HZD : Hid (ZZ.ds = Z.ds) := by rw [hZZ]; exact rfl
            clear hZZ R4 Y4 LD0 HT RX YX HD
            go_upto_region 5 with fail
            have LD0 : Hid (wq.drew.cell? ⟨b, 3, none⟩ = some dx) := Blk.cell R7.out.box.box 3
            refine wp_region_seg (fun _ => True) (by kernel_rfl) ?_
            haveI nA : Nonempty (Cls (fun _ => True)) := ⟨⟨wq.drew, trivial⟩⟩
            refine wpAnyH_seg (by kernel_rfl) (fun _ _ _ h => h) [0, 1, 2, 3, 5] 7 _ _ _ trivial (by kernel_rfl) ?_
            simp only [opsAt, List.getElem?_toArray, List.getElem?_cons_zero, List.getElem?_cons_succ, List.cons_append, List.nil_append]
            repeat (go_big_quiet_step (fail))
            refine wpQuiet_nil ?_
            clear nA
            refine wpAnyH_all (rs := [4, 6]) (fuel := 6) (by kernel_rfl) (by simp) fun j hj => ?_
            rcases (show j = 4 ∨ j = 6 by simpa using hj) with rfl | rfl
            · refine wpOp_value 27 rfl (by kernel_rfl) rfl (exec_load1 rfl rfl Tryz.underlying25 rfl LD0.out) ?_
              refine ⟨trivial, ?_⟩
              simp only [Act.put, List.setIfInBounds_toArray, List.set_cons_succ, List.set_cons_zero]
              refine wpAnyH_all (rs := [6]) (fuel := 5) (by kernel_rfl) (by simp) fun j hj => ?_
              obtain rfl : j = 6 := by simpa using hj
              refine wpOp_enter 29 rfl (by kernel_rfl) rfl (f := 113) (args := #[.pointer (some ⟨g, 0, none⟩)]) (by kernel_rfl) HT2.out ?_
              rintro e w2 ⟨rfl, hr2, hg2⟩
              have R2 : Hid (RBox w2 B b _ (.slice a5 n5 c5) vv dx g rb _ _) := R7.out.drew.read hr2 hg2
              have Y2 : Hid (Below B w w2) := (Below.drew Y7.out).grown hg2 R7.out.box.sizeB (fun k hk => by simp at hk; rw [← hk]; exact R7.out.hg)
              clear hr2 hg2
              refine ⟨_, rfl, trivial, ?_⟩
              simp only [Act.put, List.setIfInBounds_toArray, List.set_cons_succ, List.set_cons_zero]
              refine wpAnyH_all (rs := [7]) (fuel := 4) (by kernel_rfl) (by simp) fun j hj => ?_
              obtain rfl : j = 7 := by simpa using hj
              refine wpOp_value 30 rfl (by kernel_rfl) rfl (exec_buildI rfl rfl) ?_
              refine ⟨trivial, ?_⟩
              simp only [Act.put, List.setIfInBounds_toArray, List.set_cons_succ, List.set_cons_zero]
              obtain ⟨a4, n4, c4, w4, hrun, ho4, hg4, hat4⟩ := run_pushI w2 25 B dx ZZ.ds ((isD ZZ).1 : Int) R2.out.box.own.kids (show ZZ.ds.length < 1099511627776 by rw [HZD.out]; exact LEN.out) R2.out.box.sizeB
              have HRUN : Hid _ := hrun
              have R4 : Hid (RBox (w4.setCell ⟨b, 3, none⟩ (.slice a4 n4 c4)) B b _ (.slice a5 n5 c5) vv (.slice a4 n4 c4) g rb _ _) := R2.out.pushD ho4 hg4 hat4
              have Y4 : Hid (Below B w (w4.setCell ⟨b, 3, none⟩ (.slice a4 n4 c4))) := push_below Y2.out R2.out.box.sizeB (fun k e => (R2.out.box.own.kids.blk k e).1) R2.out.box.hb hg4 _
              have pre : Hid (PBox w4 b _ (.slice a5 n5 c5) vv dx) := R2.out.box.pre R2.out.box.nd hg4
              clear hrun ho4 hg4 hat4
              refine wpAnyH_all (rs := [8]) (fuel := 3) (by kernel_rfl) (by simp) fun j hj => ?_
              obtain rfl : j = 8 := by simpa using hj
              refine wpOp_value 31 rfl (by kernel_rfl) rfl (exec_app rfl rfl rfl HRUN.out) ?_
              refine ⟨trivial, ?_⟩
              simp only [Act.put, List.setIfInBounds_toArray, List.set_cons_succ, List.set_cons_zero]
              haveI nB : Nonempty (Cls (fun _ => True)) := ⟨⟨w4, trivial⟩⟩
              refine wpAnyH_seg (by kernel_rfl) (fun _ _ _ h => h) [9, 10] 1 _ _ _ trivial (by kernel_rfl) ?_
              simp only [opsAt, List.getElem?_toArray, List.getElem?_cons_zero, List.getElem?_cons_succ, List.cons_append, List.nil_append]
              repeat (go_big_quiet_step (fail))
              refine wpQuiet_nil ?_
              clear nB
              refine wpAnyH_all (rs := [11]) (fuel := 0) (by kernel_rfl) (by simp) fun j hj => ?_
              obtain rfl : j = 11 := by simpa using hj
              refine wpOp_store1 rfl (by kernel_rfl) 25 _ _ rfl rfl b 3 (.slice a4 n4 c4) rfl rfl (thereN 1 pre.out (by simp [pgc])) (by kernel_rfl) rfl ?_
              refine ⟨trivial, ?_⟩
              refine wpAnyH_done (by kernel_rfl) (NoPanic.normal ?_) 0
              clear HRUN pre R2 Y2
              generalize w4.setCell ⟨b, 3, none⟩ (.slice a4 n4 c4) = W5 at *
              have R6 : Hid (RBox W5 B b (withI p (innR l1 e1 (k + 1))) (.slice a5 n5 c5) vv (.slice a4 n4 c4) g rb (innR l1 e1 (k + 1)).l (innR l1 e1 (k + 1)).e) := by
                show RBox _ _ _ _ _ _ _ _ _ _ _
                rw [HS2.out]
                exact R4.out
              clear R4 HS2 HT2 LEN LD0 R7 Y7
              go_wp2
              go_roundw
              case rel => exact ⟨k + 1, _, _, by go_num, by omega, R6.out, Y4.out⟩
              case measure => simp [intOf]; omega
            · refine wpOp_enter 29 rfl (by kernel_rfl) rfl (f := 113) (args := #[.pointer (some ⟨g, 0, none⟩)]) (by kernel_rfl) HT2.out ?_
              rintro e w2 ⟨rfl, hr2, hg2⟩
              have R2 : Hid (RBox w2 B b _ (.slice a5 n5 c5) vv dx g rb _ _) := R7.out.drew.read hr2 hg2
              have Y2 : Hid (Below B w w2) := (Below.drew Y7.out).grown hg2 R7.out.box.sizeB (fun k hk => by simp at hk; rw [← hk]; exact R7.out.hg)
              clear hr2 hg2
              refine ⟨_, rfl, trivial, ?_⟩
              simp only [Act.put, List.setIfInBounds_toArray, List.set_cons_succ, List.set_cons_zero]
              refine wpAnyH_all (rs := [4, 7]) (fuel := 5) (by kernel_rfl) (by simp) fun j hj => ?_
              rcases (show j = 4 ∨ j = 7 by simpa using hj) with rfl | rfl
              · refine wpOp_value 27 rfl (by kernel_rfl) rfl (exec_load1 rfl rfl Tryz.underlying25 rfl (Blk.cell R2.out.box.box 3)) ?_
                refine ⟨trivial, ?_⟩
                simp only [Act.put, List.setIfInBounds_toArray, List.set_cons_succ, List.set_cons_zero]
                refine wpAnyH_all (rs := [7]) (fuel := 4) (by kernel_rfl) (by simp) fun j hj => ?_
                obtain rfl : j = 7 := by simpa using hj
                refine wpOp_value 30 rfl (by kernel_rfl) rfl (exec_buildI rfl rfl) ?_
                refine ⟨trivial, ?_⟩
                simp only [Act.put, List.setIfInBounds_toArray, List.set_cons_succ, List.set_cons_zero]
                obtain ⟨a4, n4, c4, w4, hrun, ho4, hg4, hat4⟩ := run_pushI w2 25 B dx ZZ.ds ((isD ZZ).1 : Int) R2.out.box.own.kids (show ZZ.ds.length < 1099511627776 by rw [HZD.out]; exact LEN.out) R2.out.box.sizeB
                have HRUN : Hid _ := hrun
                have R4 : Hid (RBox (w4.setCell ⟨b, 3, none⟩ (.slice a4 n4 c4)) B b _ (.slice a5 n5 c5) vv (.slice a4 n4 c4) g rb _ _) := R2.out.pushD ho4 hg4 hat4
                have Y4 : Hid (Below B w (w4.setCell ⟨b, 3, none⟩ (.slice a4 n4 c4))) := push_below Y2.out R2.out.box.sizeB (fun k e => (R2.out.box.own.kids.blk k e).1) R2.out.box.hb hg4 _
                have pre : Hid (PBox w4 b _ (.slice a5 n5 c5) vv dx) := R2.out.box.pre R2.out.box.nd hg4
                clear hrun ho4 hg4 hat4
                refine wpAnyH_all (rs := [8]) (fuel := 3) (by kernel_rfl) (by simp) fun j hj => ?_
                obtain rfl : j = 8 := by simpa using hj
                refine wpOp_value 31 rfl (by kernel_rfl) rfl (exec_app rfl rfl rfl HRUN.out) ?_
                refine ⟨trivial, ?_⟩
                simp only [Act.put, List.setIfInBounds_toArray, List.set_cons_succ, List.set_cons_zero]
                haveI nB : Nonempty (Cls (fun _ => True)) := ⟨⟨w4, trivial⟩⟩
                refine wpAnyH_seg (by kernel_rfl) (fun _ _ _ h => h) [9, 10] 1 _ _ _ trivial (by kernel_rfl) ?_
                simp only [opsAt, List.getElem?_toArray, List.getElem?_cons_zero, List.getElem?_cons_succ, List.cons_append, List.nil_append]
                repeat (go_big_quiet_step (fail))
                refine wpQuiet_nil ?_
                clear nB
                refine wpAnyH_all (rs := [11]) (fuel := 0) (by kernel_rfl) (by simp) fun j hj => ?_
                obtain rfl : j = 11 := by simpa using hj
                refine wpOp_store1 rfl (by kernel_rfl) 25 _ _ rfl rfl b 3 (.slice a4 n4 c4) rfl rfl (thereN 1 pre.out (by simp [pgc])) (by kernel_rfl) rfl ?_
                refine ⟨trivial, ?_⟩
                refine wpAnyH_done (by kernel_rfl) (NoPanic.normal ?_) 0
                clear HRUN pre R2 Y2
                generalize w4.setCell ⟨b, 3, none⟩ (.slice a4 n4 c4) = W5 at *
                have R6 : Hid (RBox W5 B b (withI p (innR l1 e1 (k + 1))) (.slice a5 n5 c5) vv (.slice a4 n4 c4) g rb (innR l1 e1 (k + 1)).l (innR l1 e1 (k + 1)).e) := by
                  show RBox _ _ _ _ _ _ _ _ _ _ _
                  rw [HS2.out]
                  exact R4.out
                clear R4 HS2 HT2 LEN LD0 R7 Y7
                go_wp2
                go_roundw
                case rel => exact ⟨k + 1, _, _, by go_num, by omega, R6.out, Y4.out⟩
                case measure => simp [intOf]; omega
              · refine wpOp_value 30 rfl (by kernel_rfl) rfl (exec_buildI rfl rfl) ?_
                refine ⟨trivial, ?_⟩
                simp only [Act.put, List.setIfInBounds_toArray, List.set_cons_succ, List.set_cons_zero]
                refine wpAnyH_all (rs := [4]) (fuel := 4) (by kernel_rfl) (by simp) fun j hj => ?_
                obtain rfl : j = 4 := by simpa using hj
                refine wpOp_value 27 rfl (by kernel_rfl) rfl (exec_load1 rfl rfl Tryz.underlying25 rfl (Lib.cell?_alloc_some _ (show w2.cell? ⟨b, 3, none⟩ = some dx from Blk.cell R2.out.box.box 3))) ?_
                refine ⟨trivial, ?_⟩
                simp only [Act.put, List.setIfInBounds_toArray, List.set_cons_succ, List.set_cons_zero]
                obtain ⟨a4, n4, c4, w4, hrun, ho4, hg4, hat4⟩ := run_pushI w2 25 B dx ZZ.ds ((isD ZZ).1 : Int) R2.out.box.own.kids (show ZZ.ds.length < 1099511627776 by rw [HZD.out]; exact LEN.out) R2.out.box.sizeB
                have HRUN : Hid _ := hrun
                have R4 : Hid (RBox (w4.setCell ⟨b, 3, none⟩ (.slice a4 n4 c4)) B b _ (.slice a5 n5 c5) vv (.slice a4 n4 c4) g rb _ _) := R2.out.pushD ho4 hg4 hat4
                have Y4 : Hid (Below B w (w4.setCell ⟨b, 3, none⟩ (.slice a4 n4 c4))) := push_below Y2.out R2.out.box.sizeB (fun k e => (R2.out.box.own.kids.blk k e).1) R2.out.box.hb hg4 _
                have pre : Hid (PBox w4 b _ (.slice a5 n5 c5) vv dx) := R2.out.box.pre R2.out.box.nd hg4
                clear hrun ho4 hg4 hat4
                refine wpAnyH_all (rs := [8]) (fuel := 3) (by kernel_rfl) (by simp) fun j hj => ?_
                obtain rfl : j = 8 := by simpa using hj
                refine wpOp_value 31 rfl (by kernel_rfl) rfl (exec_app rfl rfl rfl HRUN.out) ?_
                refine ⟨trivial, ?_⟩
                simp only [Act.put, List.setIfInBounds_toArray, List.set_cons_succ, List.set_cons_zero]
                haveI nB : Nonempty (Cls (fun _ => True)) := ⟨⟨w4, trivial⟩⟩
                refine wpAnyH_seg (by kernel_rfl) (fun _ _ _ h => h) [9, 10] 1 _ _ _ trivial (by kernel_rfl) ?_
                simp only [opsAt, List.getElem?_toArray, List.getElem?_cons_zero, List.getElem?_cons_succ, List.cons_append, List.nil_append]
                repeat (go_big_quiet_step (fail))
                refine wpQuiet_nil ?_
                clear nB
                refine wpAnyH_all (rs := [11]) (fuel := 0) (by kernel_rfl) (by simp) fun j hj => ?_
                obtain rfl : j = 11 := by simpa using hj
                refine wpOp_store1 rfl (by kernel_rfl) 25 _ _ rfl rfl b 3 (.slice a4 n4 c4) rfl rfl (thereN 1 pre.out (by simp [pgc])) (by kernel_rfl) rfl ?_
                refine ⟨trivial, ?_⟩
                refine wpAnyH_done (by kernel_rfl) (NoPanic.normal ?_) 0
                clear HRUN pre R2 Y2
                generalize w4.setCell ⟨b, 3, none⟩ (.slice a4 n4 c4) = W5 at *
                have R6 : Hid (RBox W5 B b (withI p (innR l1 e1 (k + 1))) (.slice a5 n5 c5) vv (.slice a4 n4 c4) g rb (innR l1 e1 (k + 1)).l (innR l1 e1 (k + 1)).e) := by
                  show RBox _ _ _ _ _ _ _ _ _ _ _
                  rw [HS2.out]
                  exact R4.out
                clear R4 HS2 HT2 LEN LD0 R7 Y7
                go_wp2
                go_roundw
                case rel => exact ⟨k + 1, _, _, by go_num, by omega, R6.out, Y4.out⟩
                case measure => simp [intOf]; omega
    · have hkn : k = N := by omega
      subst hkn
      go_wp2
      go_end0
      exact ⟨rfl, kx, dx, RX.out, YX.out⟩
end Go.Proofs.YtbgofajldkblmaaGreat
