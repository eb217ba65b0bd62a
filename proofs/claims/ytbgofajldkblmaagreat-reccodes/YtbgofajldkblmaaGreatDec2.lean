/- Reading pages: readLeaf. Own lemmas, no statement. -/
import Derived.Test.YtbgofajldkblmaaGreatDec1
import Derived.Deep.Cut
import Derived.Deep.CutRange
namespace Go.Proofs.YtbgofajldkblmaaGreat
open Go.ChangeShapes Go.WideShapes Go.ChangeAt Go.RowKit

theorem Box.sizeB {W : World} {B b : Nat} {p : Pg} {kv vv dv : Value} (h : Box W B b p kv vv dv) : B ≤ W.heap.size := Nat.le_trans h.hb (Nat.le_of_lt (Blk.lt h.box))

/-- What readLeaf has read behind so many entries. -/
structure LS where
  ks : List ByteArray
  vs : List ByteArray
  l : List UInt8
  e : Nat
def lsK (s : LS) : List UInt8 × List UInt8 × Nat := rtext s.l s.e 24
def lsV (s : LS) : List UInt8 × List UInt8 × Nat := rtext (lsK s).2.1 (lsK s).2.2 48
def leafR (l : List UInt8) (e : Nat) : Nat → LS
  | 0 => ⟨[], [], l, e⟩
  | n + 1 => ⟨(leafR l e n).ks ++ [⟨(lsK (leafR l e n)).1.toArray⟩], (leafR l e n).vs ++ [⟨(lsV (leafR l e n)).1.toArray⟩], (lsV (leafR l e n)).2.1, (lsV (leafR l e n)).2.2⟩
theorem leafR_len (l : List UInt8) (e n : Nat) : (leafR l e n).ks.length = n ∧ (leafR l e n).vs.length = n := by
  induction n with
  | zero => exact ⟨rfl, rfl⟩
  | succ n ih => simp [leafR, ih.1, ih.2]
def withL (p : Pg) (s : LS) : Pg := { p with keys := s.ks, vals := s.vs }

theorem rnum_le (l : List UInt8) (err m : Nat) : (rnum l err m).1 ≤ m := by
  have hf := rnum_facts l err m
  by_cases h0 : (rnum l err m).2.2 = 0
  · exact hf.2.1 h0
  · unfold rnum at h0 ⊢
    split
    · simp
    · split
      · simp
      · split
        · simp
        · rename_i a b c; simp [a, b, c] at h0

set_option maxRecDepth 100000 in
set_option maxHeartbeats 8000000 in
theorem readLeaf_any (B b g rb : Nat) (p : Pg) (kv vv dv : Value) (l : List UInt8) (err : Nat) (w : World) (h : RBox w B b p kv vv dv g rb l err) (hp : p.keys = [] ∧ p.vals = []) :
    Calls Tryz.prog 111 #[.pointer (some ⟨b, 0, none⟩), .pointer (some ⟨g, 0, none⟩)] w fun e w' => e = .returned (.tuple #[]) ∧ ∃ kv' vv', RBox w' B b (withL p (leafR (rnum l err 6).2.1 (rnum l err 6).2.2 (rnum l err 6).1)) kv' vv' dv g rb (leafR (rnum l err 6).2.1 (rnum l err 6).2.2 (rnum l err 6).1).l (leafR (rnum l err 6).2.1 (rnum l err 6).2.2 (rnum l err 6).1).e ∧ Below B w w' := by
  have HC : Hid (Calls _ _ _ _ _) := num_any g rb l err 6 w h.rdr
  have H : Hid (RBox w B b p kv vv dv g rb l err) := h
  have HP0 : Hid (withL p ⟨[], [], (rnum l err 6).2.1, (rnum l err 6).2.2⟩ = p) := by
    show _ = _
    cases p
    simp only at hp
    obtain ⟨rfl, rfl⟩ := hp
    rfl
  have hN := rnum_le l err 6
  clear h hp
  generalize (rnum l err 6).1 = N at *
  generalize (rnum l err 6).2.1 = l1 at *
  generalize (rnum l err 6).2.2 = e1 at *
  go_enter Tryz.func111, Tryz.ntmps111
  go_wp2_with fail
  refine HC.out.mono ?_
  rintro e w1 ⟨rfl, hr1, hg1⟩
  have H1 : Hid (RBox w1 B b (withL p (leafR l1 e1 0)) kv vv dv g rb (leafR l1 e1 0).l (leafR l1 e1 0).e) := by
    show RBox _ _ _ _ _ _ _ _ _ _ _
    rw [show leafR l1 e1 0 = ⟨[], [], l1, e1⟩ from rfl, HP0.out]
    exact H.out.read hr1 hg1
  have Y1 : Hid (Below B w w1) := (Below.refl _ _).grown hg1 H.out.box.sizeB (fun k hk => by simp at hk; rw [← hk]; exact H.out.hg)
  clear hr1 hg1 HC H HP0
  go_wp2
  go_loopw [6] (fun vi wr => ∃ (k : Nat) (kv' vv' : Value), vi = .int .u64 k ∧ k ≤ N ∧ RBox wr B b (withL p (leafR l1 e1 k)) kv' vv' dv g rb (leafR l1 e1 k).l (leafR l1 e1 k).e ∧ Below B w wr) (fun vi _ => N - (intOf vi).toNat)
  case atStart => exact ⟨0, kv, vv, rfl, Nat.zero_le _, H1.out, Y1.out⟩
  case round =>
    obtain ⟨k, kx, vx, rfl, hkN, hR, hY⟩ := hrel
    have RX : Hid (RBox wr B b (withL p (leafR l1 e1 k)) kx vx dv g rb (leafR l1 e1 k).l (leafR l1 e1 k).e) := hR
    have YX : Hid (Below B w wr) := hY
    clear hR hY H1 Y1
    by_cases hlt : k < N
    · have HS : Hid (leafR l1 e1 (k + 1) = ⟨(leafR l1 e1 k).ks ++ [⟨(lsK (leafR l1 e1 k)).1.toArray⟩], (leafR l1 e1 k).vs ++ [⟨(lsV (leafR l1 e1 k)).1.toArray⟩], (lsV (leafR l1 e1 k)).2.1, (lsV (leafR l1 e1 k)).2.2⟩) := rfl
      have LEN : Hid ((leafR l1 e1 k).ks.length < 1099511627776) := by show _ < _; rw [(leafR_len l1 e1 k).1]; omega
      have LEN2 : Hid ((leafR l1 e1 k).vs.length < 1099511627776) := by show _ < _; rw [(leafR_len l1 e1 k).2]; omega
      have HT : Hid (Calls Tryz.prog 80 #[.pointer (some ⟨g, 0, none⟩), .int .i64 24] wr.drew fun e w' => e = .returned (.string ⟨(lsK (leafR l1 e1 k)).1.toArray⟩) ∧ Rdr w' g rb (lsK (leafR l1 e1 k)).2.1 (lsK (leafR l1 e1 k)).2.2 ∧ wr.drew.grownBy w' (some g)) := text_read g rb _ _ 24 wr.drew RX.out.drew.rdr (by decide)
      have HV : Hid (∀ W, Rdr W g rb (lsK (leafR l1 e1 k)).2.1 (lsK (leafR l1 e1 k)).2.2 → Calls Tryz.prog 80 #[.pointer (some ⟨g, 0, none⟩), .int .i64 48] W fun e w' => e = .returned (.string ⟨(lsV (leafR l1 e1 k)).1.toArray⟩) ∧ Rdr w' g rb (lsV (leafR l1 e1 k)).2.1 (lsV (leafR l1 e1 k)).2.2 ∧ W.grownBy w' (some g)) := fun W hW => text_read g rb _ _ 48 W hW (by decide)
      generalize lsK (leafR l1 e1 k) = TK at *
      generalize lsV (leafR l1 e1 k) = TV at *
      generalize leafR l1 e1 k = Z at *
      go_upto_region 2 with fail
      go_cut [6] from 6 to 30 (fun s6 wx => s6 = .int .u64 (k : Int) ∧ ∃ a4 n4 c4, RBox wx B b { withL p Z with keys := Z.ks ++ [⟨TK.1.toArray⟩] } (.slice a4 n4 c4) vx dv g rb TK.2.1 TK.2.2 ∧ Below B w wx)
      case first =>
        have LD0 : Hid (wr.drew.cell? ⟨b, 1, none⟩ = some kx) := Blk.cell RX.out.box.box 1
        refine wp_region_seg (fun _ => True) (by kernel_rfl) ?_
        haveI nA : Nonempty (Cls (fun _ => True)) := ⟨⟨wr.drew, trivial⟩⟩
        refine wpAnyH_seg (by kernel_rfl) (fun _ _ _ h => h) [0, 1, 2, 3, 5] 7 _ _ _ trivial (by kernel_rfl) ?_
        simp only [opsAt, List.getElem?_toArray, List.getElem?_cons_zero, List.getElem?_cons_succ, List.cons_append, List.nil_append]
        repeat (go_big_quiet_step (fail))
        refine wpQuiet_nil ?_
        clear nA
        refine wpAnyH_all (rs := [4, 6]) (fuel := 6) (by kernel_rfl) (by simp) fun j hj => ?_
        rcases (show j = 4 ∨ j = 6 by simpa using hj) with rfl | rfl
        · refine wpOp_value 12 rfl (by kernel_rfl) rfl (exec_load1 rfl rfl Tryz.underlying26 rfl LD0.out) ?_
          refine ⟨trivial, ?_⟩
          simp only [Act.put, List.setIfInBounds_toArray, List.set_cons_succ, List.set_cons_zero]
          refine wpAnyH_all (rs := [6]) (fuel := 5) (by kernel_rfl) (by simp) fun j hj => ?_
          obtain rfl : j = 6 := by simpa using hj
          refine wpOp_enter 14 rfl (by kernel_rfl) rfl (f := 80) (args := #[.pointer (some ⟨g, 0, none⟩), .int .i64 24]) (by kernel_rfl) HT.out ?_
          rintro e w2 ⟨rfl, hr2, hg2⟩
          have R2 : Hid (RBox w2 B b _ kx vx dv g rb _ _) := RX.out.drew.read hr2 hg2
          have Y2 : Hid (Below B w w2) := (Below.drew YX.out).grown hg2 RX.out.box.sizeB (fun k hk => by simp at hk; rw [← hk]; exact RX.out.hg)
          clear hr2 hg2
          refine ⟨_, rfl, trivial, ?_⟩
          simp only [Act.put, List.setIfInBounds_toArray, List.set_cons_succ, List.set_cons_zero]
          refine wpAnyH_all (rs := [7]) (fuel := 4) (by kernel_rfl) (by simp) fun j hj => ?_
          obtain rfl : j = 7 := by simpa using hj
          refine wpOp_value 15 rfl (by kernel_rfl) rfl (exec_buildS rfl rfl) ?_
          refine ⟨trivial, ?_⟩
          simp only [Act.put, List.setIfInBounds_toArray, List.set_cons_succ, List.set_cons_zero]
          obtain ⟨a4, n4, c4, w4, hrun, ho4, hg4, hat4⟩ := run_pushS w2 26 B kx Z.ks ⟨TK.1.toArray⟩ R2.out.box.own.keys LEN.out R2.out.box.sizeB
          have HRUN : Hid _ := hrun
          have R4 : Hid (RBox (w4.setCell ⟨b, 1, none⟩ (.slice a4 n4 c4)) B b _ (.slice a4 n4 c4) vx dv g rb _ _) := R2.out.pushK ho4 hg4 hat4
          have Y4 : Hid (Below B w (w4.setCell ⟨b, 1, none⟩ (.slice a4 n4 c4))) := push_below Y2.out R2.out.box.sizeB (fun k e => (R2.out.box.own.keys.blk k e).1) R2.out.box.hb hg4 _
          have pre : Hid (PBox w4 b _ kx vx dv) := R2.out.box.pre R2.out.box.nk hg4
          clear hrun ho4 hg4 hat4
          refine wpAnyH_all (rs := [8]) (fuel := 3) (by kernel_rfl) (by simp) fun j hj => ?_
          obtain rfl : j = 8 := by simpa using hj
          refine wpOp_value 16 rfl (by kernel_rfl) rfl (exec_app rfl rfl rfl HRUN.out) ?_
          refine ⟨trivial, ?_⟩
          simp only [Act.put, List.setIfInBounds_toArray, List.set_cons_succ, List.set_cons_zero]
          haveI nB : Nonempty (Cls (fun _ => True)) := ⟨⟨w4, trivial⟩⟩
          refine wpAnyH_seg (by kernel_rfl) (fun _ _ _ h => h) [9, 10] 1 _ _ _ trivial (by kernel_rfl) ?_
          simp only [opsAt, List.getElem?_toArray, List.getElem?_cons_zero, List.getElem?_cons_succ, List.cons_append, List.nil_append]
          repeat (go_big_quiet_step (fail))
          refine wpQuiet_nil ?_
          clear nB
          refine wpAnyH_all (rs := [11]) (fuel := 0) (by kernel_rfl) (by simp) fun j hj => ?_
          obtain rfl : j = 11 := by simpa using hj
          refine wpOp_store1 rfl (by kernel_rfl) 26 _ _ rfl rfl b 1 (.slice a4 n4 c4) rfl rfl (thereN 1 pre.out (by simp [pgc])) (by kernel_rfl) rfl ?_
          refine ⟨trivial, ?_⟩
          refine wpAnyH_done (by kernel_rfl) (NoPanic.normal ?_) 0
          clear HRUN pre R2 Y2
          generalize w4.setCell ⟨b, 1, none⟩ (.slice a4 n4 c4) = W5 at *
          go_wp2_with fail
          go_meet
          exact ⟨rfl, a4, n4, c4, R4.out, Y4.out⟩
        · refine wpOp_enter 14 rfl (by kernel_rfl) rfl (f := 80) (args := #[.pointer (some ⟨g, 0, none⟩), .int .i64 24]) (by kernel_rfl) HT.out ?_
          rintro e w2 ⟨rfl, hr2, hg2⟩
          have R2 : Hid (RBox w2 B b _ kx vx dv g rb _ _) := RX.out.drew.read hr2 hg2
          have Y2 : Hid (Below B w w2) := (Below.drew YX.out).grown hg2 RX.out.box.sizeB (fun k hk => by simp at hk; rw [← hk]; exact RX.out.hg)
          clear hr2 hg2
          refine ⟨_, rfl, trivial, ?_⟩
          simp only [Act.put, List.setIfInBounds_toArray, List.set_cons_succ, List.set_cons_zero]
          refine wpAnyH_all (rs := [4, 7]) (fuel := 5) (by kernel_rfl) (by simp) fun j hj => ?_
          rcases (show j = 4 ∨ j = 7 by simpa using hj) with rfl | rfl
          · refine wpOp_value 12 rfl (by kernel_rfl) rfl (exec_load1 rfl rfl Tryz.underlying26 rfl (Blk.cell R2.out.box.box 1)) ?_
            refine ⟨trivial, ?_⟩
            simp only [Act.put, List.setIfInBounds_toArray, List.set_cons_succ, List.set_cons_zero]
            refine wpAnyH_all (rs := [7]) (fuel := 4) (by kernel_rfl) (by simp) fun j hj => ?_
            obtain rfl : j = 7 := by simpa using hj
            refine wpOp_value 15 rfl (by kernel_rfl) rfl (exec_buildS rfl rfl) ?_
            refine ⟨trivial, ?_⟩
            simp only [Act.put, List.setIfInBounds_toArray, List.set_cons_succ, List.set_cons_zero]
            obtain ⟨a4, n4, c4, w4, hrun, ho4, hg4, hat4⟩ := run_pushS w2 26 B kx Z.ks ⟨TK.1.toArray⟩ R2.out.box.own.keys LEN.out R2.out.box.sizeB
            have HRUN : Hid _ := hrun
            have R4 : Hid (RBox (w4.setCell ⟨b, 1, none⟩ (.slice a4 n4 c4)) B b _ (.slice a4 n4 c4) vx dv g rb _ _) := R2.out.pushK ho4 hg4 hat4
            have Y4 : Hid (Below B w (w4.setCell ⟨b, 1, none⟩ (.slice a4 n4 c4))) := push_below Y2.out R2.out.box.sizeB (fun k e => (R2.out.box.own.keys.blk k e).1) R2.out.box.hb hg4 _
            have pre : Hid (PBox w4 b _ kx vx dv) := R2.out.box.pre R2.out.box.nk hg4
            clear hrun ho4 hg4 hat4
            refine wpAnyH_all (rs := [8]) (fuel := 3) (by kernel_rfl) (by simp) fun j hj => ?_
            obtain rfl : j = 8 := by simpa using hj
            refine wpOp_value 16 rfl (by kernel_rfl) rfl (exec_app rfl rfl rfl HRUN.out) ?_
            refine ⟨trivial, ?_⟩
            simp only [Act.put, List.setIfInBounds_toArray, List.set_cons_succ, List.set_cons_zero]
            haveI nB : Nonempty (Cls (fun _ => True)) := ⟨⟨w4, trivial⟩⟩
            refine wpAnyH_seg (by kernel_rfl) (fun _ _ _ h => h) [9, 10] 1 _ _ _ trivial (by kernel_rfl) ?_
            simp only [opsAt, List.getElem?_toArray, List.getElem?_cons_zero, List.getElem?_cons_succ, List.cons_append, List.nil_append]
            repeat (go_big_quiet_step (fail))
            refine wpQuiet_nil ?_
            clear nB
            refine wpAnyH_all (rs := [11]) (fuel := 0) (by kernel_rfl) (by simp) fun j hj => ?_
            obtain rfl : j = 11 := by simpa using hj
            refine wpOp_store1 rfl (by kernel_rfl) 26 _ _ rfl rfl b 1 (.slice a4 n4 c4) rfl rfl (thereN 1 pre.out (by simp [pgc])) (by kernel_rfl) rfl ?_
            refine ⟨trivial, ?_⟩
            refine wpAnyH_done (by kernel_rfl) (NoPanic.normal ?_) 0
            clear HRUN pre R2 Y2
            generalize w4.setCell ⟨b, 1, none⟩ (.slice a4 n4 c4) = W5 at *
            go_wp2_with fail
            go_meet
            exact ⟨rfl, a4, n4, c4, R4.out, Y4.out⟩
          · refine wpOp_value 15 rfl (by kernel_rfl) rfl (exec_buildS rfl rfl) ?_
            refine ⟨trivial, ?_⟩
            simp only [Act.put, List.setIfInBounds_toArray, List.set_cons_succ, List.set_cons_zero]
            refine wpAnyH_all (rs := [4]) (fuel := 4) (by kernel_rfl) (by simp) fun j hj => ?_
            obtain rfl : j = 4 := by simpa using hj
            refine wpOp_value 12 rfl (by kernel_rfl) rfl (exec_load1 rfl rfl Tryz.underlying26 rfl (Lib.cell?_alloc_some _ (show w2.cell? ⟨b, 1, none⟩ = some kx from Blk.cell R2.out.box.box 1))) ?_
            refine ⟨trivial, ?_⟩
            simp only [Act.put, List.setIfInBounds_toArray, List.set_cons_succ, List.set_cons_zero]
            obtain ⟨a4, n4, c4, w4, hrun, ho4, hg4, hat4⟩ := run_pushS w2 26 B kx Z.ks ⟨TK.1.toArray⟩ R2.out.box.own.keys LEN.out R2.out.box.sizeB
            have HRUN : Hid _ := hrun
            have R4 : Hid (RBox (w4.setCell ⟨b, 1, none⟩ (.slice a4 n4 c4)) B b _ (.slice a4 n4 c4) vx dv g rb _ _) := R2.out.pushK ho4 hg4 hat4
            have Y4 : Hid (Below B w (w4.setCell ⟨b, 1, none⟩ (.slice a4 n4 c4))) := push_below Y2.out R2.out.box.sizeB (fun k e => (R2.out.box.own.keys.blk k e).1) R2.out.box.hb hg4 _
            have pre : Hid (PBox w4 b _ kx vx dv) := R2.out.box.pre R2.out.box.nk hg4
            clear hrun ho4 hg4 hat4
            refine wpAnyH_all (rs := [8]) (fuel := 3) (by kernel_rfl) (by simp) fun j hj => ?_
            obtain rfl : j = 8 := by simpa using hj
            refine wpOp_value 16 rfl (by kernel_rfl) rfl (exec_app rfl rfl rfl HRUN.out) ?_
            refine ⟨trivial, ?_⟩
            simp only [Act.put, List.setIfInBounds_toArray, List.set_cons_succ, List.set_cons_zero]
            haveI nB : Nonempty (Cls (fun _ => True)) := ⟨⟨w4, trivial⟩⟩
            refine wpAnyH_seg (by kernel_rfl) (fun _ _ _ h => h) [9, 10] 1 _ _ _ trivial (by kernel_rfl) ?_
            simp only [opsAt, List.getElem?_toArray, List.getElem?_cons_zero, List.getElem?_cons_succ, List.cons_append, List.nil_append]
            repeat (go_big_quiet_step (fail))
            refine wpQuiet_nil ?_
            clear nB
            refine wpAnyH_all (rs := [11]) (fuel := 0) (by kernel_rfl) (by simp) fun j hj => ?_
            obtain rfl : j = 11 := by simpa using hj
            refine wpOp_store1 rfl (by kernel_rfl) 26 _ _ rfl rfl b 1 (.slice a4 n4 c4) rfl rfl (thereN 1 pre.out (by simp [pgc])) (by kernel_rfl) rfl ?_
            refine ⟨trivial, ?_⟩
            refine wpAnyH_done (by kernel_rfl) (NoPanic.normal ?_) 0
            clear HRUN pre R2 Y2
            generalize w4.setCell ⟨b, 1, none⟩ (.slice a4 n4 c4) = W5 at *
            go_wp2_with fail
            go_meet
            exact ⟨rfl, a4, n4, c4, R4.out, Y4.out⟩
      case rest =>
        obtain ⟨rfl, a5, n5, c5, hR5, hY5⟩ := hcut
        have R5 : Hid (RBox wc B b { withL p Z with keys := Z.ks ++ [⟨TK.1.toArray⟩] } (.slice a5 n5 c5) vx dv g rb TK.2.1 TK.2.2) := hR5
        have Y5 : Hid (Below B w wc) := hY5
        have HT2 : Hid _ := HV.out wc.drew R5.out.drew.rdr
        have LEN := LEN2
        clear hR5 hY5 RX YX HT HV LEN2
        go_upto_region 3 with fail
        have LD0 : Hid (wc.drew.cell? ⟨b, 2, none⟩ = some vx) := Blk.cell R5.out.box.box 2
        refine wp_region_seg (fun _ => True) (by kernel_rfl) ?_
        haveI nA : Nonempty (Cls (fun _ => True)) := ⟨⟨wc.drew, trivial⟩⟩
        refine wpAnyH_seg (by kernel_rfl) (fun _ _ _ h => h) [0, 1, 2, 3, 5] 7 _ _ _ trivial (by kernel_rfl) ?_
        simp only [opsAt, List.getElem?_toArray, List.getElem?_cons_zero, List.getElem?_cons_succ, List.cons_append, List.nil_append]
        repeat (go_big_quiet_step (fail))
        refine wpQuiet_nil ?_
        clear nA
        refine wpAnyH_all (rs := [4, 6]) (fuel := 6) (by kernel_rfl) (by simp) fun j hj => ?_
        rcases (show j = 4 ∨ j = 6 by simpa using hj) with rfl | rfl
        · refine wpOp_value 23 rfl (by kernel_rfl) rfl (exec_load1 rfl rfl Tryz.underlying26 rfl LD0.out) ?_
          refine ⟨trivial, ?_⟩
          simp only [Act.put, List.setIfInBounds_toArray, List.set_cons_succ, List.set_cons_zero]
          refine wpAnyH_all (rs := [6]) (fuel := 5) (by kernel_rfl) (by simp) fun j hj => ?_
          obtain rfl : j = 6 := by simpa using hj
          refine wpOp_enter 25 rfl (by kernel_rfl) rfl (f := 80) (args := #[.pointer (some ⟨g, 0, none⟩), .int .i64 48]) (by kernel_rfl) HT2.out ?_
          rintro e w2 ⟨rfl, hr2, hg2⟩
          have R2 : Hid (RBox w2 B b _ (.slice a5 n5 c5) vx dv g rb _ _) := R5.out.drew.read hr2 hg2
          have Y2 : Hid (Below B w w2) := (Below.drew Y5.out).grown hg2 R5.out.box.sizeB (fun k hk => by simp at hk; rw [← hk]; exact R5.out.hg)
          clear hr2 hg2
          refine ⟨_, rfl, trivial, ?_⟩
          simp only [Act.put, List.setIfInBounds_toArray, List.set_cons_succ, List.set_cons_zero]
          refine wpAnyH_all (rs := [7]) (fuel := 4) (by kernel_rfl) (by simp) fun j hj => ?_
          obtain rfl : j = 7 := by simpa using hj
          refine wpOp_value 26 rfl (by kernel_rfl) rfl (exec_buildS rfl rfl) ?_
          refine ⟨trivial, ?_⟩
          simp only [Act.put, List.setIfInBounds_toArray, List.set_cons_succ, List.set_cons_zero]
          obtain ⟨a4, n4, c4, w4, hrun, ho4, hg4, hat4⟩ := run_pushS w2 26 B vx Z.vs ⟨TV.1.toArray⟩ R2.out.box.own.vals LEN.out R2.out.box.sizeB
          have HRUN : Hid _ := hrun
          have R4 : Hid (RBox (w4.setCell ⟨b, 2, none⟩ (.slice a4 n4 c4)) B b _ (.slice a5 n5 c5) (.slice a4 n4 c4) dv g rb _ _) := R2.out.pushV ho4 hg4 hat4
          have Y4 : Hid (Below B w (w4.setCell ⟨b, 2, none⟩ (.slice a4 n4 c4))) := push_below Y2.out R2.out.box.sizeB (fun k e => (R2.out.box.own.vals.blk k e).1) R2.out.box.hb hg4 _
          have pre : Hid (PBox w4 b _ (.slice a5 n5 c5) vx dv) := R2.out.box.pre R2.out.box.nv hg4
          clear hrun ho4 hg4 hat4
          refine wpAnyH_all (rs := [8]) (fuel := 3) (by kernel_rfl) (by simp) fun j hj => ?_
          obtain rfl : j = 8 := by simpa using hj
          refine wpOp_value 27 rfl (by kernel_rfl) rfl (exec_app rfl rfl rfl HRUN.out) ?_
          refine ⟨trivial, ?_⟩
          simp only [Act.put, List.setIfInBounds_toArray, List.set_cons_succ, List.set_cons_zero]
          haveI nB : Nonempty (Cls (fun _ => True)) := ⟨⟨w4, trivial⟩⟩
          refine wpAnyH_seg (by kernel_rfl) (fun _ _ _ h => h) [9, 10] 1 _ _ _ trivial (by kernel_rfl) ?_
          simp only [opsAt, List.getElem?_toArray, List.getElem?_cons_zero, List.getElem?_cons_succ, List.cons_append, List.nil_append]
          repeat (go_big_quiet_step (fail))
          refine wpQuiet_nil ?_
          clear nB
          refine wpAnyH_all (rs := [11]) (fuel := 0) (by kernel_rfl) (by simp) fun j hj => ?_
          obtain rfl : j = 11 := by simpa using hj
          refine wpOp_store1 rfl (by kernel_rfl) 26 _ _ rfl rfl b 2 (.slice a4 n4 c4) rfl rfl (thereN 1 pre.out (by simp [pgc])) (by kernel_rfl) rfl ?_
          refine ⟨trivial, ?_⟩
          refine wpAnyH_done (by kernel_rfl) (NoPanic.normal ?_) 0
          clear HRUN pre R2 Y2
          generalize w4.setCell ⟨b, 2, none⟩ (.slice a4 n4 c4) = W5 at *
          have R6 : Hid (RBox W5 B b (withL p (leafR l1 e1 (k + 1))) (.slice a5 n5 c5) (.slice a4 n4 c4) dv g rb (leafR l1 e1 (k + 1)).l (leafR l1 e1 (k + 1)).e) := by
            show RBox _ _ _ _ _ _ _ _ _ _ _
            rw [HS.out]
            exact R4.out
          clear R4 HS HT2 LEN R5 Y5 LD0
          go_wp2
          go_roundw
          case rel => exact ⟨k + 1, _, _, by go_num, by omega, R6.out, Y4.out⟩
          case measure => simp [intOf]; omega
        · refine wpOp_enter 25 rfl (by kernel_rfl) rfl (f := 80) (args := #[.pointer (some ⟨g, 0, none⟩), .int .i64 48]) (by kernel_rfl) HT2.out ?_
          rintro e w2 ⟨rfl, hr2, hg2⟩
          have R2 : Hid (RBox w2 B b _ (.slice a5 n5 c5) vx dv g rb _ _) := R5.out.drew.read hr2 hg2
          have Y2 : Hid (Below B w w2) := (Below.drew Y5.out).grown hg2 R5.out.box.sizeB (fun k hk => by simp at hk; rw [← hk]; exact R5.out.hg)
          clear hr2 hg2
          refine ⟨_, rfl, trivial, ?_⟩
          simp only [Act.put, List.setIfInBounds_toArray, List.set_cons_succ, List.set_cons_zero]
          refine wpAnyH_all (rs := [4, 7]) (fuel := 5) (by kernel_rfl) (by simp) fun j hj => ?_
          rcases (show j = 4 ∨ j = 7 by simpa using hj) with rfl | rfl
          · refine wpOp_value 23 rfl (by kernel_rfl) rfl (exec_load1 rfl rfl Tryz.underlying26 rfl (Blk.cell R2.out.box.box 2)) ?_
            refine ⟨trivial, ?_⟩
            simp only [Act.put, List.setIfInBounds_toArray, List.set_cons_succ, List.set_cons_zero]
            refine wpAnyH_all (rs := [7]) (fuel := 4) (by kernel_rfl) (by simp) fun j hj => ?_
            obtain rfl : j = 7 := by simpa using hj
            refine wpOp_value 26 rfl (by kernel_rfl) rfl (exec_buildS rfl rfl) ?_
            refine ⟨trivial, ?_⟩
            simp only [Act.put, List.setIfInBounds_toArray, List.set_cons_succ, List.set_cons_zero]
            obtain ⟨a4, n4, c4, w4, hrun, ho4, hg4, hat4⟩ := run_pushS w2 26 B vx Z.vs ⟨TV.1.toArray⟩ R2.out.box.own.vals LEN.out R2.out.box.sizeB
            have HRUN : Hid _ := hrun
            have R4 : Hid (RBox (w4.setCell ⟨b, 2, none⟩ (.slice a4 n4 c4)) B b _ (.slice a5 n5 c5) (.slice a4 n4 c4) dv g rb _ _) := R2.out.pushV ho4 hg4 hat4
            have Y4 : Hid (Below B w (w4.setCell ⟨b, 2, none⟩ (.slice a4 n4 c4))) := push_below Y2.out R2.out.box.sizeB (fun k e => (R2.out.box.own.vals.blk k e).1) R2.out.box.hb hg4 _
            have pre : Hid (PBox w4 b _ (.slice a5 n5 c5) vx dv) := R2.out.box.pre R2.out.box.nv hg4
            clear hrun ho4 hg4 hat4
            refine wpAnyH_all (rs := [8]) (fuel := 3) (by kernel_rfl) (by simp) fun j hj => ?_
            obtain rfl : j = 8 := by simpa using hj
            refine wpOp_value 27 rfl (by kernel_rfl) rfl (exec_app rfl rfl rfl HRUN.out) ?_
            refine ⟨trivial, ?_⟩
            simp only [Act.put, List.setIfInBounds_toArray, List.set_cons_succ, List.set_cons_zero]
            haveI nB : Nonempty (Cls (fun _ => True)) := ⟨⟨w4, trivial⟩⟩
            refine wpAnyH_seg (by kernel_rfl) (fun _ _ _ h => h) [9, 10] 1 _ _ _ trivial (by kernel_rfl) ?_
            simp only [opsAt, List.getElem?_toArray, List.getElem?_cons_zero, List.getElem?_cons_succ, List.cons_append, List.nil_append]
            repeat (go_big_quiet_step (fail))
            refine wpQuiet_nil ?_
            clear nB
            refine wpAnyH_all (rs := [11]) (fuel := 0) (by kernel_rfl) (by simp) fun j hj => ?_
            obtain rfl : j = 11 := by simpa using hj
            refine wpOp_store1 rfl (by kernel_rfl) 26 _ _ rfl rfl b 2 (.slice a4 n4 c4) rfl rfl (thereN 1 pre.out (by simp [pgc])) (by kernel_rfl) rfl ?_
            refine ⟨trivial, ?_⟩
            refine wpAnyH_done (by kernel_rfl) (NoPanic.normal ?_) 0
            clear HRUN pre R2 Y2
            generalize w4.setCell ⟨b, 2, none⟩ (.slice a4 n4 c4) = W5 at *
            have R6 : Hid (RBox W5 B b (withL p (leafR l1 e1 (k + 1))) (.slice a5 n5 c5) (.slice a4 n4 c4) dv g rb (leafR l1 e1 (k + 1)).l (leafR l1 e1 (k + 1)).e) := by
              show RBox _ _ _ _ _ _ _ _ _ _ _
              rw [HS.out]
              exact R4.out
            clear R4 HS HT2 LEN R5 Y5 LD0
            go_wp2
            go_roundw
            case rel => exact ⟨k + 1, _, _, by go_num, by omega, R6.out, Y4.out⟩
            case measure => simp [intOf]; omega
          · refine wpOp_value 26 rfl (by kernel_rfl) rfl (exec_buildS rfl rfl) ?_
            refine ⟨trivial, ?_⟩
            simp only [Act.put, List.setIfInBounds_toArray, List.set_cons_succ, List.set_cons_zero]
            refine wpAnyH_all (rs := [4]) (fuel := 4) (by kernel_rfl) (by simp) fun j hj => ?_
            obtain rfl : j = 4 := by simpa using hj
            refine wpOp_value 23 rfl (by kernel_rfl) rfl (exec_load1 rfl rfl Tryz.underlying26 rfl (Lib.cell?_alloc_some _ (show w2.cell? ⟨b, 2, none⟩ = some vx from Blk.cell R2.out.box.box 2))) ?_
            refine ⟨trivial, ?_⟩
            simp only [Act.put, List.setIfInBounds_toArray, List.set_cons_succ, List.set_cons_zero]
            obtain ⟨a4, n4, c4, w4, hrun, ho4, hg4, hat4⟩ := run_pushS w2 26 B vx Z.vs ⟨TV.1.toArray⟩ R2.out.box.own.vals LEN.out R2.out.box.sizeB
            have HRUN : Hid _ := hrun
            have R4 : Hid (RBox (w4.setCell ⟨b, 2, none⟩ (.slice a4 n4 c4)) B b _ (.slice a5 n5 c5) (.slice a4 n4 c4) dv g rb _ _) := R2.out.pushV ho4 hg4 hat4
            have Y4 : Hid (Below B w (w4.setCell ⟨b, 2, none⟩ (.slice a4 n4 c4))) := push_below Y2.out R2.out.box.sizeB (fun k e => (R2.out.box.own.vals.blk k e).1) R2.out.box.hb hg4 _
            have pre : Hid (PBox w4 b _ (.slice a5 n5 c5) vx dv) := R2.out.box.pre R2.out.box.nv hg4
            clear hrun ho4 hg4 hat4
            refine wpAnyH_all (rs := [8]) (fuel := 3) (by kernel_rfl) (by simp) fun j hj => ?_
            obtain rfl : j = 8 := by simpa using hj
            refine wpOp_value 27 rfl (by kernel_rfl) rfl (exec_app rfl rfl rfl HRUN.out) ?_
            refine ⟨trivial, ?_⟩
            simp only [Act.put, List.setIfInBounds_toArray, List.set_cons_succ, List.set_cons_zero]
            haveI nB : Nonempty (Cls (fun _ => True)) := ⟨⟨w4, trivial⟩⟩
            refine wpAnyH_seg (by kernel_rfl) (fun _ _ _ h => h) [9, 10] 1 _ _ _ trivial (by kernel_rfl) ?_
            simp only [opsAt, List.getElem?_toArray, List.getElem?_cons_zero, List.getElem?_cons_succ, List.cons_append, List.nil_append]
            repeat (go_big_quiet_step (fail))
            refine wpQuiet_nil ?_
            clear nB
            refine wpAnyH_all (rs := [11]) (fuel := 0) (by kernel_rfl) (by simp) fun j hj => ?_
            obtain rfl : j = 11 := by simpa using hj
            refine wpOp_store1 rfl (by kernel_rfl) 26 _ _ rfl rfl b 2 (.slice a4 n4 c4) rfl rfl (thereN 1 pre.out (by simp [pgc])) (by kernel_rfl) rfl ?_
            refine ⟨trivial, ?_⟩
            refine wpAnyH_done (by kernel_rfl) (NoPanic.normal ?_) 0
            clear HRUN pre R2 Y2
            generalize w4.setCell ⟨b, 2, none⟩ (.slice a4 n4 c4) = W5 at *
            have R6 : Hid (RBox W5 B b (withL p (leafR l1 e1 (k + 1))) (.slice a5 n5 c5) (.slice a4 n4 c4) dv g rb (leafR l1 e1 (k + 1)).l (leafR l1 e1 (k + 1)).e) := by
              show RBox _ _ _ _ _ _ _ _ _ _ _
              rw [HS.out]
              exact R4.out
            clear R4 HS HT2 LEN R5 Y5 LD0
            go_wp2
            go_roundw
            case rel => exact ⟨k + 1, _, _, by go_num, by omega, R6.out, Y4.out⟩
            case measure => simp [intOf]; omega
    · have hkn : k = N := by omega
      subst hkn
      go_wp2
      go_end0
      exact ⟨rfl, kx, vx, RX.out, YX.out⟩
end Go.Proofs.YtbgofajldkblmaaGreat
