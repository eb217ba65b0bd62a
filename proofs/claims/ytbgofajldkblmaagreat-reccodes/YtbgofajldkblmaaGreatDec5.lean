/- Reading pages: Decode. Own lemmas, no statement. -/
import Derived.Test.YtbgofajldkblmaaGreatDec4
import Derived.Deep.CutBlock
namespace Go.Proofs.YtbgofajldkblmaaGreat
open Go.ChangeShapes Go.WideShapes Go.ChangeAt Go.RowKit

/-- .. whose rows lie in memory of the call's own. -/
def DecPostO (l : List UInt8) (w : World) (e : Ending) (w' : World) : Prop :=
  (if decOk l then ∃ kv vv dv, e = .returned (.tuple #[pgv (decR l).p kv vv dv, .int .u64 ((lsnR l).1 : Int), .int .i64 0]) ∧ PgO w' w.heap.size (decR l).p kv vv dv else e = .returned (.tuple #[pgv .zero (.slice none 0 0) (.slice none 0 0) (.slice none 0 0), .int .u64 0, .int .i64 11])) ∧ Below w.heap.size w w'

set_option maxRecDepth 100000 in
set_option maxHeartbeats 8000000 in
theorem decode_own (v : Value) (l : List UInt8) (w : World) (hs : Src w v l) (hl : l.length < 900000000000) : Calls Tryz.prog 110 #[v] w (DecPostO l w) := by
  obtain ⟨ao, c, hv⟩ := hs.form
  subst hv
  have HSRC : Hid (Src w (.slice ao l.length c) l) := hs
  obtain ⟨W0, hW0⟩ : ∃ W0, W0 = w.alloc (.cells #[.int .i64 0, .slice none 0 0, .slice none 0 0, .slice none 0 0, .int .i64 0, .int .i64 0, .int .i64 0, .int .i64 0] 47) := ⟨_, rfl⟩
  have HE0 : Hid (Below w.heap.size w W0) := by rw [hW0]; exact (Below.refl _ _).alloc (Nat.le_refl _) _
  have HB0 : Hid (PBox W0 w.heap.size .zero (.slice none 0 0) (.slice none 0 0) (.slice none 0 0)) := by rw [hW0]; exact Blk.new _ _ _
  have HSZ : Hid (W0.heap.size = w.heap.size + 1) := by show _ = _; rw [hW0]; simp
  have HRD : Hid (Calls _ _ _ _ _) := read_any ao l.length c l W0 (HSRC.out.below HE0.out) hl
  have HL : Hid (l.length < 900000000000) := hl
  clear hs hl
  have HCM : Hid (c ≤ maxLen ∧ l.length ≤ c) := by have := HSRC.out.at; exact ⟨this.2.2.1, this.2.1⟩
  obtain ⟨LL, hLL⟩ : ∃ n, l.length = n := ⟨_, rfl⟩
  have HLL : Hid (l.length = LL) := hLL
  rw [hLL] at HRD ⊢
  clear hLL
  go_enter Tryz.func110, Tryz.ntmps110
  go_upto_region 1 with fail
  rw [← hW0]
  clear hW0
  go_wp2_with fail
  refine HRD.out.mono ?_
  rintro e w1 ⟨g, rb, rfl, hr1, hb1, hg1, hrb1⟩
  have hk := num_any g rb l 0 4 w1 hr1
  have HK : Hid (Calls Tryz.prog 34 #[.pointer (some ⟨g, 0, none⟩), .int .u64 4] w1 fun e w' => e = .returned (.int .u64 ((kindR l).1 : Int)) ∧ Rdr w' g rb (kindR l).2.1 (kindR l).2.2 ∧ w1.grownBy w' (some g)) := hk
  have Y1 : Hid (Below W0.heap.size W0 w1) := hb1
  have HG : Hid (W0.heap.size ≤ g ∧ W0.heap.size ≤ rb) := ⟨hg1, hrb1⟩
  clear hk hr1 hb1 hg1 hrb1 HRD
  have hkl : (kindR l).1 ≤ 4 := rnum_le _ _ _
  have HD : Hid (decR l = bodyR (kindR l).1 (lsnR l).2.1 (lsnR l).2.2) := rfl
  have HLS : Hid (∀ W, Rdr W g rb (kindR l).2.1 (kindR l).2.2 → Calls Tryz.prog 34 #[.pointer (some ⟨g, 0, none⟩), .int .u64 9223372036854775807] W fun e w' => e = .returned (.int .u64 ((lsnR l).1 : Int)) ∧ Rdr w' g rb (lsnR l).2.1 (lsnR l).2.2 ∧ W.grownBy w' (some g)) := fun W hW => num_any g rb _ _ 9223372036854775807 W hW
  generalize (kindR l).1 = K at *
  generalize (kindR l).2.1 = l2 at *
  generalize (kindR l).2.2 = e2 at *
  go_wp2_with fail
  refine HK.out.mono ?_
  rintro e w2 ⟨rfl, hr2, hg2⟩
  have Y2 : Hid (Below W0.heap.size W0 w2) := Y1.out.grown hg2 Y1.out.size (fun k hk => by simp at hk; rw [← hk]; exact HG.out.1)
  have R3 : Hid (RBox (w2.alloc (.cells #[.int .i64 (K : Int), .slice none 0 0, .slice none 0 0, .slice none 0 0, .int .i64 0, .int .i64 0, .int .i64 0, .int .i64 0] 47)) W0.heap.size w2.heap.size (pk K) (.slice none 0 0) (.slice none 0 0) (.slice none 0 0) g rb l2 e2) := by
    have h1 := hr2.lt
    have h2 := hr2.2.1
    refine ⟨⟨Blk.new _ _ _, ⟨OwnV.nil _ _ _, OwnV.nil _ _ _, OwnV.nil _ _ _, fun g e => (by cases e), fun g e => (by cases e), fun g e => (by cases e)⟩, Y2.out.size, by simp [Value.ownBlock], by simp [Value.ownBlock], by simp [Value.ownBlock]⟩, hr2.below ((Below.refl _ _).alloc (Nat.le_refl _) _), ?_, ?_, HG.out.1⟩
    · simp [fp, Value.ownBlock]; omega
    · simp [fp, Value.ownBlock]; omega
  have Y3 : Hid (Below W0.heap.size W0 (w2.alloc (.cells #[.int .i64 (K : Int), .slice none 0 0, .slice none 0 0, .slice none 0 0, .int .i64 0, .int .i64 0, .int .i64 0, .int .i64 0] 47))) := Y2.out.alloc Y2.out.size _
  have HL3 : Hid (Calls _ _ _ _ _) := HLS.out _ R3.out.rdr
  clear hr2 hg2 HK Y1 Y2 HLS
  go_wp2_with fail
  refine HL3.out.mono ?_
  rintro e w3 ⟨rfl, hr3, hg3⟩
  have R4 : Hid (RBox w3 W0.heap.size w2.heap.size (pk K) (.slice none 0 0) (.slice none 0 0) (.slice none 0 0) g rb (lsnR l).2.1 (lsnR l).2.2) := R3.out.read hr3 hg3
  have Y4 : Hid (Below W0.heap.size W0 w3) := Y3.out.grown hg3 Y3.out.size (fun k hk => by simp at hk; rw [← hk]; exact HG.out.1)
  clear hr3 hg3 R3 Y3 HL3
  obtain ⟨LSN, hLSN⟩ : ∃ n, (lsnR l).1 = n := ⟨_, rfl⟩
  have HLSN : Hid (LSN = (lsnR l).1) := hLSN.symm
  rw [hLSN]
  clear hLSN
  generalize (lsnR l).2.1 = l3 at *
  generalize (lsnR l).2.2 = e3 at *
  obtain ⟨z0, z1, z2, z3, z4, z5, z6, z7⟩ := R4.out.box.box.cells
  have z0' : w3.cell? ⟨w2.heap.size, 0, none⟩ = some (.int .i64 (K : Int)) := z0
  clear z0 z1 z2 z3
  go_upto_block 0 with fail
  go_cut [] from 16 (fun wx => ∃ kv vv dv, RBox wx W0.heap.size w2.heap.size (bodyR K l3 e3).p kv vv dv g rb (bodyR K l3 e3).l (bodyR K l3 e3).e ∧ Below W0.heap.size W0 wx)
  case first =>
    rcases (show K = 1 ∨ K = 2 ∨ K = 3 ∨ K = 4 ∨ K = 0 by omega) with h | h | h | h | h
    · subst h
      go_wp2_with fail
      refine (readLeaf_any W0.heap.size w2.heap.size g rb (pk 1) _ _ _ l3 e3 w3 R4.out ⟨rfl, rfl⟩).mono ?_
      rintro e w4 ⟨rfl, kv', vv', hR, hY⟩
      have R5 : Hid (RBox w4 W0.heap.size w2.heap.size (bodyR 1 l3 e3).p kv' vv' (.slice none 0 0) g rb (bodyR 1 l3 e3).l (bodyR 1 l3 e3).e) := hR
      have Y5 : Hid (Below W0.heap.size W0 w4) := Y4.out.trans hY
      clear hR hY z0' z4 z5 z6 z7
      go_wp2_with fail
      go_meet
      exact ⟨_, _, _, R5.out, Y5.out⟩
    · subst h
      go_wp2_with fail
      refine (readInner_any W0.heap.size w2.heap.size g rb (pk 2) _ _ _ l3 e3 w3 R4.out ⟨rfl, rfl⟩).mono ?_
      rintro e w4 ⟨rfl, kv', dv', hR, hY⟩
      have R5 : Hid (RBox w4 W0.heap.size w2.heap.size (bodyR 2 l3 e3).p kv' (.slice none 0 0) dv' g rb (bodyR 2 l3 e3).l (bodyR 2 l3 e3).e) := hR
      have Y5 : Hid (Below W0.heap.size W0 w4) := Y4.out.trans hY
      clear hR hY z0' z4 z5 z6 z7
      go_wp2_with fail
      go_meet
      exact ⟨_, _, _, R5.out, Y5.out⟩
    · subst h
      go_wp2_with fail
      refine (readPage_any g rb l3 e3 w3 R4.out.rdr).mono ?_
      rintro e w4 ⟨rfl, hr, hg⟩
      have hr4 : Rdr w4 g rb (m1R l3 e3).2.1 (m1R l3 e3).2.2 := hr
      have R5 : Hid (RBox w4 _ _ _ _ _ _ _ _ _ _) := R4.out.read hr4 hg
      have Y5 : Hid (Below W0.heap.size W0 w4) := Y4.out.grown hg R4.out.box.sizeB (fun k hk => by simp at hk; rw [← hk]; exact R4.out.hg)
      clear hr hr4 hg z0' z4 z5 z6 z7
      go_wp2_with fail
      refine (readPage_any g rb _ _ w4 R5.out.rdr).mono ?_
      rintro e w5 ⟨rfl, hr, hg⟩
      have hr4 : Rdr w5 g rb (m2R l3 e3).2.1 (m2R l3 e3).2.2 := hr
      have R6 : Hid (RBox w5 _ _ _ _ _ _ _ _ _ _) := R5.out.read hr4 hg
      have Y6 : Hid (Below W0.heap.size W0 w5) := Y5.out.grown hg R5.out.box.sizeB (fun k hk => by simp at hk; rw [← hk]; exact R5.out.hg)
      clear hr hr4 hg R5 Y5
      go_wp2_with fail
      refine (num_any g rb _ _ 65536 w5 R6.out.rdr).mono ?_
      rintro e w6 ⟨rfl, hr, hg⟩
      have hr4 : Rdr w6 g rb (m3R l3 e3).2.1 (m3R l3 e3).2.2 := hr
      have R7 : Hid (RBox w6 _ _ _ _ _ _ _ _ _ _) := R6.out.read hr4 hg
      have Y7 : Hid (Below W0.heap.size W0 w6) := Y6.out.grown hg R6.out.box.sizeB (fun k hk => by simp at hk; rw [← hk]; exact R6.out.hg)
      have hb3 : (rnum (m2R l3 e3).2.1 (m2R l3 e3).2.2 65536).1 ≤ 65536 := rnum_le _ _ _
      have HM3 : Hid ((m3R l3 e3).1 = (rnum (m2R l3 e3).2.1 (m2R l3 e3).2.2 65536).1) := rfl
      generalize (rnum (m2R l3 e3).2.1 (m2R l3 e3).2.2 65536).1 = X3 at *
      clear hr hr4 hg R6 Y6
      go_wp2_with fail
      refine (num_any g rb _ _ 65536 w6 R7.out.rdr).mono ?_
      rintro e w7 ⟨rfl, hr, hg⟩
      have hr4 : Rdr w7 g rb (m4R l3 e3).2.1 (m4R l3 e3).2.2 := hr
      have R8 : Hid (RBox w7 W0.heap.size w2.heap.size (pk 3) (.slice none 0 0) (.slice none 0 0) (.slice none 0 0) g rb (m4R l3 e3).2.1 (m4R l3 e3).2.2) := R7.out.read hr4 hg
      have Y8 : Hid (Below W0.heap.size W0 w7) := Y7.out.grown hg R7.out.box.sizeB (fun k hk => by simp at hk; rw [← hk]; exact R7.out.hg)
      have hb4 : (rnum (m3R l3 e3).2.1 (m3R l3 e3).2.2 65536).1 ≤ 65536 := rnum_le _ _ _
      have HM4 : Hid ((m4R l3 e3).1 = (rnum (m3R l3 e3).2.1 (m3R l3 e3).2.2 65536).1) := rfl
      have HM1 : Hid ((m1R l3 e3).1 = (rnum l3 e3 65535).1) := rfl
      have HM2 : Hid ((m2R l3 e3).1 = (rnum (m1R l3 e3).2.1 (m1R l3 e3).2.2 65535).1) := rfl
      have HBD : Hid (bodyR 3 l3 e3 = ⟨⟨3, [], [], [], ((m1R l3 e3).1 : Int), ((m2R l3 e3).1 : Int), ((m3R l3 e3).1 : Int), ((m4R l3 e3).1 : Int)⟩, (m4R l3 e3).2.1, (m4R l3 e3).2.2⟩) := rfl
      rw [HM1.out, HM2.out, HM3.out, HM4.out] at HBD
      generalize (rnum (m3R l3 e3).2.1 (m3R l3 e3).2.2 65536).1 = X4 at *
      generalize (rnum l3 e3 65535).1 = X1 at *
      generalize (rnum (m1R l3 e3).2.1 (m1R l3 e3).2.2 65535).1 = X2 at *
      generalize (m4R l3 e3).2.1 = L4 at *
      generalize (m4R l3 e3).2.2 = E4 at *
      clear hr hr4 hg R7 Y7 HM1 HM2 HM3 HM4
      obtain ⟨y0, y1, y2, y3, y4, y5, y6, y7⟩ := R8.out.box.box.cells
      have f4 := R8.out.box.box.frozen 4
      have f5 := R8.out.box.box.frozen 5
      have f6 := R8.out.box.box.frozen 6
      have f7 := R8.out.box.box.frozen 7
      have R9 : Hid (RBox ((((w7.setCell ⟨w2.heap.size, 4, none⟩ (.int .i64 (X1 : Int))).setCell ⟨w2.heap.size, 5, none⟩ (.int .i64 (X2 : Int))).setCell ⟨w2.heap.size, 6, none⟩ (.int .i64 (X3 : Int))).setCell ⟨w2.heap.size, 7, none⟩ (.int .i64 (X4 : Int))) W0.heap.size w2.heap.size ⟨3, [], [], [], (X1 : Int), (X2 : Int), (X3 : Int), (X4 : Int)⟩ (.slice none 0 0) (.slice none 0 0) (.slice none 0 0) g rb L4 E4) :=
        (((R8.out.setNum (q := ⟨3, [], [], [], (X1 : Int), 0, 0, 0⟩) 4 X1 rfl rfl rfl rfl).setNum (q := ⟨3, [], [], [], (X1 : Int), (X2 : Int), 0, 0⟩) 5 X2 rfl rfl rfl rfl).setNum (q := ⟨3, [], [], [], (X1 : Int), (X2 : Int), (X3 : Int), 0⟩) 6 X3 rfl rfl rfl rfl).setNum 7 X4 rfl rfl rfl rfl
      have Y9 : Hid (Below W0.heap.size W0 ((((w7.setCell ⟨w2.heap.size, 4, none⟩ (.int .i64 (X1 : Int))).setCell ⟨w2.heap.size, 5, none⟩ (.int .i64 (X2 : Int))).setCell ⟨w2.heap.size, 6, none⟩ (.int .i64 (X3 : Int))).setCell ⟨w2.heap.size, 7, none⟩ (.int .i64 (X4 : Int)))) :=
        (((Y8.out.setCell R8.out.box.hb _).setCell R8.out.box.hb _).setCell R8.out.box.hb _).setCell R8.out.box.hb _
      go_wp2_with fail
      go_meet
      exact ⟨_, _, _, by rw [HBD.out]; exact R9.out, Y9.out⟩
    · subst h
      go_wp2_with fail
      refine (readPage_any g rb l3 e3 w3 R4.out.rdr).mono ?_
      rintro e w4 ⟨rfl, hr, hg⟩
      have hr4 : Rdr w4 g rb (m1R l3 e3).2.1 (m1R l3 e3).2.2 := hr
      have R8 : Hid (RBox w4 W0.heap.size w2.heap.size (pk 4) (.slice none 0 0) (.slice none 0 0) (.slice none 0 0) g rb (m1R l3 e3).2.1 (m1R l3 e3).2.2) := R4.out.read hr4 hg
      have Y8 : Hid (Below W0.heap.size W0 w4) := Y4.out.grown hg R4.out.box.sizeB (fun k hk => by simp at hk; rw [← hk]; exact R4.out.hg)
      have HBD : Hid (bodyR 4 l3 e3 = ⟨⟨4, [], [], [], 0, ((rnum l3 e3 65535).1 : Int), 0, 0⟩, (m1R l3 e3).2.1, (m1R l3 e3).2.2⟩) := rfl
      generalize (rnum l3 e3 65535).1 = X1 at *
      clear hr hr4 hg z0' z4 z5 z6 z7
      obtain ⟨y0, y1, y2, y3, y4, y5, y6, y7⟩ := R8.out.box.box.cells
      have f5 := R8.out.box.box.frozen 5
      have R9 : Hid (RBox (w4.setCell ⟨w2.heap.size, 5, none⟩ (.int .i64 (X1 : Int))) W0.heap.size w2.heap.size ⟨4, [], [], [], 0, (X1 : Int), 0, 0⟩ (.slice none 0 0) (.slice none 0 0) (.slice none 0 0) g rb (m1R l3 e3).2.1 (m1R l3 e3).2.2) := R8.out.setNum 5 X1 rfl rfl rfl rfl
      have Y9 : Hid (Below W0.heap.size W0 (w4.setCell ⟨w2.heap.size, 5, none⟩ (.int .i64 (X1 : Int)))) := Y8.out.setCell R8.out.box.hb _
      go_wp2_with fail
      go_meet
      exact ⟨_, _, _, by rw [HBD.out]; exact R9.out, Y9.out⟩
    · subst h
      go_wp2_with fail
      go_meet
      exact ⟨_, _, _, R4.out, Y4.out⟩
  case rest =>
    obtain ⟨kv, vv, dv, hR, hY⟩ := hcut
    rw [← HD.out] at hR
    have HOK : Hid (decR l).p.Ok := by
      show (decR l).p.Ok
      rw [HD.out]; exact body_ok K hkl l3 e3
    have HLEN : Hid ((decR l).l.length ≤ l.length) := dec_len l
    have HDO : Hid (decOk l = (decide ((decR l).e = 0) && rightPg (decR l).p && noughtsB (l.drop (l.length - (decR l).l.length)))) := rfl
    clear HD R4 Y4 z0' z4 z5 z6 z7 hkl
    obtain ⟨ka, kc, va, vc, da, dc, rfl, rfl, rfl, _, _, _⟩ := hR.box.own.at.forms
    have R5 : Hid (RBox wc _ _ _ _ _ _ _ _ _ _) := hR
    have Y5 : Hid (Below W0.heap.size W0 wc) := hY
    have HPost : Hid (∀ P LSN' e w', P = (decR l).p → LSN' = (lsnR l).1 → (if decOk l then ∃ kv vv dv, e = .returned (.tuple #[pgv P kv vv dv, .int .u64 (LSN' : Int), .int .i64 0]) ∧ PgO w' w.heap.size P kv vv dv else e = .returned (.tuple #[pgv .zero (.slice none 0 0) (.slice none 0 0) (.slice none 0 0), .int .u64 0, .int .i64 11])) → Below w.heap.size w w' → DecPostO l w e w') := fun P LSN' e w' h1 h2 h3 h4 => by subst h1 h2; exact ⟨h3, h4⟩
    clear hR hY
    have ZB : Hid (PBox wc w.heap.size .zero (.slice none 0 0) (.slice none 0 0) (.slice none 0 0)) := Blk.of HB0.out (Y5.out.block _ (Blk.lt HB0.out))
    have YW : Hid (Below w.heap.size w wc) := ext_trans HE0.out Y5.out
    clear HB0 HE0 Y5
    go_wp2_with fail
    refine (err_any g rb _ _ wc R5.out.rdr).mono ?_
    rintro e w4 ⟨rfl, hw4⟩
    subst hw4
    by_cases hE : (decR l).e = 0
    · have hEb : (((decR l).e : Int) != 0) = false := by rw [bne_eq_false_iff_eq]; omega
      have HEE : Hid ((decR l).e = 0) := hE
      clear hE
      obtain ⟨z0, z1, z2, z3, z4, z5, z6, z7⟩ := R5.out.box.box.cells
      go_wp2_with fail
      refine (right_any (decR l).p _ _ _ w4 R5.out.box.own.at HOK.out).mono ?_
      rintro e w5 ⟨rfl, y⟩
      have R6 : Hid (RBox w5 _ _ _ _ _ _ _ _ _ _) := R5.out.below y
      have ZC : Hid (PBox w5 w.heap.size .zero (.slice none 0 0) (.slice none 0 0) (.slice none 0 0)) := ZB.out.below y
      have YX : Hid (Below w.heap.size w w5) := ext_trans YW.out y
      clear y z0 z1 z2 z3 z4 z5 z6 z7 R5 ZB YW
      obtain ⟨rp, hrp⟩ : ∃ x, rightPg (decR l).p = x := ⟨_, rfl⟩
      have HRP : Hid (rightPg (decR l).p = rp) := hrp
      rw [hrp]
      clear hrp
      cases rp with
      | false =>
        have HNO : Hid (decOk l = false) := by show _ = _; rw [HDO.out, HRP.out]; simp
        obtain ⟨y0, y1, y2, y3, y4, y5, y6, y7⟩ := ZC.out.cells
        have g0 := ZC.out.frozen 0
        have g1 := ZC.out.frozen 1
        have g2 := ZC.out.frozen 2
        have g3 := ZC.out.frozen 3
        have g4 := ZC.out.frozen 4
        have g5 := ZC.out.frozen 5
        have g6 := ZC.out.frozen 6
        have g7 := ZC.out.frozen 7
        go_wp2
        have K1 : PBox (put8 w5 w.heap.size (.int .i64 0) (.slice none 0 0) (.slice none 0 0) (.slice none 0 0) (.int .i64 0) (.int .i64 0) (.int .i64 0) (.int .i64 0)) w.heap.size Pg.zero (.slice none 0 0) (.slice none 0 0) (.slice none 0 0) := blk_set8 _ _ _ _ _ _ _ _ ZC.out
        have K2 : Below w.heap.size w (put8 w5 w.heap.size (.int .i64 0) (.slice none 0 0) (.slice none 0 0) (.slice none 0 0) (.int .i64 0) (.int .i64 0) (.int .i64 0) (.int .i64 0)) := put8_below YX.out (Nat.le_refl _) _ _ _ _ _ _ _ _
        have K3 : ∀ k, k ≠ w.heap.size → (put8 w5 w.heap.size (.int .i64 0) (.slice none 0 0) (.slice none 0 0) (.slice none 0 0) (.int .i64 0) (.int .i64 0) (.int .i64 0) (.int .i64 0)).heap[k]? = w5.heap[k]? := fun k hk => put8_other _ _ _ _ _ _ _ _ _ _ _ hk
        have hgo : ∀ (Q : World → Prop), Q (put8 w5 w.heap.size (.int .i64 0) (.slice none 0 0) (.slice none 0 0) (.slice none 0 0) (.int .i64 0) (.int .i64 0) (.int .i64 0) (.int .i64 0)) → Q (((((((((w5.setCell ⟨w.heap.size, 0, none⟩ (.int .i64 0)).setCell ⟨w.heap.size, 1, none⟩ (.slice none 0 0)).setCell ⟨w.heap.size, 2, none⟩ (.slice none 0 0)).setCell ⟨w.heap.size, 3, none⟩ (.slice none 0 0)).setCell ⟨w.heap.size, 4, none⟩ (.int .i64 0)).setCell ⟨w.heap.size, 5, none⟩ (.int .i64 0)).setCell ⟨w.heap.size, 6, none⟩ (.int .i64 0)).setCell ⟨w.heap.size, 7, none⟩ (.int .i64 0))) := fun Q h => h
        refine hgo _ ?_
        clear hgo y0 y1 y2 y3 y4 y5 y6 y7 g0 g1 g2 g3 g4 g5 g6 g7
        generalize (put8 w5 w.heap.size (.int .i64 0) (.slice none 0 0) (.slice none 0 0) (.slice none 0 0) (.int .i64 0) (.int .i64 0) (.int .i64 0) (.int .i64 0)) = W9 at *
        obtain ⟨q0, q1, q2, q3, q4, q5, q6, q7⟩ := K1.cells
        exact bodyPost_ret (v := .tuple #[pgv Pg.zero (.slice none 0 0) (.slice none 0 0) (.slice none 0 0), .int .u64 0, .int .i64 11]) (by simp [pgv, Pg.zero, results, Tryz.results110, go_sem, q0, q1, q2, q3, q4, q5, q6, q7]) rfl (HPost.out _ _ _ _ rfl rfl (by rw [HNO.out]; exact rfl) K2)
      | true =>
        go_wp2_with fail
        refine (left_any g rb _ _ w5 R6.out.rdr).mono ?_
        rintro e w6 ⟨rfl, hw6⟩
        subst hw6
        have hle := HLEN.out
        rw [HLL.out] at hle
        obtain ⟨Sx, hSx, hSl⟩ : ∃ S : Nat, ((LL : Int) - ((decR l).l.length : Int)) = (S : Int) ∧ S ≤ LL := ⟨LL - (decR l).l.length, by omega, by omega⟩
        have HDR : Hid (decOk l = noughtsB (l.drop Sx)) := by
          show _ = _
          rw [HDO.out, HEE.out, HRP.out, HLL.out, show LL - (decR l).l.length = Sx by omega]; simp
        have hcm := HCM.out
        rw [HLL.out] at hcm
        unfold maxLen at hcm
        have SRC : Hid (∀ ao' c' n', n' = LL - Sx → ((c = Sx ∧ ao' = ao ∧ c' = 0) ∨ (¬ c = Sx ∧ ao' = Option.map (fun x => x.add Sx) ao ∧ c' = c - Sx)) → Src w6 (.slice ao' n' c') (l.drop Sx)) := fun ao' c' n' hn' h => by
          have := src_drop (HSRC.out.below YX.out) (show Sx ≤ l.length by rw [HLL.out]; exact hSl) h
          rw [HLL.out] at this
          rw [hn']; exact this
        have HSX : Hid ((Sx : Int) = (LL : Int) - ((decR l).l.length : Int)) := hSx.symm
        clear hle HLEN HCM
        go_wp2_with fail
        · refine (noughts_any _ (l.drop Sx) w6 (SRC.out _ _ _ rfl (.inl ⟨by assumption, rfl, rfl⟩))).mono ?_
          rintro e w7 ⟨rfl, hw7⟩
          subst hw7
          obtain ⟨nb, hnb⟩ : ∃ x, noughtsB (l.drop Sx) = x := ⟨_, rfl⟩
          rw [hnb] at HDR
          rw [hnb]
          clear hnb SRC hcm
          cases nb with
          | false =>
            obtain ⟨y0, y1, y2, y3, y4, y5, y6, y7⟩ := ZC.out.cells
            have g0 := ZC.out.frozen 0
            have g1 := ZC.out.frozen 1
            have g2 := ZC.out.frozen 2
            have g3 := ZC.out.frozen 3
            have g4 := ZC.out.frozen 4
            have g5 := ZC.out.frozen 5
            have g6 := ZC.out.frozen 6
            have g7 := ZC.out.frozen 7
            go_wp2
            have K1 : PBox (put8 w7 w.heap.size (.int .i64 0) (.slice none 0 0) (.slice none 0 0) (.slice none 0 0) (.int .i64 0) (.int .i64 0) (.int .i64 0) (.int .i64 0)) w.heap.size Pg.zero (.slice none 0 0) (.slice none 0 0) (.slice none 0 0) := blk_set8 _ _ _ _ _ _ _ _ ZC.out
            have K2 : Below w.heap.size w (put8 w7 w.heap.size (.int .i64 0) (.slice none 0 0) (.slice none 0 0) (.slice none 0 0) (.int .i64 0) (.int .i64 0) (.int .i64 0) (.int .i64 0)) := put8_below YX.out (Nat.le_refl _) _ _ _ _ _ _ _ _
            have K3 : ∀ k, k ≠ w.heap.size → (put8 w7 w.heap.size (.int .i64 0) (.slice none 0 0) (.slice none 0 0) (.slice none 0 0) (.int .i64 0) (.int .i64 0) (.int .i64 0) (.int .i64 0)).heap[k]? = w7.heap[k]? := fun k hk => put8_other _ _ _ _ _ _ _ _ _ _ _ hk
            have hgo : ∀ (Q : World → Prop), Q (put8 w7 w.heap.size (.int .i64 0) (.slice none 0 0) (.slice none 0 0) (.slice none 0 0) (.int .i64 0) (.int .i64 0) (.int .i64 0) (.int .i64 0)) → Q (((((((((w7.setCell ⟨w.heap.size, 0, none⟩ (.int .i64 0)).setCell ⟨w.heap.size, 1, none⟩ (.slice none 0 0)).setCell ⟨w.heap.size, 2, none⟩ (.slice none 0 0)).setCell ⟨w.heap.size, 3, none⟩ (.slice none 0 0)).setCell ⟨w.heap.size, 4, none⟩ (.int .i64 0)).setCell ⟨w.heap.size, 5, none⟩ (.int .i64 0)).setCell ⟨w.heap.size, 6, none⟩ (.int .i64 0)).setCell ⟨w.heap.size, 7, none⟩ (.int .i64 0))) := fun Q h => h
            refine hgo _ ?_
            clear hgo y0 y1 y2 y3 y4 y5 y6 y7 g0 g1 g2 g3 g4 g5 g6 g7
            generalize (put8 w7 w.heap.size (.int .i64 0) (.slice none 0 0) (.slice none 0 0) (.slice none 0 0) (.int .i64 0) (.int .i64 0) (.int .i64 0) (.int .i64 0)) = W9 at *
            obtain ⟨q0, q1, q2, q3, q4, q5, q6, q7⟩ := K1.cells
            exact bodyPost_ret (v := .tuple #[pgv Pg.zero (.slice none 0 0) (.slice none 0 0) (.slice none 0 0), .int .u64 0, .int .i64 11]) (by simp [pgv, Pg.zero, results, Tryz.results110, go_sem, q0, q1, q2, q3, q4, q5, q6, q7]) rfl (HPost.out _ _ _ _ rfl rfl (by rw [HDR.out]; exact rfl) K2)
          | true =>
            obtain ⟨z0, z1, z2, z3, z4, z5, z6, z7⟩ := R6.out.box.box.cells
            have hbne : ¬ w2.heap.size = w.heap.size := by have := R6.out.box.hb; have := HSZ.out; omega
            have RK : Hid (∀ k, fp w2.heap.size (.slice ka (decR l).p.keys.length kc) (.slice va (decR l).p.vals.length vc) (.slice da (decR l).p.kids.length dc) k → k ≠ w.heap.size) := fun k hk => by have := (R6.out.box.lt hk).1; have := HSZ.out; omega
            obtain ⟨y0, y1, y2, y3, y4, y5, y6, y7⟩ := ZC.out.cells
            have g0 := ZC.out.frozen 0
            have g1 := ZC.out.frozen 1
            have g2 := ZC.out.frozen 2
            have g3 := ZC.out.frozen 3
            have g4 := ZC.out.frozen 4
            have g5 := ZC.out.frozen 5
            have g6 := ZC.out.frozen 6
            have g7 := ZC.out.frozen 7
            go_wp2
            have K1 : PBox (put8 w7 w.heap.size (.int .i64 (decR l).p.kind) (.slice ka (decR l).p.keys.length kc) (.slice va (decR l).p.vals.length vc) (.slice da (decR l).p.kids.length dc) (.int .i64 (decR l).p.root) (.int .i64 (decR l).p.next) (.int .i64 (decR l).p.size) (.int .i64 (decR l).p.idle)) w.heap.size (decR l).p (.slice ka (decR l).p.keys.length kc) (.slice va (decR l).p.vals.length vc) (.slice da (decR l).p.kids.length dc) := blk_set8 _ _ _ _ _ _ _ _ ZC.out
            have K2 : Below w.heap.size w (put8 w7 w.heap.size (.int .i64 (decR l).p.kind) (.slice ka (decR l).p.keys.length kc) (.slice va (decR l).p.vals.length vc) (.slice da (decR l).p.kids.length dc) (.int .i64 (decR l).p.root) (.int .i64 (decR l).p.next) (.int .i64 (decR l).p.size) (.int .i64 (decR l).p.idle)) := put8_below YX.out (Nat.le_refl _) _ _ _ _ _ _ _ _
            have K3 : ∀ k, k ≠ w.heap.size → (put8 w7 w.heap.size (.int .i64 (decR l).p.kind) (.slice ka (decR l).p.keys.length kc) (.slice va (decR l).p.vals.length vc) (.slice da (decR l).p.kids.length dc) (.int .i64 (decR l).p.root) (.int .i64 (decR l).p.next) (.int .i64 (decR l).p.size) (.int .i64 (decR l).p.idle)).heap[k]? = w7.heap[k]? := fun k hk => put8_other _ _ _ _ _ _ _ _ _ _ _ hk
            have hgo : ∀ (Q : World → Prop), Q (put8 w7 w.heap.size (.int .i64 (decR l).p.kind) (.slice ka (decR l).p.keys.length kc) (.slice va (decR l).p.vals.length vc) (.slice da (decR l).p.kids.length dc) (.int .i64 (decR l).p.root) (.int .i64 (decR l).p.next) (.int .i64 (decR l).p.size) (.int .i64 (decR l).p.idle)) → Q (((((((((w7.setCell ⟨w.heap.size, 0, none⟩ (.int .i64 (decR l).p.kind)).setCell ⟨w.heap.size, 1, none⟩ (.slice ka (decR l).p.keys.length kc)).setCell ⟨w.heap.size, 2, none⟩ (.slice va (decR l).p.vals.length vc)).setCell ⟨w.heap.size, 3, none⟩ (.slice da (decR l).p.kids.length dc)).setCell ⟨w.heap.size, 4, none⟩ (.int .i64 (decR l).p.root)).setCell ⟨w.heap.size, 5, none⟩ (.int .i64 (decR l).p.next)).setCell ⟨w.heap.size, 6, none⟩ (.int .i64 (decR l).p.size)).setCell ⟨w.heap.size, 7, none⟩ (.int .i64 (decR l).p.idle))) := fun Q h => h
            refine hgo _ ?_
            clear hgo z0 z1 z2 z3 z4 z5 z6 z7 y0 y1 y2 y3 y4 y5 y6 y7 g0 g1 g2 g3 g4 g5 g6 g7
            generalize (put8 w7 w.heap.size (.int .i64 (decR l).p.kind) (.slice ka (decR l).p.keys.length kc) (.slice va (decR l).p.vals.length vc) (.slice da (decR l).p.kids.length dc) (.int .i64 (decR l).p.root) (.int .i64 (decR l).p.next) (.int .i64 (decR l).p.size) (.int .i64 (decR l).p.idle)) = W9 at *
            obtain ⟨q0, q1, q2, q3, q4, q5, q6, q7⟩ := K1.cells
            exact bodyPost_ret (v := .tuple #[pgv (decR l).p (.slice ka (decR l).p.keys.length kc) (.slice va (decR l).p.vals.length vc) (.slice da (decR l).p.kids.length dc), .int .u64 (LSN : Int), .int .i64 0]) (by simp [pgv, results, Tryz.results110, go_sem, q0, q1, q2, q3, q4, q5, q6, q7]) rfl (HPost.out _ _ _ _ rfl HLSN.out (by rw [HDR.out]; exact ⟨_, _, _, rfl, (R6.out.box.keep (fun k hk => K3 k (RK.out k hk))).own.mono (by have := HSZ.out; omega)⟩) K2)
        · refine (noughts_any _ (l.drop Sx) w6 (SRC.out _ _ _ rfl (.inr ⟨by assumption, rfl, rfl⟩))).mono ?_
          rintro e w7 ⟨rfl, hw7⟩
          subst hw7
          obtain ⟨nb, hnb⟩ : ∃ x, noughtsB (l.drop Sx) = x := ⟨_, rfl⟩
          rw [hnb] at HDR
          rw [hnb]
          clear hnb SRC hcm
          cases nb with
          | false =>
            obtain ⟨y0, y1, y2, y3, y4, y5, y6, y7⟩ := ZC.out.cells
            have g0 := ZC.out.frozen 0
            have g1 := ZC.out.frozen 1
            have g2 := ZC.out.frozen 2
            have g3 := ZC.out.frozen 3
            have g4 := ZC.out.frozen 4
            have g5 := ZC.out.frozen 5
            have g6 := ZC.out.frozen 6
            have g7 := ZC.out.frozen 7
            go_wp2
            have K1 : PBox (put8 w7 w.heap.size (.int .i64 0) (.slice none 0 0) (.slice none 0 0) (.slice none 0 0) (.int .i64 0) (.int .i64 0) (.int .i64 0) (.int .i64 0)) w.heap.size Pg.zero (.slice none 0 0) (.slice none 0 0) (.slice none 0 0) := blk_set8 _ _ _ _ _ _ _ _ ZC.out
            have K2 : Below w.heap.size w (put8 w7 w.heap.size (.int .i64 0) (.slice none 0 0) (.slice none 0 0) (.slice none 0 0) (.int .i64 0) (.int .i64 0) (.int .i64 0) (.int .i64 0)) := put8_below YX.out (Nat.le_refl _) _ _ _ _ _ _ _ _
            have K3 : ∀ k, k ≠ w.heap.size → (put8 w7 w.heap.size (.int .i64 0) (.slice none 0 0) (.slice none 0 0) (.slice none 0 0) (.int .i64 0) (.int .i64 0) (.int .i64 0) (.int .i64 0)).heap[k]? = w7.heap[k]? := fun k hk => put8_other _ _ _ _ _ _ _ _ _ _ _ hk
            have hgo : ∀ (Q : World → Prop), Q (put8 w7 w.heap.size (.int .i64 0) (.slice none 0 0) (.slice none 0 0) (.slice none 0 0) (.int .i64 0) (.int .i64 0) (.int .i64 0) (.int .i64 0)) → Q (((((((((w7.setCell ⟨w.heap.size, 0, none⟩ (.int .i64 0)).setCell ⟨w.heap.size, 1, none⟩ (.slice none 0 0)).setCell ⟨w.heap.size, 2, none⟩ (.slice none 0 0)).setCell ⟨w.heap.size, 3, none⟩ (.slice none 0 0)).setCell ⟨w.heap.size, 4, none⟩ (.int .i64 0)).setCell ⟨w.heap.size, 5, none⟩ (.int .i64 0)).setCell ⟨w.heap.size, 6, none⟩ (.int .i64 0)).setCell ⟨w.heap.size, 7, none⟩ (.int .i64 0))) := fun Q h => h
            refine hgo _ ?_
            clear hgo y0 y1 y2 y3 y4 y5 y6 y7 g0 g1 g2 g3 g4 g5 g6 g7
            generalize (put8 w7 w.heap.size (.int .i64 0) (.slice none 0 0) (.slice none 0 0) (.slice none 0 0) (.int .i64 0) (.int .i64 0) (.int .i64 0) (.int .i64 0)) = W9 at *
            obtain ⟨q0, q1, q2, q3, q4, q5, q6, q7⟩ := K1.cells
            exact bodyPost_ret (v := .tuple #[pgv Pg.zero (.slice none 0 0) (.slice none 0 0) (.slice none 0 0), .int .u64 0, .int .i64 11]) (by simp [pgv, Pg.zero, results, Tryz.results110, go_sem, q0, q1, q2, q3, q4, q5, q6, q7]) rfl (HPost.out _ _ _ _ rfl rfl (by rw [HDR.out]; exact rfl) K2)
          | true =>
            obtain ⟨z0, z1, z2, z3, z4, z5, z6, z7⟩ := R6.out.box.box.cells
            have hbne : ¬ w2.heap.size = w.heap.size := by have := R6.out.box.hb; have := HSZ.out; omega
            have RK : Hid (∀ k, fp w2.heap.size (.slice ka (decR l).p.keys.length kc) (.slice va (decR l).p.vals.length vc) (.slice da (decR l).p.kids.length dc) k → k ≠ w.heap.size) := fun k hk => by have := (R6.out.box.lt hk).1; have := HSZ.out; omega
            obtain ⟨y0, y1, y2, y3, y4, y5, y6, y7⟩ := ZC.out.cells
            have g0 := ZC.out.frozen 0
            have g1 := ZC.out.frozen 1
            have g2 := ZC.out.frozen 2
            have g3 := ZC.out.frozen 3
            have g4 := ZC.out.frozen 4
            have g5 := ZC.out.frozen 5
            have g6 := ZC.out.frozen 6
            have g7 := ZC.out.frozen 7
            go_wp2
            have K1 : PBox (put8 w7 w.heap.size (.int .i64 (decR l).p.kind) (.slice ka (decR l).p.keys.length kc) (.slice va (decR l).p.vals.length vc) (.slice da (decR l).p.kids.length dc) (.int .i64 (decR l).p.root) (.int .i64 (decR l).p.next) (.int .i64 (decR l).p.size) (.int .i64 (decR l).p.idle)) w.heap.size (decR l).p (.slice ka (decR l).p.keys.length kc) (.slice va (decR l).p.vals.length vc) (.slice da (decR l).p.kids.length dc) := blk_set8 _ _ _ _ _ _ _ _ ZC.out
            have K2 : Below w.heap.size w (put8 w7 w.heap.size (.int .i64 (decR l).p.kind) (.slice ka (decR l).p.keys.length kc) (.slice va (decR l).p.vals.length vc) (.slice da (decR l).p.kids.length dc) (.int .i64 (decR l).p.root) (.int .i64 (decR l).p.next) (.int .i64 (decR l).p.size) (.int .i64 (decR l).p.idle)) := put8_below YX.out (Nat.le_refl _) _ _ _ _ _ _ _ _
            have K3 : ∀ k, k ≠ w.heap.size → (put8 w7 w.heap.size (.int .i64 (decR l).p.kind) (.slice ka (decR l).p.keys.length kc) (.slice va (decR l).p.vals.length vc) (.slice da (decR l).p.kids.length dc) (.int .i64 (decR l).p.root) (.int .i64 (decR l).p.next) (.int .i64 (decR l).p.size) (.int .i64 (decR l).p.idle)).heap[k]? = w7.heap[k]? := fun k hk => put8_other _ _ _ _ _ _ _ _ _ _ _ hk
            have hgo : ∀ (Q : World → Prop), Q (put8 w7 w.heap.size (.int .i64 (decR l).p.kind) (.slice ka (decR l).p.keys.length kc) (.slice va (decR l).p.vals.length vc) (.slice da (decR l).p.kids.length dc) (.int .i64 (decR l).p.root) (.int .i64 (decR l).p.next) (.int .i64 (decR l).p.size) (.int .i64 (decR l).p.idle)) → Q (((((((((w7.setCell ⟨w.heap.size, 0, none⟩ (.int .i64 (decR l).p.kind)).setCell ⟨w.heap.size, 1, none⟩ (.slice ka (decR l).p.keys.length kc)).setCell ⟨w.heap.size, 2, none⟩ (.slice va (decR l).p.vals.length vc)).setCell ⟨w.heap.size, 3, none⟩ (.slice da (decR l).p.kids.length dc)).setCell ⟨w.heap.size, 4, none⟩ (.int .i64 (decR l).p.root)).setCell ⟨w.heap.size, 5, none⟩ (.int .i64 (decR l).p.next)).setCell ⟨w.heap.size, 6, none⟩ (.int .i64 (decR l).p.size)).setCell ⟨w.heap.size, 7, none⟩ (.int .i64 (decR l).p.idle))) := fun Q h => h
            refine hgo _ ?_
            clear hgo z0 z1 z2 z3 z4 z5 z6 z7 y0 y1 y2 y3 y4 y5 y6 y7 g0 g1 g2 g3 g4 g5 g6 g7
            generalize (put8 w7 w.heap.size (.int .i64 (decR l).p.kind) (.slice ka (decR l).p.keys.length kc) (.slice va (decR l).p.vals.length vc) (.slice da (decR l).p.kids.length dc) (.int .i64 (decR l).p.root) (.int .i64 (decR l).p.next) (.int .i64 (decR l).p.size) (.int .i64 (decR l).p.idle)) = W9 at *
            obtain ⟨q0, q1, q2, q3, q4, q5, q6, q7⟩ := K1.cells
            exact bodyPost_ret (v := .tuple #[pgv (decR l).p (.slice ka (decR l).p.keys.length kc) (.slice va (decR l).p.vals.length vc) (.slice da (decR l).p.kids.length dc), .int .u64 (LSN : Int), .int .i64 0]) (by simp [pgv, results, Tryz.results110, go_sem, q0, q1, q2, q3, q4, q5, q6, q7]) rfl (HPost.out _ _ _ _ rfl HLSN.out (by rw [HDR.out]; exact ⟨_, _, _, rfl, (R6.out.box.keep (fun k hk => K3 k (RK.out k hk))).own.mono (by have := HSZ.out; omega)⟩) K2)
    · have hEb : (((decR l).e : Int) != 0) = true := by rw [bne_iff_ne]; omega
      have HNO : Hid (decOk l = false) := by show _ = _; rw [HDO.out]; simp [hE]
      clear hE
      obtain ⟨y0, y1, y2, y3, y4, y5, y6, y7⟩ := ZB.out.cells
      have g0 := ZB.out.frozen 0
      have g1 := ZB.out.frozen 1
      have g2 := ZB.out.frozen 2
      have g3 := ZB.out.frozen 3
      have g4 := ZB.out.frozen 4
      have g5 := ZB.out.frozen 5
      have g6 := ZB.out.frozen 6
      have g7 := ZB.out.frozen 7
      go_wp2
      have K1 : PBox (put8 w4 w.heap.size (.int .i64 0) (.slice none 0 0) (.slice none 0 0) (.slice none 0 0) (.int .i64 0) (.int .i64 0) (.int .i64 0) (.int .i64 0)) w.heap.size Pg.zero (.slice none 0 0) (.slice none 0 0) (.slice none 0 0) := blk_set8 _ _ _ _ _ _ _ _ ZB.out
      have K2 : Below w.heap.size w (put8 w4 w.heap.size (.int .i64 0) (.slice none 0 0) (.slice none 0 0) (.slice none 0 0) (.int .i64 0) (.int .i64 0) (.int .i64 0) (.int .i64 0)) := put8_below YW.out (Nat.le_refl _) _ _ _ _ _ _ _ _
      have K3 : ∀ k, k ≠ w.heap.size → (put8 w4 w.heap.size (.int .i64 0) (.slice none 0 0) (.slice none 0 0) (.slice none 0 0) (.int .i64 0) (.int .i64 0) (.int .i64 0) (.int .i64 0)).heap[k]? = w4.heap[k]? := fun k hk => put8_other _ _ _ _ _ _ _ _ _ _ _ hk
      have hgo : ∀ (Q : World → Prop), Q (put8 w4 w.heap.size (.int .i64 0) (.slice none 0 0) (.slice none 0 0) (.slice none 0 0) (.int .i64 0) (.int .i64 0) (.int .i64 0) (.int .i64 0)) → Q (((((((((w4.setCell ⟨w.heap.size, 0, none⟩ (.int .i64 0)).setCell ⟨w.heap.size, 1, none⟩ (.slice none 0 0)).setCell ⟨w.heap.size, 2, none⟩ (.slice none 0 0)).setCell ⟨w.heap.size, 3, none⟩ (.slice none 0 0)).setCell ⟨w.heap.size, 4, none⟩ (.int .i64 0)).setCell ⟨w.heap.size, 5, none⟩ (.int .i64 0)).setCell ⟨w.heap.size, 6, none⟩ (.int .i64 0)).setCell ⟨w.heap.size, 7, none⟩ (.int .i64 0))) := fun Q h => h
      refine hgo _ ?_
      clear hgo y0 y1 y2 y3 y4 y5 y6 y7 g0 g1 g2 g3 g4 g5 g6 g7
      generalize (put8 w4 w.heap.size (.int .i64 0) (.slice none 0 0) (.slice none 0 0) (.slice none 0 0) (.int .i64 0) (.int .i64 0) (.int .i64 0) (.int .i64 0)) = W9 at *
      obtain ⟨q0, q1, q2, q3, q4, q5, q6, q7⟩ := K1.cells
      exact bodyPost_ret (v := .tuple #[pgv Pg.zero (.slice none 0 0) (.slice none 0 0) (.slice none 0 0), .int .u64 0, .int .i64 11]) (by simp [pgv, Pg.zero, results, Tryz.results110, go_sem, q0, q1, q2, q3, q4, q5, q6, q7]) rfl (HPost.out _ _ _ _ rfl rfl (by rw [HNO.out]; exact rfl) K2)
end Go.Proofs.YtbgofajldkblmaaGreat
