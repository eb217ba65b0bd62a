/- node's splitInner. Own lemmas, no statement. -/
import Derived.Test.YtmjekecalghhdaaNd4
set_option linter.unusedSimpArgs false
set_option linter.unusedVariables false
namespace Go.Proofs.Ytmjekecalghhdaa
open Go.ChangeShapes Go.WideShapes Go.ChangeAt Go.RowKit

set_option maxRecDepth 100000 in
set_option maxHeartbeats 8000000 in
theorem splitInner_any (p : Pg) (kv vv dv : Value) (w : World) (hp : PgAt w p kv vv dv) (h1 : 3 < p.kids.length) (h2 : p.kids.length = p.keys.length + 1) (hlk : p.keys.length ≤ 1000) (hlv : p.vals.length ≤ 1000) (hld : p.kids.length ≤ 1000) :
    Calls Try.prog 68 #[pgv p kv vv dv] w (SplitPost (innA p) (innB p) p.keys (p.kids.length / 2 - 1) w) := by
  obtain ⟨kn, ka, kc, e1⟩ := hp.keys.any
  obtain ⟨vn, va, vc, e2⟩ := hp.vals.any
  obtain ⟨dn, da, dc, e3⟩ := hp.kids.any
  subst e1 e2 e3
  have HP : Hid (PgAt w p (.slice ka kn kc) (.slice va vn vc) (.slice da dn dc)) := hp
  have HKN : Hid (p.keys.length = kn) := by have := hp.keys.at.1; rw [sv_length] at this; exact this.symm
  have HVN : Hid (p.vals.length = vn) := by have := hp.vals.at.1; rw [sv_length] at this; exact this.symm
  have HDN : Hid (p.kids.length = dn) := by have := hp.kids.at.1; rw [iv_length] at this; exact this.symm
  have HX0 : Hid (PBox (((w.alloc (.cells (pgc p (.slice ka kn kc) (.slice va vn vc) (.slice da dn dc)) 25)).alloc (.cells zeroC 25)).alloc (.cells zeroC 25)) w.heap.size p (.slice ka kn kc) (.slice va vn vc) (.slice da dn dc)) := ((Blk.new _ _ _).alloc _).alloc _
  have HX1 : Hid (Blk (((w.alloc (.cells (pgc p (.slice ka kn kc) (.slice va vn vc) (.slice da dn dc)) 25)).alloc (.cells zeroC 25)).alloc (.cells zeroC 25)) (w.heap.size + 1) zeroC 25) := (blk_two _ _ _ _ _).alloc _
  have HX2 : Hid (Blk (((w.alloc (.cells (pgc p (.slice ka kn kc) (.slice va vn vc) (.slice da dn dc)) 25)).alloc (.cells zeroC 25)).alloc (.cells zeroC 25)) (w.heap.size + 1 + 1) zeroC 25) := by
    have := Blk.new ((w.alloc (.cells (pgc p (.slice ka kn kc) (.slice va vn vc) (.slice da dn dc)) 25)).alloc (.cells zeroC 25)) zeroC 25
    rw [show ((w.alloc (.cells (pgc p (.slice ka kn kc) (.slice va vn vc) (.slice da dn dc)) 25)).alloc (.cells zeroC 25)).heap.size = w.heap.size + 1 + 1 by simp] at this
    exact this
  have HY0 : Hid (Below w.heap.size w (((w.alloc (.cells (pgc p (.slice ka kn kc) (.slice va vn vc) (.slice da dn dc)) 25)).alloc (.cells zeroC 25)).alloc (.cells zeroC 25))) := (((Below.refl _ _).alloc (Nat.le_refl _) _).alloc (by simp) _).alloc (by simp; omega) _
  unfold pgc zeroC at HX0 HX1 HX2 HY0
  unfold pgv
  go_enter Try.func68, Try.ntmps68
  go_upto_region 1 with fail
  generalize ((w.alloc (.cells #[.int .i64 p.kind, .slice ka kn kc, .slice va vn vc, .slice da dn dc, .int .i64 p.root, .int .i64 p.next, .int .i64 p.size, .int .i64 p.idle] 25)).alloc (.cells #[.int .i64 0, .slice none 0 0, .slice none 0 0, .slice none 0 0, .int .i64 0, .int .i64 0, .int .i64 0, .int .i64 0] 25)).alloc (.cells #[.int .i64 0, .slice none 0 0, .slice none 0 0, .slice none 0 0, .int .i64 0, .int .i64 0, .int .i64 0, .int .i64 0] 25) = W0 at *
  have HCL : Hid (∀ W, Below W0.heap.size W0 W → Calls Try.prog 23 #[.agg #[.int .i64 p.kind, .slice ka kn kc, .slice va vn vc, .slice da dn dc, .int .i64 p.root, .int .i64 p.next, .int .i64 p.size, .int .i64 p.idle]] W fun e w' => ∃ kv' vv' dv', e = .returned (pgv p kv' vv' dv') ∧ PgO w' W.heap.size p kv' vv' dv' ∧ Below W.heap.size W w') := fun W hb => pclone_any p _ _ _ W (HP.out.below (ext_trans HY0.out hb)) ⟨by omega, by omega, by omega⟩
  go_cut [5, 6] from 8 (fun s5 s6 wx => ∃ b1 b2 k1 v1 d1 k2 v2 d2, s5 = .pointer (some ⟨b1, 0, none⟩) ∧ s6 = .pointer (some ⟨b2, 0, none⟩) ∧ Two2 wx W0.heap.size b1 b2 p k1 v1 d1 k2 v2 d2 ∧ Below W0.heap.size W0 wx)
  case first =>
    obtain ⟨y0, y1, y2, y3, y4, y5, y6, y7⟩ := HX0.out.cells
    refine wp_region_ext (by kernel_rfl) ?_
    haveI nA := cls_ext W0.drew
    have q0 := cellX (W0 := W0.drew) (show W0.drew.cell? ⟨w.heap.size, 0, none⟩ = some _ from y0)
    have q1 := cellX (W0 := W0.drew) (show W0.drew.cell? ⟨w.heap.size, 1, none⟩ = some _ from y1)
    have q2 := cellX (W0 := W0.drew) (show W0.drew.cell? ⟨w.heap.size, 2, none⟩ = some _ from y2)
    have q3 := cellX (W0 := W0.drew) (show W0.drew.cell? ⟨w.heap.size, 3, none⟩ = some _ from y3)
    have q4 := cellX (W0 := W0.drew) (show W0.drew.cell? ⟨w.heap.size, 4, none⟩ = some _ from y4)
    have q5 := cellX (W0 := W0.drew) (show W0.drew.cell? ⟨w.heap.size, 5, none⟩ = some _ from y5)
    have q6 := cellX (W0 := W0.drew) (show W0.drew.cell? ⟨w.heap.size, 6, none⟩ = some _ from y6)
    have q7 := cellX (W0 := W0.drew) (show W0.drew.cell? ⟨w.heap.size, 7, none⟩ = some _ from y7)
    refine wpAnyH_seg (by kernel_rfl) (fun _ _ _ h => h) [0, 2] 6 _ _ _ (Ext.refl _) (by kernel_rfl) ?_
    simp only [opsAt, List.getElem?_toArray, List.getElem?_cons_zero, List.getElem?_cons_succ, List.cons_append, List.nil_append]
    repeat (go_big_quiet_step (fail))
    refine wpQuiet_nil ?_
    clear nA q0 q1 q2 q3 q4 q5 q6 q7 y0 y1 y2 y3 y4 y5 y6 y7
    have B0 : Hid (Below W0.heap.size W0 W0.drew) := (Below.refl _ _).drew
    refine wpAnyH_all (rs := [1, 4, 5]) (fuel := 5) (by kernel_rfl) (by simp) fun j hj => ?_
    rcases (show j = 1 ∨ j = 4 ∨ j = 5 by simpa using hj) with rfl | rfl | rfl
    · refine wpOp_enter 9 rfl (by kernel_rfl) rfl (f := 23) (args := #[.agg #[.int .i64 p.kind, .slice ka kn kc, .slice va vn vc, .slice da dn dc, .int .i64 p.root, .int .i64 p.next, .int .i64 p.size, .int .i64 p.idle]]) (by kernel_rfl) (HCL.out W0.drew B0.out) ?_
      rintro e Y0 ⟨k1, v1, d1, rfl, o1, y⟩
      obtain ⟨kn1, ka1, kc1, e1⟩ := o1.keys.rd.any
      obtain ⟨vn1, va1, vc1, e2⟩ := o1.vals.rd.any
      obtain ⟨dn1, da1, dc1, e3⟩ := o1.kids.rd.any
      subst e1 e2 e3
      have O1 : Hid (PgO Y0 (W0.drew).heap.size p (.slice ka1 kn1 kc1) (.slice va1 vn1 vc1) (.slice da1 dn1 dc1)) := o1
      have E0 : Hid (Below (W0.drew).heap.size (W0.drew) Y0) := y
      have B1 : Hid (Below W0.heap.size W0 Y0) := ext_trans B0.out y
      clear o1 y
      refine ⟨_, rfl, ext_of_drew B1.out, ?_⟩
      unfold pgv
      simp only [Act.put, List.setIfInBounds_toArray, List.set_cons_succ, List.set_cons_zero]
      refine wpAnyH_all (rs := [3, 4, 5]) (fuel := 4) (by kernel_rfl) (by simp) fun j hj => ?_
      rcases (show j = 3 ∨ j = 4 ∨ j = 5 by simpa using hj) with rfl | rfl | rfl
      · refine wpOp_enter 11 rfl (by kernel_rfl) rfl (f := 23) (args := #[.agg #[.int .i64 p.kind, .slice ka kn kc, .slice va vn vc, .slice da dn dc, .int .i64 p.root, .int .i64 p.next, .int .i64 p.size, .int .i64 p.idle]]) (by kernel_rfl) (HCL.out Y0 B1.out) ?_
        rintro e Y1 ⟨k2, v2, d2, rfl, o2, y⟩
        obtain ⟨kn2, ka2, kc2, e1⟩ := o2.keys.rd.any
        obtain ⟨vn2, va2, vc2, e2⟩ := o2.vals.rd.any
        obtain ⟨dn2, da2, dc2, e3⟩ := o2.kids.rd.any
        subst e1 e2 e3
        have O2 : Hid (PgO Y1 (Y0).heap.size p (.slice ka2 kn2 kc2) (.slice va2 vn2 vc2) (.slice da2 dn2 dc2)) := o2
        have E1 : Hid (Below (Y0).heap.size (Y0) Y1) := y
        have B2 : Hid (Below W0.heap.size W0 Y1) := ext_trans B1.out y
        clear o2 y
        refine ⟨_, rfl, ext_of_drew B2.out, ?_⟩
        unfold pgv
        simp only [Act.put, List.setIfInBounds_toArray, List.set_cons_succ, List.set_cons_zero]
        refine wpAnyH_all (rs := [4, 5]) (fuel := 3) (by kernel_rfl) (by simp) fun j hj => ?_
        rcases (show j = 4 ∨ j = 5 by simpa using hj) with rfl | rfl
        · refine wpOp_value 5 rfl (by kernel_rfl) rfl (exec_allocP rfl) ?_
          have E2 : Hid (Below (Y1).heap.size (Y1) ((Y1).alloc (.cells zeroC 25))) := (Below.refl _ _).alloc (Nat.le_refl _) _
          have B3 : Hid (Below W0.heap.size W0 ((Y1).alloc (.cells zeroC 25))) := ext_trans B2.out E2.out
          have Z4 : Hid (Blk ((Y1).alloc (.cells zeroC 25)) (Y1).heap.size zeroC 25) := Blk.new _ _ _
          have S2 : Hid ((Y1).heap.size < (((Y1).alloc (.cells zeroC 25))).heap.size) := by show _ < _; simp
          refine ⟨ext_of_drew B3.out, ?_⟩
          simp only [Act.put, List.setIfInBounds_toArray, List.set_cons_succ, List.set_cons_zero]
          refine wpAnyH_all (rs := [5]) (fuel := 2) (by kernel_rfl) (by simp) fun j hj => ?_
          obtain rfl : j = 5 := by simpa using hj
          clear hj
          refine wpOp_value 6 rfl (by kernel_rfl) rfl (exec_allocP rfl) ?_
          have E3 : Hid (Below (((Y1).alloc (.cells zeroC 25))).heap.size (((Y1).alloc (.cells zeroC 25))) ((((Y1).alloc (.cells zeroC 25))).alloc (.cells zeroC 25))) := (Below.refl _ _).alloc (Nat.le_refl _) _
          have B4 : Hid (Below W0.heap.size W0 ((((Y1).alloc (.cells zeroC 25))).alloc (.cells zeroC 25))) := ext_trans B3.out E3.out
          have Z5 : Hid (Blk ((((Y1).alloc (.cells zeroC 25))).alloc (.cells zeroC 25)) (((Y1).alloc (.cells zeroC 25))).heap.size zeroC 25) := Blk.new _ _ _
          have S3 : Hid ((((Y1).alloc (.cells zeroC 25))).heap.size < (((((Y1).alloc (.cells zeroC 25))).alloc (.cells zeroC 25))).heap.size) := by show _ < _; simp
          refine ⟨ext_of_drew B4.out, ?_⟩
          simp only [Act.put, List.setIfInBounds_toArray, List.set_cons_succ, List.set_cons_zero]
          have F1 : Hid (PgO (((((Y1).alloc (.cells zeroC 25))).alloc (.cells zeroC 25))) W0.heap.size p _ _ _) := ((O1.out).below (ext_trans E1.out (ext_trans E2.out (E3.out)))).mono B0.out.size
          have F2 : Hid (PgO (((((Y1).alloc (.cells zeroC 25))).alloc (.cells zeroC 25))) W0.heap.size p _ _ _) := ((O2.out).below (ext_trans E2.out (E3.out))).mono B1.out.size
          have G1 : Hid (Blk (((((Y1).alloc (.cells zeroC 25))).alloc (.cells zeroC 25))) (Y1).heap.size zeroC 25) := Blk.of Z4.out (Below.block (E3.out) _ (Blk.lt Z4.out))
          have G2 : Hid (Blk (((((Y1).alloc (.cells zeroC 25))).alloc (.cells zeroC 25))) (((Y1).alloc (.cells zeroC 25))).heap.size zeroC 25) := Z5.out
          have m0 := E0.out.size
          have m1 := E1.out.size
          have m2 := E2.out.size
          have m3 := E3.out.size
          have r4 := S2.out
          have r5 := S3.out
          have hw0 : W0.drew.heap.size = W0.heap.size := rfl
          have T2 : Hid (Two2 _ W0.heap.size (Y1).heap.size (((Y1).alloc (.cells zeroC 25))).heap.size p _ _ _ _ _ _) := two_of F1.out F2.out O1.out.inP O2.out.inP G1.out G2.out (by omega) (by omega) (by omega) (by omega) (by omega) (by omega) (by omega)
          clear hw0 m0 m1 m2 m3 r4 r5
          refine wpAnyH_all (rs := [6]) (fuel := 1) (by kernel_rfl) (by simp) fun j hj => ?_
          obtain rfl : j = 6 := by simpa using hj
          clear hj
          refine wpOp_storeN rfl (by kernel_rfl) 25 _ _ rfl rfl (Y1).heap.size 0 (pgc p (.slice ka1 kn1 kc1) (.slice va1 vn1 vc1) (.slice da1 dn1 dc1)) rfl rfl (thereN 8 G1.out (by simp [zeroC])) (by kernel_rfl) (pgc_one _ _ _ _ _ _ _ _ _ _) ?_
          refine ⟨ext_of_drew (put8_below B4.out T2.out.hb1 _ _ _ _ _ _ _ _), ?_⟩
          refine wpAnyH_all (rs := [7]) (fuel := 0) (by kernel_rfl) (by simp) fun j hj => ?_
          obtain rfl : j = 7 := by simpa using hj
          clear hj
          refine wpOp_storeN rfl (by kernel_rfl) 25 _ _ rfl rfl (((Y1).alloc (.cells zeroC 25))).heap.size 0 (pgc p (.slice ka2 kn2 kc2) (.slice va2 vn2 vc2) (.slice da2 dn2 dc2)) rfl rfl (thereN 8 (Blk.of G2.out (put8_other _ _ _ _ _ _ _ _ _ _ _ (Ne.symm T2.out.ne))) (by simp [zeroC])) (by kernel_rfl) (pgc_one _ _ _ _ _ _ _ _ _ _) ?_
          refine ⟨ext_of_drew (put8_below (put8_below B4.out T2.out.hb1 _ _ _ _ _ _ _ _) T2.out.hb2 _ _ _ _ _ _ _ _), ?_⟩
          refine wpAnyH_done (by kernel_rfl) (NoPanic.normal ?_) 0
          have RY : Hid (Below W0.heap.size W0 _) := put8_below (put8_below B4.out T2.out.hb1 (.int .i64 p.kind) (.slice ka1 kn1 kc1) (.slice va1 vn1 vc1) (.slice da1 dn1 dc1) (.int .i64 p.root) (.int .i64 p.next) (.int .i64 p.size) (.int .i64 p.idle)) T2.out.hb2 (.int .i64 p.kind) (.slice ka2 kn2 kc2) (.slice va2 vn2 vc2) (.slice da2 dn2 dc2) (.int .i64 p.root) (.int .i64 p.next) (.int .i64 p.size) (.int .i64 p.idle)
          go_wp2_with fail
          go_meet
          exact ⟨_, _, _, _, _, _, _, _, rfl, rfl, T2.out, RY.out⟩
        · refine wpOp_value 6 rfl (by kernel_rfl) rfl (exec_allocP rfl) ?_
          have E2 : Hid (Below (Y1).heap.size (Y1) ((Y1).alloc (.cells zeroC 25))) := (Below.refl _ _).alloc (Nat.le_refl _) _
          have B3 : Hid (Below W0.heap.size W0 ((Y1).alloc (.cells zeroC 25))) := ext_trans B2.out E2.out
          have Z5 : Hid (Blk ((Y1).alloc (.cells zeroC 25)) (Y1).heap.size zeroC 25) := Blk.new _ _ _
          have S2 : Hid ((Y1).heap.size < (((Y1).alloc (.cells zeroC 25))).heap.size) := by show _ < _; simp
          refine ⟨ext_of_drew B3.out, ?_⟩
          simp only [Act.put, List.setIfInBounds_toArray, List.set_cons_succ, List.set_cons_zero]
          refine wpAnyH_all (rs := [4]) (fuel := 2) (by kernel_rfl) (by simp) fun j hj => ?_
          obtain rfl : j = 4 := by simpa using hj
          clear hj
          refine wpOp_value 5 rfl (by kernel_rfl) rfl (exec_allocP rfl) ?_
          have E3 : Hid (Below (((Y1).alloc (.cells zeroC 25))).heap.size (((Y1).alloc (.cells zeroC 25))) ((((Y1).alloc (.cells zeroC 25))).alloc (.cells zeroC 25))) := (Below.refl _ _).alloc (Nat.le_refl _) _
          have B4 : Hid (Below W0.heap.size W0 ((((Y1).alloc (.cells zeroC 25))).alloc (.cells zeroC 25))) := ext_trans B3.out E3.out
          have Z4 : Hid (Blk ((((Y1).alloc (.cells zeroC 25))).alloc (.cells zeroC 25)) (((Y1).alloc (.cells zeroC 25))).heap.size zeroC 25) := Blk.new _ _ _
          have S3 : Hid ((((Y1).alloc (.cells zeroC 25))).heap.size < (((((Y1).alloc (.cells zeroC 25))).alloc (.cells zeroC 25))).heap.size) := by show _ < _; simp
          refine ⟨ext_of_drew B4.out, ?_⟩
          simp only [Act.put, List.setIfInBounds_toArray, List.set_cons_succ, List.set_cons_zero]
          have F1 : Hid (PgO (((((Y1).alloc (.cells zeroC 25))).alloc (.cells zeroC 25))) W0.heap.size p _ _ _) := ((O1.out).below (ext_trans E1.out (ext_trans E2.out (E3.out)))).mono B0.out.size
          have F2 : Hid (PgO (((((Y1).alloc (.cells zeroC 25))).alloc (.cells zeroC 25))) W0.heap.size p _ _ _) := ((O2.out).below (ext_trans E2.out (E3.out))).mono B1.out.size
          have G1 : Hid (Blk (((((Y1).alloc (.cells zeroC 25))).alloc (.cells zeroC 25))) (((Y1).alloc (.cells zeroC 25))).heap.size zeroC 25) := Z4.out
          have G2 : Hid (Blk (((((Y1).alloc (.cells zeroC 25))).alloc (.cells zeroC 25))) (Y1).heap.size zeroC 25) := Blk.of Z5.out (Below.block (E3.out) _ (Blk.lt Z5.out))
          have m0 := E0.out.size
          have m1 := E1.out.size
          have m2 := E2.out.size
          have m3 := E3.out.size
          have r4 := S3.out
          have r5 := S2.out
          have hw0 : W0.drew.heap.size = W0.heap.size := rfl
          have T2 : Hid (Two2 _ W0.heap.size (((Y1).alloc (.cells zeroC 25))).heap.size (Y1).heap.size p _ _ _ _ _ _) := two_of F1.out F2.out O1.out.inP O2.out.inP G1.out G2.out (by omega) (by omega) (by omega) (by omega) (by omega) (by omega) (by omega)
          clear hw0 m0 m1 m2 m3 r4 r5
          refine wpAnyH_all (rs := [6]) (fuel := 1) (by kernel_rfl) (by simp) fun j hj => ?_
          obtain rfl : j = 6 := by simpa using hj
          clear hj
          refine wpOp_storeN rfl (by kernel_rfl) 25 _ _ rfl rfl (((Y1).alloc (.cells zeroC 25))).heap.size 0 (pgc p (.slice ka1 kn1 kc1) (.slice va1 vn1 vc1) (.slice da1 dn1 dc1)) rfl rfl (thereN 8 G1.out (by simp [zeroC])) (by kernel_rfl) (pgc_one _ _ _ _ _ _ _ _ _ _) ?_
          refine ⟨ext_of_drew (put8_below B4.out T2.out.hb1 _ _ _ _ _ _ _ _), ?_⟩
          refine wpAnyH_all (rs := [7]) (fuel := 0) (by kernel_rfl) (by simp) fun j hj => ?_
          obtain rfl : j = 7 := by simpa using hj
          clear hj
          refine wpOp_storeN rfl (by kernel_rfl) 25 _ _ rfl rfl (Y1).heap.size 0 (pgc p (.slice ka2 kn2 kc2) (.slice va2 vn2 vc2) (.slice da2 dn2 dc2)) rfl rfl (thereN 8 (Blk.of G2.out (put8_other _ _ _ _ _ _ _ _ _ _ _ (Ne.symm T2.out.ne))) (by simp [zeroC])) (by kernel_rfl) (pgc_one _ _ _ _ _ _ _ _ _ _) ?_
          refine ⟨ext_of_drew (put8_below (put8_below B4.out T2.out.hb1 _ _ _ _ _ _ _ _) T2.out.hb2 _ _ _ _ _ _ _ _), ?_⟩
          refine wpAnyH_done (by kernel_rfl) (NoPanic.normal ?_) 0
          have RY : Hid (Below W0.heap.size W0 _) := put8_below (put8_below B4.out T2.out.hb1 (.int .i64 p.kind) (.slice ka1 kn1 kc1) (.slice va1 vn1 vc1) (.slice da1 dn1 dc1) (.int .i64 p.root) (.int .i64 p.next) (.int .i64 p.size) (.int .i64 p.idle)) T2.out.hb2 (.int .i64 p.kind) (.slice ka2 kn2 kc2) (.slice va2 vn2 vc2) (.slice da2 dn2 dc2) (.int .i64 p.root) (.int .i64 p.next) (.int .i64 p.size) (.int .i64 p.idle)
          go_wp2_with fail
          go_meet
          exact ⟨_, _, _, _, _, _, _, _, rfl, rfl, T2.out, RY.out⟩
      · refine wpOp_value 5 rfl (by kernel_rfl) rfl (exec_allocP rfl) ?_
        have E1 : Hid (Below (Y0).heap.size (Y0) ((Y0).alloc (.cells zeroC 25))) := (Below.refl _ _).alloc (Nat.le_refl _) _
        have B2 : Hid (Below W0.heap.size W0 ((Y0).alloc (.cells zeroC 25))) := ext_trans B1.out E1.out
        have Z4 : Hid (Blk ((Y0).alloc (.cells zeroC 25)) (Y0).heap.size zeroC 25) := Blk.new _ _ _
        have S1 : Hid ((Y0).heap.size < (((Y0).alloc (.cells zeroC 25))).heap.size) := by show _ < _; simp
        refine ⟨ext_of_drew B2.out, ?_⟩
        simp only [Act.put, List.setIfInBounds_toArray, List.set_cons_succ, List.set_cons_zero]
        refine wpAnyH_all (rs := [3, 5]) (fuel := 3) (by kernel_rfl) (by simp) fun j hj => ?_
        rcases (show j = 3 ∨ j = 5 by simpa using hj) with rfl | rfl
        · refine wpOp_enter 11 rfl (by kernel_rfl) rfl (f := 23) (args := #[.agg #[.int .i64 p.kind, .slice ka kn kc, .slice va vn vc, .slice da dn dc, .int .i64 p.root, .int .i64 p.next, .int .i64 p.size, .int .i64 p.idle]]) (by kernel_rfl) (HCL.out ((Y0).alloc (.cells zeroC 25)) B2.out) ?_
          rintro e Y2 ⟨k2, v2, d2, rfl, o2, y⟩
          obtain ⟨kn2, ka2, kc2, e1⟩ := o2.keys.rd.any
          obtain ⟨vn2, va2, vc2, e2⟩ := o2.vals.rd.any
          obtain ⟨dn2, da2, dc2, e3⟩ := o2.kids.rd.any
          subst e1 e2 e3
          have O2 : Hid (PgO Y2 (((Y0).alloc (.cells zeroC 25))).heap.size p (.slice ka2 kn2 kc2) (.slice va2 vn2 vc2) (.slice da2 dn2 dc2)) := o2
          have E2 : Hid (Below (((Y0).alloc (.cells zeroC 25))).heap.size (((Y0).alloc (.cells zeroC 25))) Y2) := y
          have B3 : Hid (Below W0.heap.size W0 Y2) := ext_trans B2.out y
          clear o2 y
          refine ⟨_, rfl, ext_of_drew B3.out, ?_⟩
          unfold pgv
          simp only [Act.put, List.setIfInBounds_toArray, List.set_cons_succ, List.set_cons_zero]
          refine wpAnyH_all (rs := [5]) (fuel := 2) (by kernel_rfl) (by simp) fun j hj => ?_
          obtain rfl : j = 5 := by simpa using hj
          clear hj
          refine wpOp_value 6 rfl (by kernel_rfl) rfl (exec_allocP rfl) ?_
          have E3 : Hid (Below (Y2).heap.size (Y2) ((Y2).alloc (.cells zeroC 25))) := (Below.refl _ _).alloc (Nat.le_refl _) _
          have B4 : Hid (Below W0.heap.size W0 ((Y2).alloc (.cells zeroC 25))) := ext_trans B3.out E3.out
          have Z5 : Hid (Blk ((Y2).alloc (.cells zeroC 25)) (Y2).heap.size zeroC 25) := Blk.new _ _ _
          have S3 : Hid ((Y2).heap.size < (((Y2).alloc (.cells zeroC 25))).heap.size) := by show _ < _; simp
          refine ⟨ext_of_drew B4.out, ?_⟩
          simp only [Act.put, List.setIfInBounds_toArray, List.set_cons_succ, List.set_cons_zero]
          have F1 : Hid (PgO (((Y2).alloc (.cells zeroC 25))) W0.heap.size p _ _ _) := ((O1.out).below (ext_trans E1.out (ext_trans E2.out (E3.out)))).mono B0.out.size
          have F2 : Hid (PgO (((Y2).alloc (.cells zeroC 25))) W0.heap.size p _ _ _) := ((O2.out).below (E3.out)).mono B2.out.size
          have G1 : Hid (Blk (((Y2).alloc (.cells zeroC 25))) (Y0).heap.size zeroC 25) := Blk.of Z4.out (Below.block (ext_trans E2.out (E3.out)) _ (Blk.lt Z4.out))
          have G2 : Hid (Blk (((Y2).alloc (.cells zeroC 25))) (Y2).heap.size zeroC 25) := Z5.out
          have m0 := E0.out.size
          have m1 := E1.out.size
          have m2 := E2.out.size
          have m3 := E3.out.size
          have r4 := S1.out
          have r5 := S3.out
          have hw0 : W0.drew.heap.size = W0.heap.size := rfl
          have T2 : Hid (Two2 _ W0.heap.size (Y0).heap.size (Y2).heap.size p _ _ _ _ _ _) := two_of F1.out F2.out O1.out.inP O2.out.inP G1.out G2.out (by omega) (by omega) (by omega) (by omega) (by omega) (by omega) (by omega)
          clear hw0 m0 m1 m2 m3 r4 r5
          refine wpAnyH_all (rs := [6]) (fuel := 1) (by kernel_rfl) (by simp) fun j hj => ?_
          obtain rfl : j = 6 := by simpa using hj
          clear hj
          refine wpOp_storeN rfl (by kernel_rfl) 25 _ _ rfl rfl (Y0).heap.size 0 (pgc p (.slice ka1 kn1 kc1) (.slice va1 vn1 vc1) (.slice da1 dn1 dc1)) rfl rfl (thereN 8 G1.out (by simp [zeroC])) (by kernel_rfl) (pgc_one _ _ _ _ _ _ _ _ _ _) ?_
          refine ⟨ext_of_drew (put8_below B4.out T2.out.hb1 _ _ _ _ _ _ _ _), ?_⟩
          refine wpAnyH_all (rs := [7]) (fuel := 0) (by kernel_rfl) (by simp) fun j hj => ?_
          obtain rfl : j = 7 := by simpa using hj
          clear hj
          refine wpOp_storeN rfl (by kernel_rfl) 25 _ _ rfl rfl (Y2).heap.size 0 (pgc p (.slice ka2 kn2 kc2) (.slice va2 vn2 vc2) (.slice da2 dn2 dc2)) rfl rfl (thereN 8 (Blk.of G2.out (put8_other _ _ _ _ _ _ _ _ _ _ _ (Ne.symm T2.out.ne))) (by simp [zeroC])) (by kernel_rfl) (pgc_one _ _ _ _ _ _ _ _ _ _) ?_
          refine ⟨ext_of_drew (put8_below (put8_below B4.out T2.out.hb1 _ _ _ _ _ _ _ _) T2.out.hb2 _ _ _ _ _ _ _ _), ?_⟩
          refine wpAnyH_done (by kernel_rfl) (NoPanic.normal ?_) 0
          have RY : Hid (Below W0.heap.size W0 _) := put8_below (put8_below B4.out T2.out.hb1 (.int .i64 p.kind) (.slice ka1 kn1 kc1) (.slice va1 vn1 vc1) (.slice da1 dn1 dc1) (.int .i64 p.root) (.int .i64 p.next) (.int .i64 p.size) (.int .i64 p.idle)) T2.out.hb2 (.int .i64 p.kind) (.slice ka2 kn2 kc2) (.slice va2 vn2 vc2) (.slice da2 dn2 dc2) (.int .i64 p.root) (.int .i64 p.next) (.int .i64 p.size) (.int .i64 p.idle)
          go_wp2_with fail
          go_meet
          exact ⟨_, _, _, _, _, _, _, _, rfl, rfl, T2.out, RY.out⟩
        · refine wpOp_value 6 rfl (by kernel_rfl) rfl (exec_allocP rfl) ?_
          have E2 : Hid (Below (((Y0).alloc (.cells zeroC 25))).heap.size (((Y0).alloc (.cells zeroC 25))) ((((Y0).alloc (.cells zeroC 25))).alloc (.cells zeroC 25))) := (Below.refl _ _).alloc (Nat.le_refl _) _
          have B3 : Hid (Below W0.heap.size W0 ((((Y0).alloc (.cells zeroC 25))).alloc (.cells zeroC 25))) := ext_trans B2.out E2.out
          have Z5 : Hid (Blk ((((Y0).alloc (.cells zeroC 25))).alloc (.cells zeroC 25)) (((Y0).alloc (.cells zeroC 25))).heap.size zeroC 25) := Blk.new _ _ _
          have S2 : Hid ((((Y0).alloc (.cells zeroC 25))).heap.size < (((((Y0).alloc (.cells zeroC 25))).alloc (.cells zeroC 25))).heap.size) := by show _ < _; simp
          refine ⟨ext_of_drew B3.out, ?_⟩
          simp only [Act.put, List.setIfInBounds_toArray, List.set_cons_succ, List.set_cons_zero]
          refine wpAnyH_all (rs := [3]) (fuel := 2) (by kernel_rfl) (by simp) fun j hj => ?_
          obtain rfl : j = 3 := by simpa using hj
          clear hj
          refine wpOp_enter 11 rfl (by kernel_rfl) rfl (f := 23) (args := #[.agg #[.int .i64 p.kind, .slice ka kn kc, .slice va vn vc, .slice da dn dc, .int .i64 p.root, .int .i64 p.next, .int .i64 p.size, .int .i64 p.idle]]) (by kernel_rfl) (HCL.out ((((Y0).alloc (.cells zeroC 25))).alloc (.cells zeroC 25)) B3.out) ?_
          rintro e Y3 ⟨k2, v2, d2, rfl, o2, y⟩
          obtain ⟨kn2, ka2, kc2, e1⟩ := o2.keys.rd.any
          obtain ⟨vn2, va2, vc2, e2⟩ := o2.vals.rd.any
          obtain ⟨dn2, da2, dc2, e3⟩ := o2.kids.rd.any
          subst e1 e2 e3
          have O2 : Hid (PgO Y3 (((((Y0).alloc (.cells zeroC 25))).alloc (.cells zeroC 25))).heap.size p (.slice ka2 kn2 kc2) (.slice va2 vn2 vc2) (.slice da2 dn2 dc2)) := o2
          have E3 : Hid (Below (((((Y0).alloc (.cells zeroC 25))).alloc (.cells zeroC 25))).heap.size (((((Y0).alloc (.cells zeroC 25))).alloc (.cells zeroC 25))) Y3) := y
          have B4 : Hid (Below W0.heap.size W0 Y3) := ext_trans B3.out y
          clear o2 y
          refine ⟨_, rfl, ext_of_drew B4.out, ?_⟩
          unfold pgv
          simp only [Act.put, List.setIfInBounds_toArray, List.set_cons_succ, List.set_cons_zero]
          have F1 : Hid (PgO (Y3) W0.heap.size p _ _ _) := ((O1.out).below (ext_trans E1.out (ext_trans E2.out (E3.out)))).mono B0.out.size
          have F2 : Hid (PgO (Y3) W0.heap.size p _ _ _) := (O2.out).mono B3.out.size
          have G1 : Hid (Blk (Y3) (Y0).heap.size zeroC 25) := Blk.of Z4.out (Below.block (ext_trans E2.out (E3.out)) _ (Blk.lt Z4.out))
          have G2 : Hid (Blk (Y3) (((Y0).alloc (.cells zeroC 25))).heap.size zeroC 25) := Blk.of Z5.out (Below.block (E3.out) _ (Blk.lt Z5.out))
          have m0 := E0.out.size
          have m1 := E1.out.size
          have m2 := E2.out.size
          have m3 := E3.out.size
          have r4 := S1.out
          have r5 := S2.out
          have hw0 : W0.drew.heap.size = W0.heap.size := rfl
          have T2 : Hid (Two2 _ W0.heap.size (Y0).heap.size (((Y0).alloc (.cells zeroC 25))).heap.size p _ _ _ _ _ _) := two_of F1.out F2.out O1.out.inP O2.out.inP G1.out G2.out (by omega) (by omega) (by omega) (by omega) (by omega) (by omega) (by omega)
          clear hw0 m0 m1 m2 m3 r4 r5
          refine wpAnyH_all (rs := [6]) (fuel := 1) (by kernel_rfl) (by simp) fun j hj => ?_
          obtain rfl : j = 6 := by simpa using hj
          clear hj
          refine wpOp_storeN rfl (by kernel_rfl) 25 _ _ rfl rfl (Y0).heap.size 0 (pgc p (.slice ka1 kn1 kc1) (.slice va1 vn1 vc1) (.slice da1 dn1 dc1)) rfl rfl (thereN 8 G1.out (by simp [zeroC])) (by kernel_rfl) (pgc_one _ _ _ _ _ _ _ _ _ _) ?_
          refine ⟨ext_of_drew (put8_below B4.out T2.out.hb1 _ _ _ _ _ _ _ _), ?_⟩
          refine wpAnyH_all (rs := [7]) (fuel := 0) (by kernel_rfl) (by simp) fun j hj => ?_
          obtain rfl : j = 7 := by simpa using hj
          clear hj
          refine wpOp_storeN rfl (by kernel_rfl) 25 _ _ rfl rfl (((Y0).alloc (.cells zeroC 25))).heap.size 0 (pgc p (.slice ka2 kn2 kc2) (.slice va2 vn2 vc2) (.slice da2 dn2 dc2)) rfl rfl (thereN 8 (Blk.of G2.out (put8_other _ _ _ _ _ _ _ _ _ _ _ (Ne.symm T2.out.ne))) (by simp [zeroC])) (by kernel_rfl) (pgc_one _ _ _ _ _ _ _ _ _ _) ?_
          refine ⟨ext_of_drew (put8_below (put8_below B4.out T2.out.hb1 _ _ _ _ _ _ _ _) T2.out.hb2 _ _ _ _ _ _ _ _), ?_⟩
          refine wpAnyH_done (by kernel_rfl) (NoPanic.normal ?_) 0
          have RY : Hid (Below W0.heap.size W0 _) := put8_below (put8_below B4.out T2.out.hb1 (.int .i64 p.kind) (.slice ka1 kn1 kc1) (.slice va1 vn1 vc1) (.slice da1 dn1 dc1) (.int .i64 p.root) (.int .i64 p.next) (.int .i64 p.size) (.int .i64 p.idle)) T2.out.hb2 (.int .i64 p.kind) (.slice ka2 kn2 kc2) (.slice va2 vn2 vc2) (.slice da2 dn2 dc2) (.int .i64 p.root) (.int .i64 p.next) (.int .i64 p.size) (.int .i64 p.idle)
          go_wp2_with fail
          go_meet
          exact ⟨_, _, _, _, _, _, _, _, rfl, rfl, T2.out, RY.out⟩
      · refine wpOp_value 6 rfl (by kernel_rfl) rfl (exec_allocP rfl) ?_
        have E1 : Hid (Below (Y0).heap.size (Y0) ((Y0).alloc (.cells zeroC 25))) := (Below.refl _ _).alloc (Nat.le_refl _) _
        have B2 : Hid (Below W0.heap.size W0 ((Y0).alloc (.cells zeroC 25))) := ext_trans B1.out E1.out
        have Z5 : Hid (Blk ((Y0).alloc (.cells zeroC 25)) (Y0).heap.size zeroC 25) := Blk.new _ _ _
        have S1 : Hid ((Y0).heap.size < (((Y0).alloc (.cells zeroC 25))).heap.size) := by show _ < _; simp
        refine ⟨ext_of_drew B2.out, ?_⟩
        simp only [Act.put, List.setIfInBounds_toArray, List.set_cons_succ, List.set_cons_zero]
        refine wpAnyH_all (rs := [3, 4]) (fuel := 3) (by kernel_rfl) (by simp) fun j hj => ?_
        rcases (show j = 3 ∨ j = 4 by simpa using hj) with rfl | rfl
        · refine wpOp_enter 11 rfl (by kernel_rfl) rfl (f := 23) (args := #[.agg #[.int .i64 p.kind, .slice ka kn kc, .slice va vn vc, .slice da dn dc, .int .i64 p.root, .int .i64 p.next, .int .i64 p.size, .int .i64 p.idle]]) (by kernel_rfl) (HCL.out ((Y0).alloc (.cells zeroC 25)) B2.out) ?_
          rintro e Y2 ⟨k2, v2, d2, rfl, o2, y⟩
          obtain ⟨kn2, ka2, kc2, e1⟩ := o2.keys.rd.any
          obtain ⟨vn2, va2, vc2, e2⟩ := o2.vals.rd.any
          obtain ⟨dn2, da2, dc2, e3⟩ := o2.kids.rd.any
          subst e1 e2 e3
          have O2 : Hid (PgO Y2 (((Y0).alloc (.cells zeroC 25))).heap.size p (.slice ka2 kn2 kc2) (.slice va2 vn2 vc2) (.slice da2 dn2 dc2)) := o2
          have E2 : Hid (Below (((Y0).alloc (.cells zeroC 25))).heap.size (((Y0).alloc (.cells zeroC 25))) Y2) := y
          have B3 : Hid (Below W0.heap.size W0 Y2) := ext_trans B2.out y
          clear o2 y
          refine ⟨_, rfl, ext_of_drew B3.out, ?_⟩
          unfold pgv
          simp only [Act.put, List.setIfInBounds_toArray, List.set_cons_succ, List.set_cons_zero]
          refine wpAnyH_all (rs := [4]) (fuel := 2) (by kernel_rfl) (by simp) fun j hj => ?_
          obtain rfl : j = 4 := by simpa using hj
          clear hj
          refine wpOp_value 5 rfl (by kernel_rfl) rfl (exec_allocP rfl) ?_
          have E3 : Hid (Below (Y2).heap.size (Y2) ((Y2).alloc (.cells zeroC 25))) := (Below.refl _ _).alloc (Nat.le_refl _) _
          have B4 : Hid (Below W0.heap.size W0 ((Y2).alloc (.cells zeroC 25))) := ext_trans B3.out E3.out
          have Z4 : Hid (Blk ((Y2).alloc (.cells zeroC 25)) (Y2).heap.size zeroC 25) := Blk.new _ _ _
          have S3 : Hid ((Y2).heap.size < (((Y2).alloc (.cells zeroC 25))).heap.size) := by show _ < _; simp
          refine ⟨ext_of_drew B4.out, ?_⟩
          simp only [Act.put, List.setIfInBounds_toArray, List.set_cons_succ, List.set_cons_zero]
          have F1 : Hid (PgO (((Y2).alloc (.cells zeroC 25))) W0.heap.size p _ _ _) := ((O1.out).below (ext_trans E1.out (ext_trans E2.out (E3.out)))).mono B0.out.size
          have F2 : Hid (PgO (((Y2).alloc (.cells zeroC 25))) W0.heap.size p _ _ _) := ((O2.out).below (E3.out)).mono B2.out.size
          have G1 : Hid (Blk (((Y2).alloc (.cells zeroC 25))) (Y2).heap.size zeroC 25) := Z4.out
          have G2 : Hid (Blk (((Y2).alloc (.cells zeroC 25))) (Y0).heap.size zeroC 25) := Blk.of Z5.out (Below.block (ext_trans E2.out (E3.out)) _ (Blk.lt Z5.out))
          have m0 := E0.out.size
          have m1 := E1.out.size
          have m2 := E2.out.size
          have m3 := E3.out.size
          have r4 := S3.out
          have r5 := S1.out
          have hw0 : W0.drew.heap.size = W0.heap.size := rfl
          have T2 : Hid (Two2 _ W0.heap.size (Y2).heap.size (Y0).heap.size p _ _ _ _ _ _) := two_of F1.out F2.out O1.out.inP O2.out.inP G1.out G2.out (by omega) (by omega) (by omega) (by omega) (by omega) (by omega) (by omega)
          clear hw0 m0 m1 m2 m3 r4 r5
          refine wpAnyH_all (rs := [6]) (fuel := 1) (by kernel_rfl) (by simp) fun j hj => ?_
          obtain rfl : j = 6 := by simpa using hj
          clear hj
          refine wpOp_storeN rfl (by kernel_rfl) 25 _ _ rfl rfl (Y2).heap.size 0 (pgc p (.slice ka1 kn1 kc1) (.slice va1 vn1 vc1) (.slice da1 dn1 dc1)) rfl rfl (thereN 8 G1.out (by simp [zeroC])) (by kernel_rfl) (pgc_one _ _ _ _ _ _ _ _ _ _) ?_
          refine ⟨ext_of_drew (put8_below B4.out T2.out.hb1 _ _ _ _ _ _ _ _), ?_⟩
          refine wpAnyH_all (rs := [7]) (fuel := 0) (by kernel_rfl) (by simp) fun j hj => ?_
          obtain rfl : j = 7 := by simpa using hj
          clear hj
          refine wpOp_storeN rfl (by kernel_rfl) 25 _ _ rfl rfl (Y0).heap.size 0 (pgc p (.slice ka2 kn2 kc2) (.slice va2 vn2 vc2) (.slice da2 dn2 dc2)) rfl rfl (thereN 8 (Blk.of G2.out (put8_other _ _ _ _ _ _ _ _ _ _ _ (Ne.symm T2.out.ne))) (by simp [zeroC])) (by kernel_rfl) (pgc_one _ _ _ _ _ _ _ _ _ _) ?_
          refine ⟨ext_of_drew (put8_below (put8_below B4.out T2.out.hb1 _ _ _ _ _ _ _ _) T2.out.hb2 _ _ _ _ _ _ _ _), ?_⟩
          refine wpAnyH_done (by kernel_rfl) (NoPanic.normal ?_) 0
          have RY : Hid (Below W0.heap.size W0 _) := put8_below (put8_below B4.out T2.out.hb1 (.int .i64 p.kind) (.slice ka1 kn1 kc1) (.slice va1 vn1 vc1) (.slice da1 dn1 dc1) (.int .i64 p.root) (.int .i64 p.next) (.int .i64 p.size) (.int .i64 p.idle)) T2.out.hb2 (.int .i64 p.kind) (.slice ka2 kn2 kc2) (.slice va2 vn2 vc2) (.slice da2 dn2 dc2) (.int .i64 p.root) (.int .i64 p.next) (.int .i64 p.size) (.int .i64 p.idle)
          go_wp2_with fail
          go_meet
          exact ⟨_, _, _, _, _, _, _, _, rfl, rfl, T2.out, RY.out⟩
        · refine wpOp_value 5 rfl (by kernel_rfl) rfl (exec_allocP rfl) ?_
          have E2 : Hid (Below (((Y0).alloc (.cells zeroC 25))).heap.size (((Y0).alloc (.cells zeroC 25))) ((((Y0).alloc (.cells zeroC 25))).alloc (.cells zeroC 25))) := (Below.refl _ _).alloc (Nat.le_refl _) _
          have B3 : Hid (Below W0.heap.size W0 ((((Y0).alloc (.cells zeroC 25))).alloc (.cells zeroC 25))) := ext_trans B2.out E2.out
          have Z4 : Hid (Blk ((((Y0).alloc (.cells zeroC 25))).alloc (.cells zeroC 25)) (((Y0).alloc (.cells zeroC 25))).heap.size zeroC 25) := Blk.new _ _ _
          have S2 : Hid ((((Y0).alloc (.cells zeroC 25))).heap.size < (((((Y0).alloc (.cells zeroC 25))).alloc (.cells zeroC 25))).heap.size) := by show _ < _; simp
          refine ⟨ext_of_drew B3.out, ?_⟩
          simp only [Act.put, List.setIfInBounds_toArray, List.set_cons_succ, List.set_cons_zero]
          refine wpAnyH_all (rs := [3]) (fuel := 2) (by kernel_rfl) (by simp) fun j hj => ?_
          obtain rfl : j = 3 := by simpa using hj
          clear hj
          refine wpOp_enter 11 rfl (by kernel_rfl) rfl (f := 23) (args := #[.agg #[.int .i64 p.kind, .slice ka kn kc, .slice va vn vc, .slice da dn dc, .int .i64 p.root, .int .i64 p.next, .int .i64 p.size, .int .i64 p.idle]]) (by kernel_rfl) (HCL.out ((((Y0).alloc (.cells zeroC 25))).alloc (.cells zeroC 25)) B3.out) ?_
          rintro e Y3 ⟨k2, v2, d2, rfl, o2, y⟩
          obtain ⟨kn2, ka2, kc2, e1⟩ := o2.keys.rd.any
          obtain ⟨vn2, va2, vc2, e2⟩ := o2.vals.rd.any
          obtain ⟨dn2, da2, dc2, e3⟩ := o2.kids.rd.any
          subst e1 e2 e3
          have O2 : Hid (PgO Y3 (((((Y0).alloc (.cells zeroC 25))).alloc (.cells zeroC 25))).heap.size p (.slice ka2 kn2 kc2) (.slice va2 vn2 vc2) (.slice da2 dn2 dc2)) := o2
          have E3 : Hid (Below (((((Y0).alloc (.cells zeroC 25))).alloc (.cells zeroC 25))).heap.size (((((Y0).alloc (.cells zeroC 25))).alloc (.cells zeroC 25))) Y3) := y
          have B4 : Hid (Below W0.heap.size W0 Y3) := ext_trans B3.out y
          clear o2 y
          refine ⟨_, rfl, ext_of_drew B4.out, ?_⟩
          unfold pgv
          simp only [Act.put, List.setIfInBounds_toArray, List.set_cons_succ, List.set_cons_zero]
          have F1 : Hid (PgO (Y3) W0.heap.size p _ _ _) := ((O1.out).below (ext_trans E1.out (ext_trans E2.out (E3.out)))).mono B0.out.size
          have F2 : Hid (PgO (Y3) W0.heap.size p _ _ _) := (O2.out).mono B3.out.size
          have G1 : Hid (Blk (Y3) (((Y0).alloc (.cells zeroC 25))).heap.size zeroC 25) := Blk.of Z4.out (Below.block (E3.out) _ (Blk.lt Z4.out))
          have G2 : Hid (Blk (Y3) (Y0).heap.size zeroC 25) := Blk.of Z5.out (Below.block (ext_trans E2.out (E3.out)) _ (Blk.lt Z5.out))
          have m0 := E0.out.size
          have m1 := E1.out.size
          have m2 := E2.out.size
          have m3 := E3.out.size
          have r4 := S2.out
          have r5 := S1.out
          have hw0 : W0.drew.heap.size = W0.heap.size := rfl
          have T2 : Hid (Two2 _ W0.heap.size (((Y0).alloc (.cells zeroC 25))).heap.size (Y0).heap.size p _ _ _ _ _ _) := two_of F1.out F2.out O1.out.inP O2.out.inP G1.out G2.out (by omega) (by omega) (by omega) (by omega) (by omega) (by omega) (by omega)
          clear hw0 m0 m1 m2 m3 r4 r5
          refine wpAnyH_all (rs := [6]) (fuel := 1) (by kernel_rfl) (by simp) fun j hj => ?_
          obtain rfl : j = 6 := by simpa using hj
          clear hj
          refine wpOp_storeN rfl (by kernel_rfl) 25 _ _ rfl rfl (((Y0).alloc (.cells zeroC 25))).heap.size 0 (pgc p (.slice ka1 kn1 kc1) (.slice va1 vn1 vc1) (.slice da1 dn1 dc1)) rfl rfl (thereN 8 G1.out (by simp [zeroC])) (by kernel_rfl) (pgc_one _ _ _ _ _ _ _ _ _ _) ?_
          refine ⟨ext_of_drew (put8_below B4.out T2.out.hb1 _ _ _ _ _ _ _ _), ?_⟩
          refine wpAnyH_all (rs := [7]) (fuel := 0) (by kernel_rfl) (by simp) fun j hj => ?_
          obtain rfl : j = 7 := by simpa using hj
          clear hj
          refine wpOp_storeN rfl (by kernel_rfl) 25 _ _ rfl rfl (Y0).heap.size 0 (pgc p (.slice ka2 kn2 kc2) (.slice va2 vn2 vc2) (.slice da2 dn2 dc2)) rfl rfl (thereN 8 (Blk.of G2.out (put8_other _ _ _ _ _ _ _ _ _ _ _ (Ne.symm T2.out.ne))) (by simp [zeroC])) (by kernel_rfl) (pgc_one _ _ _ _ _ _ _ _ _ _) ?_
          refine ⟨ext_of_drew (put8_below (put8_below B4.out T2.out.hb1 _ _ _ _ _ _ _ _) T2.out.hb2 _ _ _ _ _ _ _ _), ?_⟩
          refine wpAnyH_done (by kernel_rfl) (NoPanic.normal ?_) 0
          have RY : Hid (Below W0.heap.size W0 _) := put8_below (put8_below B4.out T2.out.hb1 (.int .i64 p.kind) (.slice ka1 kn1 kc1) (.slice va1 vn1 vc1) (.slice da1 dn1 dc1) (.int .i64 p.root) (.int .i64 p.next) (.int .i64 p.size) (.int .i64 p.idle)) T2.out.hb2 (.int .i64 p.kind) (.slice ka2 kn2 kc2) (.slice va2 vn2 vc2) (.slice da2 dn2 dc2) (.int .i64 p.root) (.int .i64 p.next) (.int .i64 p.size) (.int .i64 p.idle)
          go_wp2_with fail
          go_meet
          exact ⟨_, _, _, _, _, _, _, _, rfl, rfl, T2.out, RY.out⟩
    · refine wpOp_value 5 rfl (by kernel_rfl) rfl (exec_allocP rfl) ?_
      have E0 : Hid (Below (W0.drew).heap.size (W0.drew) ((W0.drew).alloc (.cells zeroC 25))) := (Below.refl _ _).alloc (Nat.le_refl _) _
      have B1 : Hid (Below W0.heap.size W0 ((W0.drew).alloc (.cells zeroC 25))) := ext_trans B0.out E0.out
      have Z4 : Hid (Blk ((W0.drew).alloc (.cells zeroC 25)) (W0.drew).heap.size zeroC 25) := Blk.new _ _ _
      have S0 : Hid ((W0.drew).heap.size < (((W0.drew).alloc (.cells zeroC 25))).heap.size) := by show _ < _; simp
      refine ⟨ext_of_drew B1.out, ?_⟩
      simp only [Act.put, List.setIfInBounds_toArray, List.set_cons_succ, List.set_cons_zero]
      refine wpAnyH_all (rs := [1, 5]) (fuel := 4) (by kernel_rfl) (by simp) fun j hj => ?_
      rcases (show j = 1 ∨ j = 5 by simpa using hj) with rfl | rfl
      · refine wpOp_enter 9 rfl (by kernel_rfl) rfl (f := 23) (args := #[.agg #[.int .i64 p.kind, .slice ka kn kc, .slice va vn vc, .slice da dn dc, .int .i64 p.root, .int .i64 p.next, .int .i64 p.size, .int .i64 p.idle]]) (by kernel_rfl) (HCL.out ((W0.drew).alloc (.cells zeroC 25)) B1.out) ?_
        rintro e Y1 ⟨k1, v1, d1, rfl, o1, y⟩
        obtain ⟨kn1, ka1, kc1, e1⟩ := o1.keys.rd.any
        obtain ⟨vn1, va1, vc1, e2⟩ := o1.vals.rd.any
        obtain ⟨dn1, da1, dc1, e3⟩ := o1.kids.rd.any
        subst e1 e2 e3
        have O1 : Hid (PgO Y1 (((W0.drew).alloc (.cells zeroC 25))).heap.size p (.slice ka1 kn1 kc1) (.slice va1 vn1 vc1) (.slice da1 dn1 dc1)) := o1
        have E1 : Hid (Below (((W0.drew).alloc (.cells zeroC 25))).heap.size (((W0.drew).alloc (.cells zeroC 25))) Y1) := y
        have B2 : Hid (Below W0.heap.size W0 Y1) := ext_trans B1.out y
        clear o1 y
        refine ⟨_, rfl, ext_of_drew B2.out, ?_⟩
        unfold pgv
        simp only [Act.put, List.setIfInBounds_toArray, List.set_cons_succ, List.set_cons_zero]
        refine wpAnyH_all (rs := [3, 5]) (fuel := 3) (by kernel_rfl) (by simp) fun j hj => ?_
        rcases (show j = 3 ∨ j = 5 by simpa using hj) with rfl | rfl
        · refine wpOp_enter 11 rfl (by kernel_rfl) rfl (f := 23) (args := #[.agg #[.int .i64 p.kind, .slice ka kn kc, .slice va vn vc, .slice da dn dc, .int .i64 p.root, .int .i64 p.next, .int .i64 p.size, .int .i64 p.idle]]) (by kernel_rfl) (HCL.out Y1 B2.out) ?_
          rintro e Y2 ⟨k2, v2, d2, rfl, o2, y⟩
          obtain ⟨kn2, ka2, kc2, e1⟩ := o2.keys.rd.any
          obtain ⟨vn2, va2, vc2, e2⟩ := o2.vals.rd.any
          obtain ⟨dn2, da2, dc2, e3⟩ := o2.kids.rd.any
          subst e1 e2 e3
          have O2 : Hid (PgO Y2 (Y1).heap.size p (.slice ka2 kn2 kc2) (.slice va2 vn2 vc2) (.slice da2 dn2 dc2)) := o2
          have E2 : Hid (Below (Y1).heap.size (Y1) Y2) := y
          have B3 : Hid (Below W0.heap.size W0 Y2) := ext_trans B2.out y
          clear o2 y
          refine ⟨_, rfl, ext_of_drew B3.out, ?_⟩
          unfold pgv
          simp only [Act.put, List.setIfInBounds_toArray, List.set_cons_succ, List.set_cons_zero]
          refine wpAnyH_all (rs := [5]) (fuel := 2) (by kernel_rfl) (by simp) fun j hj => ?_
          obtain rfl : j = 5 := by simpa using hj
          clear hj
          refine wpOp_value 6 rfl (by kernel_rfl) rfl (exec_allocP rfl) ?_
          have E3 : Hid (Below (Y2).heap.size (Y2) ((Y2).alloc (.cells zeroC 25))) := (Below.refl _ _).alloc (Nat.le_refl _) _
          have B4 : Hid (Below W0.heap.size W0 ((Y2).alloc (.cells zeroC 25))) := ext_trans B3.out E3.out
          have Z5 : Hid (Blk ((Y2).alloc (.cells zeroC 25)) (Y2).heap.size zeroC 25) := Blk.new _ _ _
          have S3 : Hid ((Y2).heap.size < (((Y2).alloc (.cells zeroC 25))).heap.size) := by show _ < _; simp
          refine ⟨ext_of_drew B4.out, ?_⟩
          simp only [Act.put, List.setIfInBounds_toArray, List.set_cons_succ, List.set_cons_zero]
          have F1 : Hid (PgO (((Y2).alloc (.cells zeroC 25))) W0.heap.size p _ _ _) := ((O1.out).below (ext_trans E2.out (E3.out))).mono B1.out.size
          have F2 : Hid (PgO (((Y2).alloc (.cells zeroC 25))) W0.heap.size p _ _ _) := ((O2.out).below (E3.out)).mono B2.out.size
          have G1 : Hid (Blk (((Y2).alloc (.cells zeroC 25))) (W0.drew).heap.size zeroC 25) := Blk.of Z4.out (Below.block (ext_trans E1.out (ext_trans E2.out (E3.out))) _ (Blk.lt Z4.out))
          have G2 : Hid (Blk (((Y2).alloc (.cells zeroC 25))) (Y2).heap.size zeroC 25) := Z5.out
          have m0 := E0.out.size
          have m1 := E1.out.size
          have m2 := E2.out.size
          have m3 := E3.out.size
          have r4 := S0.out
          have r5 := S3.out
          have hw0 : W0.drew.heap.size = W0.heap.size := rfl
          have T2 : Hid (Two2 _ W0.heap.size (W0.drew).heap.size (Y2).heap.size p _ _ _ _ _ _) := two_of F1.out F2.out O1.out.inP O2.out.inP G1.out G2.out (by omega) (by omega) (by omega) (by omega) (by omega) (by omega) (by omega)
          clear hw0 m0 m1 m2 m3 r4 r5
          refine wpAnyH_all (rs := [6]) (fuel := 1) (by kernel_rfl) (by simp) fun j hj => ?_
          obtain rfl : j = 6 := by simpa using hj
          clear hj
          refine wpOp_storeN rfl (by kernel_rfl) 25 _ _ rfl rfl (W0.drew).heap.size 0 (pgc p (.slice ka1 kn1 kc1) (.slice va1 vn1 vc1) (.slice da1 dn1 dc1)) rfl rfl (thereN 8 G1.out (by simp [zeroC])) (by kernel_rfl) (pgc_one _ _ _ _ _ _ _ _ _ _) ?_
          refine ⟨ext_of_drew (put8_below B4.out T2.out.hb1 _ _ _ _ _ _ _ _), ?_⟩
          refine wpAnyH_all (rs := [7]) (fuel := 0) (by kernel_rfl) (by simp) fun j hj => ?_
          obtain rfl : j = 7 := by simpa using hj
          clear hj
          refine wpOp_storeN rfl (by kernel_rfl) 25 _ _ rfl rfl (Y2).heap.size 0 (pgc p (.slice ka2 kn2 kc2) (.slice va2 vn2 vc2) (.slice da2 dn2 dc2)) rfl rfl (thereN 8 (Blk.of G2.out (put8_other _ _ _ _ _ _ _ _ _ _ _ (Ne.symm T2.out.ne))) (by simp [zeroC])) (by kernel_rfl) (pgc_one _ _ _ _ _ _ _ _ _ _) ?_
          refine ⟨ext_of_drew (put8_below (put8_below B4.out T2.out.hb1 _ _ _ _ _ _ _ _) T2.out.hb2 _ _ _ _ _ _ _ _), ?_⟩
          refine wpAnyH_done (by kernel_rfl) (NoPanic.normal ?_) 0
          have RY : Hid (Below W0.heap.size W0 _) := put8_below (put8_below B4.out T2.out.hb1 (.int .i64 p.kind) (.slice ka1 kn1 kc1) (.slice va1 vn1 vc1) (.slice da1 dn1 dc1) (.int .i64 p.root) (.int .i64 p.next) (.int .i64 p.size) (.int .i64 p.idle)) T2.out.hb2 (.int .i64 p.kind) (.slice ka2 kn2 kc2) (.slice va2 vn2 vc2) (.slice da2 dn2 dc2) (.int .i64 p.root) (.int .i64 p.next) (.int .i64 p.size) (.int .i64 p.idle)
          go_wp2_with fail
          go_meet
          exact ⟨_, _, _, _, _, _, _, _, rfl, rfl, T2.out, RY.out⟩
        · refine wpOp_value 6 rfl (by kernel_rfl) rfl (exec_allocP rfl) ?_
          have E2 : Hid (Below (Y1).heap.size (Y1) ((Y1).alloc (.cells zeroC 25))) := (Below.refl _ _).alloc (Nat.le_refl _) _
          have B3 : Hid (Below W0.heap.size W0 ((Y1).alloc (.cells zeroC 25))) := ext_trans B2.out E2.out
          have Z5 : Hid (Blk ((Y1).alloc (.cells zeroC 25)) (Y1).heap.size zeroC 25) := Blk.new _ _ _
          have S2 : Hid ((Y1).heap.size < (((Y1).alloc (.cells zeroC 25))).heap.size) := by show _ < _; simp
          refine ⟨ext_of_drew B3.out, ?_⟩
          simp only [Act.put, List.setIfInBounds_toArray, List.set_cons_succ, List.set_cons_zero]
          refine wpAnyH_all (rs := [3]) (fuel := 2) (by kernel_rfl) (by simp) fun j hj => ?_
          obtain rfl : j = 3 := by simpa using hj
          clear hj
          refine wpOp_enter 11 rfl (by kernel_rfl) rfl (f := 23) (args := #[.agg #[.int .i64 p.kind, .slice ka kn kc, .slice va vn vc, .slice da dn dc, .int .i64 p.root, .int .i64 p.next, .int .i64 p.size, .int .i64 p.idle]]) (by kernel_rfl) (HCL.out ((Y1).alloc (.cells zeroC 25)) B3.out) ?_
          rintro e Y3 ⟨k2, v2, d2, rfl, o2, y⟩
          obtain ⟨kn2, ka2, kc2, e1⟩ := o2.keys.rd.any
          obtain ⟨vn2, va2, vc2, e2⟩ := o2.vals.rd.any
          obtain ⟨dn2, da2, dc2, e3⟩ := o2.kids.rd.any
          subst e1 e2 e3
          have O2 : Hid (PgO Y3 (((Y1).alloc (.cells zeroC 25))).heap.size p (.slice ka2 kn2 kc2) (.slice va2 vn2 vc2) (.slice da2 dn2 dc2)) := o2
          have E3 : Hid (Below (((Y1).alloc (.cells zeroC 25))).heap.size (((Y1).alloc (.cells zeroC 25))) Y3) := y
          have B4 : Hid (Below W0.heap.size W0 Y3) := ext_trans B3.out y
          clear o2 y
          refine ⟨_, rfl, ext_of_drew B4.out, ?_⟩
          unfold pgv
          simp only [Act.put, List.setIfInBounds_toArray, List.set_cons_succ, List.set_cons_zero]
          have F1 : Hid (PgO (Y3) W0.heap.size p _ _ _) := ((O1.out).below (ext_trans E2.out (E3.out))).mono B1.out.size
          have F2 : Hid (PgO (Y3) W0.heap.size p _ _ _) := (O2.out).mono B3.out.size
          have G1 : Hid (Blk (Y3) (W0.drew).heap.size zeroC 25) := Blk.of Z4.out (Below.block (ext_trans E1.out (ext_trans E2.out (E3.out))) _ (Blk.lt Z4.out))
          have G2 : Hid (Blk (Y3) (Y1).heap.size zeroC 25) := Blk.of Z5.out (Below.block (E3.out) _ (Blk.lt Z5.out))
          have m0 := E0.out.size
          have m1 := E1.out.size
          have m2 := E2.out.size
          have m3 := E3.out.size
          have r4 := S0.out
          have r5 := S2.out
          have hw0 : W0.drew.heap.size = W0.heap.size := rfl
          have T2 : Hid (Two2 _ W0.heap.size (W0.drew).heap.size (Y1).heap.size p _ _ _ _ _ _) := two_of F1.out F2.out O1.out.inP O2.out.inP G1.out G2.out (by omega) (by omega) (by omega) (by omega) (by omega) (by omega) (by omega)
          clear hw0 m0 m1 m2 m3 r4 r5
          refine wpAnyH_all (rs := [6]) (fuel := 1) (by kernel_rfl) (by simp) fun j hj => ?_
          obtain rfl : j = 6 := by simpa using hj
          clear hj
          refine wpOp_storeN rfl (by kernel_rfl) 25 _ _ rfl rfl (W0.drew).heap.size 0 (pgc p (.slice ka1 kn1 kc1) (.slice va1 vn1 vc1) (.slice da1 dn1 dc1)) rfl rfl (thereN 8 G1.out (by simp [zeroC])) (by kernel_rfl) (pgc_one _ _ _ _ _ _ _ _ _ _) ?_
          refine ⟨ext_of_drew (put8_below B4.out T2.out.hb1 _ _ _ _ _ _ _ _), ?_⟩
          refine wpAnyH_all (rs := [7]) (fuel := 0) (by kernel_rfl) (by simp) fun j hj => ?_
          obtain rfl : j = 7 := by simpa using hj
          clear hj
          refine wpOp_storeN rfl (by kernel_rfl) 25 _ _ rfl rfl (Y1).heap.size 0 (pgc p (.slice ka2 kn2 kc2) (.slice va2 vn2 vc2) (.slice da2 dn2 dc2)) rfl rfl (thereN 8 (Blk.of G2.out (put8_other _ _ _ _ _ _ _ _ _ _ _ (Ne.symm T2.out.ne))) (by simp [zeroC])) (by kernel_rfl) (pgc_one _ _ _ _ _ _ _ _ _ _) ?_
          refine ⟨ext_of_drew (put8_below (put8_below B4.out T2.out.hb1 _ _ _ _ _ _ _ _) T2.out.hb2 _ _ _ _ _ _ _ _), ?_⟩
          refine wpAnyH_done (by kernel_rfl) (NoPanic.normal ?_) 0
          have RY : Hid (Below W0.heap.size W0 _) := put8_below (put8_below B4.out T2.out.hb1 (.int .i64 p.kind) (.slice ka1 kn1 kc1) (.slice va1 vn1 vc1) (.slice da1 dn1 dc1) (.int .i64 p.root) (.int .i64 p.next) (.int .i64 p.size) (.int .i64 p.idle)) T2.out.hb2 (.int .i64 p.kind) (.slice ka2 kn2 kc2) (.slice va2 vn2 vc2) (.slice da2 dn2 dc2) (.int .i64 p.root) (.int .i64 p.next) (.int .i64 p.size) (.int .i64 p.idle)
          go_wp2_with fail
          go_meet
          exact ⟨_, _, _, _, _, _, _, _, rfl, rfl, T2.out, RY.out⟩
      · refine wpOp_value 6 rfl (by kernel_rfl) rfl (exec_allocP rfl) ?_
        have E1 : Hid (Below (((W0.drew).alloc (.cells zeroC 25))).heap.size (((W0.drew).alloc (.cells zeroC 25))) ((((W0.drew).alloc (.cells zeroC 25))).alloc (.cells zeroC 25))) := (Below.refl _ _).alloc (Nat.le_refl _) _
        have B2 : Hid (Below W0.heap.size W0 ((((W0.drew).alloc (.cells zeroC 25))).alloc (.cells zeroC 25))) := ext_trans B1.out E1.out
        have Z5 : Hid (Blk ((((W0.drew).alloc (.cells zeroC 25))).alloc (.cells zeroC 25)) (((W0.drew).alloc (.cells zeroC 25))).heap.size zeroC 25) := Blk.new _ _ _
        have S1 : Hid ((((W0.drew).alloc (.cells zeroC 25))).heap.size < (((((W0.drew).alloc (.cells zeroC 25))).alloc (.cells zeroC 25))).heap.size) := by show _ < _; simp
        refine ⟨ext_of_drew B2.out, ?_⟩
        simp only [Act.put, List.setIfInBounds_toArray, List.set_cons_succ, List.set_cons_zero]
        refine wpAnyH_all (rs := [1]) (fuel := 3) (by kernel_rfl) (by simp) fun j hj => ?_
        obtain rfl : j = 1 := by simpa using hj
        clear hj
        refine wpOp_enter 9 rfl (by kernel_rfl) rfl (f := 23) (args := #[.agg #[.int .i64 p.kind, .slice ka kn kc, .slice va vn vc, .slice da dn dc, .int .i64 p.root, .int .i64 p.next, .int .i64 p.size, .int .i64 p.idle]]) (by kernel_rfl) (HCL.out ((((W0.drew).alloc (.cells zeroC 25))).alloc (.cells zeroC 25)) B2.out) ?_
        rintro e Y2 ⟨k1, v1, d1, rfl, o1, y⟩
        obtain ⟨kn1, ka1, kc1, e1⟩ := o1.keys.rd.any
        obtain ⟨vn1, va1, vc1, e2⟩ := o1.vals.rd.any
        obtain ⟨dn1, da1, dc1, e3⟩ := o1.kids.rd.any
        subst e1 e2 e3
        have O1 : Hid (PgO Y2 (((((W0.drew).alloc (.cells zeroC 25))).alloc (.cells zeroC 25))).heap.size p (.slice ka1 kn1 kc1) (.slice va1 vn1 vc1) (.slice da1 dn1 dc1)) := o1
        have E2 : Hid (Below (((((W0.drew).alloc (.cells zeroC 25))).alloc (.cells zeroC 25))).heap.size (((((W0.drew).alloc (.cells zeroC 25))).alloc (.cells zeroC 25))) Y2) := y
        have B3 : Hid (Below W0.heap.size W0 Y2) := ext_trans B2.out y
        clear o1 y
        refine ⟨_, rfl, ext_of_drew B3.out, ?_⟩
        unfold pgv
        simp only [Act.put, List.setIfInBounds_toArray, List.set_cons_succ, List.set_cons_zero]
        refine wpAnyH_all (rs := [3]) (fuel := 2) (by kernel_rfl) (by simp) fun j hj => ?_
        obtain rfl : j = 3 := by simpa using hj
        clear hj
        refine wpOp_enter 11 rfl (by kernel_rfl) rfl (f := 23) (args := #[.agg #[.int .i64 p.kind, .slice ka kn kc, .slice va vn vc, .slice da dn dc, .int .i64 p.root, .int .i64 p.next, .int .i64 p.size, .int .i64 p.idle]]) (by kernel_rfl) (HCL.out Y2 B3.out) ?_
        rintro e Y3 ⟨k2, v2, d2, rfl, o2, y⟩
        obtain ⟨kn2, ka2, kc2, e1⟩ := o2.keys.rd.any
        obtain ⟨vn2, va2, vc2, e2⟩ := o2.vals.rd.any
        obtain ⟨dn2, da2, dc2, e3⟩ := o2.kids.rd.any
        subst e1 e2 e3
        have O2 : Hid (PgO Y3 (Y2).heap.size p (.slice ka2 kn2 kc2) (.slice va2 vn2 vc2) (.slice da2 dn2 dc2)) := o2
        have E3 : Hid (Below (Y2).heap.size (Y2) Y3) := y
        have B4 : Hid (Below W0.heap.size W0 Y3) := ext_trans B3.out y
        clear o2 y
        refine ⟨_, rfl, ext_of_drew B4.out, ?_⟩
        unfold pgv
        simp only [Act.put, List.setIfInBounds_toArray, List.set_cons_succ, List.set_cons_zero]
        have F1 : Hid (PgO (Y3) W0.heap.size p _ _ _) := ((O1.out).below (E3.out)).mono B2.out.size
        have F2 : Hid (PgO (Y3) W0.heap.size p _ _ _) := (O2.out).mono B3.out.size
        have G1 : Hid (Blk (Y3) (W0.drew).heap.size zeroC 25) := Blk.of Z4.out (Below.block (ext_trans E1.out (ext_trans E2.out (E3.out))) _ (Blk.lt Z4.out))
        have G2 : Hid (Blk (Y3) (((W0.drew).alloc (.cells zeroC 25))).heap.size zeroC 25) := Blk.of Z5.out (Below.block (ext_trans E2.out (E3.out)) _ (Blk.lt Z5.out))
        have m0 := E0.out.size
        have m1 := E1.out.size
        have m2 := E2.out.size
        have m3 := E3.out.size
        have r4 := S0.out
        have r5 := S1.out
        have hw0 : W0.drew.heap.size = W0.heap.size := rfl
        have T2 : Hid (Two2 _ W0.heap.size (W0.drew).heap.size (((W0.drew).alloc (.cells zeroC 25))).heap.size p _ _ _ _ _ _) := two_of F1.out F2.out O1.out.inP O2.out.inP G1.out G2.out (by omega) (by omega) (by omega) (by omega) (by omega) (by omega) (by omega)
        clear hw0 m0 m1 m2 m3 r4 r5
        refine wpAnyH_all (rs := [6]) (fuel := 1) (by kernel_rfl) (by simp) fun j hj => ?_
        obtain rfl : j = 6 := by simpa using hj
        clear hj
        refine wpOp_storeN rfl (by kernel_rfl) 25 _ _ rfl rfl (W0.drew).heap.size 0 (pgc p (.slice ka1 kn1 kc1) (.slice va1 vn1 vc1) (.slice da1 dn1 dc1)) rfl rfl (thereN 8 G1.out (by simp [zeroC])) (by kernel_rfl) (pgc_one _ _ _ _ _ _ _ _ _ _) ?_
        refine ⟨ext_of_drew (put8_below B4.out T2.out.hb1 _ _ _ _ _ _ _ _), ?_⟩
        refine wpAnyH_all (rs := [7]) (fuel := 0) (by kernel_rfl) (by simp) fun j hj => ?_
        obtain rfl : j = 7 := by simpa using hj
        clear hj
        refine wpOp_storeN rfl (by kernel_rfl) 25 _ _ rfl rfl (((W0.drew).alloc (.cells zeroC 25))).heap.size 0 (pgc p (.slice ka2 kn2 kc2) (.slice va2 vn2 vc2) (.slice da2 dn2 dc2)) rfl rfl (thereN 8 (Blk.of G2.out (put8_other _ _ _ _ _ _ _ _ _ _ _ (Ne.symm T2.out.ne))) (by simp [zeroC])) (by kernel_rfl) (pgc_one _ _ _ _ _ _ _ _ _ _) ?_
        refine ⟨ext_of_drew (put8_below (put8_below B4.out T2.out.hb1 _ _ _ _ _ _ _ _) T2.out.hb2 _ _ _ _ _ _ _ _), ?_⟩
        refine wpAnyH_done (by kernel_rfl) (NoPanic.normal ?_) 0
        have RY : Hid (Below W0.heap.size W0 _) := put8_below (put8_below B4.out T2.out.hb1 (.int .i64 p.kind) (.slice ka1 kn1 kc1) (.slice va1 vn1 vc1) (.slice da1 dn1 dc1) (.int .i64 p.root) (.int .i64 p.next) (.int .i64 p.size) (.int .i64 p.idle)) T2.out.hb2 (.int .i64 p.kind) (.slice ka2 kn2 kc2) (.slice va2 vn2 vc2) (.slice da2 dn2 dc2) (.int .i64 p.root) (.int .i64 p.next) (.int .i64 p.size) (.int .i64 p.idle)
        go_wp2_with fail
        go_meet
        exact ⟨_, _, _, _, _, _, _, _, rfl, rfl, T2.out, RY.out⟩
    · refine wpOp_value 6 rfl (by kernel_rfl) rfl (exec_allocP rfl) ?_
      have E0 : Hid (Below (W0.drew).heap.size (W0.drew) ((W0.drew).alloc (.cells zeroC 25))) := (Below.refl _ _).alloc (Nat.le_refl _) _
      have B1 : Hid (Below W0.heap.size W0 ((W0.drew).alloc (.cells zeroC 25))) := ext_trans B0.out E0.out
      have Z5 : Hid (Blk ((W0.drew).alloc (.cells zeroC 25)) (W0.drew).heap.size zeroC 25) := Blk.new _ _ _
      have S0 : Hid ((W0.drew).heap.size < (((W0.drew).alloc (.cells zeroC 25))).heap.size) := by show _ < _; simp
      refine ⟨ext_of_drew B1.out, ?_⟩
      simp only [Act.put, List.setIfInBounds_toArray, List.set_cons_succ, List.set_cons_zero]
      refine wpAnyH_all (rs := [1, 4]) (fuel := 4) (by kernel_rfl) (by simp) fun j hj => ?_
      rcases (show j = 1 ∨ j = 4 by simpa using hj) with rfl | rfl
      · refine wpOp_enter 9 rfl (by kernel_rfl) rfl (f := 23) (args := #[.agg #[.int .i64 p.kind, .slice ka kn kc, .slice va vn vc, .slice da dn dc, .int .i64 p.root, .int .i64 p.next, .int .i64 p.size, .int .i64 p.idle]]) (by kernel_rfl) (HCL.out ((W0.drew).alloc (.cells zeroC 25)) B1.out) ?_
        rintro e Y1 ⟨k1, v1, d1, rfl, o1, y⟩
        obtain ⟨kn1, ka1, kc1, e1⟩ := o1.keys.rd.any
        obtain ⟨vn1, va1, vc1, e2⟩ := o1.vals.rd.any
        obtain ⟨dn1, da1, dc1, e3⟩ := o1.kids.rd.any
        subst e1 e2 e3
        have O1 : Hid (PgO Y1 (((W0.drew).alloc (.cells zeroC 25))).heap.size p (.slice ka1 kn1 kc1) (.slice va1 vn1 vc1) (.slice da1 dn1 dc1)) := o1
        have E1 : Hid (Below (((W0.drew).alloc (.cells zeroC 25))).heap.size (((W0.drew).alloc (.cells zeroC 25))) Y1) := y
        have B2 : Hid (Below W0.heap.size W0 Y1) := ext_trans B1.out y
        clear o1 y
        refine ⟨_, rfl, ext_of_drew B2.out, ?_⟩
        unfold pgv
        simp only [Act.put, List.setIfInBounds_toArray, List.set_cons_succ, List.set_cons_zero]
        refine wpAnyH_all (rs := [3, 4]) (fuel := 3) (by kernel_rfl) (by simp) fun j hj => ?_
        rcases (show j = 3 ∨ j = 4 by simpa using hj) with rfl | rfl
        · refine wpOp_enter 11 rfl (by kernel_rfl) rfl (f := 23) (args := #[.agg #[.int .i64 p.kind, .slice ka kn kc, .slice va vn vc, .slice da dn dc, .int .i64 p.root, .int .i64 p.next, .int .i64 p.size, .int .i64 p.idle]]) (by kernel_rfl) (HCL.out Y1 B2.out) ?_
          rintro e Y2 ⟨k2, v2, d2, rfl, o2, y⟩
          obtain ⟨kn2, ka2, kc2, e1⟩ := o2.keys.rd.any
          obtain ⟨vn2, va2, vc2, e2⟩ := o2.vals.rd.any
          obtain ⟨dn2, da2, dc2, e3⟩ := o2.kids.rd.any
          subst e1 e2 e3
          have O2 : Hid (PgO Y2 (Y1).heap.size p (.slice ka2 kn2 kc2) (.slice va2 vn2 vc2) (.slice da2 dn2 dc2)) := o2
          have E2 : Hid (Below (Y1).heap.size (Y1) Y2) := y
          have B3 : Hid (Below W0.heap.size W0 Y2) := ext_trans B2.out y
          clear o2 y
          refine ⟨_, rfl, ext_of_drew B3.out, ?_⟩
          unfold pgv
          simp only [Act.put, List.setIfInBounds_toArray, List.set_cons_succ, List.set_cons_zero]
          refine wpAnyH_all (rs := [4]) (fuel := 2) (by kernel_rfl) (by simp) fun j hj => ?_
          obtain rfl : j = 4 := by simpa using hj
          clear hj
          refine wpOp_value 5 rfl (by kernel_rfl) rfl (exec_allocP rfl) ?_
          have E3 : Hid (Below (Y2).heap.size (Y2) ((Y2).alloc (.cells zeroC 25))) := (Below.refl _ _).alloc (Nat.le_refl _) _
          have B4 : Hid (Below W0.heap.size W0 ((Y2).alloc (.cells zeroC 25))) := ext_trans B3.out E3.out
          have Z4 : Hid (Blk ((Y2).alloc (.cells zeroC 25)) (Y2).heap.size zeroC 25) := Blk.new _ _ _
          have S3 : Hid ((Y2).heap.size < (((Y2).alloc (.cells zeroC 25))).heap.size) := by show _ < _; simp
          refine ⟨ext_of_drew B4.out, ?_⟩
          simp only [Act.put, List.setIfInBounds_toArray, List.set_cons_succ, List.set_cons_zero]
          have F1 : Hid (PgO (((Y2).alloc (.cells zeroC 25))) W0.heap.size p _ _ _) := ((O1.out).below (ext_trans E2.out (E3.out))).mono B1.out.size
          have F2 : Hid (PgO (((Y2).alloc (.cells zeroC 25))) W0.heap.size p _ _ _) := ((O2.out).below (E3.out)).mono B2.out.size
          have G1 : Hid (Blk (((Y2).alloc (.cells zeroC 25))) (Y2).heap.size zeroC 25) := Z4.out
          have G2 : Hid (Blk (((Y2).alloc (.cells zeroC 25))) (W0.drew).heap.size zeroC 25) := Blk.of Z5.out (Below.block (ext_trans E1.out (ext_trans E2.out (E3.out))) _ (Blk.lt Z5.out))
          have m0 := E0.out.size
          have m1 := E1.out.size
          have m2 := E2.out.size
          have m3 := E3.out.size
          have r4 := S3.out
          have r5 := S0.out
          have hw0 : W0.drew.heap.size = W0.heap.size := rfl
          have T2 : Hid (Two2 _ W0.heap.size (Y2).heap.size (W0.drew).heap.size p _ _ _ _ _ _) := two_of F1.out F2.out O1.out.inP O2.out.inP G1.out G2.out (by omega) (by omega) (by omega) (by omega) (by omega) (by omega) (by omega)
          clear hw0 m0 m1 m2 m3 r4 r5
          refine wpAnyH_all (rs := [6]) (fuel := 1) (by kernel_rfl) (by simp) fun j hj => ?_
          obtain rfl : j = 6 := by simpa using hj
          clear hj
          refine wpOp_storeN rfl (by kernel_rfl) 25 _ _ rfl rfl (Y2).heap.size 0 (pgc p (.slice ka1 kn1 kc1) (.slice va1 vn1 vc1) (.slice da1 dn1 dc1)) rfl rfl (thereN 8 G1.out (by simp [zeroC])) (by kernel_rfl) (pgc_one _ _ _ _ _ _ _ _ _ _) ?_
          refine ⟨ext_of_drew (put8_below B4.out T2.out.hb1 _ _ _ _ _ _ _ _), ?_⟩
          refine wpAnyH_all (rs := [7]) (fuel := 0) (by kernel_rfl) (by simp) fun j hj => ?_
          obtain rfl : j = 7 := by simpa using hj
          clear hj
          refine wpOp_storeN rfl (by kernel_rfl) 25 _ _ rfl rfl (W0.drew).heap.size 0 (pgc p (.slice ka2 kn2 kc2) (.slice va2 vn2 vc2) (.slice da2 dn2 dc2)) rfl rfl (thereN 8 (Blk.of G2.out (put8_other _ _ _ _ _ _ _ _ _ _ _ (Ne.symm T2.out.ne))) (by simp [zeroC])) (by kernel_rfl) (pgc_one _ _ _ _ _ _ _ _ _ _) ?_
          refine ⟨ext_of_drew (put8_below (put8_below B4.out T2.out.hb1 _ _ _ _ _ _ _ _) T2.out.hb2 _ _ _ _ _ _ _ _), ?_⟩
          refine wpAnyH_done (by kernel_rfl) (NoPanic.normal ?_) 0
          have RY : Hid (Below W0.heap.size W0 _) := put8_below (put8_below B4.out T2.out.hb1 (.int .i64 p.kind) (.slice ka1 kn1 kc1) (.slice va1 vn1 vc1) (.slice da1 dn1 dc1) (.int .i64 p.root) (.int .i64 p.next) (.int .i64 p.size) (.int .i64 p.idle)) T2.out.hb2 (.int .i64 p.kind) (.slice ka2 kn2 kc2) (.slice va2 vn2 vc2) (.slice da2 dn2 dc2) (.int .i64 p.root) (.int .i64 p.next) (.int .i64 p.size) (.int .i64 p.idle)
          go_wp2_with fail
          go_meet
          exact ⟨_, _, _, _, _, _, _, _, rfl, rfl, T2.out, RY.out⟩
        · refine wpOp_value 5 rfl (by kernel_rfl) rfl (exec_allocP rfl) ?_
          have E2 : Hid (Below (Y1).heap.size (Y1) ((Y1).alloc (.cells zeroC 25))) := (Below.refl _ _).alloc (Nat.le_refl _) _
          have B3 : Hid (Below W0.heap.size W0 ((Y1).alloc (.cells zeroC 25))) := ext_trans B2.out E2.out
          have Z4 : Hid (Blk ((Y1).alloc (.cells zeroC 25)) (Y1).heap.size zeroC 25) := Blk.new _ _ _
          have S2 : Hid ((Y1).heap.size < (((Y1).alloc (.cells zeroC 25))).heap.size) := by show _ < _; simp
          refine ⟨ext_of_drew B3.out, ?_⟩
          simp only [Act.put, List.setIfInBounds_toArray, List.set_cons_succ, List.set_cons_zero]
          refine wpAnyH_all (rs := [3]) (fuel := 2) (by kernel_rfl) (by simp) fun j hj => ?_
          obtain rfl : j = 3 := by simpa using hj
          clear hj
          refine wpOp_enter 11 rfl (by kernel_rfl) rfl (f := 23) (args := #[.agg #[.int .i64 p.kind, .slice ka kn kc, .slice va vn vc, .slice da dn dc, .int .i64 p.root, .int .i64 p.next, .int .i64 p.size, .int .i64 p.idle]]) (by kernel_rfl) (HCL.out ((Y1).alloc (.cells zeroC 25)) B3.out) ?_
          rintro e Y3 ⟨k2, v2, d2, rfl, o2, y⟩
          obtain ⟨kn2, ka2, kc2, e1⟩ := o2.keys.rd.any
          obtain ⟨vn2, va2, vc2, e2⟩ := o2.vals.rd.any
          obtain ⟨dn2, da2, dc2, e3⟩ := o2.kids.rd.any
          subst e1 e2 e3
          have O2 : Hid (PgO Y3 (((Y1).alloc (.cells zeroC 25))).heap.size p (.slice ka2 kn2 kc2) (.slice va2 vn2 vc2) (.slice da2 dn2 dc2)) := o2
          have E3 : Hid (Below (((Y1).alloc (.cells zeroC 25))).heap.size (((Y1).alloc (.cells zeroC 25))) Y3) := y
          have B4 : Hid (Below W0.heap.size W0 Y3) := ext_trans B3.out y
          clear o2 y
          refine ⟨_, rfl, ext_of_drew B4.out, ?_⟩
          unfold pgv
          simp only [Act.put, List.setIfInBounds_toArray, List.set_cons_succ, List.set_cons_zero]
          have F1 : Hid (PgO (Y3) W0.heap.size p _ _ _) := ((O1.out).below (ext_trans E2.out (E3.out))).mono B1.out.size
          have F2 : Hid (PgO (Y3) W0.heap.size p _ _ _) := (O2.out).mono B3.out.size
          have G1 : Hid (Blk (Y3) (Y1).heap.size zeroC 25) := Blk.of Z4.out (Below.block (E3.out) _ (Blk.lt Z4.out))
          have G2 : Hid (Blk (Y3) (W0.drew).heap.size zeroC 25) := Blk.of Z5.out (Below.block (ext_trans E1.out (ext_trans E2.out (E3.out))) _ (Blk.lt Z5.out))
          have m0 := E0.out.size
          have m1 := E1.out.size
          have m2 := E2.out.size
          have m3 := E3.out.size
          have r4 := S2.out
          have r5 := S0.out
          have hw0 : W0.drew.heap.size = W0.heap.size := rfl
          have T2 : Hid (Two2 _ W0.heap.size (Y1).heap.size (W0.drew).heap.size p _ _ _ _ _ _) := two_of F1.out F2.out O1.out.inP O2.out.inP G1.out G2.out (by omega) (by omega) (by omega) (by omega) (by omega) (by omega) (by omega)
          clear hw0 m0 m1 m2 m3 r4 r5
          refine wpAnyH_all (rs := [6]) (fuel := 1) (by kernel_rfl) (by simp) fun j hj => ?_
          obtain rfl : j = 6 := by simpa using hj
          clear hj
          refine wpOp_storeN rfl (by kernel_rfl) 25 _ _ rfl rfl (Y1).heap.size 0 (pgc p (.slice ka1 kn1 kc1) (.slice va1 vn1 vc1) (.slice da1 dn1 dc1)) rfl rfl (thereN 8 G1.out (by simp [zeroC])) (by kernel_rfl) (pgc_one _ _ _ _ _ _ _ _ _ _) ?_
          refine ⟨ext_of_drew (put8_below B4.out T2.out.hb1 _ _ _ _ _ _ _ _), ?_⟩
          refine wpAnyH_all (rs := [7]) (fuel := 0) (by kernel_rfl) (by simp) fun j hj => ?_
          obtain rfl : j = 7 := by simpa using hj
          clear hj
          refine wpOp_storeN rfl (by kernel_rfl) 25 _ _ rfl rfl (W0.drew).heap.size 0 (pgc p (.slice ka2 kn2 kc2) (.slice va2 vn2 vc2) (.slice da2 dn2 dc2)) rfl rfl (thereN 8 (Blk.of G2.out (put8_other _ _ _ _ _ _ _ _ _ _ _ (Ne.symm T2.out.ne))) (by simp [zeroC])) (by kernel_rfl) (pgc_one _ _ _ _ _ _ _ _ _ _) ?_
          refine ⟨ext_of_drew (put8_below (put8_below B4.out T2.out.hb1 _ _ _ _ _ _ _ _) T2.out.hb2 _ _ _ _ _ _ _ _), ?_⟩
          refine wpAnyH_done (by kernel_rfl) (NoPanic.normal ?_) 0
          have RY : Hid (Below W0.heap.size W0 _) := put8_below (put8_below B4.out T2.out.hb1 (.int .i64 p.kind) (.slice ka1 kn1 kc1) (.slice va1 vn1 vc1) (.slice da1 dn1 dc1) (.int .i64 p.root) (.int .i64 p.next) (.int .i64 p.size) (.int .i64 p.idle)) T2.out.hb2 (.int .i64 p.kind) (.slice ka2 kn2 kc2) (.slice va2 vn2 vc2) (.slice da2 dn2 dc2) (.int .i64 p.root) (.int .i64 p.next) (.int .i64 p.size) (.int .i64 p.idle)
          go_wp2_with fail
          go_meet
          exact ⟨_, _, _, _, _, _, _, _, rfl, rfl, T2.out, RY.out⟩
      · refine wpOp_value 5 rfl (by kernel_rfl) rfl (exec_allocP rfl) ?_
        have E1 : Hid (Below (((W0.drew).alloc (.cells zeroC 25))).heap.size (((W0.drew).alloc (.cells zeroC 25))) ((((W0.drew).alloc (.cells zeroC 25))).alloc (.cells zeroC 25))) := (Below.refl _ _).alloc (Nat.le_refl _) _
        have B2 : Hid (Below W0.heap.size W0 ((((W0.drew).alloc (.cells zeroC 25))).alloc (.cells zeroC 25))) := ext_trans B1.out E1.out
        have Z4 : Hid (Blk ((((W0.drew).alloc (.cells zeroC 25))).alloc (.cells zeroC 25)) (((W0.drew).alloc (.cells zeroC 25))).heap.size zeroC 25) := Blk.new _ _ _
        have S1 : Hid ((((W0.drew).alloc (.cells zeroC 25))).heap.size < (((((W0.drew).alloc (.cells zeroC 25))).alloc (.cells zeroC 25))).heap.size) := by show _ < _; simp
        refine ⟨ext_of_drew B2.out, ?_⟩
        simp only [Act.put, List.setIfInBounds_toArray, List.set_cons_succ, List.set_cons_zero]
        refine wpAnyH_all (rs := [1]) (fuel := 3) (by kernel_rfl) (by simp) fun j hj => ?_
        obtain rfl : j = 1 := by simpa using hj
        clear hj
        refine wpOp_enter 9 rfl (by kernel_rfl) rfl (f := 23) (args := #[.agg #[.int .i64 p.kind, .slice ka kn kc, .slice va vn vc, .slice da dn dc, .int .i64 p.root, .int .i64 p.next, .int .i64 p.size, .int .i64 p.idle]]) (by kernel_rfl) (HCL.out ((((W0.drew).alloc (.cells zeroC 25))).alloc (.cells zeroC 25)) B2.out) ?_
        rintro e Y2 ⟨k1, v1, d1, rfl, o1, y⟩
        obtain ⟨kn1, ka1, kc1, e1⟩ := o1.keys.rd.any
        obtain ⟨vn1, va1, vc1, e2⟩ := o1.vals.rd.any
        obtain ⟨dn1, da1, dc1, e3⟩ := o1.kids.rd.any
        subst e1 e2 e3
        have O1 : Hid (PgO Y2 (((((W0.drew).alloc (.cells zeroC 25))).alloc (.cells zeroC 25))).heap.size p (.slice ka1 kn1 kc1) (.slice va1 vn1 vc1) (.slice da1 dn1 dc1)) := o1
        have E2 : Hid (Below (((((W0.drew).alloc (.cells zeroC 25))).alloc (.cells zeroC 25))).heap.size (((((W0.drew).alloc (.cells zeroC 25))).alloc (.cells zeroC 25))) Y2) := y
        have B3 : Hid (Below W0.heap.size W0 Y2) := ext_trans B2.out y
        clear o1 y
        refine ⟨_, rfl, ext_of_drew B3.out, ?_⟩
        unfold pgv
        simp only [Act.put, List.setIfInBounds_toArray, List.set_cons_succ, List.set_cons_zero]
        refine wpAnyH_all (rs := [3]) (fuel := 2) (by kernel_rfl) (by simp) fun j hj => ?_
        obtain rfl : j = 3 := by simpa using hj
        clear hj
        refine wpOp_enter 11 rfl (by kernel_rfl) rfl (f := 23) (args := #[.agg #[.int .i64 p.kind, .slice ka kn kc, .slice va vn vc, .slice da dn dc, .int .i64 p.root, .int .i64 p.next, .int .i64 p.size, .int .i64 p.idle]]) (by kernel_rfl) (HCL.out Y2 B3.out) ?_
        rintro e Y3 ⟨k2, v2, d2, rfl, o2, y⟩
        obtain ⟨kn2, ka2, kc2, e1⟩ := o2.keys.rd.any
        obtain ⟨vn2, va2, vc2, e2⟩ := o2.vals.rd.any
        obtain ⟨dn2, da2, dc2, e3⟩ := o2.kids.rd.any
        subst e1 e2 e3
        have O2 : Hid (PgO Y3 (Y2).heap.size p (.slice ka2 kn2 kc2) (.slice va2 vn2 vc2) (.slice da2 dn2 dc2)) := o2
        have E3 : Hid (Below (Y2).heap.size (Y2) Y3) := y
        have B4 : Hid (Below W0.heap.size W0 Y3) := ext_trans B3.out y
        clear o2 y
        refine ⟨_, rfl, ext_of_drew B4.out, ?_⟩
        unfold pgv
        simp only [Act.put, List.setIfInBounds_toArray, List.set_cons_succ, List.set_cons_zero]
        have F1 : Hid (PgO (Y3) W0.heap.size p _ _ _) := ((O1.out).below (E3.out)).mono B2.out.size
        have F2 : Hid (PgO (Y3) W0.heap.size p _ _ _) := (O2.out).mono B3.out.size
        have G1 : Hid (Blk (Y3) (((W0.drew).alloc (.cells zeroC 25))).heap.size zeroC 25) := Blk.of Z4.out (Below.block (ext_trans E2.out (E3.out)) _ (Blk.lt Z4.out))
        have G2 : Hid (Blk (Y3) (W0.drew).heap.size zeroC 25) := Blk.of Z5.out (Below.block (ext_trans E1.out (ext_trans E2.out (E3.out))) _ (Blk.lt Z5.out))
        have m0 := E0.out.size
        have m1 := E1.out.size
        have m2 := E2.out.size
        have m3 := E3.out.size
        have r4 := S1.out
        have r5 := S0.out
        have hw0 : W0.drew.heap.size = W0.heap.size := rfl
        have T2 : Hid (Two2 _ W0.heap.size (((W0.drew).alloc (.cells zeroC 25))).heap.size (W0.drew).heap.size p _ _ _ _ _ _) := two_of F1.out F2.out O1.out.inP O2.out.inP G1.out G2.out (by omega) (by omega) (by omega) (by omega) (by omega) (by omega) (by omega)
        clear hw0 m0 m1 m2 m3 r4 r5
        refine wpAnyH_all (rs := [6]) (fuel := 1) (by kernel_rfl) (by simp) fun j hj => ?_
        obtain rfl : j = 6 := by simpa using hj
        clear hj
        refine wpOp_storeN rfl (by kernel_rfl) 25 _ _ rfl rfl (((W0.drew).alloc (.cells zeroC 25))).heap.size 0 (pgc p (.slice ka1 kn1 kc1) (.slice va1 vn1 vc1) (.slice da1 dn1 dc1)) rfl rfl (thereN 8 G1.out (by simp [zeroC])) (by kernel_rfl) (pgc_one _ _ _ _ _ _ _ _ _ _) ?_
        refine ⟨ext_of_drew (put8_below B4.out T2.out.hb1 _ _ _ _ _ _ _ _), ?_⟩
        refine wpAnyH_all (rs := [7]) (fuel := 0) (by kernel_rfl) (by simp) fun j hj => ?_
        obtain rfl : j = 7 := by simpa using hj
        clear hj
        refine wpOp_storeN rfl (by kernel_rfl) 25 _ _ rfl rfl (W0.drew).heap.size 0 (pgc p (.slice ka2 kn2 kc2) (.slice va2 vn2 vc2) (.slice da2 dn2 dc2)) rfl rfl (thereN 8 (Blk.of G2.out (put8_other _ _ _ _ _ _ _ _ _ _ _ (Ne.symm T2.out.ne))) (by simp [zeroC])) (by kernel_rfl) (pgc_one _ _ _ _ _ _ _ _ _ _) ?_
        refine ⟨ext_of_drew (put8_below (put8_below B4.out T2.out.hb1 _ _ _ _ _ _ _ _) T2.out.hb2 _ _ _ _ _ _ _ _), ?_⟩
        refine wpAnyH_done (by kernel_rfl) (NoPanic.normal ?_) 0
        have RY : Hid (Below W0.heap.size W0 _) := put8_below (put8_below B4.out T2.out.hb1 (.int .i64 p.kind) (.slice ka1 kn1 kc1) (.slice va1 vn1 vc1) (.slice da1 dn1 dc1) (.int .i64 p.root) (.int .i64 p.next) (.int .i64 p.size) (.int .i64 p.idle)) T2.out.hb2 (.int .i64 p.kind) (.slice ka2 kn2 kc2) (.slice va2 vn2 vc2) (.slice da2 dn2 dc2) (.int .i64 p.root) (.int .i64 p.next) (.int .i64 p.size) (.int .i64 p.idle)
        go_wp2_with fail
        go_meet
        exact ⟨_, _, _, _, _, _, _, _, rfl, rfl, T2.out, RY.out⟩
  case rest =>
    obtain ⟨b1, b2, k1, v1, d1, k2, v2, d2, rfl, rfl, ht, hy⟩ := hcut
    clear HCL
    obtain ⟨n1, ka1, kc1, e1⟩ := ht.o1.keys.rd.any
    obtain ⟨n2, ka2, kc2, e2⟩ := ht.o2.keys.rd.any
    obtain ⟨m1, va1, vc1, e3⟩ := ht.o1.vals.rd.any
    obtain ⟨m2, va2, vc2, e4⟩ := ht.o2.vals.rd.any
    obtain ⟨l1, da1, dc1, e5⟩ := ht.o1.kids.rd.any
    obtain ⟨l2, da2, dc2, e6⟩ := ht.o2.kids.rd.any
    subst e1 e2 e3 e4 e5 e6
    have a1 := ht.o1.keys.rd.at
    have a2 := ht.o2.keys.rd.at
    have a3 := ht.o1.vals.rd.at
    have a4 := ht.o2.vals.rd.at
    have a5 := ht.o1.kids.rd.at
    have a6 := ht.o2.kids.rd.at
    rw [sv_length] at a1 a2 a3 a4
    rw [iv_length] at a5 a6
    have e1 : kn = n1 := (a1.1.trans HKN.out).symm
    have e2 : kn = n2 := (a2.1.trans HKN.out).symm
    have e3 : vn = m1 := (a3.1.trans HVN.out).symm
    have e4 : vn = m2 := (a4.1.trans HVN.out).symm
    have e5 : dn = l1 := (a5.1.trans HDN.out).symm
    have e6 : dn = l2 := (a6.1.trans HDN.out).symm
    subst e1 e2 e3 e4 e5 e6
    have TT : Hid (Two2 wc W0.heap.size b1 b2 p (.slice ka1 kn kc1) (.slice va1 vn vc1) (.slice da1 dn dc1) (.slice ka2 kn kc2) (.slice va2 vn vc2) (.slice da2 dn dc2)) := ht
    have HYC : Hid (Below W0.heap.size W0 wc) := hy
    have X0 : Hid (PBox wc w.heap.size p (.slice ka kn kc) (.slice va vn vc) (.slice da dn dc)) := HX0.out.below hy
    have X1 : Hid (Blk wc (w.heap.size + 1) zeroC 25) := Blk.of HX1.out (hy.block _ HX1.out.lt)
    have X2 : Hid (Blk wc (w.heap.size + 1 + 1) zeroC 25) := Blk.of HX2.out (hy.block _ HX2.out.lt)
    have SZ : Hid (w.heap.size + 1 + 1 < W0.heap.size) := HX2.out.lt
    have HYW : Hid (Below w.heap.size w wc) := ext_trans HY0.out hy
    have HW0 : Hid (w.heap.size ≤ W0.heap.size) := HY0.out.size
    clear ht hy HX0 HX1 HX2 HY0
    obtain ⟨ad1, hd1⟩ := a1.2.2.2.ad (by rw [sv_length]; omega)
    obtain ⟨ad2, hd2⟩ := a2.2.2.2.ad (by rw [sv_length]; omega)
    obtain ⟨dd1, hd3⟩ := a5.2.2.2.ad (by rw [iv_length]; omega)
    obtain ⟨dd2, hd4⟩ := a6.2.2.2.ad (by rw [iv_length]; omega)
    subst hd1 hd2 hd3 hd4
    obtain ⟨kad, hkad⟩ := HP.out.keys.at.2.2.2.ad (by rw [sv_length]; omega)
    subst hkad
    have hkc1 : kn ≤ kc1 := by have := a1.2.1; have := HKN.out; omega
    have hkc2 : kn ≤ kc2 := by have := a2.2.1; have := HKN.out; omega
    have hdc1 : dn ≤ dc1 := by have := a5.2.1; have := HDN.out; omega
    have hdc2 : dn ≤ dc2 := by have := a6.2.1; have := HDN.out; omega
    have hm1 : kc1 ≤ 9223372036854775807 := a1.2.2.1
    have hm2 : kc2 ≤ 9223372036854775807 := a2.2.2.1
    have hm3 : dc1 ≤ 9223372036854775807 := a5.2.2.1
    have hm4 : dc2 ≤ 9223372036854775807 := a6.2.2.1
    clear a1 a2 a3 a4 a5 a6
    obtain ⟨y0, y1, y2, y3, y4, y5, y6, y7⟩ := X0.out.cells
    have HDK : Hid (dn = kn + 1) := by have := HKN.out; have := HDN.out; show _ = _; omega
    have hdn1 : 3 < dn := by have := HDN.out; omega
    have hdn2 : dn ≤ 1000 := by have := HDN.out; omega
    have hkn2 : kn ≤ 1000 := by have := HKN.out; omega
    obtain ⟨hf, hhf, HHF⟩ : ∃ hf : Nat, (dn : Int) / 2 = (hf : Int) ∧ Hid (hf = p.kids.length / 2) := ⟨dn / 2, by omega, by have := HDN.out; show _ = _; omega⟩
    have hf1 : 1 < hf := by have := HHF.out; have := HDN.out; omega
    have hf2 : hf < kn := by have := HHF.out; have := HDN.out; have := HDK.out; omega
    have hf3 : hf < dn := by have := HDK.out; omega
    obtain ⟨hg, hhg, HHG⟩ : ∃ hg : Nat, (hf : Int) - 1 = (hg : Int) ∧ Hid (hg = p.kids.length / 2 - 1) := ⟨hf - 1, by omega, by have := HHF.out; show _ = _; omega⟩
    have hg1 : hg < kn := by omega
    obtain ⟨sk, HSK, HKEY⟩ : ∃ sk, Hid (p.keys[p.kids.length / 2 - 1]? = some sk) ∧ Hid (w.cell? (kad.add hg) = some (.string sk)) := by
      have hh : hg < p.keys.length := by have := HKN.out; omega
      refine ⟨p.keys[hg], ?_, HP.out.keys.at.2.2.2.str rfl hh⟩
      show _ = _
      rw [← HHG.out]
      exact List.getElem?_eq_getElem hh
    go_upto_region 3 with fail
    clear hhf y0 y1 y2 y3 y4 y5 y6 y7
    have HNE : Hid (b1 ≠ b2) := TT.out.ne
    have P1 : Hid (PBox wc b1 p (.slice (some ad1) kn kc1) (.slice va1 vn vc1) (.slice (some dd1) dn dc1)) := TT.out.x1
    have P2 : Hid (PBox wc b2 p (.slice (some ad2) kn kc2) (.slice va2 vn vc2) (.slice (some dd2) dn dc2)) := TT.out.x2
    have SP : Hid (SpF w wc W0.heap.size b1 b2 p _ _ _ _ _ _ _ _ _) := ⟨TT.out.o1, TT.out.o2, TT.out.ne, TT.out.off1, TT.out.off2, X0.out, X1.out, X2.out, SZ.out, TT.out.hb1, TT.out.hb2, HYW.out⟩
    clear TT X0 X1 X2 SZ HYW
    obtain ⟨x0, x1, x2, x3, x4, x5, x6, x7⟩ := P1.out.cells
    obtain ⟨z0, z1, z2, z3, z4, z5, z6, z7⟩ := P2.out.cells
    refine wp_region_last (Chg (fun g => g = b1) wc.drew) 11 (by kernel_rfl) (by kernel_rfl) ?_
    simp only [List.pop_toArray, List.dropLast_cons_cons, List.dropLast_singleton]
    haveI nA : Nonempty (Cls (Chg (fun g => g = b1) wc.drew)) := ⟨⟨wc.drew, Chg.refl _ _⟩⟩
    have q1 : ∀ s : Cls (Chg (fun g => g = b1) wc.drew), s.wd.cell? ⟨b2, 3, none⟩ = some (.slice (some dd2) dn dc2) := fun s => s.ok.cell (show wc.drew.cell? ⟨b2, 3, none⟩ = some _ from z3) (fun e => HNE.out e.symm)
    refine wpAnyH_seg (by kernel_rfl) (fun _ _ _ h => h) [0, 2, 4, 5, 6, 7] 5 _ _ _ (Chg.refl _ _) (by kernel_rfl) ?_
    simp only [opsAt, List.getElem?_toArray, List.getElem?_cons_zero, List.getElem?_cons_succ, List.cons_append, List.nil_append]
    repeat (go_big_quiet_step (fail))
    refine wpQuiet_nil ?_
    refine wpAnyH_all (rs := [1]) (fuel := 4) (by kernel_rfl) (by simp) fun j hj => ?_
    obtain rfl : j = 1 := by simpa using hj
    clear hj
    refine wpOp_value 17 rfl (by kernel_rfl) rfl (exec_load1 rfl rfl Try.underlying23 rfl (show wc.drew.cell? ⟨b1, 3, none⟩ = some (.slice (some dd1) dn dc1) from x3)) ?_
    refine ⟨Chg.refl _ _, ?_⟩
    simp only [Act.put, List.setIfInBounds_toArray, List.set_cons_succ, List.set_cons_zero]
    refine wpAnyH_seg (by kernel_rfl) (fun _ _ _ h => h) [3, 8] 2 _ _ _ (Chg.refl _ _) (by kernel_rfl) ?_
    simp only [opsAt, List.getElem?_toArray, List.getElem?_cons_zero, List.getElem?_cons_succ, List.cons_append, List.nil_append]
    repeat (go_big_quiet_step (fail))
    refine wpQuiet_nil ?_
    refine wpAnyH_all (rs := [9]) (fuel := 1) (by kernel_rfl) (by simp) fun j hj => ?_
    obtain rfl : j = 9 := by simpa using hj
    clear hj
    refine wpOp_store1 rfl (by kernel_rfl) 23 _ _ rfl rfl b1 3 (.slice (some dd1) hf dc1) rfl rfl (thereN 1 (show Blk wc.drew b1 _ _ from P1.out) (by simp [pgc])) (by kernel_rfl) rfl ?_
    refine ⟨Chg.setCell (S := fun g => g = b1) (Chg.refl _ _) ⟨b1, 3, none⟩ (fun _ => rfl) _, ?_⟩
    refine wpAnyH_seg (by kernel_rfl) (fun _ _ _ h => h) [10] 0 _ _ _ (Chg.setCell (S := fun g => g = b1) (Chg.refl _ _) ⟨b1, 3, none⟩ (fun _ => rfl) _) (by kernel_rfl) ?_
    simp only [opsAt, List.getElem?_toArray, List.getElem?_cons_zero, List.getElem?_cons_succ, List.cons_append, List.nil_append]
    repeat (go_big_quiet_step (fail))
    refine wpQuiet_nil ?_
    refine wpAnyH_done (by kernel_rfl) (exQ_normal ?_) 0
    have P1b : Hid (PBox ((wc.drew.setCell ⟨b1, 3, none⟩ (.slice (some dd1) hf dc1)).setCell ⟨b2, 3, none⟩ (.slice (some (dd2.add hf)) (dn - hf) (dc2 - hf))) b1 p (.slice (some ad1) kn kc1) (.slice va1 vn vc1) (.slice (some dd1) hf dc1)) := Blk.setOther (Blk.set (show Blk wc.drew b1 _ _ from P1.out) 3 (.slice (some dd1) hf dc1)) 3 _ HNE.out
    have P2b : Hid (PBox ((wc.drew.setCell ⟨b1, 3, none⟩ (.slice (some dd1) hf dc1)).setCell ⟨b2, 3, none⟩ (.slice (some (dd2.add hf)) (dn - hf) (dc2 - hf))) b2 p (.slice (some ad2) kn kc2) (.slice va2 vn vc2) (.slice (some (dd2.add hf)) (dn - hf) (dc2 - hf))) := Blk.set (Blk.setOther (show Blk wc.drew b2 _ _ from P2.out) 3 _ (Ne.symm HNE.out)) 3 (.slice (some (dd2.add hf)) (dn - hf) (dc2 - hf))
    have SPb : Hid (SpF w ((wc.drew.setCell ⟨b1, 3, none⟩ (.slice (some dd1) hf dc1)).setCell ⟨b2, 3, none⟩ (.slice (some (dd2.add hf)) (dn - hf) (dc2 - hf))) W0.heap.size b1 b2 p _ _ _ _ _ _ _ _ _) := (SP.out.drew.set b1 3 _ (.inl rfl)).set b2 3 _ (.inr rfl)
    refine wpOp_store1 rfl (by kernel_rfl) 23 _ _ rfl rfl b2 3 (.slice (some (dd2.add hf)) (dn - hf) (dc2 - hf)) rfl rfl (thereN 1 (Blk.setOther (show Blk wc.drew b2 _ _ from P2.out) 3 _ (Ne.symm HNE.out)) (by simp [pgc])) (by kernel_rfl) rfl ?_
    clear nA q1 x0 x1 x2 x3 x4 x5 x6 x7 z0 z1 z2 z3 z4 z5 z6 z7 P1 P2 SP
    generalize (wc.drew.setCell ⟨b1, 3, none⟩ (.slice (some dd1) hf dc1)).setCell ⟨b2, 3, none⟩ (.slice (some (dd2.add hf)) (dn - hf) (dc2 - hf)) = wd at *
    go_upto_region 4 with fail
    obtain ⟨x0, x1, x2, x3, x4, x5, x6, x7⟩ := P1b.out.cells
    obtain ⟨z0, z1, z2, z3, z4, z5, z6, z7⟩ := P2b.out.cells
    refine wp_region_last (Chg (fun g => g = b1) wd.drew) 12 (by kernel_rfl) (by kernel_rfl) ?_
    simp only [List.pop_toArray, List.dropLast_cons_cons, List.dropLast_singleton]
    haveI nA : Nonempty (Cls (Chg (fun g => g = b1) wd.drew)) := ⟨⟨wd.drew, Chg.refl _ _⟩⟩
    have q1 : ∀ s : Cls (Chg (fun g => g = b1) wd.drew), s.wd.cell? ⟨b2, 1, none⟩ = some (.slice (some ad2) kn kc2) := fun s => s.ok.cell (show wd.drew.cell? ⟨b2, 1, none⟩ = some _ from z1) (fun e => HNE.out e.symm)
    refine wpAnyH_seg (by kernel_rfl) (fun _ _ _ h => h) [0, 2, 3, 5, 6, 7, 8] 5 _ _ _ (Chg.refl _ _) (by kernel_rfl) ?_
    simp only [opsAt, List.getElem?_toArray, List.getElem?_cons_zero, List.getElem?_cons_succ, List.cons_append, List.nil_append]
    repeat (go_big_quiet_step (fail))
    refine wpQuiet_nil ?_
    refine wpAnyH_all (rs := [1]) (fuel := 4) (by kernel_rfl) (by simp) fun j hj => ?_
    obtain rfl : j = 1 := by simpa using hj
    clear hj
    refine wpOp_value 27 rfl (by kernel_rfl) rfl (exec_load1 rfl rfl Try.underlying22 rfl (show wd.drew.cell? ⟨b1, 1, none⟩ = some (.slice (some ad1) kn kc1) from x1)) ?_
    refine ⟨Chg.refl _ _, ?_⟩
    simp only [Act.put, List.setIfInBounds_toArray, List.set_cons_succ, List.set_cons_zero]
    refine wpAnyH_seg (by kernel_rfl) (fun _ _ _ h => h) [4, 9] 2 _ _ _ (Chg.refl _ _) (by kernel_rfl) ?_
    simp only [opsAt, List.getElem?_toArray, List.getElem?_cons_zero, List.getElem?_cons_succ, List.cons_append, List.nil_append]
    repeat (go_big_quiet_step (fail))
    refine wpQuiet_nil ?_
    refine wpAnyH_all (rs := [10]) (fuel := 1) (by kernel_rfl) (by simp) fun j hj => ?_
    obtain rfl : j = 10 := by simpa using hj
    clear hj
    refine wpOp_store1 rfl (by kernel_rfl) 22 _ _ rfl rfl b1 1 (.slice (some ad1) hg kc1) rfl rfl (thereN 1 (show Blk wd.drew b1 _ _ from P1b.out) (by simp [pgc])) (by kernel_rfl) rfl ?_
    refine ⟨Chg.setCell (S := fun g => g = b1) (Chg.refl _ _) ⟨b1, 1, none⟩ (fun _ => rfl) _, ?_⟩
    refine wpAnyH_seg (by kernel_rfl) (fun _ _ _ h => h) [11] 0 _ _ _ (Chg.setCell (S := fun g => g = b1) (Chg.refl _ _) ⟨b1, 1, none⟩ (fun _ => rfl) _) (by kernel_rfl) ?_
    simp only [opsAt, List.getElem?_toArray, List.getElem?_cons_zero, List.getElem?_cons_succ, List.cons_append, List.nil_append]
    repeat (go_big_quiet_step (fail))
    refine wpQuiet_nil ?_
    refine wpAnyH_done (by kernel_rfl) (exQ_normal ?_) 0
    have P1c : Hid (PBox ((wd.drew.setCell ⟨b1, 1, none⟩ (.slice (some ad1) hg kc1)).setCell ⟨b2, 1, none⟩ (.slice (some (ad2.add hf)) (kn - hf) (kc2 - hf))) b1 p (.slice (some ad1) hg kc1) (.slice va1 vn vc1) (.slice (some dd1) hf dc1)) := Blk.setOther (Blk.set (show Blk wd.drew b1 _ _ from P1b.out) 1 (.slice (some ad1) hg kc1)) 1 _ HNE.out
    have P2c : Hid (PBox ((wd.drew.setCell ⟨b1, 1, none⟩ (.slice (some ad1) hg kc1)).setCell ⟨b2, 1, none⟩ (.slice (some (ad2.add hf)) (kn - hf) (kc2 - hf))) b2 p (.slice (some (ad2.add hf)) (kn - hf) (kc2 - hf)) (.slice va2 vn vc2) (.slice (some (dd2.add hf)) (dn - hf) (dc2 - hf))) := Blk.set (Blk.setOther (show Blk wd.drew b2 _ _ from P2b.out) 1 _ (Ne.symm HNE.out)) 1 (.slice (some (ad2.add hf)) (kn - hf) (kc2 - hf))
    have SPc : Hid (SpF w ((wd.drew.setCell ⟨b1, 1, none⟩ (.slice (some ad1) hg kc1)).setCell ⟨b2, 1, none⟩ (.slice (some (ad2.add hf)) (kn - hf) (kc2 - hf))) W0.heap.size b1 b2 p _ _ _ _ _ _ _ _ _) := (SPb.out.drew.set b1 1 _ (.inl rfl)).set b2 1 _ (.inr rfl)
    refine wpOp_store1 rfl (by kernel_rfl) 22 _ _ rfl rfl b2 1 (.slice (some (ad2.add hf)) (kn - hf) (kc2 - hf)) rfl rfl (thereN 1 (Blk.setOther (show Blk wd.drew b2 _ _ from P2b.out) 1 _ (Ne.symm HNE.out)) (by simp [pgc])) (by kernel_rfl) rfl ?_
    clear nA q1 x0 x1 x2 x3 x4 x5 x6 x7 z0 z1 z2 z3 z4 z5 z6 z7 P1b P2b SPb
    generalize (wd.drew.setCell ⟨b1, 1, none⟩ (.slice (some ad1) hg kc1)).setCell ⟨b2, 1, none⟩ (.slice (some (ad2.add hf)) (kn - hf) (kc2 - hf)) = we at *
    go_upto_region 5 with fail
    obtain ⟨x0, x1, x2, x3, x4, x5, x6, x7⟩ := P1c.out.cells
    obtain ⟨z0, z1, z2, z3, z4, z5, z6, z7⟩ := P2c.out.cells
    obtain ⟨y0, y1, y2, y3, y4, y5, y6, y7⟩ := SPc.out.r0.cells
    have hA := SPc.out.hA
    have hb1 := SPc.out.hb1
    have hb2 := SPc.out.hb2
    haveI nA : Nonempty (Cls (Chg (fun g => g = w.heap.size + 1 ∨ g = w.heap.size + 1 + 1) we.drew)) := ⟨⟨we.drew, Chg.refl _ _⟩⟩
    have q0 : ∀ s : Cls (Chg (fun g => g = w.heap.size + 1 ∨ g = w.heap.size + 1 + 1) we.drew), s.wd.cell? ⟨b1, 0, none⟩ = some _ := fun s => s.ok.cell (show we.drew.cell? ⟨b1, 0, none⟩ = some _ from x0) (by show ¬ (b1 = _ ∨ b1 = _); omega)
    have q1 : ∀ s : Cls (Chg (fun g => g = w.heap.size + 1 ∨ g = w.heap.size + 1 + 1) we.drew), s.wd.cell? ⟨b1, 1, none⟩ = some _ := fun s => s.ok.cell (show we.drew.cell? ⟨b1, 1, none⟩ = some _ from x1) (by show ¬ (b1 = _ ∨ b1 = _); omega)
    have q2 : ∀ s : Cls (Chg (fun g => g = w.heap.size + 1 ∨ g = w.heap.size + 1 + 1) we.drew), s.wd.cell? ⟨b1, 2, none⟩ = some _ := fun s => s.ok.cell (show we.drew.cell? ⟨b1, 2, none⟩ = some _ from x2) (by show ¬ (b1 = _ ∨ b1 = _); omega)
    have q3 : ∀ s : Cls (Chg (fun g => g = w.heap.size + 1 ∨ g = w.heap.size + 1 + 1) we.drew), s.wd.cell? ⟨b1, 3, none⟩ = some _ := fun s => s.ok.cell (show we.drew.cell? ⟨b1, 3, none⟩ = some _ from x3) (by show ¬ (b1 = _ ∨ b1 = _); omega)
    have q4 : ∀ s : Cls (Chg (fun g => g = w.heap.size + 1 ∨ g = w.heap.size + 1 + 1) we.drew), s.wd.cell? ⟨b1, 4, none⟩ = some _ := fun s => s.ok.cell (show we.drew.cell? ⟨b1, 4, none⟩ = some _ from x4) (by show ¬ (b1 = _ ∨ b1 = _); omega)
    have q5 : ∀ s : Cls (Chg (fun g => g = w.heap.size + 1 ∨ g = w.heap.size + 1 + 1) we.drew), s.wd.cell? ⟨b1, 5, none⟩ = some _ := fun s => s.ok.cell (show we.drew.cell? ⟨b1, 5, none⟩ = some _ from x5) (by show ¬ (b1 = _ ∨ b1 = _); omega)
    have q6 : ∀ s : Cls (Chg (fun g => g = w.heap.size + 1 ∨ g = w.heap.size + 1 + 1) we.drew), s.wd.cell? ⟨b1, 6, none⟩ = some _ := fun s => s.ok.cell (show we.drew.cell? ⟨b1, 6, none⟩ = some _ from x6) (by show ¬ (b1 = _ ∨ b1 = _); omega)
    have q7 : ∀ s : Cls (Chg (fun g => g = w.heap.size + 1 ∨ g = w.heap.size + 1 + 1) we.drew), s.wd.cell? ⟨b1, 7, none⟩ = some _ := fun s => s.ok.cell (show we.drew.cell? ⟨b1, 7, none⟩ = some _ from x7) (by show ¬ (b1 = _ ∨ b1 = _); omega)
    have t0 : ∀ s : Cls (Chg (fun g => g = w.heap.size + 1 ∨ g = w.heap.size + 1 + 1) we.drew), s.wd.cell? ⟨b2, 0, none⟩ = some _ := fun s => s.ok.cell (show we.drew.cell? ⟨b2, 0, none⟩ = some _ from z0) (by show ¬ (b2 = _ ∨ b2 = _); omega)
    have t1 : ∀ s : Cls (Chg (fun g => g = w.heap.size + 1 ∨ g = w.heap.size + 1 + 1) we.drew), s.wd.cell? ⟨b2, 1, none⟩ = some _ := fun s => s.ok.cell (show we.drew.cell? ⟨b2, 1, none⟩ = some _ from z1) (by show ¬ (b2 = _ ∨ b2 = _); omega)
    have t2 : ∀ s : Cls (Chg (fun g => g = w.heap.size + 1 ∨ g = w.heap.size + 1 + 1) we.drew), s.wd.cell? ⟨b2, 2, none⟩ = some _ := fun s => s.ok.cell (show we.drew.cell? ⟨b2, 2, none⟩ = some _ from z2) (by show ¬ (b2 = _ ∨ b2 = _); omega)
    have t3 : ∀ s : Cls (Chg (fun g => g = w.heap.size + 1 ∨ g = w.heap.size + 1 + 1) we.drew), s.wd.cell? ⟨b2, 3, none⟩ = some _ := fun s => s.ok.cell (show we.drew.cell? ⟨b2, 3, none⟩ = some _ from z3) (by show ¬ (b2 = _ ∨ b2 = _); omega)
    have t4 : ∀ s : Cls (Chg (fun g => g = w.heap.size + 1 ∨ g = w.heap.size + 1 + 1) we.drew), s.wd.cell? ⟨b2, 4, none⟩ = some _ := fun s => s.ok.cell (show we.drew.cell? ⟨b2, 4, none⟩ = some _ from z4) (by show ¬ (b2 = _ ∨ b2 = _); omega)
    have t5 : ∀ s : Cls (Chg (fun g => g = w.heap.size + 1 ∨ g = w.heap.size + 1 + 1) we.drew), s.wd.cell? ⟨b2, 5, none⟩ = some _ := fun s => s.ok.cell (show we.drew.cell? ⟨b2, 5, none⟩ = some _ from z5) (by show ¬ (b2 = _ ∨ b2 = _); omega)
    have t6 : ∀ s : Cls (Chg (fun g => g = w.heap.size + 1 ∨ g = w.heap.size + 1 + 1) we.drew), s.wd.cell? ⟨b2, 6, none⟩ = some _ := fun s => s.ok.cell (show we.drew.cell? ⟨b2, 6, none⟩ = some _ from z6) (by show ¬ (b2 = _ ∨ b2 = _); omega)
    have t7 : ∀ s : Cls (Chg (fun g => g = w.heap.size + 1 ∨ g = w.heap.size + 1 + 1) we.drew), s.wd.cell? ⟨b2, 7, none⟩ = some _ := fun s => s.ok.cell (show we.drew.cell? ⟨b2, 7, none⟩ = some _ from z7) (by show ¬ (b2 = _ ∨ b2 = _); omega)
    have r1 : ∀ s : Cls (Chg (fun g => g = w.heap.size + 1 ∨ g = w.heap.size + 1 + 1) we.drew), s.wd.cell? ⟨w.heap.size, 1, none⟩ = some _ := fun s => s.ok.cell (show we.drew.cell? ⟨w.heap.size, 1, none⟩ = some _ from y1) (by show ¬ (w.heap.size = _ ∨ w.heap.size = _); omega)
    have r2 : ∀ s : Cls (Chg (fun g => g = w.heap.size + 1 ∨ g = w.heap.size + 1 + 1) we.drew), s.wd.cell? (kad.add hg) = some (.string sk) := fun s => s.ok.cell (show we.drew.cell? (kad.add hg) = some _ from (Below.cell SPc.out.bel (cell_lt HKEY.out)).trans HKEY.out) (by have := cell_lt HKEY.out; show ¬ ((kad.add hg).block = _ ∨ (kad.add hg).block = _); omega)
    clear x0 x1 x2 x3 x4 x5 x6 x7 y0 y1 y2 y3 y4 y5 y6 y7 z0 z1 z2 z3 z4 z5 z6 z7
    refine wp_region_seg (Chg (fun g => g = w.heap.size + 1 ∨ g = w.heap.size + 1 + 1) we.drew) (by kernel_rfl) ?_
    refine wpAnyH_seg (by kernel_rfl) (fun _ _ _ h => h) [0, 1, 2, 3, 4, 5, 6, 7] 3 _ _ _ (Chg.refl _ _) (by kernel_rfl) ?_
    simp only [opsAt, List.getElem?_toArray, List.getElem?_cons_zero, List.getElem?_cons_succ, List.cons_append, List.nil_append]
    repeat (go_big_quiet_step (fail))
    refine wpQuiet_nil ?_
    clear q0 t0 q1 t1 q2 t2 q3 t3 q4 t4 q5 t5 q6 t6 q7 t7 r1 r2
    refine wpAnyH_all (rs := [8]) (fuel := 2) (by kernel_rfl) (by simp) fun j hj => ?_
    obtain rfl : j = 8 := by simpa using hj
    clear hj
    refine wpOp_storeN rfl (by kernel_rfl) 25 _ _ rfl rfl (w.heap.size + 1) 0 (pgc p (.slice (some ad1) hg kc1) (.slice va1 vn vc1) (.slice (some dd1) hf dc1)) rfl rfl (thereN 8 (show Blk we.drew _ _ _ from SPc.out.r1) (by simp [zeroC])) (by kernel_rfl) (pgc_one _ _ _ _ _ _ _ _ _ _) ?_
    have C1 : Chg (fun g => g = w.heap.size + 1 ∨ g = w.heap.size + 1 + 1) we.drew (put8 we.drew (w.heap.size + 1) (.int .i64 p.kind) (.slice (some ad1) hg kc1) (.slice va1 vn vc1) (.slice (some dd1) hf dc1) (.int .i64 p.root) (.int .i64 p.next) (.int .i64 p.size) (.int .i64 p.idle)) := put8_chg (Chg.refl _ _) (fun _ => .inl rfl) _ _ _ _ _ _ _ _
    refine ⟨C1, ?_⟩
    refine wpAnyH_seg (by kernel_rfl) (fun _ _ _ h => h) [9] 1 _ _ _ C1 (by kernel_rfl) ?_
    simp only [opsAt, List.getElem?_toArray, List.getElem?_cons_zero, List.getElem?_cons_succ, List.cons_append, List.nil_append]
    repeat (go_big_quiet_step (fail))
    refine wpQuiet_nil ?_
    refine wpAnyH_all (rs := [10]) (fuel := 0) (by kernel_rfl) (by simp) fun j hj => ?_
    obtain rfl : j = 10 := by simpa using hj
    clear hj
    refine wpOp_storeN rfl (by kernel_rfl) 25 _ _ rfl rfl (w.heap.size + 1 + 1) 0 (pgc p (.slice (some (ad2.add hf)) (kn - hf) (kc2 - hf)) (.slice va2 vn vc2) (.slice (some (dd2.add hf)) (dn - hf) (dc2 - hf))) rfl rfl (thereN 8 (Blk.of (show Blk we.drew _ _ _ from SPc.out.r2) (put8_other _ _ _ _ _ _ _ _ _ _ _ (by omega))) (by simp [zeroC])) (by kernel_rfl) (pgc_one _ _ _ _ _ _ _ _ _ _) ?_
    refine ⟨put8_chg C1 (fun _ => .inr rfl) _ _ _ _ _ _ _ _, ?_⟩
    refine wpAnyH_done (by kernel_rfl) (NoPanic.normal ?_) 0
    have F1 : PBox (put8 (put8 we.drew (w.heap.size + 1) (.int .i64 p.kind) (.slice (some ad1) hg kc1) (.slice va1 vn vc1) (.slice (some dd1) hf dc1) (.int .i64 p.root) (.int .i64 p.next) (.int .i64 p.size) (.int .i64 p.idle)) (w.heap.size + 1 + 1) (.int .i64 p.kind) (.slice (some (ad2.add hf)) (kn - hf) (kc2 - hf)) (.slice va2 vn vc2) (.slice (some (dd2.add hf)) (dn - hf) (dc2 - hf)) (.int .i64 p.root) (.int .i64 p.next) (.int .i64 p.size) (.int .i64 p.idle)) (w.heap.size + 1) p (.slice (some ad1) hg kc1) (.slice va1 vn vc1) (.slice (some dd1) hf dc1) := Blk.of (blk_set8 _ _ _ _ _ _ _ _ (show Blk we.drew _ _ _ from SPc.out.r1)) (put8_other _ _ _ _ _ _ _ _ _ _ _ (by omega))
    have F2 : PBox (put8 (put8 we.drew (w.heap.size + 1) (.int .i64 p.kind) (.slice (some ad1) hg kc1) (.slice va1 vn vc1) (.slice (some dd1) hf dc1) (.int .i64 p.root) (.int .i64 p.next) (.int .i64 p.size) (.int .i64 p.idle)) (w.heap.size + 1 + 1) (.int .i64 p.kind) (.slice (some (ad2.add hf)) (kn - hf) (kc2 - hf)) (.slice va2 vn vc2) (.slice (some (dd2.add hf)) (dn - hf) (dc2 - hf)) (.int .i64 p.root) (.int .i64 p.next) (.int .i64 p.size) (.int .i64 p.idle)) (w.heap.size + 1 + 1) p (.slice (some (ad2.add hf)) (kn - hf) (kc2 - hf)) (.slice va2 vn vc2) (.slice (some (dd2.add hf)) (dn - hf) (dc2 - hf)) := blk_set8 _ _ _ _ _ _ _ _ (Blk.of (show Blk we.drew _ _ _ from SPc.out.r2) (put8_other _ _ _ _ _ _ _ _ _ _ _ (by omega)))
    have hk : ∀ g, W0.heap.size ≤ g → (put8 (put8 we.drew (w.heap.size + 1) (.int .i64 p.kind) (.slice (some ad1) hg kc1) (.slice va1 vn vc1) (.slice (some dd1) hf dc1) (.int .i64 p.root) (.int .i64 p.next) (.int .i64 p.size) (.int .i64 p.idle)) (w.heap.size + 1 + 1) (.int .i64 p.kind) (.slice (some (ad2.add hf)) (kn - hf) (kc2 - hf)) (.slice va2 vn vc2) (.slice (some (dd2.add hf)) (dn - hf) (dc2 - hf)) (.int .i64 p.root) (.int .i64 p.next) (.int .i64 p.size) (.int .i64 p.idle)).heap[g]? = we.heap[g]? := fun g hg => by
      rw [put8_other _ _ _ _ _ _ _ _ _ _ _ (by omega), put8_other _ _ _ _ _ _ _ _ _ _ _ (by omega)]
      rfl
    have G1 : Hid (PgO (put8 (put8 we.drew (w.heap.size + 1) (.int .i64 p.kind) (.slice (some ad1) hg kc1) (.slice va1 vn vc1) (.slice (some dd1) hf dc1) (.int .i64 p.root) (.int .i64 p.next) (.int .i64 p.size) (.int .i64 p.idle)) (w.heap.size + 1 + 1) (.int .i64 p.kind) (.slice (some (ad2.add hf)) (kn - hf) (kc2 - hf)) (.slice va2 vn vc2) (.slice (some (dd2.add hf)) (dn - hf) (dc2 - hf)) (.int .i64 p.root) (.int .i64 p.next) (.int .i64 p.size) (.int .i64 p.idle)) W0.heap.size p _ _ _) := SPc.out.o1.keep SPc.out.o1.inP (fun g a _ => hk g a)
    have G2 : Hid (PgO (put8 (put8 we.drew (w.heap.size + 1) (.int .i64 p.kind) (.slice (some ad1) hg kc1) (.slice va1 vn vc1) (.slice (some dd1) hf dc1) (.int .i64 p.root) (.int .i64 p.next) (.int .i64 p.size) (.int .i64 p.idle)) (w.heap.size + 1 + 1) (.int .i64 p.kind) (.slice (some (ad2.add hf)) (kn - hf) (kc2 - hf)) (.slice va2 vn vc2) (.slice (some (dd2.add hf)) (dn - hf) (dc2 - hf)) (.int .i64 p.root) (.int .i64 p.next) (.int .i64 p.size) (.int .i64 p.idle)) W0.heap.size p _ _ _) := SPc.out.o2.keep SPc.out.o2.inP (fun g a _ => hk g a)
    have RY : Hid (Below w.heap.size w (put8 (put8 we.drew (w.heap.size + 1) (.int .i64 p.kind) (.slice (some ad1) hg kc1) (.slice va1 vn vc1) (.slice (some dd1) hf dc1) (.int .i64 p.root) (.int .i64 p.next) (.int .i64 p.size) (.int .i64 p.idle)) (w.heap.size + 1 + 1) (.int .i64 p.kind) (.slice (some (ad2.add hf)) (kn - hf) (kc2 - hf)) (.slice va2 vn vc2) (.slice (some (dd2.add hf)) (dn - hf) (dc2 - hf)) (.int .i64 p.root) (.int .i64 p.next) (.int .i64 p.size) (.int .i64 p.idle))) := put8_below (put8_below SPc.out.bel.drew (Nat.le_succ _) _ _ _ _ _ _ _ _) (by omega) _ _ _ _ _ _ _ _
    clear nA C1 hk hA hb1 hb2 P1c P2c SPc
    have hgo : ∀ (Q : World → Prop), Q (put8 (put8 we.drew (w.heap.size + 1) (.int .i64 p.kind) (.slice (some ad1) hg kc1) (.slice va1 vn vc1) (.slice (some dd1) hf dc1) (.int .i64 p.root) (.int .i64 p.next) (.int .i64 p.size) (.int .i64 p.idle)) (w.heap.size + 1 + 1) (.int .i64 p.kind) (.slice (some (ad2.add hf)) (kn - hf) (kc2 - hf)) (.slice va2 vn vc2) (.slice (some (dd2.add hf)) (dn - hf) (dc2 - hf)) (.int .i64 p.root) (.int .i64 p.next) (.int .i64 p.size) (.int .i64 p.idle)) → Q ((we.drew.setCells (w.heap.size + 1) 0 (pgc p (.slice (some ad1) hg kc1) (.slice va1 vn vc1) (.slice (some dd1) hf dc1)).toList).setCells (w.heap.size + 1 + 1) 0 (pgc p (.slice (some (ad2.add hf)) (kn - hf) (kc2 - hf)) (.slice va2 vn vc2) (.slice (some (dd2.add hf)) (dn - hf) (dc2 - hf))).toList) := fun Q h => h
    refine hgo _ ?_
    clear hgo
    generalize (put8 (put8 we.drew (w.heap.size + 1) (.int .i64 p.kind) (.slice (some ad1) hg kc1) (.slice va1 vn vc1) (.slice (some dd1) hf dc1) (.int .i64 p.root) (.int .i64 p.next) (.int .i64 p.size) (.int .i64 p.idle)) (w.heap.size + 1 + 1) (.int .i64 p.kind) (.slice (some (ad2.add hf)) (kn - hf) (kc2 - hf)) (.slice va2 vn vc2) (.slice (some (dd2.add hf)) (dn - hf) (dc2 - hf)) (.int .i64 p.root) (.int .i64 p.next) (.int .i64 p.size) (.int .i64 p.idle)) = WF at *
    go_wp2
    obtain ⟨q0, q1, q2, q3, q4, q5, q6, q7⟩ := F1.cells
    obtain ⟨t0, t1, t2, t3, t4, t5, t6, t7⟩ := F2.cells
    exact bodyPost_ret (v := .tuple #[pgv p (.slice (some ad1) hg kc1) (.slice va1 vn vc1) (.slice (some dd1) hf dc1), .string sk, pgv p (.slice (some (ad2.add hf)) (kn - hf) (kc2 - hf)) (.slice va2 vn vc2) (.slice (some (dd2.add hf)) (dn - hf) (dc2 - hf))]) (by simp [pgv, results, Try.results68, go_sem, q0, q1, q2, q3, q4, q5, q6, q7, t0, t1, t2, t3, t4, t5, t6, t7]) rfl ⟨_, _, _, _, _, _, _, rfl, HSK.out, by unfold innA; rw [← HHG.out, ← HHF.out]; exact ⟨by rw [sv_take]; exact G1.out.keys.rd.take (by omega), G1.out.vals.rd, by rw [iv_take]; exact G1.out.kids.rd.take (by omega)⟩, by unfold innB; rw [← HHF.out]; exact ⟨by rw [sv_drop]; have := G2.out.keys.rd.drop (k := hf) (by omega); rw [if_neg (by omega)] at this; exact this, G2.out.vals.rd, by rw [iv_drop]; have := G2.out.kids.rd.drop (k := hf) (by omega); rw [if_neg (by omega)] at this; exact this⟩, ⟨(G1.out.newP.k.take).mono HW0.out, G1.out.newP.v.mono HW0.out, (G1.out.newP.d.take).mono HW0.out⟩, ⟨(G2.out.newP.k.drop).mono HW0.out, G2.out.newP.v.mono HW0.out, (G2.out.newP.d.drop).mono HW0.out⟩, RY.out⟩
end Go.Proofs.Ytmjekecalghhdaa
