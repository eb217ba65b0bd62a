/- NodeOrder: the walk of the law's Go text. -/
import Derived.Test.YtmjekecalghhdaaNdO
import Derived.Test.YtmjekecalghhdaaPIn
set_option linter.unusedSimpArgs false
set_option linter.unusedVariables false
namespace Go.Proofs.Ytmjekecalghhdaa
open Go.ChangeShapes Go.WideShapes Go.ChangeAt Go.RowKit

theorem and_leO (a : Int) (m : Nat) (hm : m < 9223372036854775808) : ∃ i : Nat, i ≤ m ∧ bits .and .i64 a (m : Int) = (i : Int) := by
  refine ⟨(BitVec.ofInt 64 a &&& BitVec.ofInt 64 (m : Int)).toNat, ?_, ?_⟩
  · rw [BitVec.toNat_and]
    refine Nat.le_trans Nat.and_le_right ?_
    rw [BitVec.ofInt_natCast, BitVec.toNat_ofNat]
    exact Nat.mod_le _ _
  · have hle : (BitVec.ofInt 64 a &&& BitVec.ofInt 64 (m : Int)).toNat ≤ m := by
      rw [BitVec.toNat_and]
      refine Nat.le_trans Nat.and_le_right ?_
      rw [BitVec.ofInt_natCast, BitVec.toNat_ofNat]
      exact Nat.mod_le _ _
    show IntKind.i64.wrap ((BitVec.ofInt 64 a &&& BitVec.ofInt 64 (m : Int)).toNat : Int) = _
    rw [IntKind.wrap_i64]
    omega

theorem exec_storeL {w : World} {b : Nat} {ks : List ByteArray} {k1 kn kc va vn vc da dn dc} : w.setCells b 0 [.int .i64 (leafM ks).kind, .slice k1 kn kc, .slice va vn vc, .slice da dn dc, .int .i64 (leafM ks).root, .int .i64 (leafM ks).next, .int .i64 (leafM ks).size, .int .i64 (leafM ks).idle] = put8L w b (leafM ks) (.slice k1 kn kc) (.slice va vn vc) (.slice da dn dc) := rfl
theorem leafIn_new (W : World) : LeafIn (W.alloc (.cells #[.int .i64 1, .slice none 0 0, .slice none 0 0, .slice none 0 0, .int .i64 0, .int .i64 0, .int .i64 0, .int .i64 0] 25)) W.heap.size [] :=
  ⟨none, 0, 0, none, 0, 0, none, 0, 0, Blk.new _ _ _, ⟨(OwnV.nil _ 0 9).rd, (OwnV.nil _ 0 9).rd, (OwnV.nil _ 0 3).rd⟩⟩
theorem insB_len20 {l : List ByteArray} (h : l.length ≤ 1000) : (ksOf l).length ≤ 1000 := Nat.le_trans (ksOf_length l) h
theorem rotL_len (l : List ByteArray) (t m : Nat) : (rotL l t m).length = m := by simp [rotL]

set_option maxRecDepth 100000 in
set_option maxHeartbeats 3000000 in
theorem walk_NodeOrder (pa : Option Addr) (n c : Nat) (l : List ByteArray) (turn : Int) (w : World) (hps : IsStrs w pa n c l) (hsz : ∀ k ∈ l, k.size ≤ 140737488351232) (hw1 : (Lit.int .i64 turn).wf = true) :
    Calls Try.prog 13 #[.slice pa n c, .int .i64 turn] w fun e w' => e = .returned (.bool true) ∧ Below w.heap.size w w' := by
  have HR : Hid (Rd w (.slice pa n c) (sv l)) := isStrs_rd hps
  have HLN : Hid (l.length = n) := hps.1
  have hnm : n ≤ 9223372036854775807 := Nat.le_trans hps.2.1 hps.2.2.1
  have HZ : Hid (∀ k ∈ l, k.size ≤ 140737488351232) := hsz
  clear hps hsz hw1
  obtain ⟨t, ht255, hia0⟩ := and_leO turn 255 (by omega)
  have hia : bits .and .i64 turn 255 = (t : Int) := hia0
  clear hia0
  go_enter Try.func13, Try.ntmps13
  go_wp2_with fail
  refine (head7_any _).mono ?_
  rintro e w1 ⟨rfl, y⟩
  have Y1 : Hid (Below w.heap.size w w1) := y
  clear y
  by_cases h20 : 20 < n
  · go_wp2_with fail
    go_ret
    exact ⟨ret_bool rfl, Y1.out⟩
  · have N0 : Hid (NO w ((w1.alloc (.cells #[.int .i64 1, .slice none 0 0, .slice none 0 0, .slice none 0 0, .int .i64 0, .int .i64 0, .int .i64 0, .int .i64 0] 25)).alloc (.cells #[.int .i64 1, .slice none 0 0, .slice none 0 0, .slice none 0 0, .int .i64 0, .int .i64 0, .int .i64 0, .int .i64 0] 25)) w1.heap.size (w1.heap.size + 1) (.slice pa n c) l (ksOf (l.take 0)) (ksOf (rotL l t 0))) := by
      have hs := Y1.out.size
      refine ⟨(leafIn_new w1).below ((Below.refl _ _).alloc (Nat.le_refl _) _), ?_, HR.out.below ((Y1.out.alloc Y1.out.size _).alloc (by simp; omega) _), (Y1.out.alloc Y1.out.size _).alloc (by simp; omega) _, hs, by omega, by omega⟩
      have := leafIn_new (w1.alloc (.cells #[.int .i64 1, .slice none 0 0, .slice none 0 0, .slice none 0 0, .int .i64 0, .int .i64 0, .int .i64 0, .int .i64 0] 25))
      rw [show (w1.alloc (.cells #[.int .i64 1, .slice none 0 0, .slice none 0 0, .slice none 0 0, .int .i64 0, .int .i64 0, .int .i64 0, .int .i64 0] 25)).heap.size = w1.heap.size + 1 by simp] at this
      exact this
    go_upto_region 7 with fail
    generalize ((w1.alloc (.cells #[.int .i64 1, .slice none 0 0, .slice none 0 0, .slice none 0 0, .int .i64 0, .int .i64 0, .int .i64 0, .int .i64 0] 25)).alloc (.cells #[.int .i64 1, .slice none 0 0, .slice none 0 0, .slice none 0 0, .int .i64 0, .int .i64 0, .int .i64 0, .int .i64 0] 25)) = w2 at *
    obtain ⟨a, ha⟩ : ∃ a, w1.heap.size = a := ⟨_, rfl⟩
    obtain ⟨b, hb⟩ : ∃ b, w1.heap.size + 1 = b := ⟨_, rfl⟩
    rw [hb] at N0 ⊢
    rw [ha] at N0 ⊢
    clear ha hb Y1
    go_wp2
    go_loopw [20] (fun vi wr => ∃ i : Nat, vi = .int .i64 (i : Int) ∧ i ≤ n ∧ NO w wr a b (.slice pa n c) l (ksOf (l.take i)) (ksOf (rotL l t i))) (fun vi _ => n - (intOf vi).toNat)
    case atStart => exact ⟨0, rfl, Nat.zero_le _, N0.out⟩
    case round =>
      obtain ⟨i, rfl, hi, hN⟩ := hrel
      clear N0
      have N1 : Hid (NO w wr a b (.slice pa n c) l (ksOf (l.take i)) (ksOf (rotL l t i))) := hN
      clear hN
      rename World => wo
      by_cases hlt : i < n
      · have hil : i < l.length := by have := HLN.out; omega
        obtain ⟨ad, had⟩ := N1.out.R.at.2.2.2.ad (by rw [sv_length]; omega)
        subst had
        obtain ⟨j, hj, hjl, hjn⟩ : ∃ j, rotN l.length t i = j ∧ j < l.length ∧ j < n := ⟨_, rfl, Nat.mod_lt _ (by omega), by have := HLN.out; rw [← this]; exact Nat.mod_lt _ (by omega)⟩
        have HJ : Hid (rotN l.length t i = j) := hj
        clear hj
        have hrot : ((i : Int) + (t : Int)).tmod (n : Int) = (j : Int) := by rw [← HJ.out, ← HLN.out, ← Int.natCast_add]; rfl
        have HLA : Hid ((ksOf (l.take i)).length ≤ 1000) := insB_len20 (by simp; omega)
        have HLB : Hid ((ksOf (rotL l t i)).length ≤ 1000) := insB_len20 (by rw [rotL_len]; omega)
        have HSA : Hid (ksOf (l.take (i + 1)) = insB l[i] (ksOf (l.take i))) := ksOf_take l hil
        have HSB : Hid (ksOf (rotL l t (i + 1)) = insB l[j] (ksOf (rotL l t i))) := by
          show _ = _
          rw [rotL_succ, ksOf_snoc, HJ.out, List.getD_eq_getElem?_getD, List.getElem?_eq_getElem hjl]
          rfl
        have HRA : Hid (RisB (ksOf (l.take i))) := ksOf_rising _
        have HRB : Hid (RisB (ksOf (rotL l t i))) := ksOf_rising _
        have HXI : Hid (Rd wo (.slice (some ad) n c) (sv l)) := N1.out.R
        have y1 : wo.cell? (ad.add i) = some (.string l[i]) := HXI.out.at.2.2.2.str rfl hil
        have hxz : l[i].size ≤ 140737488351232 := HZ.out _ (List.getElem_mem hil)
        have h118 : ByteArray.size ⟨#[118]⟩ = 1 := rfl
        have HXZ : Hid (l[j].size ≤ 140737488351232) := HZ.out _ (List.getElem_mem hjl)
        have AXJ : Hid (∀ W, (binOp .add 9 (.string ⟨#[118]⟩) (.string l[j])).run Try.prog W = .ok (.string (vk l[j])) W) := fun W => add_vk l[j] (HZ.out _ (List.getElem_mem hjl)) W
        have HXJ : Hid (∀ W, Rd W (.slice (some ad) n c) (sv l) → W.cell? (ad.add j) = some (.string l[j])) := fun W h => h.at.2.2.2.str rfl hjl
        clear HXI
        generalize hxi : l[i] = xi at *
        generalize hxj : l[j] = xj at *
        clear hxi hxj
        generalize ksOf (l.take i) = A at *
        generalize ksOf (rotL l t i) = B at *
        obtain ⟨ka1, kn1, kc1, va1, vn1, vc1, da1, dn1, dc1, hb1, hp1⟩ := N1.out.A
        have HB1 : Hid (PBox wo a (leafM A) (.slice ka1 kn1 kc1) (.slice va1 vn1 vc1) (.slice da1 dn1 dc1)) := hb1
        have HP1 : Hid (PgAt wo (leafM A) (.slice ka1 kn1 kc1) (.slice va1 vn1 vc1) (.slice da1 dn1 dc1)) := hp1
        clear hb1 hp1
        obtain ⟨z0, z1, z2, z3, z4, z5, z6, z7⟩ := HB1.out.cells
        go_upto_region 11 with fail
        have HPT : Hid (Calls Try.prog 28 #[pgv (leafM A) (.slice ka1 kn1 kc1) (.slice va1 vn1 vc1) (.slice da1 dn1 dc1), .string xi, .string (vk xi)] wo _) := putL_any A xi (.slice ka1 kn1 kc1) (.slice va1 vn1 vc1) (.slice da1 dn1 dc1) wo HP1.out HRA.out HLA.out
        unfold pgv at HPT
        have F := HB1.out.frozen
        have g0 := F 0
        have g1 := F 1
        have g2 := F 2
        have g3 := F 3
        have g4 := F 4
        have g5 := F 5
        have g6 := F 6
        have g7 := F 7
        clear F
        go_wp2_with fail
        refine HPT.out.mono ?_
        rintro e wa ⟨ka2, kn2, kc2, va2, vn2, vc2, da2, dn2, dc2, rfl, hp2, y⟩
        clear z0 z1 z2 z3 z4 z5 z6 z7
        clear g0 g1 g2 g3 g4 g5 g6 g7 HPT hxz
        have NA : Hid (NO w wa a b (.slice (some ad) n c) l A B) := N1.out.below y
        have HBA : Hid (PBox wa a (leafM A) (.slice ka1 kn1 kc1) (.slice va1 vn1 vc1) (.slice da1 dn1 dc1)) := HB1.out.below y
        have N2 : Hid (NO w (put8L wa a (leafM (insB xi A)) (.slice ka2 kn2 kc2) (.slice va2 vn2 vc2) (.slice da2 dn2 dc2)) a b (.slice (some ad) n c) l (insB xi A) B) := NA.out.layA hp2
        clear HB1 HP1 N1 y hp2
        obtain ⟨z0, z1, z2, z3, z4, z5, z6, z7⟩ := HBA.out.cells
        have F := HBA.out.frozen
        have g0 := F 0
        have g1 := F 1
        have g2 := F 2
        have g3 := F 3
        have g4 := F 4
        have g5 := F 5
        have g6 := F 6
        have g7 := F 7
        clear F
        go_upto_region 12 with fail
        have hgo : ∀ (Q : World → Prop), Q (put8L wa a (leafM (insB xi A)) (.slice ka2 kn2 kc2) (.slice va2 vn2 vc2) (.slice da2 dn2 dc2)) → Q ((((((((wa.setCell ⟨a, 0, none⟩ (.int .i64 (leafM (insB xi A)).kind)).setCell ⟨a, 1, none⟩ (.slice ka2 kn2 kc2)).setCell ⟨a, 2, none⟩ (.slice va2 vn2 vc2)).setCell ⟨a, 3, none⟩ (.slice da2 dn2 dc2)).setCell ⟨a, 4, none⟩ (.int .i64 (leafM (insB xi A)).root)).setCell ⟨a, 5, none⟩ (.int .i64 (leafM (insB xi A)).next)).setCell ⟨a, 6, none⟩ (.int .i64 (leafM (insB xi A)).size)).setCell ⟨a, 7, none⟩ (.int .i64 (leafM (insB xi A)).idle)) := fun _ h => h
        refine hgo _ ?_
        clear hgo
        generalize put8L wa a (leafM (insB xi A)) (.slice ka2 kn2 kc2) (.slice va2 vn2 vc2) (.slice da2 dn2 dc2) = w4 at *
        clear NA HBA z0 z1 z2 z3 z4 z5 z6 z7 g0 g1 g2 g3 g4 g5 g6 g7
        obtain ⟨ka3, kn3, kc3, va3, vn3, vc3, da3, dn3, dc3, hb3, hp3⟩ := N2.out.B
        have HB3 : Hid (PBox w4 b (leafM B) (.slice ka3 kn3 kc3) (.slice va3 vn3 vc3) (.slice da3 dn3 dc3)) := hb3
        have HP3 : Hid (PgAt w4 (leafM B) (.slice ka3 kn3 kc3) (.slice va3 vn3 vc3) (.slice da3 dn3 dc3)) := hp3
        clear hb3 hp3
        have yj : w4.cell? (ad.add j) = some (.string xj) := HXJ.out w4 N2.out.R
        have HPT : Hid (Calls Try.prog 28 #[pgv (leafM B) (.slice ka3 kn3 kc3) (.slice va3 vn3 vc3) (.slice da3 dn3 dc3), .string xj, .string (vk xj)] w4.drew _) := putL_any B xj (.slice ka3 kn3 kc3) (.slice va3 vn3 vc3) (.slice da3 dn3 dc3) w4.drew (HP3.out.below (Below.drew (Below.refl _ _))) HRB.out HLB.out
        unfold pgv vk at HPT
        have hxz := HXZ.out
        obtain ⟨z0, z1, z2, z3, z4, z5, z6, z7⟩ := HB3.out.cells
        refine wp_region_last (Ext w4.drew) 11 (by kernel_rfl) (by kernel_rfl) ?_
        simp only [List.pop_toArray, List.dropLast_cons_cons, List.dropLast_singleton]
        haveI nA := cls_ext w4.drew
        have q0 := cellX (W0 := w4.drew) (show (w4.drew).cell? ⟨b, 0, none⟩ = some _ from z0)
        have q1 := cellX (W0 := w4.drew) (show (w4.drew).cell? ⟨b, 1, none⟩ = some _ from z1)
        have q2 := cellX (W0 := w4.drew) (show (w4.drew).cell? ⟨b, 2, none⟩ = some _ from z2)
        have q3 := cellX (W0 := w4.drew) (show (w4.drew).cell? ⟨b, 3, none⟩ = some _ from z3)
        have q4 := cellX (W0 := w4.drew) (show (w4.drew).cell? ⟨b, 4, none⟩ = some _ from z4)
        have q5 := cellX (W0 := w4.drew) (show (w4.drew).cell? ⟨b, 5, none⟩ = some _ from z5)
        have q6 := cellX (W0 := w4.drew) (show (w4.drew).cell? ⟨b, 6, none⟩ = some _ from z6)
        have q7 := cellX (W0 := w4.drew) (show (w4.drew).cell? ⟨b, 7, none⟩ = some _ from z7)
        have qj := cellX (W0 := w4.drew) (show w4.drew.cell? (ad.add j) = some _ from yj)
        refine wpAnyH_seg (by kernel_rfl) (fun _ _ _ h => h) [0, 1, 2, 3, 4, 5, 6, 7, 8, 9] 1 _ _ _ (Ext.refl _) (by kernel_rfl) ?_
        simp only [opsAt, List.getElem?_toArray, List.getElem?_cons_zero, List.getElem?_cons_succ, List.cons_append, List.nil_append]
        repeat (go_big_quiet_step (fail))
        refine wpQuiet_nil ?_
        clear nA qj
        clear q0 q1 q2 q3 q4 q5 q6 q7
        clear z0 z1 z2 z3 z4 z5 z6 z7
        have HPV := HPT
        clear HPT
        revert HPV
        generalize (⟨#[118]⟩ ++ xj : ByteArray) = vx
        intro HPV
        refine wpAnyH_callE (i := 10) (fuel := 0) 47 rfl (by kernel_rfl) rfl (Ext.refl _) (by kernel_rfl) (f := 28) (args := #[.agg #[.int .i64 (leafM B).kind, .slice ka3 kn3 kc3, .slice va3 vn3 vc3, .slice da3 dn3 dc3, .int .i64 (leafM B).root, .int .i64 (leafM B).next, .int .i64 (leafM B).size, .int .i64 (leafM B).idle], .string xj, .string vx]) (by kernel_rfl) HPV.out ?_
        rintro e wb ⟨ka4, kn4, kc4, va4, vn4, vc4, da4, dn4, dc4, rfl, hp4, y⟩
        refine ⟨_, rfl, y, ?_⟩
        simp only [Act.put, List.setIfInBounds_toArray, List.set_cons_succ, List.set_cons_zero]
        refine wpAnyH_done (by kernel_rfl) (exQ_normal ?_) 0
        have NB : Hid _ := N2.out.drew.below y
        have HBB : Hid (PBox wb b (leafM B) (.slice ka3 kn3 kc3) (.slice va3 vn3 vc3) (.slice da3 dn3 dc3)) := (show PBox w4.drew b (leafM B) (.slice ka3 kn3 kc3) (.slice va3 vn3 vc3) (.slice da3 dn3 dc3) from HB3.out).below y
        refine wpOp_storeN rfl (by kernel_rfl) 25 _ _ rfl rfl b 0 #[.int .i64 (leafM (insB xj B)).kind, .slice ka4 kn4 kc4, .slice va4 vn4 vc4, .slice da4 dn4 dc4, .int .i64 (leafM (insB xj B)).root, .int .i64 (leafM (insB xj B)).next, .int .i64 (leafM (insB xj B)).size, .int .i64 (leafM (insB xj B)).idle] rfl rfl (thereN 8 HBB.out (by simp [pgc])) (by kernel_rfl) (pgc_one _ _ _ _ _ _ _ _ _ _) ?_
        have hgo : ∀ (Q : World → Prop), Q (put8L wb b (leafM (insB xj B)) (.slice ka4 kn4 kc4) (.slice va4 vn4 vc4) (.slice da4 dn4 dc4)) → Q (wb.setCells b 0 [.int .i64 (leafM (insB xj B)).kind, .slice ka4 kn4 kc4, .slice va4 vn4 vc4, .slice da4 dn4 dc4, .int .i64 (leafM (insB xj B)).root, .int .i64 (leafM (insB xj B)).next, .int .i64 (leafM (insB xj B)).size, .int .i64 (leafM (insB xj B)).idle]) := fun _ h => h
        refine hgo _ ?_
        clear hgo
        have N5 : Hid (NO w (put8L wb b (leafM (insB xj B)) (.slice ka4 kn4 kc4) (.slice va4 vn4 vc4) (.slice da4 dn4 dc4)) a b (.slice (some ad) n c) l (insB xi A) (insB xj B)) := NB.out.layB hp4
        clear hp4 y HBB NB N2 HPV HB3 HP3 hxz h118 yj
        generalize put8L wb b (leafM (insB xj B)) (.slice ka4 kn4 kc4) (.slice va4 vn4 vc4) (.slice da4 dn4 dc4) = w6 at *
        go_wp2
        go_roundw
        case rel => exact ⟨i + 1, by go_num, by omega, by rw [HSA.out, HSB.out]; exact N5.out⟩
        case measure => simp [intOf]; omega
      · have hin : i = n := by omega
        have HIN : Hid (i = n) := hin
        have hLK : ksOf (l.take i) = ksOf l := by rw [List.take_of_length_le (by rw [HLN.out]; omega)]
        have hLR : ksOf (rotL l t i) = ksOf l := by rw [hin, ← HLN.out]; exact rot_same l t
        have N2 : Hid (NO w wo a b (.slice pa n c) l (ksOf l) (ksOf l)) := by have h := N1.out; rw [hLK, hLR] at h; exact h
        clear N1 hLK hLR
        have HLK : Hid ((ksOf l).length ≤ 1000) := insB_len20 (by have := HLN.out; omega)
        have HRK : Hid (RisB (ksOf l)) := ksOf_rising l
        obtain ⟨ka1, kn1, kc1, va1, vn1, vc1, da1, dn1, dc1, hb1, hp1⟩ := N2.out.A
        obtain ⟨ka3, kn3, kc3, va3, vn3, vc3, da3, dn3, dc3, hb3, hp3⟩ := N2.out.B
        have HB1 : Hid (PBox wo a (leafM (ksOf l)) (.slice ka1 kn1 kc1) (.slice va1 vn1 vc1) (.slice da1 dn1 dc1)) := hb1
        have HP1 : Hid (PgAt wo (leafM (ksOf l)) (.slice ka1 kn1 kc1) (.slice va1 vn1 vc1) (.slice da1 dn1 dc1)) := hp1
        have HB3 : Hid (PBox wo b (leafM (ksOf l)) (.slice ka3 kn3 kc3) (.slice va3 vn3 vc3) (.slice da3 dn3 dc3)) := hb3
        have HP3 : Hid (PgAt wo (leafM (ksOf l)) (.slice ka3 kn3 kc3) (.slice va3 vn3 vc3) (.slice da3 dn3 dc3)) := hp3
        clear hb1 hp1 hb3 hp3
        have HLF : Hid (∀ W, Below w.heap.size w W → Calls Try.prog 25 #[.slice pa n c] W fun e w' => ∃ kv vv dv, e = .returned (pgv (leafM (ksOf l)) kv vv dv) ∧ PgO w' W.heap.size (leafM (ksOf l)) kv vv dv ∧ Below W.heap.size W w') := fun W hb => leaf_any _ l _ (HR.out.below hb) (by have := HLN.out; omega) HZ.out
        have HSM : Hid (∀ W kv vv dv kv' vv' dv', PgAt W (leafM (ksOf l)) kv vv dv → PgAt W (leafM (ksOf l)) kv' vv' dv' → Calls Try.prog 22 #[pgv (leafM (ksOf l)) kv vv dv, pgv (leafM (ksOf l)) kv' vv' dv'] W fun e w' => e = .returned (.bool true) ∧ Below W.heap.size W w') := fun W _ _ _ _ _ _ h1 h2 => by have := psame_any (leafM (ksOf l)) (leafM (ksOf l)) _ _ _ _ _ _ W h1 h2; rw [(samePg_iff _ _).2 rfl] at this; exact this
        have HDN : Hid (delAll (ksOf l) (rotL l t l.length) = []) := delAll_none l t
        have HDA : Hid (∀ m, (delAll (ksOf l) (rotL l t m)).length ≤ 1000) := fun m => Nat.le_trans (delAll_le _ _) HLK.out
        have HDR : Hid (∀ m, RisB (delAll (ksOf l) (rotL l t m))) := fun m => delAll_ris _ _ HRK.out
        have HD0 : Hid (delAll (ksOf l) (rotL l t 0) = ksOf l) := rfl
        have HDS : Hid (∀ m, m < l.length → delAll (ksOf l) (rotL l t (m + 1)) = delB (l.getD (rotN l.length t m) .empty) (delAll (ksOf l) (rotL l t m))) := fun m _ => by rw [rotL_succ, delAll_snoc]
        have HRW : Hid (Rd wo (.slice pa n c) (sv l)) := N2.out.R
        clear hin HLK HRK
        generalize ksOf l = ks at *
        unfold pgv at HSM HLF
        go_upto_region 14 with fail
        clear hi hlt
        obtain ⟨z0, z1, z2, z3, z4, z5, z6, z7⟩ := HB1.out.cells
        obtain ⟨x0, x1, x2, x3, x4, x5, x6, x7⟩ := HB3.out.cells
        refine wp_region_ext (by kernel_rfl) ?_
        haveI nA := cls_ext wo.drew
        have q0 := cellX (W0 := wo.drew) (show (wo.drew).cell? ⟨a, 0, none⟩ = some _ from z0)
        have q1 := cellX (W0 := wo.drew) (show (wo.drew).cell? ⟨a, 1, none⟩ = some _ from z1)
        have q2 := cellX (W0 := wo.drew) (show (wo.drew).cell? ⟨a, 2, none⟩ = some _ from z2)
        have q3 := cellX (W0 := wo.drew) (show (wo.drew).cell? ⟨a, 3, none⟩ = some _ from z3)
        have q4 := cellX (W0 := wo.drew) (show (wo.drew).cell? ⟨a, 4, none⟩ = some _ from z4)
        have q5 := cellX (W0 := wo.drew) (show (wo.drew).cell? ⟨a, 5, none⟩ = some _ from z5)
        have q6 := cellX (W0 := wo.drew) (show (wo.drew).cell? ⟨a, 6, none⟩ = some _ from z6)
        have q7 := cellX (W0 := wo.drew) (show (wo.drew).cell? ⟨a, 7, none⟩ = some _ from z7)
        have p0 := cellX (W0 := wo.drew) (show (wo.drew).cell? ⟨b, 0, none⟩ = some _ from x0)
        have p1 := cellX (W0 := wo.drew) (show (wo.drew).cell? ⟨b, 1, none⟩ = some _ from x1)
        have p2 := cellX (W0 := wo.drew) (show (wo.drew).cell? ⟨b, 2, none⟩ = some _ from x2)
        have p3 := cellX (W0 := wo.drew) (show (wo.drew).cell? ⟨b, 3, none⟩ = some _ from x3)
        have p4 := cellX (W0 := wo.drew) (show (wo.drew).cell? ⟨b, 4, none⟩ = some _ from x4)
        have p5 := cellX (W0 := wo.drew) (show (wo.drew).cell? ⟨b, 5, none⟩ = some _ from x5)
        have p6 := cellX (W0 := wo.drew) (show (wo.drew).cell? ⟨b, 6, none⟩ = some _ from x6)
        have p7 := cellX (W0 := wo.drew) (show (wo.drew).cell? ⟨b, 7, none⟩ = some _ from x7)
        refine wpAnyH_seg (by kernel_rfl) (fun _ _ _ h => h) [0, 1] 9 _ _ _ (Ext.refl _) (by kernel_rfl) ?_
        simp only [opsAt, List.getElem?_toArray, List.getElem?_cons_zero, List.getElem?_cons_succ, List.cons_append, List.nil_append]
        repeat (go_big_quiet_step (fail))
        refine wpQuiet_nil ?_
        clear nA
        clear z0 z1 z2 z3 z4 z5 z6 z7
        clear q0 q1 q2 q3 q4 q5 q6 q7
        clear x0 x1 x2 x3 x4 x5 x6 x7 p0 p1 p2 p3 p4 p5 p6 p7
        refine wpAnyH_callE (i := 2) (fuel := 8) 51 rfl (by kernel_rfl) rfl (Ext.refl _) (by kernel_rfl) (f := 22) (args := #[.agg #[.int .i64 (leafM ks).kind, .slice ka1 kn1 kc1, .slice va1 vn1 vc1, .slice da1 dn1 dc1, .int .i64 (leafM ks).root, .int .i64 (leafM ks).next, .int .i64 (leafM ks).size, .int .i64 (leafM ks).idle], .agg #[.int .i64 (leafM ks).kind, .slice ka3 kn3 kc3, .slice va3 vn3 vc3, .slice da3 dn3 dc3, .int .i64 (leafM ks).root, .int .i64 (leafM ks).next, .int .i64 (leafM ks).size, .int .i64 (leafM ks).idle]]) (by kernel_rfl) (HSM.out wo.drew _ _ _ _ _ _ (HP1.out.below (Below.drew (Below.refl _ _))) (HP3.out.below (Below.drew (Below.refl _ _)))) ?_
        rintro e wa ⟨rfl, y⟩
        refine ⟨_, rfl, y, ?_⟩
        have BA : Hid (Below wo.heap.size wo wa) := ext_trans (Below.drew (Below.refl _ _)) y
        have HBa : Hid (PBox wa a (leafM ks) (.slice ka1 kn1 kc1) (.slice va1 vn1 vc1) (.slice da1 dn1 dc1)) := HB1.out.below BA.out
        clear y
        simp only [Act.put, List.setIfInBounds_toArray, List.set_cons_succ, List.set_cons_zero]
        obtain ⟨z0, z1, z2, z3, z4, z5, z6, z7⟩ := HBa.out.cells
        haveI nA := cls_ext wa
        have q0 := cellX (W0 := wa) (show (wa).cell? ⟨a, 0, none⟩ = some _ from z0)
        have q1 := cellX (W0 := wa) (show (wa).cell? ⟨a, 1, none⟩ = some _ from z1)
        have q2 := cellX (W0 := wa) (show (wa).cell? ⟨a, 2, none⟩ = some _ from z2)
        have q3 := cellX (W0 := wa) (show (wa).cell? ⟨a, 3, none⟩ = some _ from z3)
        have q4 := cellX (W0 := wa) (show (wa).cell? ⟨a, 4, none⟩ = some _ from z4)
        have q5 := cellX (W0 := wa) (show (wa).cell? ⟨a, 5, none⟩ = some _ from z5)
        have q6 := cellX (W0 := wa) (show (wa).cell? ⟨a, 6, none⟩ = some _ from z6)
        have q7 := cellX (W0 := wa) (show (wa).cell? ⟨a, 7, none⟩ = some _ from z7)
        refine wpAnyH_seg (by kernel_rfl) (fun _ _ _ h => h) [3, 4, 5, 6] 4 _ _ _ (Ext.refl _) (by kernel_rfl) ?_
        simp only [opsAt, List.getElem?_toArray, List.getElem?_cons_zero, List.getElem?_cons_succ, List.cons_append, List.nil_append]
        repeat (go_big_quiet_step (fail))
        refine wpQuiet_nil ?_
        clear nA
        clear z0 z1 z2 z3 z4 z5 z6 z7
        clear q0 q1 q2 q3 q4 q5 q6 q7
        refine wpAnyH_callE (i := 7) (fuel := 3) 56 rfl (by kernel_rfl) rfl (Ext.refl _) (by kernel_rfl) (f := 25) (args := #[.slice pa n c]) (by kernel_rfl) (HLF.out wa (ext_trans N2.out.Y BA.out)) ?_
        rintro e wb ⟨k5, v5, d5, rfl, ho, y⟩
        refine ⟨_, rfl, y, ?_⟩
        have hpp := ho.at
        clear ho
        obtain ⟨kn5, ka5, kc5, e1⟩ := hpp.keys.any
        obtain ⟨vn5, va5, vc5, e2⟩ := hpp.vals.any
        obtain ⟨dn5, da5, dc5, e3⟩ := hpp.kids.any
        subst e1 e2 e3
        have BB : Hid (Below wo.heap.size wo wb) := ext_trans BA.out y
        clear y BA HBa
        simp only [Act.put, List.setIfInBounds_toArray, List.set_cons_succ, List.set_cons_zero]
        refine wpAnyH_callE (i := 8) (fuel := 2) 57 rfl (by kernel_rfl) rfl (Ext.refl _) (by kernel_rfl) (f := 22) (args := #[.agg #[.int .i64 (leafM ks).kind, .slice ka1 kn1 kc1, .slice va1 vn1 vc1, .slice da1 dn1 dc1, .int .i64 (leafM ks).root, .int .i64 (leafM ks).next, .int .i64 (leafM ks).size, .int .i64 (leafM ks).idle], .agg #[.int .i64 (leafM ks).kind, .slice ka5 kn5 kc5, .slice va5 vn5 vc5, .slice da5 dn5 dc5, .int .i64 (leafM ks).root, .int .i64 (leafM ks).next, .int .i64 (leafM ks).size, .int .i64 (leafM ks).idle]]) (by kernel_rfl) (HSM.out wb _ _ _ _ _ _ (HP1.out.below BB.out) hpp) ?_
        rintro e wc ⟨rfl, y⟩
        refine ⟨_, rfl, y, ?_⟩
        have BC : Hid (Below wo.heap.size wo wc) := ext_trans BB.out y
        clear y BB hpp
        simp only [Act.put, List.setIfInBounds_toArray, List.set_cons_succ, List.set_cons_zero]
        haveI nA := cls_ext wc
        refine wpAnyH_seg (by kernel_rfl) (fun _ _ _ h => h) [9, 10] 0 _ _ _ (Ext.refl _) (by kernel_rfl) ?_
        simp only [opsAt, List.getElem?_toArray, List.getElem?_cons_zero, List.getElem?_cons_succ, List.cons_append, List.nil_append]
        repeat (go_big_quiet_step (fail))
        refine wpQuiet_nil ?_
        refine wpAnyH_done (by kernel_rfl) (NoPanic.normal ?_) 0
        clear nA
        have N3 : Hid (NO w wc a b (.slice pa n c) l (delAll ks (rotL l t 0)) ks) := by have := N2.out.below BC.out; rw [HD0.out]; exact this
        clear N2 BC HB1 HB3 HP1 HP3 HSM HLF HD0 HRW HIN
        go_wp2
        go_loopw [62] (fun vi wr => ∃ i : Nat, vi = .int .i64 (i : Int) ∧ i ≤ n ∧ NO w wr a b (.slice pa n c) l (delAll ks (rotL l t i)) ks) (fun vi _ => n - (intOf vi).toNat)
        case atStart => exact ⟨0, rfl, Nat.zero_le _, N3.out⟩
        case round =>
          obtain ⟨i, rfl, hi, hN⟩ := hrel
          clear N3
          have N1 : Hid (NO w wr a b (.slice pa n c) l (delAll ks (rotL l t i)) ks) := hN
          clear hN
          rename World => wo
          obtain ⟨ka3, kn3, kc3, va3, vn3, vc3, da3, dn3, dc3, hb3, hp3⟩ := N1.out.A
          have HB3 : Hid (PBox wo a (leafM (delAll ks (rotL l t i))) (.slice ka3 kn3 kc3) (.slice va3 vn3 vc3) (.slice da3 dn3 dc3)) := hb3
          have HP3 : Hid (PgAt wo (leafM (delAll ks (rotL l t i))) (.slice ka3 kn3 kc3) (.slice va3 vn3 vc3) (.slice da3 dn3 dc3)) := hp3
          clear hb3 hp3
          by_cases hlt : i < n
          · have hil : i < l.length := by have := HLN.out; omega
            obtain ⟨ad, had⟩ := N1.out.R.at.2.2.2.ad (by rw [sv_length]; omega)
            subst had
            obtain ⟨j, hj, hjl, hjn⟩ : ∃ j, rotN l.length t i = j ∧ j < l.length ∧ j < n := ⟨_, rfl, Nat.mod_lt _ (by omega), by have := HLN.out; rw [← this]; exact Nat.mod_lt _ (by omega)⟩
            have hrot : ((i : Int) + (t : Int)).tmod (n : Int) = (j : Int) := by rw [← hj, ← HLN.out, ← Int.natCast_add]; rfl
            have HSB : Hid (delAll ks (rotL l t (i + 1)) = delB l[j] (delAll ks (rotL l t i))) := by
              show _ = _
              rw [HDS.out i hil, hj, List.getD_eq_getElem?_getD, List.getElem?_eq_getElem hjl]
              rfl
            clear hj
            have yj : wo.cell? (ad.add j) = some (.string l[j]) := N1.out.R.at.2.2.2.str rfl hjl
            have HLA : Hid ((delAll ks (rotL l t i)).length ≤ 1000) := HDA.out i
            have HRA : Hid (RisB (delAll ks (rotL l t i))) := HDR.out i
            generalize l[j] = xj at *
            generalize delAll ks (rotL l t i) = A at *
            have HPT : Hid (Calls Try.prog 29 #[pgv (leafM A) (.slice ka3 kn3 kc3) (.slice va3 vn3 vc3) (.slice da3 dn3 dc3), .string xj] wo.drew _) := dropL_any A xj (.slice ka3 kn3 kc3) (.slice va3 vn3 vc3) (.slice da3 dn3 dc3) wo.drew (HP3.out.below (Below.drew (Below.refl _ _))) HRA.out HLA.out
            unfold pgv at HPT
            go_upto_region 19 with fail
            obtain ⟨z0, z1, z2, z3, z4, z5, z6, z7⟩ := HB3.out.cells
            refine wp_region_last (Ext wo.drew) 12 (by kernel_rfl) (by kernel_rfl) ?_
            simp only [List.pop_toArray, List.dropLast_cons_cons, List.dropLast_singleton]
            haveI nA := cls_ext wo.drew
            have q0 := cellX (W0 := wo.drew) (show (wo.drew).cell? ⟨a, 0, none⟩ = some _ from z0)
            have q1 := cellX (W0 := wo.drew) (show (wo.drew).cell? ⟨a, 1, none⟩ = some _ from z1)
            have q2 := cellX (W0 := wo.drew) (show (wo.drew).cell? ⟨a, 2, none⟩ = some _ from z2)
            have q3 := cellX (W0 := wo.drew) (show (wo.drew).cell? ⟨a, 3, none⟩ = some _ from z3)
            have q4 := cellX (W0 := wo.drew) (show (wo.drew).cell? ⟨a, 4, none⟩ = some _ from z4)
            have q5 := cellX (W0 := wo.drew) (show (wo.drew).cell? ⟨a, 5, none⟩ = some _ from z5)
            have q6 := cellX (W0 := wo.drew) (show (wo.drew).cell? ⟨a, 6, none⟩ = some _ from z6)
            have q7 := cellX (W0 := wo.drew) (show (wo.drew).cell? ⟨a, 7, none⟩ = some _ from z7)
            have qj := cellX (W0 := wo.drew) (show wo.drew.cell? (ad.add j) = some _ from yj)
            refine wpAnyH_seg (by kernel_rfl) (fun _ _ _ h => h) [0, 1, 2, 3, 4, 5, 6, 7, 8, 9, 10] 1 _ _ _ (Ext.refl _) (by kernel_rfl) ?_
            simp only [opsAt, List.getElem?_toArray, List.getElem?_cons_zero, List.getElem?_cons_succ, List.cons_append, List.nil_append]
            repeat (go_big_quiet_step (fail))
            refine wpQuiet_nil ?_
            clear nA qj
            clear q0 q1 q2 q3 q4 q5 q6 q7
            clear z0 z1 z2 z3 z4 z5 z6 z7
            refine wpAnyH_callE (i := 11) (fuel := 0) 76 rfl (by kernel_rfl) rfl (Ext.refl _) (by kernel_rfl) (f := 29) (args := #[.agg #[.int .i64 (leafM A).kind, .slice ka3 kn3 kc3, .slice va3 vn3 vc3, .slice da3 dn3 dc3, .int .i64 (leafM A).root, .int .i64 (leafM A).next, .int .i64 (leafM A).size, .int .i64 (leafM A).idle], .string xj]) (by kernel_rfl) HPT.out ?_
            rintro e wb ⟨ka4, kn4, kc4, va4, vn4, vc4, da4, dn4, dc4, rfl, hp4, y⟩
            refine ⟨_, rfl, y, ?_⟩
            simp only [Act.put, List.setIfInBounds_toArray, List.set_cons_succ, List.set_cons_zero]
            refine wpAnyH_done (by kernel_rfl) (exQ_normal ?_) 0
            have NB : Hid _ := N1.out.drew.below y
            have HBB : Hid (PBox wb a (leafM A) (.slice ka3 kn3 kc3) (.slice va3 vn3 vc3) (.slice da3 dn3 dc3)) := (show PBox wo.drew a (leafM A) (.slice ka3 kn3 kc3) (.slice va3 vn3 vc3) (.slice da3 dn3 dc3) from HB3.out).below y
            refine wpOp_storeN rfl (by kernel_rfl) 25 _ _ rfl rfl a 0 #[.int .i64 (leafM (delB xj A)).kind, .slice ka4 kn4 kc4, .slice va4 vn4 vc4, .slice da4 dn4 dc4, .int .i64 (leafM (delB xj A)).root, .int .i64 (leafM (delB xj A)).next, .int .i64 (leafM (delB xj A)).size, .int .i64 (leafM (delB xj A)).idle] rfl rfl (thereN 8 HBB.out (by simp [pgc])) (by kernel_rfl) (pgc_one _ _ _ _ _ _ _ _ _ _) ?_
            have hgo : ∀ (Q : World → Prop), Q (put8L wb a (leafM (delB xj A)) (.slice ka4 kn4 kc4) (.slice va4 vn4 vc4) (.slice da4 dn4 dc4)) → Q (wb.setCells a 0 [.int .i64 (leafM (delB xj A)).kind, .slice ka4 kn4 kc4, .slice va4 vn4 vc4, .slice da4 dn4 dc4, .int .i64 (leafM (delB xj A)).root, .int .i64 (leafM (delB xj A)).next, .int .i64 (leafM (delB xj A)).size, .int .i64 (leafM (delB xj A)).idle]) := fun _ h => h
            refine hgo _ ?_
            clear hgo
            have N5 : Hid (NO w (put8L wb a (leafM (delB xj A)) (.slice ka4 kn4 kc4) (.slice va4 vn4 vc4) (.slice da4 dn4 dc4)) a b (.slice (some ad) n c) l (delB xj A) ks) := NB.out.layA hp4
            clear hp4 y HBB NB N1 HPT HB3 HP3 yj
            generalize put8L wb a (leafM (delB xj A)) (.slice ka4 kn4 kc4) (.slice va4 vn4 vc4) (.slice da4 dn4 dc4) = w6 at *
            go_wp2
            go_roundw
            case rel => exact ⟨i + 1, by go_num, by omega, by rw [HSB.out]; exact N5.out⟩
            case measure => simp [intOf]; omega
          · have hin : i = n := by omega
            have hD : delAll ks (rotL l t i) = [] := by rw [hin, ← HLN.out]; exact HDN.out
            rw [hD] at HB3 HP3
            obtain ⟨e1, e2, _⟩ := PIn.len HP3.out
            have e1' : kn3 = 0 := e1
            have e2' : vn3 = 0 := e2
            subst e1' e2'
            have YE : Hid (Below w.heap.size w wo) := N1.out.Y
            clear hin hD e1 e2 N1 HP3
            obtain ⟨z0, z1, z2, z3, z4, z5, z6, z7⟩ := HB3.out.cells
            clear HB3
            go_wp2
            go_ret
            exact ⟨ret_bool (by simp), YE.out⟩
end Go.Proofs.Ytmjekecalghhdaa
