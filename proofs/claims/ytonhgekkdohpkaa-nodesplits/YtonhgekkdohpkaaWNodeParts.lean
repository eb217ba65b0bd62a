/- NodeParts: the walk of the law's Go text. -/
import Derived.Test.YtonhgekkdohpkaaNdQ
set_option linter.unusedSimpArgs false
set_option linter.unusedVariables false
namespace Go.Proofs.Ytonhgekkdohpkaa
open Go.ChangeShapes Go.WideShapes Go.ChangeAt Go.RowKit

theorem leafM_len (ks : List ByteArray) : (leafM ks).keys.length = ks.length ∧ (leafM ks).vals.length = ks.length ∧ (leafM ks).kids.length = 0 := by simp [leafM]

set_option maxRecDepth 100000 in
set_option maxHeartbeats 3000000 in
theorem walk_NodeParts_leaf (pa : Option Addr) (n c : Nat) (l : List ByteArray) (k : ByteArray) (w : World) (hps : IsStrs w pa n c l) (hsz : ∀ k ∈ l, k.size ≤ 140737488351232) :
    Calls Try.prog 14 #[.slice pa n c, .bool false, .string k] w fun e w' => e = .returned (.bool true) ∧ Below w.heap.size w w' := by
  have HR : Hid (Rd w (.slice pa n c) (sv l)) := isStrs_rd hps
  have HLN : Hid (l.length = n) := hps.1
  have hnm : n ≤ 9223372036854775807 := Nat.le_trans hps.2.1 hps.2.2.1
  have HZ : Hid (∀ k ∈ l, k.size ≤ 140737488351232) := hsz
  clear hps hsz
  go_enter Try.func14, Try.ntmps14
  go_wp2_with fail
  refine (head7_any _).mono ?_
  rintro e w1 ⟨rfl, y⟩
  have Y1 : Hid (Below w.heap.size w w1) := y
  clear y
  by_cases h20 : 20 < n
  · go_wp2_with fail
    go_ret
    exact ⟨ret_bool rfl, Y1.out⟩
  · go_wp2_with fail
    refine (leaf_any _ l _ (HR.out.below Y1.out) (by have := HLN.out; omega) HZ.out).mono ?_
    rintro e w2 ⟨kv, vv, dv, rfl, ho, y⟩
    obtain ⟨kn, ka, kc, e1⟩ := ho.keys.rd.any
    obtain ⟨vn, va, vc, e2⟩ := ho.vals.rd.any
    obtain ⟨dn, da, dc, e3⟩ := ho.kids.rd.any
    subst e1 e2 e3
    have hkn : (leafM (ksOf l)).keys.length = kn := by have := ho.keys.rd.at.1; rw [sv_length] at this; exact this.symm
    have HKN : Hid ((ksOf l).length = kn) := hkn
    have hk20 : kn ≤ 20 := by have h1 := ksOf_length l; have h2 := HLN.out; have h3 := HKN.out; omega
    have HRI : Hid (RisB (ksOf l)) := ksOf_rising l
    have Y2 : Hid (Below w.heap.size w w2) := ext_trans Y1.out y
    have P2 : Hid (PgAt w2 (leafM (ksOf l)) (.slice ka kn kc) (.slice va vn vc) (.slice da dn dc)) := ho.at
    clear ho y hkn Y1
    generalize ksOf l = ks at *
    have HL := leafM_len ks
    have HLL : Hid _ := HL
    clear HL
    unfold pgv
    by_cases hk2 : kn < 2
    · have HA : Hid (∀ o, Below w.heap.size w (w2.alloc o)) := fun o => Y2.out.alloc Y2.out.size _
      clear P2 HRI
      unfold leafM
      go_wp2_with fail
      go_ret
      exact ⟨ret_bool rfl, HA.out _⟩
    · have B3 : Hid (PBox (w2.alloc (.cells #[.int .i64 (leafM ks).kind, .slice ka kn kc, .slice va vn vc, .slice da dn dc, .int .i64 (leafM ks).root, .int .i64 (leafM ks).next, .int .i64 (leafM ks).size, .int .i64 (leafM ks).idle] 25)) w2.heap.size (leafM ks) (.slice ka kn kc) (.slice va vn vc) (.slice da dn dc)) := Blk.new _ _ _
      have P3 : Hid (PgAt (w2.alloc (.cells #[.int .i64 (leafM ks).kind, .slice ka kn kc, .slice va vn vc, .slice da dn dc, .int .i64 (leafM ks).root, .int .i64 (leafM ks).next, .int .i64 (leafM ks).size, .int .i64 (leafM ks).idle] 25)) (leafM ks) (.slice ka kn kc) (.slice va vn vc) (.slice da dn dc)) := P2.out.below ((Below.refl _ _).alloc (Nat.le_refl _) _)
      have Y3 : Hid (Below w.heap.size w (w2.alloc (.cells #[.int .i64 (leafM ks).kind, .slice ka kn kc, .slice va vn vc, .slice da dn dc, .int .i64 (leafM ks).root, .int .i64 (leafM ks).next, .int .i64 (leafM ks).size, .int .i64 (leafM ks).idle] 25))) := Y2.out.alloc Y2.out.size _
      go_upto_region 10 with fail
      generalize w2.alloc (.cells #[.int .i64 (leafM ks).kind, .slice ka kn kc, .slice va vn vc, .slice da dn dc, .int .i64 (leafM ks).root, .int .i64 (leafM ks).next, .int .i64 (leafM ks).size, .int .i64 (leafM ks).idle] 25) = w3 at *
      obtain ⟨b7, hb7⟩ : ∃ b, w2.heap.size = b := ⟨_, rfl⟩
      rw [hb7] at B3 ⊢
      clear hb7 P2 Y2
      have HSP : Hid (Calls Try.prog 33 #[pgv (leafM ks) (.slice ka kn kc) (.slice va vn vc) (.slice da dn dc)] w3 (SplitPost (leafA (leafM ks)) (leafB (leafM ks)) ks (ks.length / 2) w3)) := by
        have h := splitL_any (leafM ks) _ _ _ w3 P3.out rfl (by have := HKN.out; have := HLL.out; omega) (by have := HLL.out; omega) (by have := HKN.out; have := HLL.out; omega) (by have := HKN.out; have := HLL.out; omega) (by have := HLL.out; omega)
        exact h
      unfold pgv at HSP
      obtain ⟨z0, z1, z2, z3, z4, z5, z6, z7⟩ := B3.out.cells
      go_wp2_with fail
      refine HSP.out.mono ?_
      rintro e w4 ⟨k1, v1, d1, s, k2, v2, d2, rfl, hs, hp1, hp2, _, _, y⟩
      obtain ⟨n1, ka1, kc1, e1⟩ := hp1.keys.any
      obtain ⟨m1, va1, vc1, e2⟩ := hp1.vals.any
      obtain ⟨l1, da1, dc1, e3⟩ := hp1.kids.any
      obtain ⟨n2, ka2, kc2, e4⟩ := hp2.keys.any
      obtain ⟨m2, va2, vc2, e5⟩ := hp2.vals.any
      obtain ⟨l2, da2, dc2, e6⟩ := hp2.kids.any
      subst e1 e2 e3 e4 e5 e6
      clear z0 z1 z2 z3 z4 z5 z6 z7 HSP
      have HS : Hid (ks[ks.length / 2]? = some s) := hs
      have B4 : Hid (PBox w4 b7 (leafM ks) (.slice ka kn kc) (.slice va vn vc) (.slice da dn dc)) := B3.out.below y
      have P4 : Hid (PgAt w4 (leafM ks) (.slice ka kn kc) (.slice va vn vc) (.slice da dn dc)) := P3.out.below y
      have Y4 : Hid (Below w.heap.size w w4) := ext_trans Y3.out y
      have Q1 : Hid (PgAt w4 (leafA (leafM ks)) (.slice ka1 n1 kc1) (.slice va1 m1 vc1) (.slice da1 l1 dc1)) := hp1
      have Q2 : Hid (PgAt w4 (leafB (leafM ks)) (.slice ka2 n2 kc2) (.slice va2 m2 vc2) (.slice da2 l2 dc2)) := hp2
      clear hs hp1 hp2 y B3 P3 Y3
      unfold pgv
      cases hks : ltK k s with
      | true =>
        have hks' : Op.bytesLess k.toList s.toList = true := hks
        have HKS : Hid (ltK k s = true) := hks
        clear hks
        go_upto_region 18 with fail
        have hbe : Below w4.heap.size w4 (((w4.alloc (.cells #[.int .i64 (leafA (leafM ks)).kind, .slice ka1 n1 kc1, .slice va1 m1 vc1, .slice da1 l1 dc1, .int .i64 (leafA (leafM ks)).root, .int .i64 (leafA (leafM ks)).next, .int .i64 (leafA (leafM ks)).size, .int .i64 (leafA (leafM ks)).idle] 25)).alloc (.cells #[.int .i64 (leafB (leafM ks)).kind, .slice ka2 n2 kc2, .slice va2 m2 vc2, .slice da2 l2 dc2, .int .i64 (leafB (leafM ks)).root, .int .i64 (leafB (leafM ks)).next, .int .i64 (leafB (leafM ks)).size, .int .i64 (leafB (leafM ks)).idle] 25)).alloc (.cells #[.int .i64 (leafA (leafM ks)).kind, .slice ka1 n1 kc1, .slice va1 m1 vc1, .slice da1 l1 dc1, .int .i64 (leafA (leafM ks)).root, .int .i64 (leafA (leafM ks)).next, .int .i64 (leafA (leafM ks)).size, .int .i64 (leafA (leafM ks)).idle] 25)) := (((Below.refl _ _).alloc (Nat.le_refl _) _).alloc (by simp) _).alloc (by simp; omega) _
        have B5 : Hid (PBox (((w4.alloc (.cells #[.int .i64 (leafA (leafM ks)).kind, .slice ka1 n1 kc1, .slice va1 m1 vc1, .slice da1 l1 dc1, .int .i64 (leafA (leafM ks)).root, .int .i64 (leafA (leafM ks)).next, .int .i64 (leafA (leafM ks)).size, .int .i64 (leafA (leafM ks)).idle] 25)).alloc (.cells #[.int .i64 (leafB (leafM ks)).kind, .slice ka2 n2 kc2, .slice va2 m2 vc2, .slice da2 l2 dc2, .int .i64 (leafB (leafM ks)).root, .int .i64 (leafB (leafM ks)).next, .int .i64 (leafB (leafM ks)).size, .int .i64 (leafB (leafM ks)).idle] 25)).alloc (.cells #[.int .i64 (leafA (leafM ks)).kind, .slice ka1 n1 kc1, .slice va1 m1 vc1, .slice da1 l1 dc1, .int .i64 (leafA (leafM ks)).root, .int .i64 (leafA (leafM ks)).next, .int .i64 (leafA (leafM ks)).size, .int .i64 (leafA (leafM ks)).idle] 25)) b7 (leafM ks) (.slice ka kn kc) (.slice va vn vc) (.slice da dn dc)) := B4.out.below hbe
        have P5 : Hid (PgAt (((w4.alloc (.cells #[.int .i64 (leafA (leafM ks)).kind, .slice ka1 n1 kc1, .slice va1 m1 vc1, .slice da1 l1 dc1, .int .i64 (leafA (leafM ks)).root, .int .i64 (leafA (leafM ks)).next, .int .i64 (leafA (leafM ks)).size, .int .i64 (leafA (leafM ks)).idle] 25)).alloc (.cells #[.int .i64 (leafB (leafM ks)).kind, .slice ka2 n2 kc2, .slice va2 m2 vc2, .slice da2 l2 dc2, .int .i64 (leafB (leafM ks)).root, .int .i64 (leafB (leafM ks)).next, .int .i64 (leafB (leafM ks)).size, .int .i64 (leafB (leafM ks)).idle] 25)).alloc (.cells #[.int .i64 (leafA (leafM ks)).kind, .slice ka1 n1 kc1, .slice va1 m1 vc1, .slice da1 l1 dc1, .int .i64 (leafA (leafM ks)).root, .int .i64 (leafA (leafM ks)).next, .int .i64 (leafA (leafM ks)).size, .int .i64 (leafA (leafM ks)).idle] 25)) (leafM ks) (.slice ka kn kc) (.slice va vn vc) (.slice da dn dc)) := P4.out.below hbe
        have Q5 : Hid (PgAt (((w4.alloc (.cells #[.int .i64 (leafA (leafM ks)).kind, .slice ka1 n1 kc1, .slice va1 m1 vc1, .slice da1 l1 dc1, .int .i64 (leafA (leafM ks)).root, .int .i64 (leafA (leafM ks)).next, .int .i64 (leafA (leafM ks)).size, .int .i64 (leafA (leafM ks)).idle] 25)).alloc (.cells #[.int .i64 (leafB (leafM ks)).kind, .slice ka2 n2 kc2, .slice va2 m2 vc2, .slice da2 l2 dc2, .int .i64 (leafB (leafM ks)).root, .int .i64 (leafB (leafM ks)).next, .int .i64 (leafB (leafM ks)).size, .int .i64 (leafB (leafM ks)).idle] 25)).alloc (.cells #[.int .i64 (leafA (leafM ks)).kind, .slice ka1 n1 kc1, .slice va1 m1 vc1, .slice da1 l1 dc1, .int .i64 (leafA (leafM ks)).root, .int .i64 (leafA (leafM ks)).next, .int .i64 (leafA (leafM ks)).size, .int .i64 (leafA (leafM ks)).idle] 25)) (leafA (leafM ks)) (.slice ka1 n1 kc1) (.slice va1 m1 vc1) (.slice da1 l1 dc1)) := Q1.out.below hbe
        have Y5 : Hid (Below w.heap.size w (((w4.alloc (.cells #[.int .i64 (leafA (leafM ks)).kind, .slice ka1 n1 kc1, .slice va1 m1 vc1, .slice da1 l1 dc1, .int .i64 (leafA (leafM ks)).root, .int .i64 (leafA (leafM ks)).next, .int .i64 (leafA (leafM ks)).size, .int .i64 (leafA (leafM ks)).idle] 25)).alloc (.cells #[.int .i64 (leafB (leafM ks)).kind, .slice ka2 n2 kc2, .slice va2 m2 vc2, .slice da2 l2 dc2, .int .i64 (leafB (leafM ks)).root, .int .i64 (leafB (leafM ks)).next, .int .i64 (leafB (leafM ks)).size, .int .i64 (leafB (leafM ks)).idle] 25)).alloc (.cells #[.int .i64 (leafA (leafM ks)).kind, .slice ka1 n1 kc1, .slice va1 m1 vc1, .slice da1 l1 dc1, .int .i64 (leafA (leafM ks)).root, .int .i64 (leafA (leafM ks)).next, .int .i64 (leafA (leafM ks)).size, .int .i64 (leafA (leafM ks)).idle] 25))) := ext_trans Y4.out hbe
        have B11 : Hid (PBox (((w4.alloc (.cells #[.int .i64 (leafA (leafM ks)).kind, .slice ka1 n1 kc1, .slice va1 m1 vc1, .slice da1 l1 dc1, .int .i64 (leafA (leafM ks)).root, .int .i64 (leafA (leafM ks)).next, .int .i64 (leafA (leafM ks)).size, .int .i64 (leafA (leafM ks)).idle] 25)).alloc (.cells #[.int .i64 (leafB (leafM ks)).kind, .slice ka2 n2 kc2, .slice va2 m2 vc2, .slice da2 l2 dc2, .int .i64 (leafB (leafM ks)).root, .int .i64 (leafB (leafM ks)).next, .int .i64 (leafB (leafM ks)).size, .int .i64 (leafB (leafM ks)).idle] 25)).alloc (.cells #[.int .i64 (leafA (leafM ks)).kind, .slice ka1 n1 kc1, .slice va1 m1 vc1, .slice da1 l1 dc1, .int .i64 (leafA (leafM ks)).root, .int .i64 (leafA (leafM ks)).next, .int .i64 (leafA (leafM ks)).size, .int .i64 (leafA (leafM ks)).idle] 25)) (w4.heap.size + 1 + 1) (leafA (leafM ks)) (.slice ka1 n1 kc1) (.slice va1 m1 vc1) (.slice da1 l1 dc1)) := by
          have := Blk.new ((w4.alloc (.cells #[.int .i64 (leafA (leafM ks)).kind, .slice ka1 n1 kc1, .slice va1 m1 vc1, .slice da1 l1 dc1, .int .i64 (leafA (leafM ks)).root, .int .i64 (leafA (leafM ks)).next, .int .i64 (leafA (leafM ks)).size, .int .i64 (leafA (leafM ks)).idle] 25)).alloc (.cells #[.int .i64 (leafB (leafM ks)).kind, .slice ka2 n2 kc2, .slice va2 m2 vc2, .slice da2 l2 dc2, .int .i64 (leafB (leafM ks)).root, .int .i64 (leafB (leafM ks)).next, .int .i64 (leafB (leafM ks)).size, .int .i64 (leafB (leafM ks)).idle] 25)) (pgc (leafA (leafM ks)) (.slice ka1 n1 kc1) (.slice va1 m1 vc1) (.slice da1 l1 dc1)) 25
          rw [show ((w4.alloc (.cells #[.int .i64 (leafA (leafM ks)).kind, .slice ka1 n1 kc1, .slice va1 m1 vc1, .slice da1 l1 dc1, .int .i64 (leafA (leafM ks)).root, .int .i64 (leafA (leafM ks)).next, .int .i64 (leafA (leafM ks)).size, .int .i64 (leafA (leafM ks)).idle] 25)).alloc (.cells #[.int .i64 (leafB (leafM ks)).kind, .slice ka2 n2 kc2, .slice va2 m2 vc2, .slice da2 l2 dc2, .int .i64 (leafB (leafM ks)).root, .int .i64 (leafB (leafM ks)).next, .int .i64 (leafB (leafM ks)).size, .int .i64 (leafB (leafM ks)).idle] 25)).heap.size = w4.heap.size + 1 + 1 by simp] at this
          exact this
        clear hbe hks' B4 P4 Q1 Q2 Y4
        generalize ((w4.alloc (.cells #[.int .i64 (leafA (leafM ks)).kind, .slice ka1 n1 kc1, .slice va1 m1 vc1, .slice da1 l1 dc1, .int .i64 (leafA (leafM ks)).root, .int .i64 (leafA (leafM ks)).next, .int .i64 (leafA (leafM ks)).size, .int .i64 (leafA (leafM ks)).idle] 25)).alloc (.cells #[.int .i64 (leafB (leafM ks)).kind, .slice ka2 n2 kc2, .slice va2 m2 vc2, .slice da2 l2 dc2, .int .i64 (leafB (leafM ks)).root, .int .i64 (leafB (leafM ks)).next, .int .i64 (leafB (leafM ks)).size, .int .i64 (leafB (leafM ks)).idle] 25)).alloc (.cells #[.int .i64 (leafA (leafM ks)).kind, .slice ka1 n1 kc1, .slice va1 m1 vc1, .slice da1 l1 dc1, .int .i64 (leafA (leafM ks)).root, .int .i64 (leafA (leafM ks)).next, .int .i64 (leafA (leafM ks)).size, .int .i64 (leafA (leafM ks)).idle] 25) = W5 at *
        obtain ⟨b11, hb11⟩ : ∃ b, w4.heap.size + 1 + 1 = b := ⟨_, rfl⟩
        rw [hb11] at B11 ⊢
        clear hb11
        have HLS : Hid ((leafA (leafM ks)).keys.length ≤ 1000 ∧ (leafA (leafM ks)).vals.length ≤ 1000) := by
          have h1 := HKN.out
          have h2 := HLL.out
          unfold leafA
          simp only [List.length_take]
          exact ⟨by omega, by omega⟩
        have HG : Hid (getP (leafM ks) k = getP (leafA (leafM ks)) k) := by
          have := get_half HRI.out (k := k) HS.out
          rw [HKS.out] at this
          show getP _ _ = getP _ _
          simpa using this
        have G1 : Hid (∀ W, PgAt W (leafM ks) (.slice ka kn kc) (.slice va vn vc) (.slice da dn dc) → Calls Try.prog 27 #[pgv (leafM ks) (.slice ka kn kc) (.slice va vn vc) (.slice da dn dc), .string k] W fun e w' => e = .returned (.tuple #[.string (getP (leafM ks) k).1, .bool (getP (leafM ks) k).2]) ∧ Below W.heap.size W w') := fun W h => get_any _ k _ _ _ W h HRI.out (by have := HKN.out; have := HLL.out; omega) (by have := HKN.out; have := HLL.out; omega)
        have G2 : Hid (∀ W, PgAt W (leafA (leafM ks)) (.slice ka1 n1 kc1) (.slice va1 m1 vc1) (.slice da1 l1 dc1) → Calls Try.prog 27 #[pgv (leafA (leafM ks)) (.slice ka1 n1 kc1) (.slice va1 m1 vc1) (.slice da1 l1 dc1), .string k] W fun e w' => e = .returned (.tuple #[.string (getP (leafM ks) k).1, .bool (getP (leafM ks) k).2]) ∧ Below W.heap.size W w') := fun W h => by
          rw [HG.out]
          exact get_any _ k _ _ _ W h (HRI.out.take _) (by have := HLS.out.1; omega) (by have := HLS.out.2; omega)
        generalize (getP (leafM ks) k).1 = gs at *
        generalize (getP (leafM ks) k).2 = gb at *
        unfold pgv at G1 G2
        clear HG
        obtain ⟨z0, z1, z2, z3, z4, z5, z6, z7⟩ := B5.out.cells
        go_wp2_with fail
        refine (G1.out _ P5.out).mono ?_
        rintro e w6 ⟨rfl, y⟩
        have B6 : Hid (PBox w6 b11 (leafA (leafM ks)) (.slice ka1 n1 kc1) (.slice va1 m1 vc1) (.slice da1 l1 dc1)) := B11.out.below y
        have Q6 : Hid (PgAt w6 (leafA (leafM ks)) (.slice ka1 n1 kc1) (.slice va1 m1 vc1) (.slice da1 l1 dc1)) := Q5.out.below y
        have Y6 : Hid (Below w.heap.size w w6) := ext_trans Y5.out y
        clear y z0 z1 z2 z3 z4 z5 z6 z7 B5 B11 P5 Q5 Y5 G1
        obtain ⟨z0, z1, z2, z3, z4, z5, z6, z7⟩ := B6.out.cells
        go_wp2_with fail
        refine (G2.out _ Q6.out).mono ?_
        rintro e w8 ⟨rfl, y⟩
        have Y8 : Hid (Below w.heap.size w w8) := ext_trans Y6.out y
        clear y z0 z1 z2 z3 z4 z5 z6 z7 B6 Q6 Y6 G2
        go_wp2
        go_ret
        exact ⟨ret_bool (by simp), Y8.out⟩
      | false =>
        have hks' : Op.bytesLess k.toList s.toList = false := hks
        have HKS : Hid (ltK k s = false) := hks
        clear hks
        go_upto_region 18 with fail
        have hbe : Below w4.heap.size w4 (((w4.alloc (.cells #[.int .i64 (leafA (leafM ks)).kind, .slice ka1 n1 kc1, .slice va1 m1 vc1, .slice da1 l1 dc1, .int .i64 (leafA (leafM ks)).root, .int .i64 (leafA (leafM ks)).next, .int .i64 (leafA (leafM ks)).size, .int .i64 (leafA (leafM ks)).idle] 25)).alloc (.cells #[.int .i64 (leafB (leafM ks)).kind, .slice ka2 n2 kc2, .slice va2 m2 vc2, .slice da2 l2 dc2, .int .i64 (leafB (leafM ks)).root, .int .i64 (leafB (leafM ks)).next, .int .i64 (leafB (leafM ks)).size, .int .i64 (leafB (leafM ks)).idle] 25)).alloc (.cells #[.int .i64 (leafB (leafM ks)).kind, .slice ka2 n2 kc2, .slice va2 m2 vc2, .slice da2 l2 dc2, .int .i64 (leafB (leafM ks)).root, .int .i64 (leafB (leafM ks)).next, .int .i64 (leafB (leafM ks)).size, .int .i64 (leafB (leafM ks)).idle] 25)) := (((Below.refl _ _).alloc (Nat.le_refl _) _).alloc (by simp) _).alloc (by simp; omega) _
        have B5 : Hid (PBox (((w4.alloc (.cells #[.int .i64 (leafA (leafM ks)).kind, .slice ka1 n1 kc1, .slice va1 m1 vc1, .slice da1 l1 dc1, .int .i64 (leafA (leafM ks)).root, .int .i64 (leafA (leafM ks)).next, .int .i64 (leafA (leafM ks)).size, .int .i64 (leafA (leafM ks)).idle] 25)).alloc (.cells #[.int .i64 (leafB (leafM ks)).kind, .slice ka2 n2 kc2, .slice va2 m2 vc2, .slice da2 l2 dc2, .int .i64 (leafB (leafM ks)).root, .int .i64 (leafB (leafM ks)).next, .int .i64 (leafB (leafM ks)).size, .int .i64 (leafB (leafM ks)).idle] 25)).alloc (.cells #[.int .i64 (leafB (leafM ks)).kind, .slice ka2 n2 kc2, .slice va2 m2 vc2, .slice da2 l2 dc2, .int .i64 (leafB (leafM ks)).root, .int .i64 (leafB (leafM ks)).next, .int .i64 (leafB (leafM ks)).size, .int .i64 (leafB (leafM ks)).idle] 25)) b7 (leafM ks) (.slice ka kn kc) (.slice va vn vc) (.slice da dn dc)) := B4.out.below hbe
        have P5 : Hid (PgAt (((w4.alloc (.cells #[.int .i64 (leafA (leafM ks)).kind, .slice ka1 n1 kc1, .slice va1 m1 vc1, .slice da1 l1 dc1, .int .i64 (leafA (leafM ks)).root, .int .i64 (leafA (leafM ks)).next, .int .i64 (leafA (leafM ks)).size, .int .i64 (leafA (leafM ks)).idle] 25)).alloc (.cells #[.int .i64 (leafB (leafM ks)).kind, .slice ka2 n2 kc2, .slice va2 m2 vc2, .slice da2 l2 dc2, .int .i64 (leafB (leafM ks)).root, .int .i64 (leafB (leafM ks)).next, .int .i64 (leafB (leafM ks)).size, .int .i64 (leafB (leafM ks)).idle] 25)).alloc (.cells #[.int .i64 (leafB (leafM ks)).kind, .slice ka2 n2 kc2, .slice va2 m2 vc2, .slice da2 l2 dc2, .int .i64 (leafB (leafM ks)).root, .int .i64 (leafB (leafM ks)).next, .int .i64 (leafB (leafM ks)).size, .int .i64 (leafB (leafM ks)).idle] 25)) (leafM ks) (.slice ka kn kc) (.slice va vn vc) (.slice da dn dc)) := P4.out.below hbe
        have Q5 : Hid (PgAt (((w4.alloc (.cells #[.int .i64 (leafA (leafM ks)).kind, .slice ka1 n1 kc1, .slice va1 m1 vc1, .slice da1 l1 dc1, .int .i64 (leafA (leafM ks)).root, .int .i64 (leafA (leafM ks)).next, .int .i64 (leafA (leafM ks)).size, .int .i64 (leafA (leafM ks)).idle] 25)).alloc (.cells #[.int .i64 (leafB (leafM ks)).kind, .slice ka2 n2 kc2, .slice va2 m2 vc2, .slice da2 l2 dc2, .int .i64 (leafB (leafM ks)).root, .int .i64 (leafB (leafM ks)).next, .int .i64 (leafB (leafM ks)).size, .int .i64 (leafB (leafM ks)).idle] 25)).alloc (.cells #[.int .i64 (leafB (leafM ks)).kind, .slice ka2 n2 kc2, .slice va2 m2 vc2, .slice da2 l2 dc2, .int .i64 (leafB (leafM ks)).root, .int .i64 (leafB (leafM ks)).next, .int .i64 (leafB (leafM ks)).size, .int .i64 (leafB (leafM ks)).idle] 25)) (leafB (leafM ks)) (.slice ka2 n2 kc2) (.slice va2 m2 vc2) (.slice da2 l2 dc2)) := Q2.out.below hbe
        have Y5 : Hid (Below w.heap.size w (((w4.alloc (.cells #[.int .i64 (leafA (leafM ks)).kind, .slice ka1 n1 kc1, .slice va1 m1 vc1, .slice da1 l1 dc1, .int .i64 (leafA (leafM ks)).root, .int .i64 (leafA (leafM ks)).next, .int .i64 (leafA (leafM ks)).size, .int .i64 (leafA (leafM ks)).idle] 25)).alloc (.cells #[.int .i64 (leafB (leafM ks)).kind, .slice ka2 n2 kc2, .slice va2 m2 vc2, .slice da2 l2 dc2, .int .i64 (leafB (leafM ks)).root, .int .i64 (leafB (leafM ks)).next, .int .i64 (leafB (leafM ks)).size, .int .i64 (leafB (leafM ks)).idle] 25)).alloc (.cells #[.int .i64 (leafB (leafM ks)).kind, .slice ka2 n2 kc2, .slice va2 m2 vc2, .slice da2 l2 dc2, .int .i64 (leafB (leafM ks)).root, .int .i64 (leafB (leafM ks)).next, .int .i64 (leafB (leafM ks)).size, .int .i64 (leafB (leafM ks)).idle] 25))) := ext_trans Y4.out hbe
        have B11 : Hid (PBox (((w4.alloc (.cells #[.int .i64 (leafA (leafM ks)).kind, .slice ka1 n1 kc1, .slice va1 m1 vc1, .slice da1 l1 dc1, .int .i64 (leafA (leafM ks)).root, .int .i64 (leafA (leafM ks)).next, .int .i64 (leafA (leafM ks)).size, .int .i64 (leafA (leafM ks)).idle] 25)).alloc (.cells #[.int .i64 (leafB (leafM ks)).kind, .slice ka2 n2 kc2, .slice va2 m2 vc2, .slice da2 l2 dc2, .int .i64 (leafB (leafM ks)).root, .int .i64 (leafB (leafM ks)).next, .int .i64 (leafB (leafM ks)).size, .int .i64 (leafB (leafM ks)).idle] 25)).alloc (.cells #[.int .i64 (leafB (leafM ks)).kind, .slice ka2 n2 kc2, .slice va2 m2 vc2, .slice da2 l2 dc2, .int .i64 (leafB (leafM ks)).root, .int .i64 (leafB (leafM ks)).next, .int .i64 (leafB (leafM ks)).size, .int .i64 (leafB (leafM ks)).idle] 25)) (w4.heap.size + 1 + 1) (leafB (leafM ks)) (.slice ka2 n2 kc2) (.slice va2 m2 vc2) (.slice da2 l2 dc2)) := by
          have := Blk.new ((w4.alloc (.cells #[.int .i64 (leafA (leafM ks)).kind, .slice ka1 n1 kc1, .slice va1 m1 vc1, .slice da1 l1 dc1, .int .i64 (leafA (leafM ks)).root, .int .i64 (leafA (leafM ks)).next, .int .i64 (leafA (leafM ks)).size, .int .i64 (leafA (leafM ks)).idle] 25)).alloc (.cells #[.int .i64 (leafB (leafM ks)).kind, .slice ka2 n2 kc2, .slice va2 m2 vc2, .slice da2 l2 dc2, .int .i64 (leafB (leafM ks)).root, .int .i64 (leafB (leafM ks)).next, .int .i64 (leafB (leafM ks)).size, .int .i64 (leafB (leafM ks)).idle] 25)) (pgc (leafB (leafM ks)) (.slice ka2 n2 kc2) (.slice va2 m2 vc2) (.slice da2 l2 dc2)) 25
          rw [show ((w4.alloc (.cells #[.int .i64 (leafA (leafM ks)).kind, .slice ka1 n1 kc1, .slice va1 m1 vc1, .slice da1 l1 dc1, .int .i64 (leafA (leafM ks)).root, .int .i64 (leafA (leafM ks)).next, .int .i64 (leafA (leafM ks)).size, .int .i64 (leafA (leafM ks)).idle] 25)).alloc (.cells #[.int .i64 (leafB (leafM ks)).kind, .slice ka2 n2 kc2, .slice va2 m2 vc2, .slice da2 l2 dc2, .int .i64 (leafB (leafM ks)).root, .int .i64 (leafB (leafM ks)).next, .int .i64 (leafB (leafM ks)).size, .int .i64 (leafB (leafM ks)).idle] 25)).heap.size = w4.heap.size + 1 + 1 by simp] at this
          exact this
        clear hbe hks' B4 P4 Q1 Q2 Y4
        generalize ((w4.alloc (.cells #[.int .i64 (leafA (leafM ks)).kind, .slice ka1 n1 kc1, .slice va1 m1 vc1, .slice da1 l1 dc1, .int .i64 (leafA (leafM ks)).root, .int .i64 (leafA (leafM ks)).next, .int .i64 (leafA (leafM ks)).size, .int .i64 (leafA (leafM ks)).idle] 25)).alloc (.cells #[.int .i64 (leafB (leafM ks)).kind, .slice ka2 n2 kc2, .slice va2 m2 vc2, .slice da2 l2 dc2, .int .i64 (leafB (leafM ks)).root, .int .i64 (leafB (leafM ks)).next, .int .i64 (leafB (leafM ks)).size, .int .i64 (leafB (leafM ks)).idle] 25)).alloc (.cells #[.int .i64 (leafB (leafM ks)).kind, .slice ka2 n2 kc2, .slice va2 m2 vc2, .slice da2 l2 dc2, .int .i64 (leafB (leafM ks)).root, .int .i64 (leafB (leafM ks)).next, .int .i64 (leafB (leafM ks)).size, .int .i64 (leafB (leafM ks)).idle] 25) = W5 at *
        obtain ⟨b11, hb11⟩ : ∃ b, w4.heap.size + 1 + 1 = b := ⟨_, rfl⟩
        rw [hb11] at B11 ⊢
        clear hb11
        have HLS : Hid ((leafB (leafM ks)).keys.length ≤ 1000 ∧ (leafB (leafM ks)).vals.length ≤ 1000) := by
          have h1 := HKN.out
          have h2 := HLL.out
          unfold leafB
          simp only [List.length_drop]
          exact ⟨by omega, by omega⟩
        have HG : Hid (getP (leafM ks) k = getP (leafB (leafM ks)) k) := by
          have := get_half HRI.out (k := k) HS.out
          rw [HKS.out] at this
          show getP _ _ = getP _ _
          simpa using this
        have G1 : Hid (∀ W, PgAt W (leafM ks) (.slice ka kn kc) (.slice va vn vc) (.slice da dn dc) → Calls Try.prog 27 #[pgv (leafM ks) (.slice ka kn kc) (.slice va vn vc) (.slice da dn dc), .string k] W fun e w' => e = .returned (.tuple #[.string (getP (leafM ks) k).1, .bool (getP (leafM ks) k).2]) ∧ Below W.heap.size W w') := fun W h => get_any _ k _ _ _ W h HRI.out (by have := HKN.out; have := HLL.out; omega) (by have := HKN.out; have := HLL.out; omega)
        have G2 : Hid (∀ W, PgAt W (leafB (leafM ks)) (.slice ka2 n2 kc2) (.slice va2 m2 vc2) (.slice da2 l2 dc2) → Calls Try.prog 27 #[pgv (leafB (leafM ks)) (.slice ka2 n2 kc2) (.slice va2 m2 vc2) (.slice da2 l2 dc2), .string k] W fun e w' => e = .returned (.tuple #[.string (getP (leafM ks) k).1, .bool (getP (leafM ks) k).2]) ∧ Below W.heap.size W w') := fun W h => by
          rw [HG.out]
          exact get_any _ k _ _ _ W h (HRI.out.drop _) (by have := HLS.out.1; omega) (by have := HLS.out.2; omega)
        generalize (getP (leafM ks) k).1 = gs at *
        generalize (getP (leafM ks) k).2 = gb at *
        unfold pgv at G1 G2
        clear HG
        obtain ⟨z0, z1, z2, z3, z4, z5, z6, z7⟩ := B5.out.cells
        go_wp2_with fail
        refine (G1.out _ P5.out).mono ?_
        rintro e w6 ⟨rfl, y⟩
        have B6 : Hid (PBox w6 b11 (leafB (leafM ks)) (.slice ka2 n2 kc2) (.slice va2 m2 vc2) (.slice da2 l2 dc2)) := B11.out.below y
        have Q6 : Hid (PgAt w6 (leafB (leafM ks)) (.slice ka2 n2 kc2) (.slice va2 m2 vc2) (.slice da2 l2 dc2)) := Q5.out.below y
        have Y6 : Hid (Below w.heap.size w w6) := ext_trans Y5.out y
        clear y z0 z1 z2 z3 z4 z5 z6 z7 B5 B11 P5 Q5 Y5 G1
        obtain ⟨z0, z1, z2, z3, z4, z5, z6, z7⟩ := B6.out.cells
        go_wp2_with fail
        refine (G2.out _ Q6.out).mono ?_
        rintro e w8 ⟨rfl, y⟩
        have Y8 : Hid (Below w.heap.size w w8) := ext_trans Y6.out y
        clear y z0 z1 z2 z3 z4 z5 z6 z7 B6 Q6 Y6 G2
        go_wp2
        go_ret
        exact ⟨ret_bool (by simp), Y8.out⟩
/-- Where a key is sought beneath an inner page, and in the half in which it is sought: the same kid. -/
theorem kidsM_get (f : Int) {n i : Nat} (h : i < n) : (kidsM f n)[i]? = some (f + (i : Int)) := by simp [kidsM, h]
theorem parts_true {ks : List ByteArray} {n : Nat} {k s : ByteArray} (hr : RisB ks) (hn : ks.length = n) (h4 : 3 ≤ n) (hs : ks[(n + 1) / 2 - 1]? = some s) (hk : ltK k s = true) :
    ∃ A M, atI (innM ks 5 (ks.length + 1)) k = A ∧ atI (innA (innM ks 5 (ks.length + 1))) k = M ∧ (innM ks 5 (ks.length + 1)).kids[A]? = some (5 + (A : Int)) ∧ (innA (innM ks 5 (ks.length + 1))).kids[M]? = some (5 + (A : Int)) := by
  have hsp := split_at hs
  have h1 : atI (innM ks 5 (ks.length + 1)) k = cntB k ks := by simp [atI, innM, cntB]
  have h2 : atI (innA (innM ks 5 (ks.length + 1))) k = cntB k (ks.take ((n + 1) / 2 - 1)) := by simp [atI, innA, innM, cntB, kidsM_length, hn]
  have h3 : cntB k ks = cntB k (ks.take ((n + 1) / 2 - 1)) := by
    have := cnt_first (xs := ks.take ((n + 1) / 2 - 1)) (ys := ks.drop ((n + 1) / 2 - 1 + 1)) hk
    rw [← hsp] at this
    exact this
  have h5 := cnt_le k (ks.take ((n + 1) / 2 - 1))
  rw [List.length_take] at h5
  refine ⟨_, _, h1, h2, ?_, ?_⟩
  · show (kidsM 5 (ks.length + 1))[_]? = _
    rw [hn]
    exact kidsM_get 5 (by have := cnt_le k ks; omega)
  · show ((kidsM 5 (ks.length + 1)).take ((kidsM 5 (ks.length + 1)).length / 2))[_]? = _
    rw [kidsM_length, hn, ← h3, List.getElem?_take, if_pos (by omega)]
    exact kidsM_get 5 (by omega)
theorem parts_false {ks : List ByteArray} {n : Nat} {k s : ByteArray} (hr : RisB ks) (hn : ks.length = n) (h4 : 3 ≤ n) (hs : ks[(n + 1) / 2 - 1]? = some s) (hk : ltK k s = false) :
    ∃ A M, atI (innM ks 5 (ks.length + 1)) k = A ∧ atI (innB (innM ks 5 (ks.length + 1))) k = M ∧ (innM ks 5 (ks.length + 1)).kids[A]? = some (5 + (A : Int)) ∧ (innB (innM ks 5 (ks.length + 1))).kids[M]? = some (5 + (A : Int)) := by
  have hsp := split_at hs
  have h1 : atI (innM ks 5 (ks.length + 1)) k = cntB k ks := by simp [atI, innM, cntB]
  have h2 : atI (innB (innM ks 5 (ks.length + 1))) k = cntB k (ks.drop ((n + 1) / 2)) := by simp [atI, innB, innM, cntB, kidsM_length, hn]
  have h3 : cntB k ks = (n + 1) / 2 + cntB k (ks.drop ((n + 1) / 2)) := by
    have := cnt_second (xs := ks.take ((n + 1) / 2 - 1)) (ys := ks.drop ((n + 1) / 2 - 1 + 1)) (by rw [← hsp]; exact hr) hk
    rw [← hsp, List.length_take, show (n + 1) / 2 - 1 + 1 = (n + 1) / 2 by omega] at this
    rw [this]
    omega
  have h5 := cnt_le k ks
  refine ⟨_, _, h1, h2, ?_, ?_⟩
  · show (kidsM 5 (ks.length + 1))[_]? = _
    rw [hn]
    exact kidsM_get 5 (by omega)
  · show ((kidsM 5 (ks.length + 1)).drop ((kidsM 5 (ks.length + 1)).length / 2))[_]? = _
    rw [kidsM_length, hn, List.getElem?_drop, h3]
    exact kidsM_get 5 (by omega)

set_option maxRecDepth 100000 in
set_option maxHeartbeats 3000000 in
theorem walk_NodeParts_inner (pa : Option Addr) (n c : Nat) (l : List ByteArray) (k : ByteArray) (w : World) (hps : IsStrs w pa n c l) (hsz : ∀ k ∈ l, k.size ≤ 140737488351232) :
    Calls Try.prog 14 #[.slice pa n c, .bool true, .string k] w fun e w' => e = .returned (.bool true) ∧ Below w.heap.size w w' := by
  have HR : Hid (Rd w (.slice pa n c) (sv l)) := isStrs_rd hps
  have HLN : Hid (l.length = n) := hps.1
  have hnm : n ≤ 9223372036854775807 := Nat.le_trans hps.2.1 hps.2.2.1
  have HZ : Hid (∀ k ∈ l, k.size ≤ 140737488351232) := hsz
  clear hps hsz
  go_enter Try.func14, Try.ntmps14
  go_wp2_with fail
  refine (head7_any _).mono ?_
  rintro e w1 ⟨rfl, y⟩
  have Y1 : Hid (Below w.heap.size w w1) := y
  clear y
  by_cases h20 : 20 < n
  · go_wp2_with fail
    go_ret
    exact ⟨ret_bool rfl, Y1.out⟩
  · go_wp2_with fail
    refine (leaf_any _ l _ (HR.out.below Y1.out) (by have := HLN.out; omega) HZ.out).mono ?_
    rintro e w2 ⟨kv, vv, dv, rfl, ho, y⟩
    obtain ⟨kn0, ka0, kc0, e1⟩ := ho.keys.rd.any
    obtain ⟨vn0, va0, vc0, e2⟩ := ho.vals.rd.any
    obtain ⟨dn0, da0, dc0, e3⟩ := ho.kids.rd.any
    subst e1 e2 e3
    have Y2 : Hid (Below w.heap.size w (w2.alloc (.cells (pgc (leafM (ksOf l)) (.slice ka0 kn0 kc0) (.slice va0 vn0 vc0) (.slice da0 dn0 dc0)) 25))) := (ext_trans Y1.out y).alloc (ext_trans Y1.out y).size _
    have B2 : Hid (PBox (w2.alloc (.cells (pgc (leafM (ksOf l)) (.slice ka0 kn0 kc0) (.slice va0 vn0 vc0) (.slice da0 dn0 dc0)) 25)) w2.heap.size (leafM (ksOf l)) (.slice ka0 kn0 kc0) (.slice va0 vn0 vc0) (.slice da0 dn0 dc0)) := Blk.new _ _ _
    have HW2 : Hid (w.heap.size ≤ w2.heap.size) := (ext_trans Y1.out y).size
    clear ho y Y1
    unfold pgc at Y2 B2
    unfold pgv
    go_upto_region 7 with fail
    generalize w2.alloc (.cells #[.int .i64 (leafM (ksOf l)).kind, .slice ka0 kn0 kc0, .slice va0 vn0 vc0, .slice da0 dn0 dc0, .int .i64 (leafM (ksOf l)).root, .int .i64 (leafM (ksOf l)).next, .int .i64 (leafM (ksOf l)).size, .int .i64 (leafM (ksOf l)).idle] 25) = wq at *
    obtain ⟨b7, hb7⟩ : ∃ b, w2.heap.size = b := ⟨_, rfl⟩
    rw [hb7] at B2 HW2 ⊢
    clear hb7
    have HIC : Hid (Calls Try.prog 32 #[.slice pa n c, .int .i64 5] wq _) := inner_any _ l 5 wq (HR.out.below Y2.out) (by have := HLN.out; omega) HZ.out (by omega)
    go_wp2_with fail
    refine HIC.out.mono ?_
    rintro e w3 ⟨kv, vv, dv, rfl, ho, y⟩
    obtain ⟨kn, ka, kc, e1⟩ := ho.keys.rd.any
    obtain ⟨vn, va, vc, e2⟩ := ho.vals.rd.any
    obtain ⟨dn, da, dc, e3⟩ := ho.kids.rd.any
    subst e1 e2 e3
    have HKN : Hid ((ksOf l).length = kn) := by have := ho.keys.rd.at.1; rw [sv_length] at this; exact this.symm
    have HDN : Hid ((ksOf l).length + 1 = dn) := by have := ho.kids.rd.at.1; rw [iv_length] at this; show _ = _; rw [this]; exact (kidsM_length _ _).symm
    have hdk : dn = kn + 1 := by have := HKN.out; have := HDN.out; omega
    have hk20 : kn ≤ 20 := by have h1 := ksOf_length l; have h2 := HLN.out; have h3 := HKN.out; omega
    have HRI : Hid (RisB (ksOf l)) := ksOf_rising l
    have hb7 : b7 < wq.heap.size := Blk.lt B2.out
    have B3 : Hid (PBox w3 b7 (leafM (ksOf l)) (.slice ka0 kn0 kc0) (.slice va0 vn0 vc0) (.slice da0 dn0 dc0)) := B2.out.below y
    have P3 : Hid (PgO w3 wq.heap.size (innM (ksOf l) 5 ((ksOf l).length + 1)) (.slice ka kn kc) (.slice va vn vc) (.slice da dn dc)) := ho
    have Y3 : Hid (Below w.heap.size w w3) := ext_trans Y2.out y
    have HDK : Hid (dn = kn + 1) := hdk
    have hd20 : dn ≤ 21 := by omega
    clear ho y Y2 B2 HIC hdk
    generalize ksOf l = ks at *
    have B4 : Hid (PBox (put8 w3 b7 (.int .i64 (innM ks 5 (ks.length + 1)).kind) (.slice ka kn kc) (.slice va vn vc) (.slice da dn dc) (.int .i64 (innM ks 5 (ks.length + 1)).root) (.int .i64 (innM ks 5 (ks.length + 1)).next) (.int .i64 (innM ks 5 (ks.length + 1)).size) (.int .i64 (innM ks 5 (ks.length + 1)).idle)) b7 (innM ks 5 (ks.length + 1)) (.slice ka kn kc) (.slice va vn vc) (.slice da dn dc)) := blk_set8 _ _ _ _ _ _ _ _ B3.out
    have P4 : Hid (PgAt (put8 w3 b7 (.int .i64 (innM ks 5 (ks.length + 1)).kind) (.slice ka kn kc) (.slice va vn vc) (.slice da dn dc) (.int .i64 (innM ks 5 (ks.length + 1)).root) (.int .i64 (innM ks 5 (ks.length + 1)).next) (.int .i64 (innM ks 5 (ks.length + 1)).size) (.int .i64 (innM ks 5 (ks.length + 1)).idle)) (innM ks 5 (ks.length + 1)) (.slice ka kn kc) (.slice va vn vc) (.slice da dn dc)) := (P3.out.keep P3.out.inP (fun g a _ => put8_other _ _ _ _ _ _ _ _ _ _ _ (by omega))).at
    have Y4 : Hid (Below w.heap.size w (put8 w3 b7 (.int .i64 (innM ks 5 (ks.length + 1)).kind) (.slice ka kn kc) (.slice va vn vc) (.slice da dn dc) (.int .i64 (innM ks 5 (ks.length + 1)).root) (.int .i64 (innM ks 5 (ks.length + 1)).next) (.int .i64 (innM ks 5 (ks.length + 1)).size) (.int .i64 (innM ks 5 (ks.length + 1)).idle))) := put8_below Y3.out HW2.out _ _ _ _ _ _ _ _
    have c0 := B3.out.cells.1
    have c1 := B3.out.cells.2.1
    have c2 := B3.out.cells.2.2.1
    have c3 := B3.out.cells.2.2.2.1
    have c4 := B3.out.cells.2.2.2.2.1
    have c5 := B3.out.cells.2.2.2.2.2.1
    have c6 := B3.out.cells.2.2.2.2.2.2.1
    have c7 := B3.out.cells.2.2.2.2.2.2.2
    have g0 := B3.out.frozen 0
    have g1 := B3.out.frozen 1
    have g2 := B3.out.frozen 2
    have g3 := B3.out.frozen 3
    have g4 := B3.out.frozen 4
    have g5 := B3.out.frozen 5
    have g6 := B3.out.frozen 6
    have g7 := B3.out.frozen 7
    unfold pgv
    go_upto_region 8 with fail
    have hgo : ∀ (Q : World → Prop), Q (put8 w3 b7 (.int .i64 (innM ks 5 (ks.length + 1)).kind) (.slice ka kn kc) (.slice va vn vc) (.slice da dn dc) (.int .i64 (innM ks 5 (ks.length + 1)).root) (.int .i64 (innM ks 5 (ks.length + 1)).next) (.int .i64 (innM ks 5 (ks.length + 1)).size) (.int .i64 (innM ks 5 (ks.length + 1)).idle)) → Q ((((((((w3.setCell ⟨b7, 0, none⟩ (.int .i64 (innM ks 5 (ks.length + 1)).kind)).setCell ⟨b7, 1, none⟩ (.slice ka kn kc)).setCell ⟨b7, 2, none⟩ (.slice va vn vc)).setCell ⟨b7, 3, none⟩ (.slice da dn dc)).setCell ⟨b7, 4, none⟩ (.int .i64 (innM ks 5 (ks.length + 1)).root)).setCell ⟨b7, 5, none⟩ (.int .i64 (innM ks 5 (ks.length + 1)).next)).setCell ⟨b7, 6, none⟩ (.int .i64 (innM ks 5 (ks.length + 1)).size)).setCell ⟨b7, 7, none⟩ (.int .i64 (innM ks 5 (ks.length + 1)).idle)) := fun Q h => h
    refine hgo _ ?_
    clear hgo c0 c1 c2 c3 c4 c5 c6 c7 g0 g1 g2 g3 g4 g5 g6 g7 B3 P3 Y3
    generalize put8 w3 b7 (.int .i64 (innM ks 5 (ks.length + 1)).kind) (.slice ka kn kc) (.slice va vn vc) (.slice da dn dc) (.int .i64 (innM ks 5 (ks.length + 1)).root) (.int .i64 (innM ks 5 (ks.length + 1)).next) (.int .i64 (innM ks 5 (ks.length + 1)).size) (.int .i64 (innM ks 5 (ks.length + 1)).idle) = wp at *
    obtain ⟨z0, z1, z2, z3, z4, z5, z6, z7⟩ := B4.out.cells
    by_cases hd4 : dn < 4
    · go_wp2_with fail
      go_ret
      exact ⟨ret_bool rfl, Y4.out⟩
    · have HSP : Hid (Calls Try.prog 33 #[pgv (innM ks 5 (ks.length + 1)) (.slice ka kn kc) (.slice va vn vc) (.slice da dn dc)] wp (SplitPost (innA (innM ks 5 (ks.length + 1))) (innB (innM ks 5 (ks.length + 1))) ks ((kn + 1) / 2 - 1) wp)) := by
        have h := splitI_any (innM ks 5 (ks.length + 1)) _ _ _ wp P4.out rfl (by show 3 < (kidsM 5 (ks.length + 1)).length; rw [kidsM_length]; have := HDN.out; omega) (by show (kidsM 5 (ks.length + 1)).length = ks.length + 1; rw [kidsM_length]) (by show ks.length ≤ 1000; have := HKN.out; omega) (by show 0 ≤ 1000; omega) (by show (kidsM 5 (ks.length + 1)).length ≤ 1000; rw [kidsM_length]; have := HKN.out; omega)
        have e : (innM ks 5 (ks.length + 1)).kids.length / 2 - 1 = (kn + 1) / 2 - 1 := by show (kidsM 5 (ks.length + 1)).length / 2 - 1 = _; rw [kidsM_length, HKN.out]
        rw [e] at h
        exact h
      unfold pgv at HSP
      go_wp2_with fail
      refine HSP.out.mono ?_
      rintro e w4 ⟨k1, v1, d1, s, k2, v2, d2, rfl, hs, hp1, hp2, _, _, y⟩
      obtain ⟨n1, ka1, kc1, e1⟩ := hp1.keys.any
      obtain ⟨m1, va1, vc1, e2⟩ := hp1.vals.any
      obtain ⟨l1, da1, dc1, e3⟩ := hp1.kids.any
      obtain ⟨n2, ka2, kc2, e4⟩ := hp2.keys.any
      obtain ⟨m2, va2, vc2, e5⟩ := hp2.vals.any
      obtain ⟨l2, da2, dc2, e6⟩ := hp2.kids.any
      subst e1 e2 e3 e4 e5 e6
      clear z0 z1 z2 z3 z4 z5 z6 z7 HSP
      have HS : Hid (ks[(kn + 1) / 2 - 1]? = some s) := hs
      have B4' : Hid (PBox w4 b7 (innM ks 5 (ks.length + 1)) (.slice ka kn kc) (.slice va vn vc) (.slice da dn dc)) := B4.out.below y
      have P4' : Hid (PgAt w4 (innM ks 5 (ks.length + 1)) (.slice ka kn kc) (.slice va vn vc) (.slice da dn dc)) := P4.out.below y
      have Y4' : Hid (Below w.heap.size w w4) := ext_trans Y4.out y
      have Q1 : Hid (PgAt w4 (innA (innM ks 5 (ks.length + 1))) (.slice ka1 n1 kc1) (.slice va1 m1 vc1) (.slice da1 l1 dc1)) := hp1
      have Q2 : Hid (PgAt w4 (innB (innM ks 5 (ks.length + 1))) (.slice ka2 n2 kc2) (.slice va2 m2 vc2) (.slice da2 l2 dc2)) := hp2
      clear hs hp1 hp2 y B4 P4 Y4
      have B4 := B4'
      have P4 := P4'
      have Y4 := Y4'
      have hk3 : 3 ≤ kn := by have := HDK.out; omega
      clear B4' P4' Y4' hd4 hd20
      unfold pgv
      cases hks : ltK k s with
      | true =>
        have hks' : Op.bytesLess k.toList s.toList = true := hks
        have HKS : Hid (ltK k s = true) := hks
        clear hks
        go_upto_region 15 with fail
        have hbe : Below w4.heap.size w4 (((w4.alloc (.cells #[.int .i64 (innA (innM ks 5 (ks.length + 1))).kind, .slice ka1 n1 kc1, .slice va1 m1 vc1, .slice da1 l1 dc1, .int .i64 (innA (innM ks 5 (ks.length + 1))).root, .int .i64 (innA (innM ks 5 (ks.length + 1))).next, .int .i64 (innA (innM ks 5 (ks.length + 1))).size, .int .i64 (innA (innM ks 5 (ks.length + 1))).idle] 25)).alloc (.cells #[.int .i64 (innB (innM ks 5 (ks.length + 1))).kind, .slice ka2 n2 kc2, .slice va2 m2 vc2, .slice da2 l2 dc2, .int .i64 (innB (innM ks 5 (ks.length + 1))).root, .int .i64 (innB (innM ks 5 (ks.length + 1))).next, .int .i64 (innB (innM ks 5 (ks.length + 1))).size, .int .i64 (innB (innM ks 5 (ks.length + 1))).idle] 25)).alloc (.cells #[.int .i64 (innA (innM ks 5 (ks.length + 1))).kind, .slice ka1 n1 kc1, .slice va1 m1 vc1, .slice da1 l1 dc1, .int .i64 (innA (innM ks 5 (ks.length + 1))).root, .int .i64 (innA (innM ks 5 (ks.length + 1))).next, .int .i64 (innA (innM ks 5 (ks.length + 1))).size, .int .i64 (innA (innM ks 5 (ks.length + 1))).idle] 25)) := (((Below.refl _ _).alloc (Nat.le_refl _) _).alloc (by simp) _).alloc (by simp; omega) _
        have B5 : Hid (PBox (((w4.alloc (.cells #[.int .i64 (innA (innM ks 5 (ks.length + 1))).kind, .slice ka1 n1 kc1, .slice va1 m1 vc1, .slice da1 l1 dc1, .int .i64 (innA (innM ks 5 (ks.length + 1))).root, .int .i64 (innA (innM ks 5 (ks.length + 1))).next, .int .i64 (innA (innM ks 5 (ks.length + 1))).size, .int .i64 (innA (innM ks 5 (ks.length + 1))).idle] 25)).alloc (.cells #[.int .i64 (innB (innM ks 5 (ks.length + 1))).kind, .slice ka2 n2 kc2, .slice va2 m2 vc2, .slice da2 l2 dc2, .int .i64 (innB (innM ks 5 (ks.length + 1))).root, .int .i64 (innB (innM ks 5 (ks.length + 1))).next, .int .i64 (innB (innM ks 5 (ks.length + 1))).size, .int .i64 (innB (innM ks 5 (ks.length + 1))).idle] 25)).alloc (.cells #[.int .i64 (innA (innM ks 5 (ks.length + 1))).kind, .slice ka1 n1 kc1, .slice va1 m1 vc1, .slice da1 l1 dc1, .int .i64 (innA (innM ks 5 (ks.length + 1))).root, .int .i64 (innA (innM ks 5 (ks.length + 1))).next, .int .i64 (innA (innM ks 5 (ks.length + 1))).size, .int .i64 (innA (innM ks 5 (ks.length + 1))).idle] 25)) b7 (innM ks 5 (ks.length + 1)) (.slice ka kn kc) (.slice va vn vc) (.slice da dn dc)) := B4.out.below hbe
        have P5 : Hid (PgAt (((w4.alloc (.cells #[.int .i64 (innA (innM ks 5 (ks.length + 1))).kind, .slice ka1 n1 kc1, .slice va1 m1 vc1, .slice da1 l1 dc1, .int .i64 (innA (innM ks 5 (ks.length + 1))).root, .int .i64 (innA (innM ks 5 (ks.length + 1))).next, .int .i64 (innA (innM ks 5 (ks.length + 1))).size, .int .i64 (innA (innM ks 5 (ks.length + 1))).idle] 25)).alloc (.cells #[.int .i64 (innB (innM ks 5 (ks.length + 1))).kind, .slice ka2 n2 kc2, .slice va2 m2 vc2, .slice da2 l2 dc2, .int .i64 (innB (innM ks 5 (ks.length + 1))).root, .int .i64 (innB (innM ks 5 (ks.length + 1))).next, .int .i64 (innB (innM ks 5 (ks.length + 1))).size, .int .i64 (innB (innM ks 5 (ks.length + 1))).idle] 25)).alloc (.cells #[.int .i64 (innA (innM ks 5 (ks.length + 1))).kind, .slice ka1 n1 kc1, .slice va1 m1 vc1, .slice da1 l1 dc1, .int .i64 (innA (innM ks 5 (ks.length + 1))).root, .int .i64 (innA (innM ks 5 (ks.length + 1))).next, .int .i64 (innA (innM ks 5 (ks.length + 1))).size, .int .i64 (innA (innM ks 5 (ks.length + 1))).idle] 25)) (innM ks 5 (ks.length + 1)) (.slice ka kn kc) (.slice va vn vc) (.slice da dn dc)) := P4.out.below hbe
        have Q5 : Hid (PgAt (((w4.alloc (.cells #[.int .i64 (innA (innM ks 5 (ks.length + 1))).kind, .slice ka1 n1 kc1, .slice va1 m1 vc1, .slice da1 l1 dc1, .int .i64 (innA (innM ks 5 (ks.length + 1))).root, .int .i64 (innA (innM ks 5 (ks.length + 1))).next, .int .i64 (innA (innM ks 5 (ks.length + 1))).size, .int .i64 (innA (innM ks 5 (ks.length + 1))).idle] 25)).alloc (.cells #[.int .i64 (innB (innM ks 5 (ks.length + 1))).kind, .slice ka2 n2 kc2, .slice va2 m2 vc2, .slice da2 l2 dc2, .int .i64 (innB (innM ks 5 (ks.length + 1))).root, .int .i64 (innB (innM ks 5 (ks.length + 1))).next, .int .i64 (innB (innM ks 5 (ks.length + 1))).size, .int .i64 (innB (innM ks 5 (ks.length + 1))).idle] 25)).alloc (.cells #[.int .i64 (innA (innM ks 5 (ks.length + 1))).kind, .slice ka1 n1 kc1, .slice va1 m1 vc1, .slice da1 l1 dc1, .int .i64 (innA (innM ks 5 (ks.length + 1))).root, .int .i64 (innA (innM ks 5 (ks.length + 1))).next, .int .i64 (innA (innM ks 5 (ks.length + 1))).size, .int .i64 (innA (innM ks 5 (ks.length + 1))).idle] 25)) (innA (innM ks 5 (ks.length + 1))) (.slice ka1 n1 kc1) (.slice va1 m1 vc1) (.slice da1 l1 dc1)) := Q1.out.below hbe
        have Y5 : Hid (Below w.heap.size w (((w4.alloc (.cells #[.int .i64 (innA (innM ks 5 (ks.length + 1))).kind, .slice ka1 n1 kc1, .slice va1 m1 vc1, .slice da1 l1 dc1, .int .i64 (innA (innM ks 5 (ks.length + 1))).root, .int .i64 (innA (innM ks 5 (ks.length + 1))).next, .int .i64 (innA (innM ks 5 (ks.length + 1))).size, .int .i64 (innA (innM ks 5 (ks.length + 1))).idle] 25)).alloc (.cells #[.int .i64 (innB (innM ks 5 (ks.length + 1))).kind, .slice ka2 n2 kc2, .slice va2 m2 vc2, .slice da2 l2 dc2, .int .i64 (innB (innM ks 5 (ks.length + 1))).root, .int .i64 (innB (innM ks 5 (ks.length + 1))).next, .int .i64 (innB (innM ks 5 (ks.length + 1))).size, .int .i64 (innB (innM ks 5 (ks.length + 1))).idle] 25)).alloc (.cells #[.int .i64 (innA (innM ks 5 (ks.length + 1))).kind, .slice ka1 n1 kc1, .slice va1 m1 vc1, .slice da1 l1 dc1, .int .i64 (innA (innM ks 5 (ks.length + 1))).root, .int .i64 (innA (innM ks 5 (ks.length + 1))).next, .int .i64 (innA (innM ks 5 (ks.length + 1))).size, .int .i64 (innA (innM ks 5 (ks.length + 1))).idle] 25))) := ext_trans Y4.out hbe
        have B11 : Hid (PBox (((w4.alloc (.cells #[.int .i64 (innA (innM ks 5 (ks.length + 1))).kind, .slice ka1 n1 kc1, .slice va1 m1 vc1, .slice da1 l1 dc1, .int .i64 (innA (innM ks 5 (ks.length + 1))).root, .int .i64 (innA (innM ks 5 (ks.length + 1))).next, .int .i64 (innA (innM ks 5 (ks.length + 1))).size, .int .i64 (innA (innM ks 5 (ks.length + 1))).idle] 25)).alloc (.cells #[.int .i64 (innB (innM ks 5 (ks.length + 1))).kind, .slice ka2 n2 kc2, .slice va2 m2 vc2, .slice da2 l2 dc2, .int .i64 (innB (innM ks 5 (ks.length + 1))).root, .int .i64 (innB (innM ks 5 (ks.length + 1))).next, .int .i64 (innB (innM ks 5 (ks.length + 1))).size, .int .i64 (innB (innM ks 5 (ks.length + 1))).idle] 25)).alloc (.cells #[.int .i64 (innA (innM ks 5 (ks.length + 1))).kind, .slice ka1 n1 kc1, .slice va1 m1 vc1, .slice da1 l1 dc1, .int .i64 (innA (innM ks 5 (ks.length + 1))).root, .int .i64 (innA (innM ks 5 (ks.length + 1))).next, .int .i64 (innA (innM ks 5 (ks.length + 1))).size, .int .i64 (innA (innM ks 5 (ks.length + 1))).idle] 25)) (w4.heap.size + 1 + 1) (innA (innM ks 5 (ks.length + 1))) (.slice ka1 n1 kc1) (.slice va1 m1 vc1) (.slice da1 l1 dc1)) := by
          have := Blk.new ((w4.alloc (.cells #[.int .i64 (innA (innM ks 5 (ks.length + 1))).kind, .slice ka1 n1 kc1, .slice va1 m1 vc1, .slice da1 l1 dc1, .int .i64 (innA (innM ks 5 (ks.length + 1))).root, .int .i64 (innA (innM ks 5 (ks.length + 1))).next, .int .i64 (innA (innM ks 5 (ks.length + 1))).size, .int .i64 (innA (innM ks 5 (ks.length + 1))).idle] 25)).alloc (.cells #[.int .i64 (innB (innM ks 5 (ks.length + 1))).kind, .slice ka2 n2 kc2, .slice va2 m2 vc2, .slice da2 l2 dc2, .int .i64 (innB (innM ks 5 (ks.length + 1))).root, .int .i64 (innB (innM ks 5 (ks.length + 1))).next, .int .i64 (innB (innM ks 5 (ks.length + 1))).size, .int .i64 (innB (innM ks 5 (ks.length + 1))).idle] 25)) (pgc (innA (innM ks 5 (ks.length + 1))) (.slice ka1 n1 kc1) (.slice va1 m1 vc1) (.slice da1 l1 dc1)) 25
          rw [show ((w4.alloc (.cells #[.int .i64 (innA (innM ks 5 (ks.length + 1))).kind, .slice ka1 n1 kc1, .slice va1 m1 vc1, .slice da1 l1 dc1, .int .i64 (innA (innM ks 5 (ks.length + 1))).root, .int .i64 (innA (innM ks 5 (ks.length + 1))).next, .int .i64 (innA (innM ks 5 (ks.length + 1))).size, .int .i64 (innA (innM ks 5 (ks.length + 1))).idle] 25)).alloc (.cells #[.int .i64 (innB (innM ks 5 (ks.length + 1))).kind, .slice ka2 n2 kc2, .slice va2 m2 vc2, .slice da2 l2 dc2, .int .i64 (innB (innM ks 5 (ks.length + 1))).root, .int .i64 (innB (innM ks 5 (ks.length + 1))).next, .int .i64 (innB (innM ks 5 (ks.length + 1))).size, .int .i64 (innB (innM ks 5 (ks.length + 1))).idle] 25)).heap.size = w4.heap.size + 1 + 1 by simp] at this
          exact this
        clear hbe hks' B4 P4 Q1 Q2 Y4
        generalize ((w4.alloc (.cells #[.int .i64 (innA (innM ks 5 (ks.length + 1))).kind, .slice ka1 n1 kc1, .slice va1 m1 vc1, .slice da1 l1 dc1, .int .i64 (innA (innM ks 5 (ks.length + 1))).root, .int .i64 (innA (innM ks 5 (ks.length + 1))).next, .int .i64 (innA (innM ks 5 (ks.length + 1))).size, .int .i64 (innA (innM ks 5 (ks.length + 1))).idle] 25)).alloc (.cells #[.int .i64 (innB (innM ks 5 (ks.length + 1))).kind, .slice ka2 n2 kc2, .slice va2 m2 vc2, .slice da2 l2 dc2, .int .i64 (innB (innM ks 5 (ks.length + 1))).root, .int .i64 (innB (innM ks 5 (ks.length + 1))).next, .int .i64 (innB (innM ks 5 (ks.length + 1))).size, .int .i64 (innB (innM ks 5 (ks.length + 1))).idle] 25)).alloc (.cells #[.int .i64 (innA (innM ks 5 (ks.length + 1))).kind, .slice ka1 n1 kc1, .slice va1 m1 vc1, .slice da1 l1 dc1, .int .i64 (innA (innM ks 5 (ks.length + 1))).root, .int .i64 (innA (innM ks 5 (ks.length + 1))).next, .int .i64 (innA (innM ks 5 (ks.length + 1))).size, .int .i64 (innA (innM ks 5 (ks.length + 1))).idle] 25) = W5 at *
        obtain ⟨b11, hb11⟩ : ∃ b, w4.heap.size + 1 + 1 = b := ⟨_, rfl⟩
        rw [hb11] at B11 ⊢
        clear hb11
        obtain ⟨A, M, hA1, hA2, HKA, HKM⟩ := parts_true (n := kn) (k := k) HRI.out HKN.out (by omega) HS.out HKS.out
        have HKA' : Hid _ := HKA
        have HKM' : Hid _ := HKM
        clear HKA HKM
        have G1 : Hid (∀ W, PgAt W (innM ks 5 (ks.length + 1)) (.slice ka kn kc) (.slice va vn vc) (.slice da dn dc) → Calls Try.prog 26 #[pgv (innM ks 5 (ks.length + 1)) (.slice ka kn kc) (.slice va vn vc) (.slice da dn dc), .string k] W fun e w' => e = .returned (.tuple #[.int .i64 (A : Int), .bool (hasB k ks)]) ∧ Below W.heap.size W w') := fun W h => by rw [← hA1]; exact at_any (innM ks 5 (ks.length + 1)) k _ _ _ W h HRI.out (by show ks.length < _; have := HKN.out; omega)
        have G2 : Hid (∀ W, PgAt W (innA (innM ks 5 (ks.length + 1))) (.slice ka1 n1 kc1) (.slice va1 m1 vc1) (.slice da1 l1 dc1) → Calls Try.prog 26 #[pgv (innA (innM ks 5 (ks.length + 1))) (.slice ka1 n1 kc1) (.slice va1 m1 vc1) (.slice da1 l1 dc1), .string k] W fun e w' => e = .returned (.tuple #[.int .i64 (M : Int), .bool (hasB k (innA (innM ks 5 (ks.length + 1))).keys)]) ∧ Below W.heap.size W w') := fun W h => by rw [← hA2]; exact at_any (innA (innM ks 5 (ks.length + 1))) k _ _ _ W h (HRI.out.take _) (by show (ks.take _).length < _; simp only [List.length_take]; have := HKN.out; omega)
        clear hA1 hA2
        generalize hasB k ks = g1 at *
        generalize hasB k (innA (innM ks 5 (ks.length + 1))).keys = g2 at *
        unfold pgv at G1 G2
        obtain ⟨z0, z1, z2, z3, z4, z5, z6, z7⟩ := B5.out.cells
        go_wp2_with fail
        refine (G1.out _ P5.out).mono ?_
        rintro e w6 ⟨rfl, y⟩
        have B6 : Hid (PBox w6 b11 (innA (innM ks 5 (ks.length + 1))) (.slice ka1 n1 kc1) (.slice va1 m1 vc1) (.slice da1 l1 dc1)) := B11.out.below y
        have C6 : Hid (PBox w6 b7 (innM ks 5 (ks.length + 1)) (.slice ka kn kc) (.slice va vn vc) (.slice da dn dc)) := B5.out.below y
        have Q6 : Hid (PgAt w6 (innA (innM ks 5 (ks.length + 1))) (.slice ka1 n1 kc1) (.slice va1 m1 vc1) (.slice da1 l1 dc1)) := Q5.out.below y
        have P6 : Hid (PgAt w6 (innM ks 5 (ks.length + 1)) (.slice ka kn kc) (.slice va vn vc) (.slice da dn dc)) := P5.out.below y
        have Y6 : Hid (Below w.heap.size w w6) := ext_trans Y5.out y
        clear y z0 z1 z2 z3 z4 z5 z6 z7 B5 B11 P5 Q5 Y5 G1
        obtain ⟨z0, z1, z2, z3, z4, z5, z6, z7⟩ := B6.out.cells
        go_wp2_with fail
        refine (G2.out _ Q6.out).mono ?_
        rintro e w8 ⟨rfl, y⟩
        have Y8 : Hid (Below w.heap.size w w8) := ext_trans Y6.out y
        have B8 : Hid (PBox w8 b11 (innA (innM ks 5 (ks.length + 1))) (.slice ka1 n1 kc1) (.slice va1 m1 vc1) (.slice da1 l1 dc1)) := B6.out.below y
        have C8 : Hid (PBox w8 b7 (innM ks 5 (ks.length + 1)) (.slice ka kn kc) (.slice va vn vc) (.slice da dn dc)) := C6.out.below y
        obtain ⟨i0, i1, i2, i3⟩ := (P6.out.below y).kids.at
        obtain ⟨j0, j1, j2, j3⟩ := (Q6.out.below y).kids.at
        obtain ⟨hA, hAv⟩ := List.getElem?_eq_some_iff.1 HKA'.out
        obtain ⟨hM, hMv⟩ := List.getElem?_eq_some_iff.1 HKM'.out
        obtain ⟨dad, hdad⟩ := i3.ad (by rw [iv_length]; omega)
        obtain ⟨sad, hsad⟩ := j3.ad (by rw [iv_length]; omega)
        subst hdad hsad
        have t1 : w8.cell? (dad.add A) = some (.int .i64 (5 + (A : Int))) := by have := i3.num rfl hA; rw [hAv] at this; exact this
        have t2 : w8.cell? (sad.add M) = some (.int .i64 (5 + (A : Int))) := by have := j3.num rfl hM; rw [hMv] at this; exact this
        have hAd : A < dn := by rw [i0, iv_length]; exact hA
        have hMl : M < l1 := by rw [j0, iv_length]; exact hM
        have hdn : dn ≤ 9223372036854775807 := Nat.le_trans (by rw [i0]; exact i1) i2
        have hln : l1 ≤ 9223372036854775807 := Nat.le_trans (by rw [j0]; exact j1) j2
        clear y z0 z1 z2 z3 z4 z5 z6 z7 B6 C6 Q6 P6 Y6 G2 i0 i1 i2 i3 j0 j1 j2 j3 hA hAv hM hMv HKA' HKM'
        obtain ⟨z0, z1, z2, z3, z4, z5, z6, z7⟩ := B8.out.cells
        obtain ⟨x0, x1, x2, x3, x4, x5, x6, x7⟩ := C8.out.cells
        clear z0 z1 z2 z4 z5 z6 z7 x0 x1 x2 x4 x5 x6 x7
        go_upto_region 17 with fail
        refine wp_region_ext (by kernel_rfl) ?_
        haveI nA := cls_ext w8.drew
        have q1 := cellX (W0 := w8.drew) (show w8.drew.cell? ⟨b11, 3, none⟩ = some _ from z3)
        have q2 := cellX (W0 := w8.drew) (show w8.drew.cell? ⟨b7, 3, none⟩ = some _ from x3)
        have q3 := cellX (W0 := w8.drew) (show w8.drew.cell? (dad.add A) = some _ from t1)
        have q4 := cellX (W0 := w8.drew) (show w8.drew.cell? (sad.add M) = some _ from t2)
        refine wpAnyH_seg (by kernel_rfl) (fun _ _ _ h => h) [0, 1, 2, 3, 4, 5, 6, 7, 8, 9, 10, 11] 0 _ _ _ (Ext.refl _) (by kernel_rfl) ?_
        simp only [opsAt, List.getElem?_toArray, List.getElem?_cons_zero, List.getElem?_cons_succ, List.cons_append, List.nil_append]
        repeat (go_big_quiet_step (fail))
        refine wpQuiet_nil ?_
        refine wpAnyH_done (by kernel_rfl) (NoPanic.normal ?_) 0
        clear nA q1 q2 q3 q4 t1 t2 z3 x3
        have Y9 : Hid (Below w.heap.size w w8.drew) := Below.drew Y8.out
        go_wp2
        go_ret
        exact ⟨ret_bool (by simp), Y9.out⟩
      | false =>
        have hks' : Op.bytesLess k.toList s.toList = false := hks
        have HKS : Hid (ltK k s = false) := hks
        clear hks
        go_upto_region 15 with fail
        have hbe : Below w4.heap.size w4 (((w4.alloc (.cells #[.int .i64 (innA (innM ks 5 (ks.length + 1))).kind, .slice ka1 n1 kc1, .slice va1 m1 vc1, .slice da1 l1 dc1, .int .i64 (innA (innM ks 5 (ks.length + 1))).root, .int .i64 (innA (innM ks 5 (ks.length + 1))).next, .int .i64 (innA (innM ks 5 (ks.length + 1))).size, .int .i64 (innA (innM ks 5 (ks.length + 1))).idle] 25)).alloc (.cells #[.int .i64 (innB (innM ks 5 (ks.length + 1))).kind, .slice ka2 n2 kc2, .slice va2 m2 vc2, .slice da2 l2 dc2, .int .i64 (innB (innM ks 5 (ks.length + 1))).root, .int .i64 (innB (innM ks 5 (ks.length + 1))).next, .int .i64 (innB (innM ks 5 (ks.length + 1))).size, .int .i64 (innB (innM ks 5 (ks.length + 1))).idle] 25)).alloc (.cells #[.int .i64 (innB (innM ks 5 (ks.length + 1))).kind, .slice ka2 n2 kc2, .slice va2 m2 vc2, .slice da2 l2 dc2, .int .i64 (innB (innM ks 5 (ks.length + 1))).root, .int .i64 (innB (innM ks 5 (ks.length + 1))).next, .int .i64 (innB (innM ks 5 (ks.length + 1))).size, .int .i64 (innB (innM ks 5 (ks.length + 1))).idle] 25)) := (((Below.refl _ _).alloc (Nat.le_refl _) _).alloc (by simp) _).alloc (by simp; omega) _
        have B5 : Hid (PBox (((w4.alloc (.cells #[.int .i64 (innA (innM ks 5 (ks.length + 1))).kind, .slice ka1 n1 kc1, .slice va1 m1 vc1, .slice da1 l1 dc1, .int .i64 (innA (innM ks 5 (ks.length + 1))).root, .int .i64 (innA (innM ks 5 (ks.length + 1))).next, .int .i64 (innA (innM ks 5 (ks.length + 1))).size, .int .i64 (innA (innM ks 5 (ks.length + 1))).idle] 25)).alloc (.cells #[.int .i64 (innB (innM ks 5 (ks.length + 1))).kind, .slice ka2 n2 kc2, .slice va2 m2 vc2, .slice da2 l2 dc2, .int .i64 (innB (innM ks 5 (ks.length + 1))).root, .int .i64 (innB (innM ks 5 (ks.length + 1))).next, .int .i64 (innB (innM ks 5 (ks.length + 1))).size, .int .i64 (innB (innM ks 5 (ks.length + 1))).idle] 25)).alloc (.cells #[.int .i64 (innB (innM ks 5 (ks.length + 1))).kind, .slice ka2 n2 kc2, .slice va2 m2 vc2, .slice da2 l2 dc2, .int .i64 (innB (innM ks 5 (ks.length + 1))).root, .int .i64 (innB (innM ks 5 (ks.length + 1))).next, .int .i64 (innB (innM ks 5 (ks.length + 1))).size, .int .i64 (innB (innM ks 5 (ks.length + 1))).idle] 25)) b7 (innM ks 5 (ks.length + 1)) (.slice ka kn kc) (.slice va vn vc) (.slice da dn dc)) := B4.out.below hbe
        have P5 : Hid (PgAt (((w4.alloc (.cells #[.int .i64 (innA (innM ks 5 (ks.length + 1))).kind, .slice ka1 n1 kc1, .slice va1 m1 vc1, .slice da1 l1 dc1, .int .i64 (innA (innM ks 5 (ks.length + 1))).root, .int .i64 (innA (innM ks 5 (ks.length + 1))).next, .int .i64 (innA (innM ks 5 (ks.length + 1))).size, .int .i64 (innA (innM ks 5 (ks.length + 1))).idle] 25)).alloc (.cells #[.int .i64 (innB (innM ks 5 (ks.length + 1))).kind, .slice ka2 n2 kc2, .slice va2 m2 vc2, .slice da2 l2 dc2, .int .i64 (innB (innM ks 5 (ks.length + 1))).root, .int .i64 (innB (innM ks 5 (ks.length + 1))).next, .int .i64 (innB (innM ks 5 (ks.length + 1))).size, .int .i64 (innB (innM ks 5 (ks.length + 1))).idle] 25)).alloc (.cells #[.int .i64 (innB (innM ks 5 (ks.length + 1))).kind, .slice ka2 n2 kc2, .slice va2 m2 vc2, .slice da2 l2 dc2, .int .i64 (innB (innM ks 5 (ks.length + 1))).root, .int .i64 (innB (innM ks 5 (ks.length + 1))).next, .int .i64 (innB (innM ks 5 (ks.length + 1))).size, .int .i64 (innB (innM ks 5 (ks.length + 1))).idle] 25)) (innM ks 5 (ks.length + 1)) (.slice ka kn kc) (.slice va vn vc) (.slice da dn dc)) := P4.out.below hbe
        have Q5 : Hid (PgAt (((w4.alloc (.cells #[.int .i64 (innA (innM ks 5 (ks.length + 1))).kind, .slice ka1 n1 kc1, .slice va1 m1 vc1, .slice da1 l1 dc1, .int .i64 (innA (innM ks 5 (ks.length + 1))).root, .int .i64 (innA (innM ks 5 (ks.length + 1))).next, .int .i64 (innA (innM ks 5 (ks.length + 1))).size, .int .i64 (innA (innM ks 5 (ks.length + 1))).idle] 25)).alloc (.cells #[.int .i64 (innB (innM ks 5 (ks.length + 1))).kind, .slice ka2 n2 kc2, .slice va2 m2 vc2, .slice da2 l2 dc2, .int .i64 (innB (innM ks 5 (ks.length + 1))).root, .int .i64 (innB (innM ks 5 (ks.length + 1))).next, .int .i64 (innB (innM ks 5 (ks.length + 1))).size, .int .i64 (innB (innM ks 5 (ks.length + 1))).idle] 25)).alloc (.cells #[.int .i64 (innB (innM ks 5 (ks.length + 1))).kind, .slice ka2 n2 kc2, .slice va2 m2 vc2, .slice da2 l2 dc2, .int .i64 (innB (innM ks 5 (ks.length + 1))).root, .int .i64 (innB (innM ks 5 (ks.length + 1))).next, .int .i64 (innB (innM ks 5 (ks.length + 1))).size, .int .i64 (innB (innM ks 5 (ks.length + 1))).idle] 25)) (innB (innM ks 5 (ks.length + 1))) (.slice ka2 n2 kc2) (.slice va2 m2 vc2) (.slice da2 l2 dc2)) := Q2.out.below hbe
        have Y5 : Hid (Below w.heap.size w (((w4.alloc (.cells #[.int .i64 (innA (innM ks 5 (ks.length + 1))).kind, .slice ka1 n1 kc1, .slice va1 m1 vc1, .slice da1 l1 dc1, .int .i64 (innA (innM ks 5 (ks.length + 1))).root, .int .i64 (innA (innM ks 5 (ks.length + 1))).next, .int .i64 (innA (innM ks 5 (ks.length + 1))).size, .int .i64 (innA (innM ks 5 (ks.length + 1))).idle] 25)).alloc (.cells #[.int .i64 (innB (innM ks 5 (ks.length + 1))).kind, .slice ka2 n2 kc2, .slice va2 m2 vc2, .slice da2 l2 dc2, .int .i64 (innB (innM ks 5 (ks.length + 1))).root, .int .i64 (innB (innM ks 5 (ks.length + 1))).next, .int .i64 (innB (innM ks 5 (ks.length + 1))).size, .int .i64 (innB (innM ks 5 (ks.length + 1))).idle] 25)).alloc (.cells #[.int .i64 (innB (innM ks 5 (ks.length + 1))).kind, .slice ka2 n2 kc2, .slice va2 m2 vc2, .slice da2 l2 dc2, .int .i64 (innB (innM ks 5 (ks.length + 1))).root, .int .i64 (innB (innM ks 5 (ks.length + 1))).next, .int .i64 (innB (innM ks 5 (ks.length + 1))).size, .int .i64 (innB (innM ks 5 (ks.length + 1))).idle] 25))) := ext_trans Y4.out hbe
        have B11 : Hid (PBox (((w4.alloc (.cells #[.int .i64 (innA (innM ks 5 (ks.length + 1))).kind, .slice ka1 n1 kc1, .slice va1 m1 vc1, .slice da1 l1 dc1, .int .i64 (innA (innM ks 5 (ks.length + 1))).root, .int .i64 (innA (innM ks 5 (ks.length + 1))).next, .int .i64 (innA (innM ks 5 (ks.length + 1))).size, .int .i64 (innA (innM ks 5 (ks.length + 1))).idle] 25)).alloc (.cells #[.int .i64 (innB (innM ks 5 (ks.length + 1))).kind, .slice ka2 n2 kc2, .slice va2 m2 vc2, .slice da2 l2 dc2, .int .i64 (innB (innM ks 5 (ks.length + 1))).root, .int .i64 (innB (innM ks 5 (ks.length + 1))).next, .int .i64 (innB (innM ks 5 (ks.length + 1))).size, .int .i64 (innB (innM ks 5 (ks.length + 1))).idle] 25)).alloc (.cells #[.int .i64 (innB (innM ks 5 (ks.length + 1))).kind, .slice ka2 n2 kc2, .slice va2 m2 vc2, .slice da2 l2 dc2, .int .i64 (innB (innM ks 5 (ks.length + 1))).root, .int .i64 (innB (innM ks 5 (ks.length + 1))).next, .int .i64 (innB (innM ks 5 (ks.length + 1))).size, .int .i64 (innB (innM ks 5 (ks.length + 1))).idle] 25)) (w4.heap.size + 1 + 1) (innB (innM ks 5 (ks.length + 1))) (.slice ka2 n2 kc2) (.slice va2 m2 vc2) (.slice da2 l2 dc2)) := by
          have := Blk.new ((w4.alloc (.cells #[.int .i64 (innA (innM ks 5 (ks.length + 1))).kind, .slice ka1 n1 kc1, .slice va1 m1 vc1, .slice da1 l1 dc1, .int .i64 (innA (innM ks 5 (ks.length + 1))).root, .int .i64 (innA (innM ks 5 (ks.length + 1))).next, .int .i64 (innA (innM ks 5 (ks.length + 1))).size, .int .i64 (innA (innM ks 5 (ks.length + 1))).idle] 25)).alloc (.cells #[.int .i64 (innB (innM ks 5 (ks.length + 1))).kind, .slice ka2 n2 kc2, .slice va2 m2 vc2, .slice da2 l2 dc2, .int .i64 (innB (innM ks 5 (ks.length + 1))).root, .int .i64 (innB (innM ks 5 (ks.length + 1))).next, .int .i64 (innB (innM ks 5 (ks.length + 1))).size, .int .i64 (innB (innM ks 5 (ks.length + 1))).idle] 25)) (pgc (innB (innM ks 5 (ks.length + 1))) (.slice ka2 n2 kc2) (.slice va2 m2 vc2) (.slice da2 l2 dc2)) 25
          rw [show ((w4.alloc (.cells #[.int .i64 (innA (innM ks 5 (ks.length + 1))).kind, .slice ka1 n1 kc1, .slice va1 m1 vc1, .slice da1 l1 dc1, .int .i64 (innA (innM ks 5 (ks.length + 1))).root, .int .i64 (innA (innM ks 5 (ks.length + 1))).next, .int .i64 (innA (innM ks 5 (ks.length + 1))).size, .int .i64 (innA (innM ks 5 (ks.length + 1))).idle] 25)).alloc (.cells #[.int .i64 (innB (innM ks 5 (ks.length + 1))).kind, .slice ka2 n2 kc2, .slice va2 m2 vc2, .slice da2 l2 dc2, .int .i64 (innB (innM ks 5 (ks.length + 1))).root, .int .i64 (innB (innM ks 5 (ks.length + 1))).next, .int .i64 (innB (innM ks 5 (ks.length + 1))).size, .int .i64 (innB (innM ks 5 (ks.length + 1))).idle] 25)).heap.size = w4.heap.size + 1 + 1 by simp] at this
          exact this
        clear hbe hks' B4 P4 Q1 Q2 Y4
        generalize ((w4.alloc (.cells #[.int .i64 (innA (innM ks 5 (ks.length + 1))).kind, .slice ka1 n1 kc1, .slice va1 m1 vc1, .slice da1 l1 dc1, .int .i64 (innA (innM ks 5 (ks.length + 1))).root, .int .i64 (innA (innM ks 5 (ks.length + 1))).next, .int .i64 (innA (innM ks 5 (ks.length + 1))).size, .int .i64 (innA (innM ks 5 (ks.length + 1))).idle] 25)).alloc (.cells #[.int .i64 (innB (innM ks 5 (ks.length + 1))).kind, .slice ka2 n2 kc2, .slice va2 m2 vc2, .slice da2 l2 dc2, .int .i64 (innB (innM ks 5 (ks.length + 1))).root, .int .i64 (innB (innM ks 5 (ks.length + 1))).next, .int .i64 (innB (innM ks 5 (ks.length + 1))).size, .int .i64 (innB (innM ks 5 (ks.length + 1))).idle] 25)).alloc (.cells #[.int .i64 (innB (innM ks 5 (ks.length + 1))).kind, .slice ka2 n2 kc2, .slice va2 m2 vc2, .slice da2 l2 dc2, .int .i64 (innB (innM ks 5 (ks.length + 1))).root, .int .i64 (innB (innM ks 5 (ks.length + 1))).next, .int .i64 (innB (innM ks 5 (ks.length + 1))).size, .int .i64 (innB (innM ks 5 (ks.length + 1))).idle] 25) = W5 at *
        obtain ⟨b11, hb11⟩ : ∃ b, w4.heap.size + 1 + 1 = b := ⟨_, rfl⟩
        rw [hb11] at B11 ⊢
        clear hb11
        obtain ⟨A, M, hA1, hA2, HKA, HKM⟩ := parts_false (n := kn) (k := k) HRI.out HKN.out (by omega) HS.out HKS.out
        have HKA' : Hid _ := HKA
        have HKM' : Hid _ := HKM
        clear HKA HKM
        have G1 : Hid (∀ W, PgAt W (innM ks 5 (ks.length + 1)) (.slice ka kn kc) (.slice va vn vc) (.slice da dn dc) → Calls Try.prog 26 #[pgv (innM ks 5 (ks.length + 1)) (.slice ka kn kc) (.slice va vn vc) (.slice da dn dc), .string k] W fun e w' => e = .returned (.tuple #[.int .i64 (A : Int), .bool (hasB k ks)]) ∧ Below W.heap.size W w') := fun W h => by rw [← hA1]; exact at_any (innM ks 5 (ks.length + 1)) k _ _ _ W h HRI.out (by show ks.length < _; have := HKN.out; omega)
        have G2 : Hid (∀ W, PgAt W (innB (innM ks 5 (ks.length + 1))) (.slice ka2 n2 kc2) (.slice va2 m2 vc2) (.slice da2 l2 dc2) → Calls Try.prog 26 #[pgv (innB (innM ks 5 (ks.length + 1))) (.slice ka2 n2 kc2) (.slice va2 m2 vc2) (.slice da2 l2 dc2), .string k] W fun e w' => e = .returned (.tuple #[.int .i64 (M : Int), .bool (hasB k (innB (innM ks 5 (ks.length + 1))).keys)]) ∧ Below W.heap.size W w') := fun W h => by rw [← hA2]; exact at_any (innB (innM ks 5 (ks.length + 1))) k _ _ _ W h (HRI.out.drop _) (by show (ks.drop _).length < _; simp only [List.length_drop]; have := HKN.out; omega)
        clear hA1 hA2
        generalize hasB k ks = g1 at *
        generalize hasB k (innB (innM ks 5 (ks.length + 1))).keys = g2 at *
        unfold pgv at G1 G2
        obtain ⟨z0, z1, z2, z3, z4, z5, z6, z7⟩ := B5.out.cells
        go_wp2_with fail
        refine (G1.out _ P5.out).mono ?_
        rintro e w6 ⟨rfl, y⟩
        have B6 : Hid (PBox w6 b11 (innB (innM ks 5 (ks.length + 1))) (.slice ka2 n2 kc2) (.slice va2 m2 vc2) (.slice da2 l2 dc2)) := B11.out.below y
        have C6 : Hid (PBox w6 b7 (innM ks 5 (ks.length + 1)) (.slice ka kn kc) (.slice va vn vc) (.slice da dn dc)) := B5.out.below y
        have Q6 : Hid (PgAt w6 (innB (innM ks 5 (ks.length + 1))) (.slice ka2 n2 kc2) (.slice va2 m2 vc2) (.slice da2 l2 dc2)) := Q5.out.below y
        have P6 : Hid (PgAt w6 (innM ks 5 (ks.length + 1)) (.slice ka kn kc) (.slice va vn vc) (.slice da dn dc)) := P5.out.below y
        have Y6 : Hid (Below w.heap.size w w6) := ext_trans Y5.out y
        clear y z0 z1 z2 z3 z4 z5 z6 z7 B5 B11 P5 Q5 Y5 G1
        obtain ⟨z0, z1, z2, z3, z4, z5, z6, z7⟩ := B6.out.cells
        go_wp2_with fail
        refine (G2.out _ Q6.out).mono ?_
        rintro e w8 ⟨rfl, y⟩
        have Y8 : Hid (Below w.heap.size w w8) := ext_trans Y6.out y
        have B8 : Hid (PBox w8 b11 (innB (innM ks 5 (ks.length + 1))) (.slice ka2 n2 kc2) (.slice va2 m2 vc2) (.slice da2 l2 dc2)) := B6.out.below y
        have C8 : Hid (PBox w8 b7 (innM ks 5 (ks.length + 1)) (.slice ka kn kc) (.slice va vn vc) (.slice da dn dc)) := C6.out.below y
        obtain ⟨i0, i1, i2, i3⟩ := (P6.out.below y).kids.at
        obtain ⟨j0, j1, j2, j3⟩ := (Q6.out.below y).kids.at
        obtain ⟨hA, hAv⟩ := List.getElem?_eq_some_iff.1 HKA'.out
        obtain ⟨hM, hMv⟩ := List.getElem?_eq_some_iff.1 HKM'.out
        obtain ⟨dad, hdad⟩ := i3.ad (by rw [iv_length]; omega)
        obtain ⟨sad, hsad⟩ := j3.ad (by rw [iv_length]; omega)
        subst hdad hsad
        have t1 : w8.cell? (dad.add A) = some (.int .i64 (5 + (A : Int))) := by have := i3.num rfl hA; rw [hAv] at this; exact this
        have t2 : w8.cell? (sad.add M) = some (.int .i64 (5 + (A : Int))) := by have := j3.num rfl hM; rw [hMv] at this; exact this
        have hAd : A < dn := by rw [i0, iv_length]; exact hA
        have hMl : M < l2 := by rw [j0, iv_length]; exact hM
        have hdn : dn ≤ 9223372036854775807 := Nat.le_trans (by rw [i0]; exact i1) i2
        have hln : l2 ≤ 9223372036854775807 := Nat.le_trans (by rw [j0]; exact j1) j2
        clear y z0 z1 z2 z3 z4 z5 z6 z7 B6 C6 Q6 P6 Y6 G2 i0 i1 i2 i3 j0 j1 j2 j3 hA hAv hM hMv HKA' HKM'
        obtain ⟨z0, z1, z2, z3, z4, z5, z6, z7⟩ := B8.out.cells
        obtain ⟨x0, x1, x2, x3, x4, x5, x6, x7⟩ := C8.out.cells
        clear z0 z1 z2 z4 z5 z6 z7 x0 x1 x2 x4 x5 x6 x7
        go_upto_region 17 with fail
        refine wp_region_ext (by kernel_rfl) ?_
        haveI nA := cls_ext w8.drew
        have q1 := cellX (W0 := w8.drew) (show w8.drew.cell? ⟨b11, 3, none⟩ = some _ from z3)
        have q2 := cellX (W0 := w8.drew) (show w8.drew.cell? ⟨b7, 3, none⟩ = some _ from x3)
        have q3 := cellX (W0 := w8.drew) (show w8.drew.cell? (dad.add A) = some _ from t1)
        have q4 := cellX (W0 := w8.drew) (show w8.drew.cell? (sad.add M) = some _ from t2)
        refine wpAnyH_seg (by kernel_rfl) (fun _ _ _ h => h) [0, 1, 2, 3, 4, 5, 6, 7, 8, 9, 10, 11] 0 _ _ _ (Ext.refl _) (by kernel_rfl) ?_
        simp only [opsAt, List.getElem?_toArray, List.getElem?_cons_zero, List.getElem?_cons_succ, List.cons_append, List.nil_append]
        repeat (go_big_quiet_step (fail))
        refine wpQuiet_nil ?_
        refine wpAnyH_done (by kernel_rfl) (NoPanic.normal ?_) 0
        clear nA q1 q2 q3 q4 t1 t2 z3 x3
        have Y9 : Hid (Below w.heap.size w w8.drew) := Below.drew Y8.out
        go_wp2
        go_ret
        exact ⟨ret_bool (by simp), Y9.out⟩

theorem walk_NodeParts (pa : Option Addr) (n c : Nat) (l : List ByteArray) (b : Bool) (k : ByteArray) (w : World) (hps : IsStrs w pa n c l) (hsz : ∀ k ∈ l, k.size ≤ 140737488351232) (_wk : k.size ≤ maxLen) :
    Calls Try.prog 14 #[.slice pa n c, .bool b, .string k] w fun e w' => e = .returned (.bool true) ∧ Below w.heap.size w w' := by
  cases b with
  | true => exact walk_NodeParts_inner pa n c l k w hps hsz
  | false => exact walk_NodeParts_leaf pa n c l k w hps hsz
end Go.Proofs.Ytonhgekkdohpkaa
