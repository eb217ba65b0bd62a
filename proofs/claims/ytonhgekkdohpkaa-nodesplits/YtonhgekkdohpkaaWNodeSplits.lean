/- NodeSplits: the walk of the law's Go text. -/
import Derived.Test.YtonhgekkdohpkaaNd9
import Derived.Test.YtonhgekkdohpkaaWNodeParts
set_option linter.unusedSimpArgs false
set_option linter.unusedVariables false
namespace Go.Proofs.Ytonhgekkdohpkaa
open Go.ChangeShapes Go.WideShapes Go.ChangeAt Go.RowKit

set_option maxRecDepth 100000 in
set_option maxHeartbeats 4000000 in
theorem walk_NodeSplits_leaf (pa : Option Addr) (n c : Nat) (l : List ByteArray) (w : World) (hps : IsStrs w pa n c l) (hsz : ∀ k ∈ l, k.size ≤ 140737488351232) :
    Calls Try.prog 11 #[.slice pa n c, .bool false] w fun e w' => e = .returned (.bool true) ∧ Below w.heap.size w w' := by
  have HR : Hid (Rd w (.slice pa n c) (sv l)) := isStrs_rd hps
  have HLN : Hid (l.length = n) := hps.1
  have hnm : n ≤ 9223372036854775807 := Nat.le_trans hps.2.1 hps.2.2.1
  have HZ : Hid (∀ k ∈ l, k.size ≤ 140737488351232) := hsz
  clear hps hsz
  go_enter Try.func11, Try.ntmps11
  go_wp2_with fail
  refine (head7_any _).mono ?_
  rintro e w1 ⟨rfl, y⟩
  have Y1 : Hid (Below w.heap.size w w1) := y
  clear y
  by_cases h20 : 20 < n
  · go_wp2_with fail
    go_ret
    exact ⟨ret_bool rfl, Y1.out⟩
  · go_wp2_with fail
    refine (leaf_any _ l _ (HR.out.below Y1.out) (by have := HLN.out; omega) HZ.out).mono ?_
    rintro e w2 ⟨kv, vv, dv, rfl, ho, y⟩
    obtain ⟨kn, ka, kc, e1⟩ := ho.keys.rd.any
    obtain ⟨vn, va, vc, e2⟩ := ho.vals.rd.any
    obtain ⟨dn, da, dc, e3⟩ := ho.kids.rd.any
    subst e1 e2 e3
    have hkn : (leafM (ksOf l)).keys.length = kn := by have := ho.keys.rd.at.1; rw [sv_length] at this; exact this.symm
    have HKN : Hid ((ksOf l).length = kn) := hkn
    have hk20 : kn ≤ 20 := by have h1 := ksOf_length l; have h2 := HLN.out; have h3 := HKN.out; omega
    have HRI : Hid (RisB (ksOf l)) := ksOf_rising l
    have Y2 : Hid (Below w.heap.size w w2) := ext_trans Y1.out y
    have P2 : Hid (PgAt w2 (leafM (ksOf l)) (.slice ka kn kc) (.slice va vn vc) (.slice da dn dc)) := ho.at
    clear ho y hkn Y1
    generalize ksOf l = ks at *
    have HL := leafM_len ks
    have HLL : Hid _ := HL
    clear HL
    unfold pgv
    by_cases hk2 : kn < 2
    · have HA : Hid (∀ o, Below w.heap.size w (w2.alloc o)) := fun o => Y2.out.alloc Y2.out.size _
      clear P2 HRI
      unfold leafM
      go_wp2_with fail
      go_ret
      exact ⟨ret_bool rfl, HA.out _⟩
    · have B3 : Hid (PBox (w2.alloc (.cells #[.int .i64 (leafM ks).kind, .slice ka kn kc, .slice va vn vc, .slice da dn dc, .int .i64 (leafM ks).root, .int .i64 (leafM ks).next, .int .i64 (leafM ks).size, .int .i64 (leafM ks).idle] 25)) w2.heap.size (leafM ks) (.slice ka kn kc) (.slice va vn vc) (.slice da dn dc)) := Blk.new _ _ _
      have P3 : Hid (PgAt (w2.alloc (.cells #[.int .i64 (leafM ks).kind, .slice ka kn kc, .slice va vn vc, .slice da dn dc, .int .i64 (leafM ks).root, .int .i64 (leafM ks).next, .int .i64 (leafM ks).size, .int .i64 (leafM ks).idle] 25)) (leafM ks) (.slice ka kn kc) (.slice va vn vc) (.slice da dn dc)) := P2.out.below ((Below.refl _ _).alloc (Nat.le_refl _) _)
      have Y3 : Hid (Below w.heap.size w (w2.alloc (.cells #[.int .i64 (leafM ks).kind, .slice ka kn kc, .slice va vn vc, .slice da dn dc, .int .i64 (leafM ks).root, .int .i64 (leafM ks).next, .int .i64 (leafM ks).size, .int .i64 (leafM ks).idle] 25))) := Y2.out.alloc Y2.out.size _
      go_upto_region 10 with fail
      generalize w2.alloc (.cells #[.int .i64 (leafM ks).kind, .slice ka kn kc, .slice va vn vc, .slice da dn dc, .int .i64 (leafM ks).root, .int .i64 (leafM ks).next, .int .i64 (leafM ks).size, .int .i64 (leafM ks).idle] 25) = w3 at *
      obtain ⟨b5, hb5⟩ : ∃ b, w2.heap.size = b := ⟨_, rfl⟩
      rw [hb5] at B3 ⊢
      clear hb5 P2 Y2
      have HCL : Hid (∀ W, PgAt W (leafM ks) (.slice ka kn kc) (.slice va vn vc) (.slice da dn dc) → Calls Try.prog 23 #[.agg #[.int .i64 1, .slice ka kn kc, .slice va vn vc, .slice da dn dc, .int .i64 0, .int .i64 0, .int .i64 0, .int .i64 0]] W fun e w' => ∃ k' v' d', e = .returned (.agg #[.int .i64 1, k', v', d', .int .i64 0, .int .i64 0, .int .i64 0, .int .i64 0]) ∧ PgAt w' (leafM ks) k' v' d' ∧ Below W.heap.size W w') := fun W h => (pclone_any (leafM ks) _ _ _ W h ⟨by have := HKN.out; have := HLL.out; omega, by have := HKN.out; have := HLL.out; omega, by have := HLL.out; omega⟩).mono fun e w' he => by
        obtain ⟨a, b, c, h1, h2, h3⟩ := he
        exact ⟨a, b, c, h1, h2.at, h3⟩
      have HSP : Hid (∀ W, PgAt W (leafM ks) (.slice ka kn kc) (.slice va vn vc) (.slice da dn dc) → Calls Try.prog 33 #[.agg #[.int .i64 1, .slice ka kn kc, .slice va vn vc, .slice da dn dc, .int .i64 0, .int .i64 0, .int .i64 0, .int .i64 0]] W fun e w' => ∃ k1 v1 d1 s k2 v2 d2, e = .returned (.tuple #[.agg #[.int .i64 1, k1, v1, d1, .int .i64 0, .int .i64 0, .int .i64 0, .int .i64 0], .string s, .agg #[.int .i64 1, k2, v2, d2, .int .i64 0, .int .i64 0, .int .i64 0, .int .i64 0]]) ∧ ks[(kn / 2)]? = some s ∧ PgAt w' (leafA (leafM ks)) k1 v1 d1 ∧ PgAt w' (leafB (leafM ks)) k2 v2 d2 ∧ Below W.heap.size W w') := fun W h => (splitL_any (leafM ks) _ _ _ W h rfl (by have := HKN.out; have := HLL.out; omega) (by have := HLL.out; omega) (by have := HKN.out; have := HLL.out; omega) (by have := HKN.out; have := HLL.out; omega) (by have := HLL.out; omega)).mono fun e w' he => by
        obtain ⟨k1, v1, d1, s, k2, v2, d2, h1, h2, h3, h4, _, _, h5⟩ := he
        refine ⟨k1, v1, d1, s, k2, v2, d2, h1, ?_, h3, h4, h5⟩
        rw [← h2]
        show ks[_]? = ks[_]?
        congr 1
        show _ = ks.length / 2; rw [HKN.out]
      have HSM : Hid (∀ W a1 a2 a3 b1 b2 b3, PgAt W (leafM ks) a1 a2 a3 → PgAt W (leafM ks) b1 b2 b3 → Calls Try.prog 22 #[.agg #[.int .i64 1, a1, a2, a3, .int .i64 0, .int .i64 0, .int .i64 0, .int .i64 0], .agg #[.int .i64 1, b1, b2, b3, .int .i64 0, .int .i64 0, .int .i64 0, .int .i64 0]] W fun e w' => e = .returned (.bool true) ∧ Below W.heap.size W w') := fun W a1 a2 a3 b1 b2 b3 h1 h2 => (psame_any (leafM ks) (leafM ks) _ _ _ _ _ _ W h1 h2).mono fun e w' he => by
        rw [(samePg_iff (leafM ks) (leafM ks)).2 rfl] at he
        exact he
      have z0 : w3.cell? ⟨b5, 0, none⟩ = some (.int .i64 1) := B3.out.cells.1
      have z1 : w3.cell? ⟨b5, 1, none⟩ = some (.slice ka kn kc) := B3.out.cells.2.1
      have z2 : w3.cell? ⟨b5, 2, none⟩ = some (.slice va vn vc) := B3.out.cells.2.2.1
      have z3 : w3.cell? ⟨b5, 3, none⟩ = some (.slice da dn dc) := B3.out.cells.2.2.2.1
      have z4 : w3.cell? ⟨b5, 4, none⟩ = some (.int .i64 0) := B3.out.cells.2.2.2.2.1
      have z5 : w3.cell? ⟨b5, 5, none⟩ = some (.int .i64 0) := B3.out.cells.2.2.2.2.2.1
      have z6 : w3.cell? ⟨b5, 6, none⟩ = some (.int .i64 0) := B3.out.cells.2.2.2.2.2.2.1
      have z7 : w3.cell? ⟨b5, 7, none⟩ = some (.int .i64 0) := B3.out.cells.2.2.2.2.2.2.2
      go_wp2_with fail
      refine (HCL.out _ P3.out).mono ?_
      rintro e w4 ⟨kC, vC, dC, rfl, hpC, y⟩
      obtain ⟨knC, kaC, kcC, e1⟩ := hpC.keys.any
      obtain ⟨vnC, vaC, vcC, e2⟩ := hpC.vals.any
      obtain ⟨dnC, daC, dcC, e3⟩ := hpC.kids.any
      subst e1 e2 e3
      have hal : Below w4.heap.size w4 (w4.alloc (.cells #[.int .i64 1, .slice kaC knC kcC, .slice vaC vnC vcC, .slice daC dnC dcC, .int .i64 0, .int .i64 0, .int .i64 0, .int .i64 0] 25)) := (Below.refl _ _).alloc (Nat.le_refl _) _
      have B5 : Hid (PBox (w4.alloc (.cells #[.int .i64 1, .slice kaC knC kcC, .slice vaC vnC vcC, .slice daC dnC dcC, .int .i64 0, .int .i64 0, .int .i64 0, .int .i64 0] 25)) b5 (leafM ks) (.slice ka kn kc) (.slice va vn vc) (.slice da dn dc)) := PBox.below (B3.out.below y) hal
      have P5 : Hid (PgAt (w4.alloc (.cells #[.int .i64 1, .slice kaC knC kcC, .slice vaC vnC vcC, .slice daC dnC dcC, .int .i64 0, .int .i64 0, .int .i64 0, .int .i64 0] 25)) (leafM ks) (.slice ka kn kc) (.slice va vn vc) (.slice da dn dc)) := PgAt.below (P3.out.below y) hal
      have C5 : Hid (PBox (w4.alloc (.cells #[.int .i64 1, .slice kaC knC kcC, .slice vaC vnC vcC, .slice daC dnC dcC, .int .i64 0, .int .i64 0, .int .i64 0, .int .i64 0] 25)) w4.heap.size (leafM ks) (.slice kaC knC kcC) (.slice vaC vnC vcC) (.slice daC dnC dcC)) := Blk.new _ _ _
      have D5 : Hid (PgAt (w4.alloc (.cells #[.int .i64 1, .slice kaC knC kcC, .slice vaC vnC vcC, .slice daC dnC dcC, .int .i64 0, .int .i64 0, .int .i64 0, .int .i64 0] 25)) (leafM ks) (.slice kaC knC kcC) (.slice vaC vnC vcC) (.slice daC dnC dcC)) := hpC.below hal
      have Y5 : Hid (Below w.heap.size w (w4.alloc (.cells #[.int .i64 1, .slice kaC knC kcC, .slice vaC vnC vcC, .slice daC dnC dcC, .int .i64 0, .int .i64 0, .int .i64 0, .int .i64 0] 25))) := ext_trans (ext_trans Y3.out y) hal
      clear hal y hpC z0 z1 z2 z3 z4 z5 z6 z7 B3 P3 Y3 HCL
      go_upto_region 11 with fail
      generalize w4.alloc (.cells #[.int .i64 1, .slice kaC knC kcC, .slice vaC vnC vcC, .slice daC dnC dcC, .int .i64 0, .int .i64 0, .int .i64 0, .int .i64 0] 25) = w5 at *
      obtain ⟨b6, hb6⟩ : ∃ b, w4.heap.size = b := ⟨_, rfl⟩
      rw [hb6] at C5 ⊢
      clear hb6
      have z0 : w5.cell? ⟨b5, 0, none⟩ = some (.int .i64 1) := B5.out.cells.1
      have z1 : w5.cell? ⟨b5, 1, none⟩ = some (.slice ka kn kc) := B5.out.cells.2.1
      have z2 : w5.cell? ⟨b5, 2, none⟩ = some (.slice va vn vc) := B5.out.cells.2.2.1
      have z3 : w5.cell? ⟨b5, 3, none⟩ = some (.slice da dn dc) := B5.out.cells.2.2.2.1
      have z4 : w5.cell? ⟨b5, 4, none⟩ = some (.int .i64 0) := B5.out.cells.2.2.2.2.1
      have z5 : w5.cell? ⟨b5, 5, none⟩ = some (.int .i64 0) := B5.out.cells.2.2.2.2.2.1
      have z6 : w5.cell? ⟨b5, 6, none⟩ = some (.int .i64 0) := B5.out.cells.2.2.2.2.2.2.1
      have z7 : w5.cell? ⟨b5, 7, none⟩ = some (.int .i64 0) := B5.out.cells.2.2.2.2.2.2.2
      go_wp2_with fail
      refine (HSP.out _ P5.out).mono ?_
      rintro e w6 ⟨k1, v1, d1, s, k2, v2, d2, rfl, hs, hp1, hp2, y⟩
      obtain ⟨kn1, ka1, kc1, e1⟩ := hp1.keys.any
      obtain ⟨vn1, va1, vc1, e2⟩ := hp1.vals.any
      obtain ⟨dn1, da1, dc1, e3⟩ := hp1.kids.any
      obtain ⟨kn2, ka2, kc2, e4⟩ := hp2.keys.any
      obtain ⟨vn2, va2, vc2, e5⟩ := hp2.vals.any
      obtain ⟨dn2, da2, dc2, e6⟩ := hp2.kids.any
      subst e1 e2 e3 e4 e5 e6
      have HS : Hid (ks[(kn / 2)]? = some s) := hs
      have hal : Below w6.heap.size w6 ((w6.alloc (.cells #[.int .i64 1, .slice ka1 kn1 kc1, .slice va1 vn1 vc1, .slice da1 dn1 dc1, .int .i64 0, .int .i64 0, .int .i64 0, .int .i64 0] 25)).alloc (.cells #[.int .i64 1, .slice ka2 kn2 kc2, .slice va2 vn2 vc2, .slice da2 dn2 dc2, .int .i64 0, .int .i64 0, .int .i64 0, .int .i64 0] 25)) := ((Below.refl _ _).alloc (Nat.le_refl _) _).alloc (by simp) _
      have B7 : Hid (PBox ((w6.alloc (.cells #[.int .i64 1, .slice ka1 kn1 kc1, .slice va1 vn1 vc1, .slice da1 dn1 dc1, .int .i64 0, .int .i64 0, .int .i64 0, .int .i64 0] 25)).alloc (.cells #[.int .i64 1, .slice ka2 kn2 kc2, .slice va2 vn2 vc2, .slice da2 dn2 dc2, .int .i64 0, .int .i64 0, .int .i64 0, .int .i64 0] 25)) b5 (leafM ks) (.slice ka kn kc) (.slice va vn vc) (.slice da dn dc)) := PBox.below (B5.out.below y) hal
      have P7 : Hid (PgAt ((w6.alloc (.cells #[.int .i64 1, .slice ka1 kn1 kc1, .slice va1 vn1 vc1, .slice da1 dn1 dc1, .int .i64 0, .int .i64 0, .int .i64 0, .int .i64 0] 25)).alloc (.cells #[.int .i64 1, .slice ka2 kn2 kc2, .slice va2 vn2 vc2, .slice da2 dn2 dc2, .int .i64 0, .int .i64 0, .int .i64 0, .int .i64 0] 25)) (leafM ks) (.slice ka kn kc) (.slice va vn vc) (.slice da dn dc)) := PgAt.below (P5.out.below y) hal
      have C7 : Hid (PBox ((w6.alloc (.cells #[.int .i64 1, .slice ka1 kn1 kc1, .slice va1 vn1 vc1, .slice da1 dn1 dc1, .int .i64 0, .int .i64 0, .int .i64 0, .int .i64 0] 25)).alloc (.cells #[.int .i64 1, .slice ka2 kn2 kc2, .slice va2 vn2 vc2, .slice da2 dn2 dc2, .int .i64 0, .int .i64 0, .int .i64 0, .int .i64 0] 25)) b6 (leafM ks) (.slice kaC knC kcC) (.slice vaC vnC vcC) (.slice daC dnC dcC)) := PBox.below (C5.out.below y) hal
      have D7 : Hid (PgAt ((w6.alloc (.cells #[.int .i64 1, .slice ka1 kn1 kc1, .slice va1 vn1 vc1, .slice da1 dn1 dc1, .int .i64 0, .int .i64 0, .int .i64 0, .int .i64 0] 25)).alloc (.cells #[.int .i64 1, .slice ka2 kn2 kc2, .slice va2 vn2 vc2, .slice da2 dn2 dc2, .int .i64 0, .int .i64 0, .int .i64 0, .int .i64 0] 25)) (leafM ks) (.slice kaC knC kcC) (.slice vaC vnC vcC) (.slice daC dnC dcC)) := PgAt.below (D5.out.below y) hal
      have E7 : Hid (PBox ((w6.alloc (.cells #[.int .i64 1, .slice ka1 kn1 kc1, .slice va1 vn1 vc1, .slice da1 dn1 dc1, .int .i64 0, .int .i64 0, .int .i64 0, .int .i64 0] 25)).alloc (.cells #[.int .i64 1, .slice ka2 kn2 kc2, .slice va2 vn2 vc2, .slice da2 dn2 dc2, .int .i64 0, .int .i64 0, .int .i64 0, .int .i64 0] 25)) w6.heap.size (leafA (leafM ks)) (.slice ka1 kn1 kc1) (.slice va1 vn1 vc1) (.slice da1 dn1 dc1)) := (Blk.new _ _ _).alloc _
      have F7 : Hid (PBox ((w6.alloc (.cells #[.int .i64 1, .slice ka1 kn1 kc1, .slice va1 vn1 vc1, .slice da1 dn1 dc1, .int .i64 0, .int .i64 0, .int .i64 0, .int .i64 0] 25)).alloc (.cells #[.int .i64 1, .slice ka2 kn2 kc2, .slice va2 vn2 vc2, .slice da2 dn2 dc2, .int .i64 0, .int .i64 0, .int .i64 0, .int .i64 0] 25)) (w6.heap.size + 1) (leafB (leafM ks)) (.slice ka2 kn2 kc2) (.slice va2 vn2 vc2) (.slice da2 dn2 dc2)) := blk_two _ _ _ _ _
      have Q7 : Hid (PgAt ((w6.alloc (.cells #[.int .i64 1, .slice ka1 kn1 kc1, .slice va1 vn1 vc1, .slice da1 dn1 dc1, .int .i64 0, .int .i64 0, .int .i64 0, .int .i64 0] 25)).alloc (.cells #[.int .i64 1, .slice ka2 kn2 kc2, .slice va2 vn2 vc2, .slice da2 dn2 dc2, .int .i64 0, .int .i64 0, .int .i64 0, .int .i64 0] 25)) (leafA (leafM ks)) (.slice ka1 kn1 kc1) (.slice va1 vn1 vc1) (.slice da1 dn1 dc1)) := hp1.below hal
      have R7 : Hid (PgAt ((w6.alloc (.cells #[.int .i64 1, .slice ka1 kn1 kc1, .slice va1 vn1 vc1, .slice da1 dn1 dc1, .int .i64 0, .int .i64 0, .int .i64 0, .int .i64 0] 25)).alloc (.cells #[.int .i64 1, .slice ka2 kn2 kc2, .slice va2 vn2 vc2, .slice da2 dn2 dc2, .int .i64 0, .int .i64 0, .int .i64 0, .int .i64 0] 25)) (leafB (leafM ks)) (.slice ka2 kn2 kc2) (.slice va2 vn2 vc2) (.slice da2 dn2 dc2)) := hp2.below hal
      have Y7 : Hid (Below w.heap.size w ((w6.alloc (.cells #[.int .i64 1, .slice ka1 kn1 kc1, .slice va1 vn1 vc1, .slice da1 dn1 dc1, .int .i64 0, .int .i64 0, .int .i64 0, .int .i64 0] 25)).alloc (.cells #[.int .i64 1, .slice ka2 kn2 kc2, .slice va2 vn2 vc2, .slice da2 dn2 dc2, .int .i64 0, .int .i64 0, .int .i64 0, .int .i64 0] 25))) := ext_trans (ext_trans Y5.out y) hal
      clear hal y hs hp1 hp2 z0 z1 z2 z3 z4 z5 z6 z7 B5 P5 C5 D5 Y5 HSP
      go_upto_region 12 with fail
      generalize (w6.alloc (.cells #[.int .i64 1, .slice ka1 kn1 kc1, .slice va1 vn1 vc1, .slice da1 dn1 dc1, .int .i64 0, .int .i64 0, .int .i64 0, .int .i64 0] 25)).alloc (.cells #[.int .i64 1, .slice ka2 kn2 kc2, .slice va2 vn2 vc2, .slice da2 dn2 dc2, .int .i64 0, .int .i64 0, .int .i64 0, .int .i64 0] 25) = w7 at *
      obtain ⟨b8, hb8⟩ : ∃ b, w6.heap.size = b := ⟨_, rfl⟩
      rw [hb8] at E7 F7 ⊢
      clear hb8
      obtain ⟨b9, hb9⟩ : ∃ b, b8 + 1 = b := ⟨_, rfl⟩
      rw [hb9] at F7 ⊢
      clear hb9
      have z0 : w7.cell? ⟨b5, 0, none⟩ = some (.int .i64 1) := B7.out.cells.1
      have z1 : w7.cell? ⟨b5, 1, none⟩ = some (.slice ka kn kc) := B7.out.cells.2.1
      have z2 : w7.cell? ⟨b5, 2, none⟩ = some (.slice va vn vc) := B7.out.cells.2.2.1
      have z3 : w7.cell? ⟨b5, 3, none⟩ = some (.slice da dn dc) := B7.out.cells.2.2.2.1
      have z4 : w7.cell? ⟨b5, 4, none⟩ = some (.int .i64 0) := B7.out.cells.2.2.2.2.1
      have z5 : w7.cell? ⟨b5, 5, none⟩ = some (.int .i64 0) := B7.out.cells.2.2.2.2.2.1
      have z6 : w7.cell? ⟨b5, 6, none⟩ = some (.int .i64 0) := B7.out.cells.2.2.2.2.2.2.1
      have z7 : w7.cell? ⟨b5, 7, none⟩ = some (.int .i64 0) := B7.out.cells.2.2.2.2.2.2.2
      have x0 : w7.cell? ⟨b6, 0, none⟩ = some (.int .i64 1) := C7.out.cells.1
      have x1 : w7.cell? ⟨b6, 1, none⟩ = some (.slice kaC knC kcC) := C7.out.cells.2.1
      have x2 : w7.cell? ⟨b6, 2, none⟩ = some (.slice vaC vnC vcC) := C7.out.cells.2.2.1
      have x3 : w7.cell? ⟨b6, 3, none⟩ = some (.slice daC dnC dcC) := C7.out.cells.2.2.2.1
      have x4 : w7.cell? ⟨b6, 4, none⟩ = some (.int .i64 0) := C7.out.cells.2.2.2.2.1
      have x5 : w7.cell? ⟨b6, 5, none⟩ = some (.int .i64 0) := C7.out.cells.2.2.2.2.2.1
      have x6 : w7.cell? ⟨b6, 6, none⟩ = some (.int .i64 0) := C7.out.cells.2.2.2.2.2.2.1
      have x7 : w7.cell? ⟨b6, 7, none⟩ = some (.int .i64 0) := C7.out.cells.2.2.2.2.2.2.2
      go_wp2_with fail
      refine (HSM.out _ _ _ _ _ _ _ P7.out D7.out).mono ?_
      rintro e w8 ⟨rfl, y⟩
      have B8 : Hid (PBox w8 b5 (leafM ks) (.slice ka kn kc) (.slice va vn vc) (.slice da dn dc)) := B7.out.below y
      have P8 : Hid (PgAt w8 (leafM ks) (.slice ka kn kc) (.slice va vn vc) (.slice da dn dc)) := P7.out.below y
      have E8 : Hid (PBox w8 b8 (leafA (leafM ks)) (.slice ka1 kn1 kc1) (.slice va1 vn1 vc1) (.slice da1 dn1 dc1)) := E7.out.below y
      have F8 : Hid (PBox w8 b9 (leafB (leafM ks)) (.slice ka2 kn2 kc2) (.slice va2 vn2 vc2) (.slice da2 dn2 dc2)) := F7.out.below y
      have Q8 : Hid (PgAt w8 (leafA (leafM ks)) (.slice ka1 kn1 kc1) (.slice va1 vn1 vc1) (.slice da1 dn1 dc1)) := Q7.out.below y
      have R8 : Hid (PgAt w8 (leafB (leafM ks)) (.slice ka2 kn2 kc2) (.slice va2 vn2 vc2) (.slice da2 dn2 dc2)) := R7.out.below y
      have Y8 : Hid (Below w.heap.size w w8) := ext_trans Y7.out y
      clear y z0 z1 z2 z3 z4 z5 z6 z7 x0 x1 x2 x3 x4 x5 x6 x7 B7 P7 C7 D7 E7 F7 Q7 R7 Y7
      obtain ⟨hf, hhf, HHF⟩ : ∃ hf : Nat, (kn : Int) / 2 = (hf : Int) ∧ Hid (hf = kn / 2) := ⟨kn / 2, by omega, rfl⟩
      have e1 : kn1 = hf := by
        have := Q8.out.keys.at.1
        rw [this, sv_length]
        show (ks.take (ks.length / 2)).length = _
        rw [List.length_take, HKN.out, HHF.out]
        omega
      have HN2 : Hid (kn2 = kn - hf) := by
        have := R8.out.keys.at.1
        show _ = _
        rw [this, sv_length]
        show (ks.drop (ks.length / 2)).length = _
        rw [List.length_drop, HKN.out, HHF.out]
      subst e1
      have HKS : Hid (ks = ks.take kn1 ++ s :: ks.drop (kn1 + 1)) := by rw [HHF.out]; exact split_at HS.out
      have hkn2 : 0 < kn2 := by have := HN2.out; have := HHF.out; omega
      obtain ⟨bd, hbd⟩ := R8.out.keys.at.2.2.2.ad (by rw [← R8.out.keys.at.1]; exact hkn2)
      subst hbd
      have KB : Hid ((leafB (leafM ks)).keys = s :: ks.drop (kn1 + 1)) := by
        show ks.drop (ks.length / 2) = _
        rw [HKN.out, ← HHF.out]
        obtain ⟨hl', hv⟩ := List.getElem?_eq_some_iff.1 HS.out
        have h2 : kn1 < ks.length := by have := HHF.out; omega
        rw [List.drop_eq_getElem_cons h2]
        congr 1
        rw [← hv]
        congr 1
      have HR1 : Hid (∀ x ∈ (leafA (leafM ks)).keys, ltK x s = true) := fun x hx => (ris_lt (by rw [← HKS.out]; exact HRI.out)).1 x (by rw [HHF.out]; have : x ∈ ks.take (ks.length / 2) := hx; rw [HKN.out] at this; exact this)
      have HR2 : Hid (∀ x ∈ (leafB (leafM ks)).keys, ltK x s = false) := fun x hx => by
        rw [KB.out] at hx
        rcases List.mem_cons.1 hx with rfl | hx
        · exact ltK_irrefl _
        · exact ltK_asymm ((ris_lt (by rw [← HKS.out]; exact HRI.out)).2 x hx)
      have hc0 : w8.cell? bd = some (.string s) := by
        have h1 : 0 < (leafB (leafM ks)).keys.length := by rw [KB.out]; simp
        have := R8.out.keys.at.2.2.2.str (ss := (leafB (leafM ks)).keys) rfl h1
        have h2 : (leafB (leafM ks)).keys[0] = s := by simp only [KB.out]; rfl
        rw [h2] at this
        simpa [Addr.add] using this
      have hkn1 : kn1 ≤ 20 := by have := HHF.out; omega
      have hkn2' : kn2 ≤ 20 := by have := HN2.out; omega
      have HJ : Hid (joinL (leafA (leafM ks)) (leafB (leafM ks)) = (leafM ks)) := by
        show joinL _ _ = _
        simp [joinL, leafA, leafB, leafM]
      have HLA : Hid ((leafA (leafM ks)).keys.length ≤ 1000 ∧ (leafA (leafM ks)).vals.length ≤ 1000 ∧ (leafA (leafM ks)).kids.length ≤ 1000) := by
        have h := HKN.out
        refine ⟨?_, ?_, ?_⟩
        · show (ks.take _).length ≤ 1000
          rw [List.length_take]; omega
        · show ((ks.map vk).take _).length ≤ 1000; rw [List.length_take, List.length_map]; omega
        · show 0 ≤ 1000; omega
      have HLB : Hid ((leafB (leafM ks)).keys.length ≤ 1000 ∧ (leafB (leafM ks)).vals.length ≤ 1000 ∧ (leafB (leafM ks)).kids.length ≤ 1000) := by
        have h := HKN.out
        refine ⟨?_, ?_, ?_⟩
        · show (ks.drop _).length ≤ 1000
          rw [List.length_drop]; omega
        · show ((ks.map vk).drop _).length ≤ 1000; rw [List.length_drop, List.length_map]; omega
        · show 0 ≤ 1000; omega
      have HJN : Hid (∀ W, PgAt W (leafA (leafM ks)) (.slice ka1 kn1 kc1) (.slice va1 vn1 vc1) (.slice da1 dn1 dc1) → PgAt W (leafB (leafM ks)) (.slice (some bd) kn2 kc2) (.slice va2 vn2 vc2) (.slice da2 dn2 dc2) → Calls Try.prog 34 #[.agg #[.int .i64 1, .slice ka1 kn1 kc1, .slice va1 vn1 vc1, .slice da1 dn1 dc1, .int .i64 0, .int .i64 0, .int .i64 0, .int .i64 0], .string s, .agg #[.int .i64 1, .slice (some bd) kn2 kc2, .slice va2 vn2 vc2, .slice da2 dn2 dc2, .int .i64 0, .int .i64 0, .int .i64 0, .int .i64 0]] W fun e w' => ∃ k3 v3 d3, e = .returned (.agg #[.int .i64 1, k3, v3, d3, .int .i64 0, .int .i64 0, .int .i64 0, .int .i64 0]) ∧ PgAt w' (leafM ks) k3 v3 d3 ∧ Below W.heap.size W w') := fun W h1 h2 => (joinL_any (leafA (leafM ks)) (leafB (leafM ks)) s _ _ _ _ _ _ W h1 h2 rfl HLA.out HLB.out).mono fun e w' he => by
        obtain ⟨a, b, c, h3, h4, h5⟩ := he
        rw [HJ.out] at h3 h4
        exact ⟨a, b, c, h3, h4, h5⟩
      have z0 : w8.cell? ⟨b5, 0, none⟩ = some (.int .i64 1) := B8.out.cells.1
      have z1 : w8.cell? ⟨b5, 1, none⟩ = some (.slice ka kn kc) := B8.out.cells.2.1
      have z2 : w8.cell? ⟨b5, 2, none⟩ = some (.slice va vn vc) := B8.out.cells.2.2.1
      have z3 : w8.cell? ⟨b5, 3, none⟩ = some (.slice da dn dc) := B8.out.cells.2.2.2.1
      have z4 : w8.cell? ⟨b5, 4, none⟩ = some (.int .i64 0) := B8.out.cells.2.2.2.2.1
      have z5 : w8.cell? ⟨b5, 5, none⟩ = some (.int .i64 0) := B8.out.cells.2.2.2.2.2.1
      have z6 : w8.cell? ⟨b5, 6, none⟩ = some (.int .i64 0) := B8.out.cells.2.2.2.2.2.2.1
      have z7 : w8.cell? ⟨b5, 7, none⟩ = some (.int .i64 0) := B8.out.cells.2.2.2.2.2.2.2
      have x0 : w8.cell? ⟨b8, 0, none⟩ = some (.int .i64 1) := E8.out.cells.1
      have x1 : w8.cell? ⟨b8, 1, none⟩ = some (.slice ka1 kn1 kc1) := E8.out.cells.2.1
      have x2 : w8.cell? ⟨b8, 2, none⟩ = some (.slice va1 vn1 vc1) := E8.out.cells.2.2.1
      have x3 : w8.cell? ⟨b8, 3, none⟩ = some (.slice da1 dn1 dc1) := E8.out.cells.2.2.2.1
      have x4 : w8.cell? ⟨b8, 4, none⟩ = some (.int .i64 0) := E8.out.cells.2.2.2.2.1
      have x5 : w8.cell? ⟨b8, 5, none⟩ = some (.int .i64 0) := E8.out.cells.2.2.2.2.2.1
      have x6 : w8.cell? ⟨b8, 6, none⟩ = some (.int .i64 0) := E8.out.cells.2.2.2.2.2.2.1
      have x7 : w8.cell? ⟨b8, 7, none⟩ = some (.int .i64 0) := E8.out.cells.2.2.2.2.2.2.2
      have y0 : w8.cell? ⟨b9, 0, none⟩ = some (.int .i64 1) := F8.out.cells.1
      have y1 : w8.cell? ⟨b9, 1, none⟩ = some (.slice (some bd) kn2 kc2) := F8.out.cells.2.1
      have y2 : w8.cell? ⟨b9, 2, none⟩ = some (.slice va2 vn2 vc2) := F8.out.cells.2.2.1
      have y3 : w8.cell? ⟨b9, 3, none⟩ = some (.slice da2 dn2 dc2) := F8.out.cells.2.2.2.1
      have y4 : w8.cell? ⟨b9, 4, none⟩ = some (.int .i64 0) := F8.out.cells.2.2.2.2.1
      have y5 : w8.cell? ⟨b9, 5, none⟩ = some (.int .i64 0) := F8.out.cells.2.2.2.2.2.1
      have y6 : w8.cell? ⟨b9, 6, none⟩ = some (.int .i64 0) := F8.out.cells.2.2.2.2.2.2.1
      have y7 : w8.cell? ⟨b9, 7, none⟩ = some (.int .i64 0) := F8.out.cells.2.2.2.2.2.2.2
      go_wp2
      clear z0 z1 z2 z3 z4 z5 z6 z7 x0 x1 x2 x3 x4 x5 x6 x7
      go_loopw [125] (fun vj wr => ∃ j : Nat, vj = .int .i64 (j : Int) ∧ j ≤ kn1 ∧ w8 = wr) (fun vj _ => kn1 - (intOf vj).toNat)
      case atStart => exact ⟨0, rfl, Nat.zero_le _, rfl⟩
      case round =>
        obtain ⟨j, rfl, hj, hw⟩ := hrel
        subst hw
        by_cases hjn : j < kn1
        · obtain ⟨r0, r1, r2, r3⟩ := Q8.out.keys.at
          have hjk : j < (leafA (leafM ks)).keys.length := by rw [sv_length] at r0; omega
          obtain ⟨ad, had⟩ := r3.ad (by rw [sv_length]; omega)
          subst had
          have q1 : w8.cell? (ad.add j) = some (.string (leafA (leafM ks)).keys[j]) := r3.str rfl hjk
          have hlt : Op.bytesLess (leafA (leafM ks)).keys[j].toList s.toList = true := HR1.out _ (List.getElem_mem hjk)
          clear r0 r1 r2 r3 y0 y1 y2 y3 y4 y5 y6 y7
          generalize (leafA (leafM ks)).keys[j] = x at *
          go_wp2
          go_roundw
          case rel => exact ⟨j + 1, by go_num, hjn, trivial⟩
          case measure => simp [intOf]; omega
        · go_wp2
          clear y0 y1 y2 y3 y4 y5 y6 y7
          go_loopw [136] (fun vj wr => ∃ i : Nat, vj = .int .i64 (i : Int) ∧ i ≤ kn2 ∧ w8 = wr) (fun vj _ => kn2 - (intOf vj).toNat)
          case atStart => exact ⟨0, rfl, Nat.zero_le _, rfl⟩
          case round =>
            obtain ⟨i, rfl, hi, hw⟩ := hrel
            subst hw
            by_cases hin : i < kn2
            · obtain ⟨r0, r1, r2, r3⟩ := R8.out.keys.at
              have hik : i < (leafB (leafM ks)).keys.length := by rw [sv_length] at r0; omega
              skip
              skip
              have q1 : w8.cell? (bd.add i) = some (.string (leafB (leafM ks)).keys[i]) := r3.str rfl hik
              have hlt : Op.bytesLess (leafB (leafM ks)).keys[i].toList s.toList = false := HR2.out _ (List.getElem_mem hik)
              skip
              clear r0 r1 r2 r3
              generalize (leafB (leafM ks)).keys[i] = x at *
              go_wp2
              go_roundw
              case rel => exact ⟨i + 1, by go_num, hin, trivial⟩
              case measure => simp [intOf]; omega
            · have x0 : w8.cell? ⟨b8, 0, none⟩ = some (.int .i64 1) := E8.out.cells.1
              have x1 : w8.cell? ⟨b8, 1, none⟩ = some (.slice ka1 kn1 kc1) := E8.out.cells.2.1
              have x2 : w8.cell? ⟨b8, 2, none⟩ = some (.slice va1 vn1 vc1) := E8.out.cells.2.2.1
              have x3 : w8.cell? ⟨b8, 3, none⟩ = some (.slice da1 dn1 dc1) := E8.out.cells.2.2.2.1
              have x4 : w8.cell? ⟨b8, 4, none⟩ = some (.int .i64 0) := E8.out.cells.2.2.2.2.1
              have x5 : w8.cell? ⟨b8, 5, none⟩ = some (.int .i64 0) := E8.out.cells.2.2.2.2.2.1
              have x6 : w8.cell? ⟨b8, 6, none⟩ = some (.int .i64 0) := E8.out.cells.2.2.2.2.2.2.1
              have x7 : w8.cell? ⟨b8, 7, none⟩ = some (.int .i64 0) := E8.out.cells.2.2.2.2.2.2.2
              have y0 : w8.cell? ⟨b9, 0, none⟩ = some (.int .i64 1) := F8.out.cells.1
              have y1 : w8.cell? ⟨b9, 1, none⟩ = some (.slice (some bd) kn2 kc2) := F8.out.cells.2.1
              have y2 : w8.cell? ⟨b9, 2, none⟩ = some (.slice va2 vn2 vc2) := F8.out.cells.2.2.1
              have y3 : w8.cell? ⟨b9, 3, none⟩ = some (.slice da2 dn2 dc2) := F8.out.cells.2.2.2.1
              have y4 : w8.cell? ⟨b9, 4, none⟩ = some (.int .i64 0) := F8.out.cells.2.2.2.2.1
              have y5 : w8.cell? ⟨b9, 5, none⟩ = some (.int .i64 0) := F8.out.cells.2.2.2.2.2.1
              have y6 : w8.cell? ⟨b9, 6, none⟩ = some (.int .i64 0) := F8.out.cells.2.2.2.2.2.2.1
              have y7 : w8.cell? ⟨b9, 7, none⟩ = some (.int .i64 0) := F8.out.cells.2.2.2.2.2.2.2
              go_wp2_with fail
              refine (HJN.out _ Q8.out R8.out).mono ?_
              rintro e w9 ⟨k3, v3, d3, rfl, hp3, y⟩
              obtain ⟨kn3, ka3, kc3, e1⟩ := hp3.keys.any
              obtain ⟨vn3, va3, vc3, e2⟩ := hp3.vals.any
              obtain ⟨dn3, da3, dc3, e3⟩ := hp3.kids.any
              subst e1 e2 e3
              have hal : Below w9.heap.size w9 (w9.alloc (.cells #[.int .i64 1, .slice ka3 kn3 kc3, .slice va3 vn3 vc3, .slice da3 dn3 dc3, .int .i64 0, .int .i64 0, .int .i64 0, .int .i64 0] 25)) := (Below.refl _ _).alloc (Nat.le_refl _) _
              have BA : Hid (PBox (w9.alloc (.cells #[.int .i64 1, .slice ka3 kn3 kc3, .slice va3 vn3 vc3, .slice da3 dn3 dc3, .int .i64 0, .int .i64 0, .int .i64 0, .int .i64 0] 25)) b5 (leafM ks) (.slice ka kn kc) (.slice va vn vc) (.slice da dn dc)) := PBox.below (B8.out.below y) hal
              have PA : Hid (PgAt (w9.alloc (.cells #[.int .i64 1, .slice ka3 kn3 kc3, .slice va3 vn3 vc3, .slice da3 dn3 dc3, .int .i64 0, .int .i64 0, .int .i64 0, .int .i64 0] 25)) (leafM ks) (.slice ka kn kc) (.slice va vn vc) (.slice da dn dc)) := PgAt.below (P8.out.below y) hal
              have EA : Hid (PBox (w9.alloc (.cells #[.int .i64 1, .slice ka3 kn3 kc3, .slice va3 vn3 vc3, .slice da3 dn3 dc3, .int .i64 0, .int .i64 0, .int .i64 0, .int .i64 0] 25)) b8 (leafA (leafM ks)) (.slice ka1 kn1 kc1) (.slice va1 vn1 vc1) (.slice da1 dn1 dc1)) := PBox.below (E8.out.below y) hal
              have FA : Hid (PBox (w9.alloc (.cells #[.int .i64 1, .slice ka3 kn3 kc3, .slice va3 vn3 vc3, .slice da3 dn3 dc3, .int .i64 0, .int .i64 0, .int .i64 0, .int .i64 0] 25)) b9 (leafB (leafM ks)) (.slice (some bd) kn2 kc2) (.slice va2 vn2 vc2) (.slice da2 dn2 dc2)) := PBox.below (F8.out.below y) hal
              have GA : Hid (PBox (w9.alloc (.cells #[.int .i64 1, .slice ka3 kn3 kc3, .slice va3 vn3 vc3, .slice da3 dn3 dc3, .int .i64 0, .int .i64 0, .int .i64 0, .int .i64 0] 25)) w9.heap.size (leafM ks) (.slice ka3 kn3 kc3) (.slice va3 vn3 vc3) (.slice da3 dn3 dc3)) := Blk.new _ _ _
              have QA : Hid (PgAt (w9.alloc (.cells #[.int .i64 1, .slice ka3 kn3 kc3, .slice va3 vn3 vc3, .slice da3 dn3 dc3, .int .i64 0, .int .i64 0, .int .i64 0, .int .i64 0] 25)) (leafM ks) (.slice ka3 kn3 kc3) (.slice va3 vn3 vc3) (.slice da3 dn3 dc3)) := hp3.below hal
              have YA : Hid (Below w.heap.size w (w9.alloc (.cells #[.int .i64 1, .slice ka3 kn3 kc3, .slice va3 vn3 vc3, .slice da3 dn3 dc3, .int .i64 0, .int .i64 0, .int .i64 0, .int .i64 0] 25))) := ext_trans (ext_trans Y8.out y) hal
              have V1 : Hid (vn1 = (leafA (leafM ks)).vals.length ∧ dn1 = (leafA (leafM ks)).kids.length ∧ kn1 = (leafA (leafM ks)).keys.length) := by
                have h1 := Q8.out.vals.at.1
                have h2 := Q8.out.kids.at.1
                have h3 := Q8.out.keys.at.1
                rw [sv_length] at h1 h3
                rw [iv_length] at h2
                exact ⟨h1, h2, h3⟩
              have V2 : Hid (vn2 = (leafB (leafM ks)).vals.length ∧ dn2 = (leafB (leafM ks)).kids.length ∧ kn2 = (leafB (leafM ks)).keys.length) := by
                have h1 := R8.out.vals.at.1
                have h2 := R8.out.kids.at.1
                have h3 := R8.out.keys.at.1
                rw [sv_length] at h1 h3
                rw [iv_length] at h2
                exact ⟨h1, h2, h3⟩
              clear hal y hp3 x0 x1 x2 x3 x4 x5 x6 x7 y0 y1 y2 y3 y4 y5 y6 y7 B8 P8 E8 F8 Q8 R8 Y8 HJN
              go_upto_region 29 with fail
              generalize w9.alloc (.cells #[.int .i64 1, .slice ka3 kn3 kc3, .slice va3 vn3 vc3, .slice da3 dn3 dc3, .int .i64 0, .int .i64 0, .int .i64 0, .int .i64 0] 25) = wA at *
              obtain ⟨b14, hb14⟩ : ∃ b, w9.heap.size = b := ⟨_, rfl⟩
              rw [hb14] at GA ⊢
              clear hb14
              by_cases hfull : kn = 7
              · have hz : kn1 = 3 ∧ kn2 = 4 := by
                  have h1 := HHF.out; have h2 := HN2.out; omega
                have HZZ : Hid _ := hz
                have UA : Hid (∀ W, Calls Try.prog 31 #[.agg #[.int .i64 1, .slice ka1 kn1 kc1, .slice va1 vn1 vc1, .slice da1 dn1 dc1, .int .i64 0, .int .i64 0, .int .i64 0, .int .i64 0]] W fun e w' => e = .returned (.bool false) ∧ Below W.heap.size W w') := fun W => by
                  obtain ⟨g1, g2, g3⟩ := V1.out
                  have h := under_any (leafA (leafM ks)) ka1 kc1 va1 vc1 da1 dc1 W
                  rw [← g1, ← g2, ← g3] at h
                  have e : underP (leafA (leafM ks)) = false := by
                    unfold underP
                    rw [if_pos (show (leafA (leafM ks)).kind = 1 from rfl), ← g3]
                    simp only [decide_eq_false_iff_not]
                    omega
                  rw [e] at h
                  exact h
                have UB : Hid (∀ W, Calls Try.prog 31 #[.agg #[.int .i64 1, .slice (some bd) kn2 kc2, .slice va2 vn2 vc2, .slice da2 dn2 dc2, .int .i64 0, .int .i64 0, .int .i64 0, .int .i64 0]] W fun e w' => e = .returned (.bool false) ∧ Below W.heap.size W w') := fun W => by
                  obtain ⟨g1, g2, g3⟩ := V2.out
                  have h := under_any (leafB (leafM ks)) (some bd) kc2 va2 vc2 da2 dc2 W
                  rw [← g1, ← g2, ← g3] at h
                  have e : underP (leafB (leafM ks)) = false := by
                    unfold underP
                    rw [if_pos (show (leafB (leafM ks)).kind = 1 from rfl), ← g3]
                    simp only [decide_eq_false_iff_not]
                    omega
                  rw [e] at h
                  exact h
                have OA : Hid (∀ W, Calls Try.prog 30 #[.agg #[.int .i64 1, .slice ka1 kn1 kc1, .slice va1 vn1 vc1, .slice da1 dn1 dc1, .int .i64 0, .int .i64 0, .int .i64 0, .int .i64 0]] W fun e w' => e = .returned (.bool false) ∧ Below W.heap.size W w') := fun W => by
                  obtain ⟨g1, g2, g3⟩ := V1.out
                  have h := over_any (leafA (leafM ks)) ka1 kc1 va1 vc1 da1 dc1 W
                  rw [← g1, ← g2, ← g3] at h
                  have e : overP (leafA (leafM ks)) = false := by
                    unfold overP
                    rw [if_pos (show (leafA (leafM ks)).kind = 1 from rfl), ← g3]
                    simp only [decide_eq_false_iff_not]
                    omega
                  rw [e] at h
                  exact h
                have OB : Hid (∀ W, Calls Try.prog 30 #[.agg #[.int .i64 1, .slice (some bd) kn2 kc2, .slice va2 vn2 vc2, .slice da2 dn2 dc2, .int .i64 0, .int .i64 0, .int .i64 0, .int .i64 0]] W fun e w' => e = .returned (.bool false) ∧ Below W.heap.size W w') := fun W => by
                  obtain ⟨g1, g2, g3⟩ := V2.out
                  have h := over_any (leafB (leafM ks)) (some bd) kc2 va2 vc2 da2 dc2 W
                  rw [← g1, ← g2, ← g3] at h
                  have e : overP (leafB (leafM ks)) = false := by
                    unfold overP
                    rw [if_pos (show (leafB (leafM ks)).kind = 1 from rfl), ← g3]
                    simp only [decide_eq_false_iff_not]
                    omega
                  rw [e] at h
                  exact h
                clear hz
                have hfz : (kn : Int) = 7 := by omega
                clear hfull
                have z0 : wA.cell? ⟨b5, 0, none⟩ = some (.int .i64 1) := BA.out.cells.1
                have z1 : wA.cell? ⟨b5, 1, none⟩ = some (.slice ka kn kc) := BA.out.cells.2.1
                have z2 : wA.cell? ⟨b5, 2, none⟩ = some (.slice va vn vc) := BA.out.cells.2.2.1
                have z3 : wA.cell? ⟨b5, 3, none⟩ = some (.slice da dn dc) := BA.out.cells.2.2.2.1
                have z4 : wA.cell? ⟨b5, 4, none⟩ = some (.int .i64 0) := BA.out.cells.2.2.2.2.1
                have z5 : wA.cell? ⟨b5, 5, none⟩ = some (.int .i64 0) := BA.out.cells.2.2.2.2.2.1
                have z6 : wA.cell? ⟨b5, 6, none⟩ = some (.int .i64 0) := BA.out.cells.2.2.2.2.2.2.1
                have z7 : wA.cell? ⟨b5, 7, none⟩ = some (.int .i64 0) := BA.out.cells.2.2.2.2.2.2.2
                have x0 : wA.cell? ⟨b14, 0, none⟩ = some (.int .i64 1) := GA.out.cells.1
                have x1 : wA.cell? ⟨b14, 1, none⟩ = some (.slice ka3 kn3 kc3) := GA.out.cells.2.1
                have x2 : wA.cell? ⟨b14, 2, none⟩ = some (.slice va3 vn3 vc3) := GA.out.cells.2.2.1
                have x3 : wA.cell? ⟨b14, 3, none⟩ = some (.slice da3 dn3 dc3) := GA.out.cells.2.2.2.1
                have x4 : wA.cell? ⟨b14, 4, none⟩ = some (.int .i64 0) := GA.out.cells.2.2.2.2.1
                have x5 : wA.cell? ⟨b14, 5, none⟩ = some (.int .i64 0) := GA.out.cells.2.2.2.2.2.1
                have x6 : wA.cell? ⟨b14, 6, none⟩ = some (.int .i64 0) := GA.out.cells.2.2.2.2.2.2.1
                have x7 : wA.cell? ⟨b14, 7, none⟩ = some (.int .i64 0) := GA.out.cells.2.2.2.2.2.2.2
                go_wp2_with fail
                refine (HSM.out _ _ _ _ _ _ _ QA.out PA.out).mono ?_
                rintro e wB ⟨rfl, y⟩
                have EB : Hid (PBox wB b8 (leafA (leafM ks)) (.slice ka1 kn1 kc1) (.slice va1 vn1 vc1) (.slice da1 dn1 dc1)) := EA.out.below y
                have FB : Hid (PBox wB b9 (leafB (leafM ks)) (.slice (some bd) kn2 kc2) (.slice va2 vn2 vc2) (.slice da2 dn2 dc2)) := FA.out.below y
                have YB : Hid (Below w.heap.size w wB) := ext_trans YA.out y
                clear y z0 z1 z2 z3 z4 z5 z6 z7 x0 x1 x2 x3 x4 x5 x6 x7 BA PA EA FA GA QA YA
                have z0 : wB.cell? ⟨b8, 0, none⟩ = some (.int .i64 1) := EB.out.cells.1
                have z1 : wB.cell? ⟨b8, 1, none⟩ = some (.slice ka1 kn1 kc1) := EB.out.cells.2.1
                have z2 : wB.cell? ⟨b8, 2, none⟩ = some (.slice va1 vn1 vc1) := EB.out.cells.2.2.1
                have z3 : wB.cell? ⟨b8, 3, none⟩ = some (.slice da1 dn1 dc1) := EB.out.cells.2.2.2.1
                have z4 : wB.cell? ⟨b8, 4, none⟩ = some (.int .i64 0) := EB.out.cells.2.2.2.2.1
                have z5 : wB.cell? ⟨b8, 5, none⟩ = some (.int .i64 0) := EB.out.cells.2.2.2.2.2.1
                have z6 : wB.cell? ⟨b8, 6, none⟩ = some (.int .i64 0) := EB.out.cells.2.2.2.2.2.2.1
                have z7 : wB.cell? ⟨b8, 7, none⟩ = some (.int .i64 0) := EB.out.cells.2.2.2.2.2.2.2
                go_wp2_with fail
                refine (UA.out _).mono ?_
                rintro e wC ⟨rfl, y⟩
                have EC : Hid (PBox wC b8 (leafA (leafM ks)) (.slice ka1 kn1 kc1) (.slice va1 vn1 vc1) (.slice da1 dn1 dc1)) := EB.out.below y
                have FC : Hid (PBox wC b9 (leafB (leafM ks)) (.slice (some bd) kn2 kc2) (.slice va2 vn2 vc2) (.slice da2 dn2 dc2)) := FB.out.below y
                have YC : Hid (Below w.heap.size w wC) := ext_trans YB.out y
                clear y z0 z1 z2 z3 z4 z5 z6 z7 EB FB YB
                have z0 : wC.cell? ⟨b9, 0, none⟩ = some (.int .i64 1) := FC.out.cells.1
                have z1 : wC.cell? ⟨b9, 1, none⟩ = some (.slice (some bd) kn2 kc2) := FC.out.cells.2.1
                have z2 : wC.cell? ⟨b9, 2, none⟩ = some (.slice va2 vn2 vc2) := FC.out.cells.2.2.1
                have z3 : wC.cell? ⟨b9, 3, none⟩ = some (.slice da2 dn2 dc2) := FC.out.cells.2.2.2.1
                have z4 : wC.cell? ⟨b9, 4, none⟩ = some (.int .i64 0) := FC.out.cells.2.2.2.2.1
                have z5 : wC.cell? ⟨b9, 5, none⟩ = some (.int .i64 0) := FC.out.cells.2.2.2.2.2.1
                have z6 : wC.cell? ⟨b9, 6, none⟩ = some (.int .i64 0) := FC.out.cells.2.2.2.2.2.2.1
                have z7 : wC.cell? ⟨b9, 7, none⟩ = some (.int .i64 0) := FC.out.cells.2.2.2.2.2.2.2
                go_wp2_with fail
                refine (UB.out _).mono ?_
                rintro e wD ⟨rfl, y⟩
                have ED : Hid (PBox wD b8 (leafA (leafM ks)) (.slice ka1 kn1 kc1) (.slice va1 vn1 vc1) (.slice da1 dn1 dc1)) := EC.out.below y
                have FD : Hid (PBox wD b9 (leafB (leafM ks)) (.slice (some bd) kn2 kc2) (.slice va2 vn2 vc2) (.slice da2 dn2 dc2)) := FC.out.below y
                have YD : Hid (Below w.heap.size w wD) := ext_trans YC.out y
                clear y z0 z1 z2 z3 z4 z5 z6 z7 EC FC YC
                have z0 : wD.cell? ⟨b8, 0, none⟩ = some (.int .i64 1) := ED.out.cells.1
                have z1 : wD.cell? ⟨b8, 1, none⟩ = some (.slice ka1 kn1 kc1) := ED.out.cells.2.1
                have z2 : wD.cell? ⟨b8, 2, none⟩ = some (.slice va1 vn1 vc1) := ED.out.cells.2.2.1
                have z3 : wD.cell? ⟨b8, 3, none⟩ = some (.slice da1 dn1 dc1) := ED.out.cells.2.2.2.1
                have z4 : wD.cell? ⟨b8, 4, none⟩ = some (.int .i64 0) := ED.out.cells.2.2.2.2.1
                have z5 : wD.cell? ⟨b8, 5, none⟩ = some (.int .i64 0) := ED.out.cells.2.2.2.2.2.1
                have z6 : wD.cell? ⟨b8, 6, none⟩ = some (.int .i64 0) := ED.out.cells.2.2.2.2.2.2.1
                have z7 : wD.cell? ⟨b8, 7, none⟩ = some (.int .i64 0) := ED.out.cells.2.2.2.2.2.2.2
                go_wp2_with fail
                refine (OA.out _).mono ?_
                rintro e wE ⟨rfl, y⟩
                have FE : Hid (PBox wE b9 (leafB (leafM ks)) (.slice (some bd) kn2 kc2) (.slice va2 vn2 vc2) (.slice da2 dn2 dc2)) := FD.out.below y
                have YE : Hid (Below w.heap.size w wE) := ext_trans YD.out y
                clear y z0 z1 z2 z3 z4 z5 z6 z7 ED FD YD
                have z0 : wE.cell? ⟨b9, 0, none⟩ = some (.int .i64 1) := FE.out.cells.1
                have z1 : wE.cell? ⟨b9, 1, none⟩ = some (.slice (some bd) kn2 kc2) := FE.out.cells.2.1
                have z2 : wE.cell? ⟨b9, 2, none⟩ = some (.slice va2 vn2 vc2) := FE.out.cells.2.2.1
                have z3 : wE.cell? ⟨b9, 3, none⟩ = some (.slice da2 dn2 dc2) := FE.out.cells.2.2.2.1
                have z4 : wE.cell? ⟨b9, 4, none⟩ = some (.int .i64 0) := FE.out.cells.2.2.2.2.1
                have z5 : wE.cell? ⟨b9, 5, none⟩ = some (.int .i64 0) := FE.out.cells.2.2.2.2.2.1
                have z6 : wE.cell? ⟨b9, 6, none⟩ = some (.int .i64 0) := FE.out.cells.2.2.2.2.2.2.1
                have z7 : wE.cell? ⟨b9, 7, none⟩ = some (.int .i64 0) := FE.out.cells.2.2.2.2.2.2.2
                go_wp2_with fail
                refine (OB.out _).mono ?_
                rintro e wF ⟨rfl, y⟩
                have YF : Hid (Below w.heap.size w wF) := ext_trans YE.out y
                clear y z0 z1 z2 z3 z4 z5 z6 z7 FE YE
                go_wp2
                go_ret
                exact ⟨ret_bool rfl, YF.out⟩
              · have hfz : ¬ (kn : Int) = 7 := by omega
                clear hfull
                have z0 : wA.cell? ⟨b5, 0, none⟩ = some (.int .i64 1) := BA.out.cells.1
                have z1 : wA.cell? ⟨b5, 1, none⟩ = some (.slice ka kn kc) := BA.out.cells.2.1
                have z2 : wA.cell? ⟨b5, 2, none⟩ = some (.slice va vn vc) := BA.out.cells.2.2.1
                have z3 : wA.cell? ⟨b5, 3, none⟩ = some (.slice da dn dc) := BA.out.cells.2.2.2.1
                have z4 : wA.cell? ⟨b5, 4, none⟩ = some (.int .i64 0) := BA.out.cells.2.2.2.2.1
                have z5 : wA.cell? ⟨b5, 5, none⟩ = some (.int .i64 0) := BA.out.cells.2.2.2.2.2.1
                have z6 : wA.cell? ⟨b5, 6, none⟩ = some (.int .i64 0) := BA.out.cells.2.2.2.2.2.2.1
                have z7 : wA.cell? ⟨b5, 7, none⟩ = some (.int .i64 0) := BA.out.cells.2.2.2.2.2.2.2
                have x0 : wA.cell? ⟨b14, 0, none⟩ = some (.int .i64 1) := GA.out.cells.1
                have x1 : wA.cell? ⟨b14, 1, none⟩ = some (.slice ka3 kn3 kc3) := GA.out.cells.2.1
                have x2 : wA.cell? ⟨b14, 2, none⟩ = some (.slice va3 vn3 vc3) := GA.out.cells.2.2.1
                have x3 : wA.cell? ⟨b14, 3, none⟩ = some (.slice da3 dn3 dc3) := GA.out.cells.2.2.2.1
                have x4 : wA.cell? ⟨b14, 4, none⟩ = some (.int .i64 0) := GA.out.cells.2.2.2.2.1
                have x5 : wA.cell? ⟨b14, 5, none⟩ = some (.int .i64 0) := GA.out.cells.2.2.2.2.2.1
                have x6 : wA.cell? ⟨b14, 6, none⟩ = some (.int .i64 0) := GA.out.cells.2.2.2.2.2.2.1
                have x7 : wA.cell? ⟨b14, 7, none⟩ = some (.int .i64 0) := GA.out.cells.2.2.2.2.2.2.2
                go_wp2_with fail
                refine (HSM.out _ _ _ _ _ _ _ QA.out PA.out).mono ?_
                rintro e wB ⟨rfl, y⟩
                have YB : Hid (Below w.heap.size w wB) := ext_trans YA.out y
                clear y z0 z1 z2 z3 z4 z5 z6 z7 x0 x1 x2 x3 x4 x5 x6 x7 BA PA EA FA GA QA YA
                go_wp2
                go_ret
                exact ⟨ret_bool rfl, YB.out⟩

set_option maxRecDepth 100000 in
set_option maxHeartbeats 4000000 in
theorem walk_NodeSplits_inner (pa : Option Addr) (n c : Nat) (l : List ByteArray) (w : World) (hps : IsStrs w pa n c l) (hsz : ∀ k ∈ l, k.size ≤ 140737488351232) :
    Calls Try.prog 11 #[.slice pa n c, .bool true] w fun e w' => e = .returned (.bool true) ∧ Below w.heap.size w w' := by
  have HR : Hid (Rd w (.slice pa n c) (sv l)) := isStrs_rd hps
  have HLN : Hid (l.length = n) := hps.1
  have hnm : n ≤ 9223372036854775807 := Nat.le_trans hps.2.1 hps.2.2.1
  have HZ : Hid (∀ k ∈ l, k.size ≤ 140737488351232) := hsz
  clear hps hsz
  go_enter Try.func11, Try.ntmps11
  go_wp2_with fail
  refine (head7_any _).mono ?_
  rintro e w1 ⟨rfl, y⟩
  have Y1 : Hid (Below w.heap.size w w1) := y
  clear y
  by_cases h20 : 20 < n
  · go_wp2_with fail
    go_ret
    exact ⟨ret_bool rfl, Y1.out⟩
  · go_wp2_with fail
    refine (leaf_any _ l _ (HR.out.below Y1.out) (by have := HLN.out; omega) HZ.out).mono ?_
    rintro e w2 ⟨kv, vv, dv, rfl, ho, y⟩
    obtain ⟨kn0, ka0, kc0, e1⟩ := ho.keys.rd.any
    obtain ⟨vn0, va0, vc0, e2⟩ := ho.vals.rd.any
    obtain ⟨dn0, da0, dc0, e3⟩ := ho.kids.rd.any
    subst e1 e2 e3
    have Y2 : Hid (Below w.heap.size w (w2.alloc (.cells (pgc (leafM (ksOf l)) (.slice ka0 kn0 kc0) (.slice va0 vn0 vc0) (.slice da0 dn0 dc0)) 25))) := (ext_trans Y1.out y).alloc (ext_trans Y1.out y).size _
    have B2 : Hid (PBox (w2.alloc (.cells (pgc (leafM (ksOf l)) (.slice ka0 kn0 kc0) (.slice va0 vn0 vc0) (.slice da0 dn0 dc0)) 25)) w2.heap.size (leafM (ksOf l)) (.slice ka0 kn0 kc0) (.slice va0 vn0 vc0) (.slice da0 dn0 dc0)) := Blk.new _ _ _
    have HW2 : Hid (w.heap.size ≤ w2.heap.size) := (ext_trans Y1.out y).size
    clear ho y Y1
    unfold pgc at Y2 B2
    unfold pgv
    go_upto_region 7 with fail
    generalize w2.alloc (.cells #[.int .i64 (leafM (ksOf l)).kind, .slice ka0 kn0 kc0, .slice va0 vn0 vc0, .slice da0 dn0 dc0, .int .i64 (leafM (ksOf l)).root, .int .i64 (leafM (ksOf l)).next, .int .i64 (leafM (ksOf l)).size, .int .i64 (leafM (ksOf l)).idle] 25) = wq at *
    obtain ⟨b7, hb7⟩ : ∃ b, w2.heap.size = b := ⟨_, rfl⟩
    rw [hb7] at B2 HW2 ⊢
    clear hb7
    have HIC : Hid (Calls Try.prog 32 #[.slice pa n c, .int .i64 5] wq _) := inner_any _ l 5 wq (HR.out.below Y2.out) (by have := HLN.out; omega) HZ.out (by omega)
    go_wp2_with fail
    refine HIC.out.mono ?_
    rintro e w3 ⟨kv, vv, dv, rfl, ho, y⟩
    obtain ⟨kn, ka, kc, e1⟩ := ho.keys.rd.any
    obtain ⟨vn, va, vc, e2⟩ := ho.vals.rd.any
    obtain ⟨dn, da, dc, e3⟩ := ho.kids.rd.any
    subst e1 e2 e3
    have HKN : Hid ((ksOf l).length = kn) := by have := ho.keys.rd.at.1; rw [sv_length] at this; exact this.symm
    have HDN : Hid ((ksOf l).length + 1 = dn) := by have := ho.kids.rd.at.1; rw [iv_length] at this; show _ = _; rw [this]; exact (kidsM_length _ _).symm
    have hdk : dn = kn + 1 := by have := HKN.out; have := HDN.out; omega
    have hk20 : kn ≤ 20 := by have h1 := ksOf_length l; have h2 := HLN.out; have h3 := HKN.out; omega
    have HRI : Hid (RisB (ksOf l)) := ksOf_rising l
    have hb7 : b7 < wq.heap.size := Blk.lt B2.out
    have B3 : Hid (PBox w3 b7 (leafM (ksOf l)) (.slice ka0 kn0 kc0) (.slice va0 vn0 vc0) (.slice da0 dn0 dc0)) := B2.out.below y
    have P3 : Hid (PgO w3 wq.heap.size (innM (ksOf l) 5 ((ksOf l).length + 1)) (.slice ka kn kc) (.slice va vn vc) (.slice da dn dc)) := ho
    have Y3 : Hid (Below w.heap.size w w3) := ext_trans Y2.out y
    have HDK : Hid (dn = kn + 1) := hdk
    have hd20 : dn ≤ 21 := by omega
    clear ho y Y2 B2 HIC hdk
    generalize ksOf l = ks at *
    have B4 : Hid (PBox (put8 w3 b7 (.int .i64 (innM ks 5 (ks.length + 1)).kind) (.slice ka kn kc) (.slice va vn vc) (.slice da dn dc) (.int .i64 (innM ks 5 (ks.length + 1)).root) (.int .i64 (innM ks 5 (ks.length + 1)).next) (.int .i64 (innM ks 5 (ks.length + 1)).size) (.int .i64 (innM ks 5 (ks.length + 1)).idle)) b7 (innM ks 5 (ks.length + 1)) (.slice ka kn kc) (.slice va vn vc) (.slice da dn dc)) := blk_set8 _ _ _ _ _ _ _ _ B3.out
    have P4 : Hid (PgAt (put8 w3 b7 (.int .i64 (innM ks 5 (ks.length + 1)).kind) (.slice ka kn kc) (.slice va vn vc) (.slice da dn dc) (.int .i64 (innM ks 5 (ks.length + 1)).root) (.int .i64 (innM ks 5 (ks.length + 1)).next) (.int .i64 (innM ks 5 (ks.length + 1)).size) (.int .i64 (innM ks 5 (ks.length + 1)).idle)) (innM ks 5 (ks.length + 1)) (.slice ka kn kc) (.slice va vn vc) (.slice da dn dc)) := (P3.out.keep P3.out.inP (fun g a _ => put8_other _ _ _ _ _ _ _ _ _ _ _ (by omega))).at
    have Y4 : Hid (Below w.heap.size w (put8 w3 b7 (.int .i64 (innM ks 5 (ks.length + 1)).kind) (.slice ka kn kc) (.slice va vn vc) (.slice da dn dc) (.int .i64 (innM ks 5 (ks.length + 1)).root) (.int .i64 (innM ks 5 (ks.length + 1)).next) (.int .i64 (innM ks 5 (ks.length + 1)).size) (.int .i64 (innM ks 5 (ks.length + 1)).idle))) := put8_below Y3.out HW2.out _ _ _ _ _ _ _ _
    have c0 := B3.out.cells.1
    have c1 := B3.out.cells.2.1
    have c2 := B3.out.cells.2.2.1
    have c3 := B3.out.cells.2.2.2.1
    have c4 := B3.out.cells.2.2.2.2.1
    have c5 := B3.out.cells.2.2.2.2.2.1
    have c6 := B3.out.cells.2.2.2.2.2.2.1
    have c7 := B3.out.cells.2.2.2.2.2.2.2
    have g0 := B3.out.frozen 0
    have g1 := B3.out.frozen 1
    have g2 := B3.out.frozen 2
    have g3 := B3.out.frozen 3
    have g4 := B3.out.frozen 4
    have g5 := B3.out.frozen 5
    have g6 := B3.out.frozen 6
    have g7 := B3.out.frozen 7
    unfold pgv
    go_upto_region 8 with fail
    have hgo : ∀ (Q : World → Prop), Q (put8 w3 b7 (.int .i64 (innM ks 5 (ks.length + 1)).kind) (.slice ka kn kc) (.slice va vn vc) (.slice da dn dc) (.int .i64 (innM ks 5 (ks.length + 1)).root) (.int .i64 (innM ks 5 (ks.length + 1)).next) (.int .i64 (innM ks 5 (ks.length + 1)).size) (.int .i64 (innM ks 5 (ks.length + 1)).idle)) → Q ((((((((w3.setCell ⟨b7, 0, none⟩ (.int .i64 (innM ks 5 (ks.length + 1)).kind)).setCell ⟨b7, 1, none⟩ (.slice ka kn kc)).setCell ⟨b7, 2, none⟩ (.slice va vn vc)).setCell ⟨b7, 3, none⟩ (.slice da dn dc)).setCell ⟨b7, 4, none⟩ (.int .i64 (innM ks 5 (ks.length + 1)).root)).setCell ⟨b7, 5, none⟩ (.int .i64 (innM ks 5 (ks.length + 1)).next)).setCell ⟨b7, 6, none⟩ (.int .i64 (innM ks 5 (ks.length + 1)).size)).setCell ⟨b7, 7, none⟩ (.int .i64 (innM ks 5 (ks.length + 1)).idle)) := fun Q h => h
    refine hgo _ ?_
    clear hgo c0 c1 c2 c3 c4 c5 c6 c7 g0 g1 g2 g3 g4 g5 g6 g7 B3 P3 Y3
    generalize put8 w3 b7 (.int .i64 (innM ks 5 (ks.length + 1)).kind) (.slice ka kn kc) (.slice va vn vc) (.slice da dn dc) (.int .i64 (innM ks 5 (ks.length + 1)).root) (.int .i64 (innM ks 5 (ks.length + 1)).next) (.int .i64 (innM ks 5 (ks.length + 1)).size) (.int .i64 (innM ks 5 (ks.length + 1)).idle) = wp at *
    obtain ⟨z0, z1, z2, z3, z4, z5, z6, z7⟩ := B4.out.cells
    by_cases hd4 : dn < 4
    · go_wp2_with fail
      go_ret
      exact ⟨ret_bool rfl, Y4.out⟩
    · skip
      have hk3 : 3 ≤ kn := by have := HDK.out; omega
      clear z0 z1 z2 z3 z4 z5 z6 z7
      have HCL : Hid (∀ W, PgAt W (innM ks 5 (ks.length + 1)) (.slice ka kn kc) (.slice va vn vc) (.slice da dn dc) → Calls Try.prog 23 #[.agg #[.int .i64 2, .slice ka kn kc, .slice va vn vc, .slice da dn dc, .int .i64 0, .int .i64 0, .int .i64 0, .int .i64 0]] W fun e w' => ∃ k' v' d', e = .returned (.agg #[.int .i64 2, k', v', d', .int .i64 0, .int .i64 0, .int .i64 0, .int .i64 0]) ∧ PgAt w' (innM ks 5 (ks.length + 1)) k' v' d' ∧ Below W.heap.size W w') := fun W h => (pclone_any (innM ks 5 (ks.length + 1)) _ _ _ W h ⟨by show ks.length < _; have := HKN.out; omega, by show 0 < _; omega, by show (kidsM 5 (ks.length + 1)).length < _; rw [kidsM_length]; have := HKN.out; omega⟩).mono fun e w' he => by
        obtain ⟨a, b, c, h1, h2, h3⟩ := he
        exact ⟨a, b, c, h1, h2.at, h3⟩
      have HSP : Hid (∀ W, PgAt W (innM ks 5 (ks.length + 1)) (.slice ka kn kc) (.slice va vn vc) (.slice da dn dc) → Calls Try.prog 33 #[.agg #[.int .i64 2, .slice ka kn kc, .slice va vn vc, .slice da dn dc, .int .i64 0, .int .i64 0, .int .i64 0, .int .i64 0]] W fun e w' => ∃ k1 v1 d1 s k2 v2 d2, e = .returned (.tuple #[.agg #[.int .i64 2, k1, v1, d1, .int .i64 0, .int .i64 0, .int .i64 0, .int .i64 0], .string s, .agg #[.int .i64 2, k2, v2, d2, .int .i64 0, .int .i64 0, .int .i64 0, .int .i64 0]]) ∧ ks[((kn + 1) / 2 - 1)]? = some s ∧ PgAt w' (innA (innM ks 5 (ks.length + 1))) k1 v1 d1 ∧ PgAt w' (innB (innM ks 5 (ks.length + 1))) k2 v2 d2 ∧ Below W.heap.size W w') := fun W h => (splitI_any (innM ks 5 (ks.length + 1)) _ _ _ W h rfl (by show 3 < (kidsM 5 (ks.length + 1)).length; rw [kidsM_length]; have := HKN.out; omega) (by show (kidsM 5 (ks.length + 1)).length = ks.length + 1; rw [kidsM_length]) (by show ks.length ≤ 1000; have := HKN.out; omega) (by show 0 ≤ 1000; omega) (by show (kidsM 5 (ks.length + 1)).length ≤ 1000; rw [kidsM_length]; have := HKN.out; omega)).mono fun e w' he => by
        obtain ⟨k1, v1, d1, s, k2, v2, d2, h1, h2, h3, h4, _, _, h5⟩ := he
        refine ⟨k1, v1, d1, s, k2, v2, d2, h1, ?_, h3, h4, h5⟩
        rw [← h2]
        show ks[_]? = ks[_]?
        congr 1
        show _ = (kidsM 5 (ks.length + 1)).length / 2 - 1; rw [kidsM_length, HKN.out]
      have HSM : Hid (∀ W a1 a2 a3 b1 b2 b3, PgAt W (innM ks 5 (ks.length + 1)) a1 a2 a3 → PgAt W (innM ks 5 (ks.length + 1)) b1 b2 b3 → Calls Try.prog 22 #[.agg #[.int .i64 2, a1, a2, a3, .int .i64 0, .int .i64 0, .int .i64 0, .int .i64 0], .agg #[.int .i64 2, b1, b2, b3, .int .i64 0, .int .i64 0, .int .i64 0, .int .i64 0]] W fun e w' => e = .returned (.bool true) ∧ Below W.heap.size W w') := fun W a1 a2 a3 b1 b2 b3 h1 h2 => (psame_any (innM ks 5 (ks.length + 1)) (innM ks 5 (ks.length + 1)) _ _ _ _ _ _ W h1 h2).mono fun e w' he => by
        rw [(samePg_iff (innM ks 5 (ks.length + 1)) (innM ks 5 (ks.length + 1))).2 rfl] at he
        exact he
      have z0 : wp.cell? ⟨b7, 0, none⟩ = some (.int .i64 2) := B4.out.cells.1
      have z1 : wp.cell? ⟨b7, 1, none⟩ = some (.slice ka kn kc) := B4.out.cells.2.1
      have z2 : wp.cell? ⟨b7, 2, none⟩ = some (.slice va vn vc) := B4.out.cells.2.2.1
      have z3 : wp.cell? ⟨b7, 3, none⟩ = some (.slice da dn dc) := B4.out.cells.2.2.2.1
      have z4 : wp.cell? ⟨b7, 4, none⟩ = some (.int .i64 0) := B4.out.cells.2.2.2.2.1
      have z5 : wp.cell? ⟨b7, 5, none⟩ = some (.int .i64 0) := B4.out.cells.2.2.2.2.2.1
      have z6 : wp.cell? ⟨b7, 6, none⟩ = some (.int .i64 0) := B4.out.cells.2.2.2.2.2.2.1
      have z7 : wp.cell? ⟨b7, 7, none⟩ = some (.int .i64 0) := B4.out.cells.2.2.2.2.2.2.2
      go_wp2_with fail
      refine (HCL.out _ P4.out).mono ?_
      rintro e w4 ⟨kC, vC, dC, rfl, hpC, y⟩
      obtain ⟨knC, kaC, kcC, e1⟩ := hpC.keys.any
      obtain ⟨vnC, vaC, vcC, e2⟩ := hpC.vals.any
      obtain ⟨dnC, daC, dcC, e3⟩ := hpC.kids.any
      subst e1 e2 e3
      have hal : Below w4.heap.size w4 (w4.alloc (.cells #[.int .i64 2, .slice kaC knC kcC, .slice vaC vnC vcC, .slice daC dnC dcC, .int .i64 0, .int .i64 0, .int .i64 0, .int .i64 0] 25)) := (Below.refl _ _).alloc (Nat.le_refl _) _
      have B5 : Hid (PBox (w4.alloc (.cells #[.int .i64 2, .slice kaC knC kcC, .slice vaC vnC vcC, .slice daC dnC dcC, .int .i64 0, .int .i64 0, .int .i64 0, .int .i64 0] 25)) b7 (innM ks 5 (ks.length + 1)) (.slice ka kn kc) (.slice va vn vc) (.slice da dn dc)) := PBox.below (B4.out.below y) hal
      have P5 : Hid (PgAt (w4.alloc (.cells #[.int .i64 2, .slice kaC knC kcC, .slice vaC vnC vcC, .slice daC dnC dcC, .int .i64 0, .int .i64 0, .int .i64 0, .int .i64 0] 25)) (innM ks 5 (ks.length + 1)) (.slice ka kn kc) (.slice va vn vc) (.slice da dn dc)) := PgAt.below (P4.out.below y) hal
      have C5 : Hid (PBox (w4.alloc (.cells #[.int .i64 2, .slice kaC knC kcC, .slice vaC vnC vcC, .slice daC dnC dcC, .int .i64 0, .int .i64 0, .int .i64 0, .int .i64 0] 25)) w4.heap.size (innM ks 5 (ks.length + 1)) (.slice kaC knC kcC) (.slice vaC vnC vcC) (.slice daC dnC dcC)) := Blk.new _ _ _
      have D5 : Hid (PgAt (w4.alloc (.cells #[.int .i64 2, .slice kaC knC kcC, .slice vaC vnC vcC, .slice daC dnC dcC, .int .i64 0, .int .i64 0, .int .i64 0, .int .i64 0] 25)) (innM ks 5 (ks.length + 1)) (.slice kaC knC kcC) (.slice vaC vnC vcC) (.slice daC dnC dcC)) := hpC.below hal
      have Y5 : Hid (Below w.heap.size w (w4.alloc (.cells #[.int .i64 2, .slice kaC knC kcC, .slice vaC vnC vcC, .slice daC dnC dcC, .int .i64 0, .int .i64 0, .int .i64 0, .int .i64 0] 25))) := ext_trans (ext_trans Y4.out y) hal
      clear hal y hpC z0 z1 z2 z3 z4 z5 z6 z7 B4 P4 Y4 HCL
      go_upto_region 11 with fail
      generalize w4.alloc (.cells #[.int .i64 2, .slice kaC knC kcC, .slice vaC vnC vcC, .slice daC dnC dcC, .int .i64 0, .int .i64 0, .int .i64 0, .int .i64 0] 25) = w5 at *
      obtain ⟨b6, hb6⟩ : ∃ b, w4.heap.size = b := ⟨_, rfl⟩
      rw [hb6] at C5 ⊢
      clear hb6
      have z0 : w5.cell? ⟨b7, 0, none⟩ = some (.int .i64 2) := B5.out.cells.1
      have z1 : w5.cell? ⟨b7, 1, none⟩ = some (.slice ka kn kc) := B5.out.cells.2.1
      have z2 : w5.cell? ⟨b7, 2, none⟩ = some (.slice va vn vc) := B5.out.cells.2.2.1
      have z3 : w5.cell? ⟨b7, 3, none⟩ = some (.slice da dn dc) := B5.out.cells.2.2.2.1
      have z4 : w5.cell? ⟨b7, 4, none⟩ = some (.int .i64 0) := B5.out.cells.2.2.2.2.1
      have z5 : w5.cell? ⟨b7, 5, none⟩ = some (.int .i64 0) := B5.out.cells.2.2.2.2.2.1
      have z6 : w5.cell? ⟨b7, 6, none⟩ = some (.int .i64 0) := B5.out.cells.2.2.2.2.2.2.1
      have z7 : w5.cell? ⟨b7, 7, none⟩ = some (.int .i64 0) := B5.out.cells.2.2.2.2.2.2.2
      go_wp2_with fail
      refine (HSP.out _ P5.out).mono ?_
      rintro e w6 ⟨k1, v1, d1, s, k2, v2, d2, rfl, hs, hp1, hp2, y⟩
      obtain ⟨kn1, ka1, kc1, e1⟩ := hp1.keys.any
      obtain ⟨vn1, va1, vc1, e2⟩ := hp1.vals.any
      obtain ⟨dn1, da1, dc1, e3⟩ := hp1.kids.any
      obtain ⟨kn2, ka2, kc2, e4⟩ := hp2.keys.any
      obtain ⟨vn2, va2, vc2, e5⟩ := hp2.vals.any
      obtain ⟨dn2, da2, dc2, e6⟩ := hp2.kids.any
      subst e1 e2 e3 e4 e5 e6
      have HS : Hid (ks[((kn + 1) / 2 - 1)]? = some s) := hs
      have hal : Below w6.heap.size w6 ((w6.alloc (.cells #[.int .i64 2, .slice ka1 kn1 kc1, .slice va1 vn1 vc1, .slice da1 dn1 dc1, .int .i64 0, .int .i64 0, .int .i64 0, .int .i64 0] 25)).alloc (.cells #[.int .i64 2, .slice ka2 kn2 kc2, .slice va2 vn2 vc2, .slice da2 dn2 dc2, .int .i64 0, .int .i64 0, .int .i64 0, .int .i64 0] 25)) := ((Below.refl _ _).alloc (Nat.le_refl _) _).alloc (by simp) _
      have B7 : Hid (PBox ((w6.alloc (.cells #[.int .i64 2, .slice ka1 kn1 kc1, .slice va1 vn1 vc1, .slice da1 dn1 dc1, .int .i64 0, .int .i64 0, .int .i64 0, .int .i64 0] 25)).alloc (.cells #[.int .i64 2, .slice ka2 kn2 kc2, .slice va2 vn2 vc2, .slice da2 dn2 dc2, .int .i64 0, .int .i64 0, .int .i64 0, .int .i64 0] 25)) b7 (innM ks 5 (ks.length + 1)) (.slice ka kn kc) (.slice va vn vc) (.slice da dn dc)) := PBox.below (B5.out.below y) hal
      have P7 : Hid (PgAt ((w6.alloc (.cells #[.int .i64 2, .slice ka1 kn1 kc1, .slice va1 vn1 vc1, .slice da1 dn1 dc1, .int .i64 0, .int .i64 0, .int .i64 0, .int .i64 0] 25)).alloc (.cells #[.int .i64 2, .slice ka2 kn2 kc2, .slice va2 vn2 vc2, .slice da2 dn2 dc2, .int .i64 0, .int .i64 0, .int .i64 0, .int .i64 0] 25)) (innM ks 5 (ks.length + 1)) (.slice ka kn kc) (.slice va vn vc) (.slice da dn dc)) := PgAt.below (P5.out.below y) hal
      have C7 : Hid (PBox ((w6.alloc (.cells #[.int .i64 2, .slice ka1 kn1 kc1, .slice va1 vn1 vc1, .slice da1 dn1 dc1, .int .i64 0, .int .i64 0, .int .i64 0, .int .i64 0] 25)).alloc (.cells #[.int .i64 2, .slice ka2 kn2 kc2, .slice va2 vn2 vc2, .slice da2 dn2 dc2, .int .i64 0, .int .i64 0, .int .i64 0, .int .i64 0] 25)) b6 (innM ks 5 (ks.length + 1)) (.slice kaC knC kcC) (.slice vaC vnC vcC) (.slice daC dnC dcC)) := PBox.below (C5.out.below y) hal
      have D7 : Hid (PgAt ((w6.alloc (.cells #[.int .i64 2, .slice ka1 kn1 kc1, .slice va1 vn1 vc1, .slice da1 dn1 dc1, .int .i64 0, .int .i64 0, .int .i64 0, .int .i64 0] 25)).alloc (.cells #[.int .i64 2, .slice ka2 kn2 kc2, .slice va2 vn2 vc2, .slice da2 dn2 dc2, .int .i64 0, .int .i64 0, .int .i64 0, .int .i64 0] 25)) (innM ks 5 (ks.length + 1)) (.slice kaC knC kcC) (.slice vaC vnC vcC) (.slice daC dnC dcC)) := PgAt.below (D5.out.below y) hal
      have E7 : Hid (PBox ((w6.alloc (.cells #[.int .i64 2, .slice ka1 kn1 kc1, .slice va1 vn1 vc1, .slice da1 dn1 dc1, .int .i64 0, .int .i64 0, .int .i64 0, .int .i64 0] 25)).alloc (.cells #[.int .i64 2, .slice ka2 kn2 kc2, .slice va2 vn2 vc2, .slice da2 dn2 dc2, .int .i64 0, .int .i64 0, .int .i64 0, .int .i64 0] 25)) w6.heap.size (innA (innM ks 5 (ks.length + 1))) (.slice ka1 kn1 kc1) (.slice va1 vn1 vc1) (.slice da1 dn1 dc1)) := (Blk.new _ _ _).alloc _
      have F7 : Hid (PBox ((w6.alloc (.cells #[.int .i64 2, .slice ka1 kn1 kc1, .slice va1 vn1 vc1, .slice da1 dn1 dc1, .int .i64 0, .int .i64 0, .int .i64 0, .int .i64 0] 25)).alloc (.cells #[.int .i64 2, .slice ka2 kn2 kc2, .slice va2 vn2 vc2, .slice da2 dn2 dc2, .int .i64 0, .int .i64 0, .int .i64 0, .int .i64 0] 25)) (w6.heap.size + 1) (innB (innM ks 5 (ks.length + 1))) (.slice ka2 kn2 kc2) (.slice va2 vn2 vc2) (.slice da2 dn2 dc2)) := blk_two _ _ _ _ _
      have Q7 : Hid (PgAt ((w6.alloc (.cells #[.int .i64 2, .slice ka1 kn1 kc1, .slice va1 vn1 vc1, .slice da1 dn1 dc1, .int .i64 0, .int .i64 0, .int .i64 0, .int .i64 0] 25)).alloc (.cells #[.int .i64 2, .slice ka2 kn2 kc2, .slice va2 vn2 vc2, .slice da2 dn2 dc2, .int .i64 0, .int .i64 0, .int .i64 0, .int .i64 0] 25)) (innA (innM ks 5 (ks.length + 1))) (.slice ka1 kn1 kc1) (.slice va1 vn1 vc1) (.slice da1 dn1 dc1)) := hp1.below hal
      have R7 : Hid (PgAt ((w6.alloc (.cells #[.int .i64 2, .slice ka1 kn1 kc1, .slice va1 vn1 vc1, .slice da1 dn1 dc1, .int .i64 0, .int .i64 0, .int .i64 0, .int .i64 0] 25)).alloc (.cells #[.int .i64 2, .slice ka2 kn2 kc2, .slice va2 vn2 vc2, .slice da2 dn2 dc2, .int .i64 0, .int .i64 0, .int .i64 0, .int .i64 0] 25)) (innB (innM ks 5 (ks.length + 1))) (.slice ka2 kn2 kc2) (.slice va2 vn2 vc2) (.slice da2 dn2 dc2)) := hp2.below hal
      have Y7 : Hid (Below w.heap.size w ((w6.alloc (.cells #[.int .i64 2, .slice ka1 kn1 kc1, .slice va1 vn1 vc1, .slice da1 dn1 dc1, .int .i64 0, .int .i64 0, .int .i64 0, .int .i64 0] 25)).alloc (.cells #[.int .i64 2, .slice ka2 kn2 kc2, .slice va2 vn2 vc2, .slice da2 dn2 dc2, .int .i64 0, .int .i64 0, .int .i64 0, .int .i64 0] 25))) := ext_trans (ext_trans Y5.out y) hal
      clear hal y hs hp1 hp2 z0 z1 z2 z3 z4 z5 z6 z7 B5 P5 C5 D5 Y5 HSP
      go_upto_region 12 with fail
      generalize (w6.alloc (.cells #[.int .i64 2, .slice ka1 kn1 kc1, .slice va1 vn1 vc1, .slice da1 dn1 dc1, .int .i64 0, .int .i64 0, .int .i64 0, .int .i64 0] 25)).alloc (.cells #[.int .i64 2, .slice ka2 kn2 kc2, .slice va2 vn2 vc2, .slice da2 dn2 dc2, .int .i64 0, .int .i64 0, .int .i64 0, .int .i64 0] 25) = w7 at *
      obtain ⟨b8, hb8⟩ : ∃ b, w6.heap.size = b := ⟨_, rfl⟩
      rw [hb8] at E7 F7 ⊢
      clear hb8
      obtain ⟨b9, hb9⟩ : ∃ b, b8 + 1 = b := ⟨_, rfl⟩
      rw [hb9] at F7 ⊢
      clear hb9
      have z0 : w7.cell? ⟨b7, 0, none⟩ = some (.int .i64 2) := B7.out.cells.1
      have z1 : w7.cell? ⟨b7, 1, none⟩ = some (.slice ka kn kc) := B7.out.cells.2.1
      have z2 : w7.cell? ⟨b7, 2, none⟩ = some (.slice va vn vc) := B7.out.cells.2.2.1
      have z3 : w7.cell? ⟨b7, 3, none⟩ = some (.slice da dn dc) := B7.out.cells.2.2.2.1
      have z4 : w7.cell? ⟨b7, 4, none⟩ = some (.int .i64 0) := B7.out.cells.2.2.2.2.1
      have z5 : w7.cell? ⟨b7, 5, none⟩ = some (.int .i64 0) := B7.out.cells.2.2.2.2.2.1
      have z6 : w7.cell? ⟨b7, 6, none⟩ = some (.int .i64 0) := B7.out.cells.2.2.2.2.2.2.1
      have z7 : w7.cell? ⟨b7, 7, none⟩ = some (.int .i64 0) := B7.out.cells.2.2.2.2.2.2.2
      have x0 : w7.cell? ⟨b6, 0, none⟩ = some (.int .i64 2) := C7.out.cells.1
      have x1 : w7.cell? ⟨b6, 1, none⟩ = some (.slice kaC knC kcC) := C7.out.cells.2.1
      have x2 : w7.cell? ⟨b6, 2, none⟩ = some (.slice vaC vnC vcC) := C7.out.cells.2.2.1
      have x3 : w7.cell? ⟨b6, 3, none⟩ = some (.slice daC dnC dcC) := C7.out.cells.2.2.2.1
      have x4 : w7.cell? ⟨b6, 4, none⟩ = some (.int .i64 0) := C7.out.cells.2.2.2.2.1
      have x5 : w7.cell? ⟨b6, 5, none⟩ = some (.int .i64 0) := C7.out.cells.2.2.2.2.2.1
      have x6 : w7.cell? ⟨b6, 6, none⟩ = some (.int .i64 0) := C7.out.cells.2.2.2.2.2.2.1
      have x7 : w7.cell? ⟨b6, 7, none⟩ = some (.int .i64 0) := C7.out.cells.2.2.2.2.2.2.2
      go_wp2_with fail
      refine (HSM.out _ _ _ _ _ _ _ P7.out D7.out).mono ?_
      rintro e w8 ⟨rfl, y⟩
      have B8 : Hid (PBox w8 b7 (innM ks 5 (ks.length + 1)) (.slice ka kn kc) (.slice va vn vc) (.slice da dn dc)) := B7.out.below y
      have P8 : Hid (PgAt w8 (innM ks 5 (ks.length + 1)) (.slice ka kn kc) (.slice va vn vc) (.slice da dn dc)) := P7.out.below y
      have E8 : Hid (PBox w8 b8 (innA (innM ks 5 (ks.length + 1))) (.slice ka1 kn1 kc1) (.slice va1 vn1 vc1) (.slice da1 dn1 dc1)) := E7.out.below y
      have F8 : Hid (PBox w8 b9 (innB (innM ks 5 (ks.length + 1))) (.slice ka2 kn2 kc2) (.slice va2 vn2 vc2) (.slice da2 dn2 dc2)) := F7.out.below y
      have Q8 : Hid (PgAt w8 (innA (innM ks 5 (ks.length + 1))) (.slice ka1 kn1 kc1) (.slice va1 vn1 vc1) (.slice da1 dn1 dc1)) := Q7.out.below y
      have R8 : Hid (PgAt w8 (innB (innM ks 5 (ks.length + 1))) (.slice ka2 kn2 kc2) (.slice va2 vn2 vc2) (.slice da2 dn2 dc2)) := R7.out.below y
      have Y8 : Hid (Below w.heap.size w w8) := ext_trans Y7.out y
      clear y z0 z1 z2 z3 z4 z5 z6 z7 x0 x1 x2 x3 x4 x5 x6 x7 B7 P7 C7 D7 E7 F7 Q7 R7 Y7
      obtain ⟨hf, hhf, HHF⟩ : ∃ hf : Nat, (dn : Int) / 2 = (hf : Int) ∧ Hid (hf = (kn + 1) / 2) := ⟨(kn + 1) / 2, by have := HDK.out; omega, rfl⟩
      have e1 : dn1 = hf := by
        have := Q8.out.kids.at.1
        rw [this, iv_length]
        show ((kidsM 5 (ks.length + 1)).take ((kidsM 5 (ks.length + 1)).length / 2)).length = _
        rw [List.length_take, kidsM_length, HKN.out, HHF.out]
        omega
      subst e1
      have hl1 : ((dn1 : Int) - 1) = (kn1 : Int) := by
        have := Q8.out.keys.at.1
        rw [sv_length] at this
        have h2 : (innA (innM ks 5 (ks.length + 1))).keys.length = (kn + 1) / 2 - 1 := by
          show (ks.take ((kidsM 5 (ks.length + 1)).length / 2 - 1)).length = _
          rw [List.length_take, kidsM_length, HKN.out]
          omega
        have := HHF.out
        omega
      have hl2 : ((dn2 : Int) - 1) = (kn2 : Int) := by
        have h0 := R8.out.keys.at.1
        have h1 := R8.out.kids.at.1
        rw [sv_length] at h0
        rw [iv_length] at h1
        have h2 : (innB (innM ks 5 (ks.length + 1))).keys.length = kn - (kn + 1) / 2 := by
          show (ks.drop ((kidsM 5 (ks.length + 1)).length / 2)).length = _
          rw [List.length_drop, kidsM_length, HKN.out]
        have h3 : (innB (innM ks 5 (ks.length + 1))).kids.length = kn + 1 - (kn + 1) / 2 := by
          show ((kidsM 5 (ks.length + 1)).drop ((kidsM 5 (ks.length + 1)).length / 2)).length = _
          rw [List.length_drop, kidsM_length, HKN.out]
        omega
      have HKS : Hid (ks = ks.take (dn1 - 1) ++ s :: ks.drop (dn1 - 1 + 1)) := by rw [HHF.out]; exact split_at HS.out
      have hd2 : 2 ≤ dn1 := by have := HHF.out; omega
      have HR1 : Hid (∀ x ∈ (innA (innM ks 5 (ks.length + 1))).keys, ltK x s = true) := fun x hx => (ris_lt (by rw [← HKS.out]; exact HRI.out)).1 x (by rw [HHF.out]; have : x ∈ ks.take ((kidsM 5 (ks.length + 1)).length / 2 - 1) := hx; rw [kidsM_length, HKN.out] at this; exact this)
      have HR3 : Hid (∀ x ∈ (innB (innM ks 5 (ks.length + 1))).keys, ltK s x = true) := fun x hx => (ris_lt (by rw [← HKS.out]; exact HRI.out)).2 x (by have : x ∈ ks.drop ((kidsM 5 (ks.length + 1)).length / 2) := hx; rw [kidsM_length, HKN.out] at this; rw [show dn1 - 1 + 1 = (kn + 1) / 2 by have := HHF.out; omega]; exact this)
      have HR2 : Hid (∀ x ∈ (innB (innM ks 5 (ks.length + 1))).keys, ltK x s = false) := fun x hx => ltK_asymm (HR3.out x hx)
      have hkn1 : kn1 ≤ 20 := by have := HHF.out; omega
      have hkn2' : kn2 ≤ 20 := by
        have h0 := R8.out.keys.at.1
        rw [sv_length] at h0
        have h2 : (innB (innM ks 5 (ks.length + 1))).keys.length ≤ ks.length := by show (ks.drop _).length ≤ _; rw [List.length_drop]; omega
        have := HKN.out
        omega
      have HJ : Hid (joinI (innA (innM ks 5 (ks.length + 1))) s (innB (innM ks 5 (ks.length + 1))) = (innM ks 5 (ks.length + 1))) := by
        show joinI _ _ _ = _
        have h1 : ks.take ((kidsM 5 (ks.length + 1)).length / 2 - 1) ++ s :: ks.drop ((kidsM 5 (ks.length + 1)).length / 2) = ks := by
          rw [kidsM_length, HKN.out]
          have := HKS.out
          rw [HHF.out, show (kn + 1) / 2 - 1 + 1 = (kn + 1) / 2 by omega] at this
          exact this.symm
        show Pg.mk _ (ks.take ((kidsM 5 (ks.length + 1)).length / 2 - 1) ++ s :: ks.drop ((kidsM 5 (ks.length + 1)).length / 2)) _ ((kidsM 5 (ks.length + 1)).take _ ++ (kidsM 5 (ks.length + 1)).drop _) _ _ _ _ = _
        rw [h1, List.take_append_drop]
        rfl
      have HLA : Hid ((innA (innM ks 5 (ks.length + 1))).keys.length ≤ 1000 ∧ (innA (innM ks 5 (ks.length + 1))).vals.length ≤ 1000 ∧ (innA (innM ks 5 (ks.length + 1))).kids.length ≤ 1000) := by
        have h := HKN.out
        refine ⟨?_, ?_, ?_⟩
        · show (ks.take _).length ≤ 1000
          rw [List.length_take]; omega
        · show 0 ≤ 1000; omega
        · show ((kidsM 5 (ks.length + 1)).take _).length ≤ 1000; rw [List.length_take, kidsM_length]; omega
      have HLB : Hid ((innB (innM ks 5 (ks.length + 1))).keys.length ≤ 1000 ∧ (innB (innM ks 5 (ks.length + 1))).vals.length ≤ 1000 ∧ (innB (innM ks 5 (ks.length + 1))).kids.length ≤ 1000) := by
        have h := HKN.out
        refine ⟨?_, ?_, ?_⟩
        · show (ks.drop _).length ≤ 1000
          rw [List.length_drop]; omega
        · show 0 ≤ 1000; omega
        · show ((kidsM 5 (ks.length + 1)).drop _).length ≤ 1000; rw [List.length_drop, kidsM_length]; omega
      have HJN : Hid (∀ W, PgAt W (innA (innM ks 5 (ks.length + 1))) (.slice ka1 kn1 kc1) (.slice va1 vn1 vc1) (.slice da1 dn1 dc1) → PgAt W (innB (innM ks 5 (ks.length + 1))) (.slice ka2 kn2 kc2) (.slice va2 vn2 vc2) (.slice da2 dn2 dc2) → Calls Try.prog 34 #[.agg #[.int .i64 2, .slice ka1 kn1 kc1, .slice va1 vn1 vc1, .slice da1 dn1 dc1, .int .i64 0, .int .i64 0, .int .i64 0, .int .i64 0], .string s, .agg #[.int .i64 2, .slice ka2 kn2 kc2, .slice va2 vn2 vc2, .slice da2 dn2 dc2, .int .i64 0, .int .i64 0, .int .i64 0, .int .i64 0]] W fun e w' => ∃ k3 v3 d3, e = .returned (.agg #[.int .i64 2, k3, v3, d3, .int .i64 0, .int .i64 0, .int .i64 0, .int .i64 0]) ∧ PgAt w' (innM ks 5 (ks.length + 1)) k3 v3 d3 ∧ Below W.heap.size W w') := fun W h1 h2 => (joinI_any (innA (innM ks 5 (ks.length + 1))) (innB (innM ks 5 (ks.length + 1))) s _ _ _ _ _ _ W h1 h2 rfl HLA.out HLB.out).mono fun e w' he => by
        obtain ⟨a, b, c, h3, h4, h5⟩ := he
        rw [HJ.out] at h3 h4
        exact ⟨a, b, c, h3, h4, h5⟩
      have z0 : w8.cell? ⟨b7, 0, none⟩ = some (.int .i64 2) := B8.out.cells.1
      have z1 : w8.cell? ⟨b7, 1, none⟩ = some (.slice ka kn kc) := B8.out.cells.2.1
      have z2 : w8.cell? ⟨b7, 2, none⟩ = some (.slice va vn vc) := B8.out.cells.2.2.1
      have z3 : w8.cell? ⟨b7, 3, none⟩ = some (.slice da dn dc) := B8.out.cells.2.2.2.1
      have z4 : w8.cell? ⟨b7, 4, none⟩ = some (.int .i64 0) := B8.out.cells.2.2.2.2.1
      have z5 : w8.cell? ⟨b7, 5, none⟩ = some (.int .i64 0) := B8.out.cells.2.2.2.2.2.1
      have z6 : w8.cell? ⟨b7, 6, none⟩ = some (.int .i64 0) := B8.out.cells.2.2.2.2.2.2.1
      have z7 : w8.cell? ⟨b7, 7, none⟩ = some (.int .i64 0) := B8.out.cells.2.2.2.2.2.2.2
      have x0 : w8.cell? ⟨b8, 0, none⟩ = some (.int .i64 2) := E8.out.cells.1
      have x1 : w8.cell? ⟨b8, 1, none⟩ = some (.slice ka1 kn1 kc1) := E8.out.cells.2.1
      have x2 : w8.cell? ⟨b8, 2, none⟩ = some (.slice va1 vn1 vc1) := E8.out.cells.2.2.1
      have x3 : w8.cell? ⟨b8, 3, none⟩ = some (.slice da1 dn1 dc1) := E8.out.cells.2.2.2.1
      have x4 : w8.cell? ⟨b8, 4, none⟩ = some (.int .i64 0) := E8.out.cells.2.2.2.2.1
      have x5 : w8.cell? ⟨b8, 5, none⟩ = some (.int .i64 0) := E8.out.cells.2.2.2.2.2.1
      have x6 : w8.cell? ⟨b8, 6, none⟩ = some (.int .i64 0) := E8.out.cells.2.2.2.2.2.2.1
      have x7 : w8.cell? ⟨b8, 7, none⟩ = some (.int .i64 0) := E8.out.cells.2.2.2.2.2.2.2
      have y0 : w8.cell? ⟨b9, 0, none⟩ = some (.int .i64 2) := F8.out.cells.1
      have y1 : w8.cell? ⟨b9, 1, none⟩ = some (.slice ka2 kn2 kc2) := F8.out.cells.2.1
      have y2 : w8.cell? ⟨b9, 2, none⟩ = some (.slice va2 vn2 vc2) := F8.out.cells.2.2.1
      have y3 : w8.cell? ⟨b9, 3, none⟩ = some (.slice da2 dn2 dc2) := F8.out.cells.2.2.2.1
      have y4 : w8.cell? ⟨b9, 4, none⟩ = some (.int .i64 0) := F8.out.cells.2.2.2.2.1
      have y5 : w8.cell? ⟨b9, 5, none⟩ = some (.int .i64 0) := F8.out.cells.2.2.2.2.2.1
      have y6 : w8.cell? ⟨b9, 6, none⟩ = some (.int .i64 0) := F8.out.cells.2.2.2.2.2.2.1
      have y7 : w8.cell? ⟨b9, 7, none⟩ = some (.int .i64 0) := F8.out.cells.2.2.2.2.2.2.2
      go_wp2
      clear z0 z1 z2 z3 z4 z5 z6 z7 x0 x1 x2 x3 x4 x5 x6 x7
      go_loopw [125] (fun vj wr => ∃ j : Nat, vj = .int .i64 (j : Int) ∧ j ≤ kn1 ∧ w8 = wr) (fun vj _ => kn1 - (intOf vj).toNat)
      case atStart => exact ⟨0, rfl, Nat.zero_le _, rfl⟩
      case round =>
        obtain ⟨j, rfl, hj, hw⟩ := hrel
        subst hw
        by_cases hjn : j < kn1
        · obtain ⟨r0, r1, r2, r3⟩ := Q8.out.keys.at
          have hjk : j < (innA (innM ks 5 (ks.length + 1))).keys.length := by rw [sv_length] at r0; omega
          obtain ⟨ad, had⟩ := r3.ad (by rw [sv_length]; omega)
          subst had
          have q1 : w8.cell? (ad.add j) = some (.string (innA (innM ks 5 (ks.length + 1))).keys[j]) := r3.str rfl hjk
          have hlt : Op.bytesLess (innA (innM ks 5 (ks.length + 1))).keys[j].toList s.toList = true := HR1.out _ (List.getElem_mem hjk)
          clear r0 r1 r2 r3 y0 y1 y2 y3 y4 y5 y6 y7
          generalize (innA (innM ks 5 (ks.length + 1))).keys[j] = x at *
          go_wp2
          go_roundw
          case rel => exact ⟨j + 1, by go_num, hjn, trivial⟩
          case measure => simp [intOf]; omega
        · go_wp2
          clear y0 y1 y2 y3 y4 y5 y6 y7
          go_loopw [136] (fun vj wr => ∃ i : Nat, vj = .int .i64 (i : Int) ∧ i ≤ kn2 ∧ w8 = wr) (fun vj _ => kn2 - (intOf vj).toNat)
          case atStart => exact ⟨0, rfl, Nat.zero_le _, rfl⟩
          case round =>
            obtain ⟨i, rfl, hi, hw⟩ := hrel
            subst hw
            by_cases hin : i < kn2
            · obtain ⟨r0, r1, r2, r3⟩ := R8.out.keys.at
              have hik : i < (innB (innM ks 5 (ks.length + 1))).keys.length := by rw [sv_length] at r0; omega
              obtain ⟨bd, hbd⟩ := r3.ad (by rw [sv_length]; omega)
              subst hbd
              have q1 : w8.cell? (bd.add i) = some (.string (innB (innM ks 5 (ks.length + 1))).keys[i]) := r3.str rfl hik
              have hlt : Op.bytesLess (innB (innM ks 5 (ks.length + 1))).keys[i].toList s.toList = false := HR2.out _ (List.getElem_mem hik)
              have heq : ((innB (innM ks 5 (ks.length + 1))).keys[i].toList == s.toList) = false := by rw [beq_str]; simp; intro e; have h := HR3.out _ (List.getElem_mem hik); rw [e, ltK_irrefl] at h; cases h
              clear r0 r1 r2 r3
              generalize (innB (innM ks 5 (ks.length + 1))).keys[i] = x at *
              go_wp2
              go_roundw
              case rel => exact ⟨i + 1, by go_num, hin, trivial⟩
              case measure => simp [intOf]; omega
            · have x0 : w8.cell? ⟨b8, 0, none⟩ = some (.int .i64 2) := E8.out.cells.1
              have x1 : w8.cell? ⟨b8, 1, none⟩ = some (.slice ka1 kn1 kc1) := E8.out.cells.2.1
              have x2 : w8.cell? ⟨b8, 2, none⟩ = some (.slice va1 vn1 vc1) := E8.out.cells.2.2.1
              have x3 : w8.cell? ⟨b8, 3, none⟩ = some (.slice da1 dn1 dc1) := E8.out.cells.2.2.2.1
              have x4 : w8.cell? ⟨b8, 4, none⟩ = some (.int .i64 0) := E8.out.cells.2.2.2.2.1
              have x5 : w8.cell? ⟨b8, 5, none⟩ = some (.int .i64 0) := E8.out.cells.2.2.2.2.2.1
              have x6 : w8.cell? ⟨b8, 6, none⟩ = some (.int .i64 0) := E8.out.cells.2.2.2.2.2.2.1
              have x7 : w8.cell? ⟨b8, 7, none⟩ = some (.int .i64 0) := E8.out.cells.2.2.2.2.2.2.2
              have y0 : w8.cell? ⟨b9, 0, none⟩ = some (.int .i64 2) := F8.out.cells.1
              have y1 : w8.cell? ⟨b9, 1, none⟩ = some (.slice ka2 kn2 kc2) := F8.out.cells.2.1
              have y2 : w8.cell? ⟨b9, 2, none⟩ = some (.slice va2 vn2 vc2) := F8.out.cells.2.2.1
              have y3 : w8.cell? ⟨b9, 3, none⟩ = some (.slice da2 dn2 dc2) := F8.out.cells.2.2.2.1
              have y4 : w8.cell? ⟨b9, 4, none⟩ = some (.int .i64 0) := F8.out.cells.2.2.2.2.1
              have y5 : w8.cell? ⟨b9, 5, none⟩ = some (.int .i64 0) := F8.out.cells.2.2.2.2.2.1
              have y6 : w8.cell? ⟨b9, 6, none⟩ = some (.int .i64 0) := F8.out.cells.2.2.2.2.2.2.1
              have y7 : w8.cell? ⟨b9, 7, none⟩ = some (.int .i64 0) := F8.out.cells.2.2.2.2.2.2.2
              go_wp2_with fail
              refine (HJN.out _ Q8.out R8.out).mono ?_
              rintro e w9 ⟨k3, v3, d3, rfl, hp3, y⟩
              obtain ⟨kn3, ka3, kc3, e1⟩ := hp3.keys.any
              obtain ⟨vn3, va3, vc3, e2⟩ := hp3.vals.any
              obtain ⟨dn3, da3, dc3, e3⟩ := hp3.kids.any
              subst e1 e2 e3
              have hal : Below w9.heap.size w9 (w9.alloc (.cells #[.int .i64 2, .slice ka3 kn3 kc3, .slice va3 vn3 vc3, .slice da3 dn3 dc3, .int .i64 0, .int .i64 0, .int .i64 0, .int .i64 0] 25)) := (Below.refl _ _).alloc (Nat.le_refl _) _
              have BA : Hid (PBox (w9.alloc (.cells #[.int .i64 2, .slice ka3 kn3 kc3, .slice va3 vn3 vc3, .slice da3 dn3 dc3, .int .i64 0, .int .i64 0, .int .i64 0, .int .i64 0] 25)) b7 (innM ks 5 (ks.length + 1)) (.slice ka kn kc) (.slice va vn vc) (.slice da dn dc)) := PBox.below (B8.out.below y) hal
              have PA : Hid (PgAt (w9.alloc (.cells #[.int .i64 2, .slice ka3 kn3 kc3, .slice va3 vn3 vc3, .slice da3 dn3 dc3, .int .i64 0, .int .i64 0, .int .i64 0, .int .i64 0] 25)) (innM ks 5 (ks.length + 1)) (.slice ka kn kc) (.slice va vn vc) (.slice da dn dc)) := PgAt.below (P8.out.below y) hal
              have EA : Hid (PBox (w9.alloc (.cells #[.int .i64 2, .slice ka3 kn3 kc3, .slice va3 vn3 vc3, .slice da3 dn3 dc3, .int .i64 0, .int .i64 0, .int .i64 0, .int .i64 0] 25)) b8 (innA (innM ks 5 (ks.length + 1))) (.slice ka1 kn1 kc1) (.slice va1 vn1 vc1) (.slice da1 dn1 dc1)) := PBox.below (E8.out.below y) hal
              have FA : Hid (PBox (w9.alloc (.cells #[.int .i64 2, .slice ka3 kn3 kc3, .slice va3 vn3 vc3, .slice da3 dn3 dc3, .int .i64 0, .int .i64 0, .int .i64 0, .int .i64 0] 25)) b9 (innB (innM ks 5 (ks.length + 1))) (.slice ka2 kn2 kc2) (.slice va2 vn2 vc2) (.slice da2 dn2 dc2)) := PBox.below (F8.out.below y) hal
              have GA : Hid (PBox (w9.alloc (.cells #[.int .i64 2, .slice ka3 kn3 kc3, .slice va3 vn3 vc3, .slice da3 dn3 dc3, .int .i64 0, .int .i64 0, .int .i64 0, .int .i64 0] 25)) w9.heap.size (innM ks 5 (ks.length + 1)) (.slice ka3 kn3 kc3) (.slice va3 vn3 vc3) (.slice da3 dn3 dc3)) := Blk.new _ _ _
              have QA : Hid (PgAt (w9.alloc (.cells #[.int .i64 2, .slice ka3 kn3 kc3, .slice va3 vn3 vc3, .slice da3 dn3 dc3, .int .i64 0, .int .i64 0, .int .i64 0, .int .i64 0] 25)) (innM ks 5 (ks.length + 1)) (.slice ka3 kn3 kc3) (.slice va3 vn3 vc3) (.slice da3 dn3 dc3)) := hp3.below hal
              have YA : Hid (Below w.heap.size w (w9.alloc (.cells #[.int .i64 2, .slice ka3 kn3 kc3, .slice va3 vn3 vc3, .slice da3 dn3 dc3, .int .i64 0, .int .i64 0, .int .i64 0, .int .i64 0] 25))) := ext_trans (ext_trans Y8.out y) hal
              have V1 : Hid (vn1 = (innA (innM ks 5 (ks.length + 1))).vals.length ∧ dn1 = (innA (innM ks 5 (ks.length + 1))).kids.length ∧ kn1 = (innA (innM ks 5 (ks.length + 1))).keys.length) := by
                have h1 := Q8.out.vals.at.1
                have h2 := Q8.out.kids.at.1
                have h3 := Q8.out.keys.at.1
                rw [sv_length] at h1 h3
                rw [iv_length] at h2
                exact ⟨h1, h2, h3⟩
              have V2 : Hid (vn2 = (innB (innM ks 5 (ks.length + 1))).vals.length ∧ dn2 = (innB (innM ks 5 (ks.length + 1))).kids.length ∧ kn2 = (innB (innM ks 5 (ks.length + 1))).keys.length) := by
                have h1 := R8.out.vals.at.1
                have h2 := R8.out.kids.at.1
                have h3 := R8.out.keys.at.1
                rw [sv_length] at h1 h3
                rw [iv_length] at h2
                exact ⟨h1, h2, h3⟩
              clear hal y hp3 x0 x1 x2 x3 x4 x5 x6 x7 y0 y1 y2 y3 y4 y5 y6 y7 B8 P8 E8 F8 Q8 R8 Y8 HJN
              go_upto_region 29 with fail
              generalize w9.alloc (.cells #[.int .i64 2, .slice ka3 kn3 kc3, .slice va3 vn3 vc3, .slice da3 dn3 dc3, .int .i64 0, .int .i64 0, .int .i64 0, .int .i64 0] 25) = wA at *
              obtain ⟨b14, hb14⟩ : ∃ b, w9.heap.size = b := ⟨_, rfl⟩
              rw [hb14] at GA ⊢
              clear hb14
              by_cases hfull : dn = 9
              · have hz : dn1 = 4 ∧ dn2 = 5 := by
                  have h1 := HHF.out; have h2 := HDK.out; have h3 := V2.out.2.1; have h4 : (innB (innM ks 5 (ks.length + 1))).kids.length = kn + 1 - (kn + 1) / 2 := by {show ((kidsM 5 (ks.length + 1)).drop ((kidsM 5 (ks.length + 1)).length / 2)).length = _; rw [List.length_drop, kidsM_length, HKN.out]}; omega
                have HZZ : Hid _ := hz
                have UA : Hid (∀ W, Calls Try.prog 31 #[.agg #[.int .i64 2, .slice ka1 kn1 kc1, .slice va1 vn1 vc1, .slice da1 dn1 dc1, .int .i64 0, .int .i64 0, .int .i64 0, .int .i64 0]] W fun e w' => e = .returned (.bool false) ∧ Below W.heap.size W w') := fun W => by
                  obtain ⟨g1, g2, g3⟩ := V1.out
                  have h := under_any (innA (innM ks 5 (ks.length + 1))) ka1 kc1 va1 vc1 da1 dc1 W
                  rw [← g1, ← g2, ← g3] at h
                  have e : underP (innA (innM ks 5 (ks.length + 1))) = false := by
                    unfold underP
                    rw [if_neg (show ¬ (innA (innM ks 5 (ks.length + 1))).kind = 1 by show ¬ (2 : Int) = 1; decide), if_pos (show (innA (innM ks 5 (ks.length + 1))).kind = 2 from rfl), ← g2]
                    simp only [decide_eq_false_iff_not]
                    omega
                  rw [e] at h
                  exact h
                have UB : Hid (∀ W, Calls Try.prog 31 #[.agg #[.int .i64 2, .slice ka2 kn2 kc2, .slice va2 vn2 vc2, .slice da2 dn2 dc2, .int .i64 0, .int .i64 0, .int .i64 0, .int .i64 0]] W fun e w' => e = .returned (.bool false) ∧ Below W.heap.size W w') := fun W => by
                  obtain ⟨g1, g2, g3⟩ := V2.out
                  have h := under_any (innB (innM ks 5 (ks.length + 1))) ka2 kc2 va2 vc2 da2 dc2 W
                  rw [← g1, ← g2, ← g3] at h
                  have e : underP (innB (innM ks 5 (ks.length + 1))) = false := by
                    unfold underP
                    rw [if_neg (show ¬ (innB (innM ks 5 (ks.length + 1))).kind = 1 by show ¬ (2 : Int) = 1; decide), if_pos (show (innB (innM ks 5 (ks.length + 1))).kind = 2 from rfl), ← g2]
                    simp only [decide_eq_false_iff_not]
                    omega
                  rw [e] at h
                  exact h
                have OA : Hid (∀ W, Calls Try.prog 30 #[.agg #[.int .i64 2, .slice ka1 kn1 kc1, .slice va1 vn1 vc1, .slice da1 dn1 dc1, .int .i64 0, .int .i64 0, .int .i64 0, .int .i64 0]] W fun e w' => e = .returned (.bool false) ∧ Below W.heap.size W w') := fun W => by
                  obtain ⟨g1, g2, g3⟩ := V1.out
                  have h := over_any (innA (innM ks 5 (ks.length + 1))) ka1 kc1 va1 vc1 da1 dc1 W
                  rw [← g1, ← g2, ← g3] at h
                  have e : overP (innA (innM ks 5 (ks.length + 1))) = false := by
                    unfold overP
                    rw [if_neg (show ¬ (innA (innM ks 5 (ks.length + 1))).kind = 1 by show ¬ (2 : Int) = 1; decide), if_pos (show (innA (innM ks 5 (ks.length + 1))).kind = 2 from rfl), ← g2]
                    simp only [decide_eq_false_iff_not]
                    omega
                  rw [e] at h
                  exact h
                have OB : Hid (∀ W, Calls Try.prog 30 #[.agg #[.int .i64 2, .slice ka2 kn2 kc2, .slice va2 vn2 vc2, .slice da2 dn2 dc2, .int .i64 0, .int .i64 0, .int .i64 0, .int .i64 0]] W fun e w' => e = .returned (.bool false) ∧ Below W.heap.size W w') := fun W => by
                  obtain ⟨g1, g2, g3⟩ := V2.out
                  have h := over_any (innB (innM ks 5 (ks.length + 1))) ka2 kc2 va2 vc2 da2 dc2 W
                  rw [← g1, ← g2, ← g3] at h
                  have e : overP (innB (innM ks 5 (ks.length + 1))) = false := by
                    unfold overP
                    rw [if_neg (show ¬ (innB (innM ks 5 (ks.length + 1))).kind = 1 by show ¬ (2 : Int) = 1; decide), if_pos (show (innB (innM ks 5 (ks.length + 1))).kind = 2 from rfl), ← g2]
                    simp only [decide_eq_false_iff_not]
                    omega
                  rw [e] at h
                  exact h
                clear hz
                have hfz : (dn : Int) = 9 := by omega
                clear hfull
                have z0 : wA.cell? ⟨b7, 0, none⟩ = some (.int .i64 2) := BA.out.cells.1
                have z1 : wA.cell? ⟨b7, 1, none⟩ = some (.slice ka kn kc) := BA.out.cells.2.1
                have z2 : wA.cell? ⟨b7, 2, none⟩ = some (.slice va vn vc) := BA.out.cells.2.2.1
                have z3 : wA.cell? ⟨b7, 3, none⟩ = some (.slice da dn dc) := BA.out.cells.2.2.2.1
                have z4 : wA.cell? ⟨b7, 4, none⟩ = some (.int .i64 0) := BA.out.cells.2.2.2.2.1
                have z5 : wA.cell? ⟨b7, 5, none⟩ = some (.int .i64 0) := BA.out.cells.2.2.2.2.2.1
                have z6 : wA.cell? ⟨b7, 6, none⟩ = some (.int .i64 0) := BA.out.cells.2.2.2.2.2.2.1
                have z7 : wA.cell? ⟨b7, 7, none⟩ = some (.int .i64 0) := BA.out.cells.2.2.2.2.2.2.2
                have x0 : wA.cell? ⟨b14, 0, none⟩ = some (.int .i64 2) := GA.out.cells.1
                have x1 : wA.cell? ⟨b14, 1, none⟩ = some (.slice ka3 kn3 kc3) := GA.out.cells.2.1
                have x2 : wA.cell? ⟨b14, 2, none⟩ = some (.slice va3 vn3 vc3) := GA.out.cells.2.2.1
                have x3 : wA.cell? ⟨b14, 3, none⟩ = some (.slice da3 dn3 dc3) := GA.out.cells.2.2.2.1
                have x4 : wA.cell? ⟨b14, 4, none⟩ = some (.int .i64 0) := GA.out.cells.2.2.2.2.1
                have x5 : wA.cell? ⟨b14, 5, none⟩ = some (.int .i64 0) := GA.out.cells.2.2.2.2.2.1
                have x6 : wA.cell? ⟨b14, 6, none⟩ = some (.int .i64 0) := GA.out.cells.2.2.2.2.2.2.1
                have x7 : wA.cell? ⟨b14, 7, none⟩ = some (.int .i64 0) := GA.out.cells.2.2.2.2.2.2.2
                go_wp2_with fail
                refine (HSM.out _ _ _ _ _ _ _ QA.out PA.out).mono ?_
                rintro e wB ⟨rfl, y⟩
                have EB : Hid (PBox wB b8 (innA (innM ks 5 (ks.length + 1))) (.slice ka1 kn1 kc1) (.slice va1 vn1 vc1) (.slice da1 dn1 dc1)) := EA.out.below y
                have FB : Hid (PBox wB b9 (innB (innM ks 5 (ks.length + 1))) (.slice ka2 kn2 kc2) (.slice va2 vn2 vc2) (.slice da2 dn2 dc2)) := FA.out.below y
                have YB : Hid (Below w.heap.size w wB) := ext_trans YA.out y
                clear y z0 z1 z2 z3 z4 z5 z6 z7 x0 x1 x2 x3 x4 x5 x6 x7 BA PA EA FA GA QA YA
                have z0 : wB.cell? ⟨b8, 0, none⟩ = some (.int .i64 2) := EB.out.cells.1
                have z1 : wB.cell? ⟨b8, 1, none⟩ = some (.slice ka1 kn1 kc1) := EB.out.cells.2.1
                have z2 : wB.cell? ⟨b8, 2, none⟩ = some (.slice va1 vn1 vc1) := EB.out.cells.2.2.1
                have z3 : wB.cell? ⟨b8, 3, none⟩ = some (.slice da1 dn1 dc1) := EB.out.cells.2.2.2.1
                have z4 : wB.cell? ⟨b8, 4, none⟩ = some (.int .i64 0) := EB.out.cells.2.2.2.2.1
                have z5 : wB.cell? ⟨b8, 5, none⟩ = some (.int .i64 0) := EB.out.cells.2.2.2.2.2.1
                have z6 : wB.cell? ⟨b8, 6, none⟩ = some (.int .i64 0) := EB.out.cells.2.2.2.2.2.2.1
                have z7 : wB.cell? ⟨b8, 7, none⟩ = some (.int .i64 0) := EB.out.cells.2.2.2.2.2.2.2
                go_wp2_with fail
                refine (UA.out _).mono ?_
                rintro e wC ⟨rfl, y⟩
                have EC : Hid (PBox wC b8 (innA (innM ks 5 (ks.length + 1))) (.slice ka1 kn1 kc1) (.slice va1 vn1 vc1) (.slice da1 dn1 dc1)) := EB.out.below y
                have FC : Hid (PBox wC b9 (innB (innM ks 5 (ks.length + 1))) (.slice ka2 kn2 kc2) (.slice va2 vn2 vc2) (.slice da2 dn2 dc2)) := FB.out.below y
                have YC : Hid (Below w.heap.size w wC) := ext_trans YB.out y
                clear y z0 z1 z2 z3 z4 z5 z6 z7 EB FB YB
                have z0 : wC.cell? ⟨b9, 0, none⟩ = some (.int .i64 2) := FC.out.cells.1
                have z1 : wC.cell? ⟨b9, 1, none⟩ = some (.slice ka2 kn2 kc2) := FC.out.cells.2.1
                have z2 : wC.cell? ⟨b9, 2, none⟩ = some (.slice va2 vn2 vc2) := FC.out.cells.2.2.1
                have z3 : wC.cell? ⟨b9, 3, none⟩ = some (.slice da2 dn2 dc2) := FC.out.cells.2.2.2.1
                have z4 : wC.cell? ⟨b9, 4, none⟩ = some (.int .i64 0) := FC.out.cells.2.2.2.2.1
                have z5 : wC.cell? ⟨b9, 5, none⟩ = some (.int .i64 0) := FC.out.cells.2.2.2.2.2.1
                have z6 : wC.cell? ⟨b9, 6, none⟩ = some (.int .i64 0) := FC.out.cells.2.2.2.2.2.2.1
                have z7 : wC.cell? ⟨b9, 7, none⟩ = some (.int .i64 0) := FC.out.cells.2.2.2.2.2.2.2
                go_wp2_with fail
                refine (UB.out _).mono ?_
                rintro e wD ⟨rfl, y⟩
                have ED : Hid (PBox wD b8 (innA (innM ks 5 (ks.length + 1))) (.slice ka1 kn1 kc1) (.slice va1 vn1 vc1) (.slice da1 dn1 dc1)) := EC.out.below y
                have FD : Hid (PBox wD b9 (innB (innM ks 5 (ks.length + 1))) (.slice ka2 kn2 kc2) (.slice va2 vn2 vc2) (.slice da2 dn2 dc2)) := FC.out.below y
                have YD : Hid (Below w.heap.size w wD) := ext_trans YC.out y
                clear y z0 z1 z2 z3 z4 z5 z6 z7 EC FC YC
                have z0 : wD.cell? ⟨b8, 0, none⟩ = some (.int .i64 2) := ED.out.cells.1
                have z1 : wD.cell? ⟨b8, 1, none⟩ = some (.slice ka1 kn1 kc1) := ED.out.cells.2.1
                have z2 : wD.cell? ⟨b8, 2, none⟩ = some (.slice va1 vn1 vc1) := ED.out.cells.2.2.1
                have z3 : wD.cell? ⟨b8, 3, none⟩ = some (.slice da1 dn1 dc1) := ED.out.cells.2.2.2.1
                have z4 : wD.cell? ⟨b8, 4, none⟩ = some (.int .i64 0) := ED.out.cells.2.2.2.2.1
                have z5 : wD.cell? ⟨b8, 5, none⟩ = some (.int .i64 0) := ED.out.cells.2.2.2.2.2.1
                have z6 : wD.cell? ⟨b8, 6, none⟩ = some (.int .i64 0) := ED.out.cells.2.2.2.2.2.2.1
                have z7 : wD.cell? ⟨b8, 7, none⟩ = some (.int .i64 0) := ED.out.cells.2.2.2.2.2.2.2
                go_wp2_with fail
                refine (OA.out _).mono ?_
                rintro e wE ⟨rfl, y⟩
                have FE : Hid (PBox wE b9 (innB (innM ks 5 (ks.length + 1))) (.slice ka2 kn2 kc2) (.slice va2 vn2 vc2) (.slice da2 dn2 dc2)) := FD.out.below y
                have YE : Hid (Below w.heap.size w wE) := ext_trans YD.out y
                clear y z0 z1 z2 z3 z4 z5 z6 z7 ED FD YD
                have z0 : wE.cell? ⟨b9, 0, none⟩ = some (.int .i64 2) := FE.out.cells.1
                have z1 : wE.cell? ⟨b9, 1, none⟩ = some (.slice ka2 kn2 kc2) := FE.out.cells.2.1
                have z2 : wE.cell? ⟨b9, 2, none⟩ = some (.slice va2 vn2 vc2) := FE.out.cells.2.2.1
                have z3 : wE.cell? ⟨b9, 3, none⟩ = some (.slice da2 dn2 dc2) := FE.out.cells.2.2.2.1
                have z4 : wE.cell? ⟨b9, 4, none⟩ = some (.int .i64 0) := FE.out.cells.2.2.2.2.1
                have z5 : wE.cell? ⟨b9, 5, none⟩ = some (.int .i64 0) := FE.out.cells.2.2.2.2.2.1
                have z6 : wE.cell? ⟨b9, 6, none⟩ = some (.int .i64 0) := FE.out.cells.2.2.2.2.2.2.1
                have z7 : wE.cell? ⟨b9, 7, none⟩ = some (.int .i64 0) := FE.out.cells.2.2.2.2.2.2.2
                go_wp2_with fail
                refine (OB.out _).mono ?_
                rintro e wF ⟨rfl, y⟩
                have YF : Hid (Below w.heap.size w wF) := ext_trans YE.out y
                clear y z0 z1 z2 z3 z4 z5 z6 z7 FE YE
                go_wp2
                go_ret
                exact ⟨ret_bool rfl, YF.out⟩
              · have hfz : ¬ (dn : Int) = 9 := by omega
                clear hfull
                have z0 : wA.cell? ⟨b7, 0, none⟩ = some (.int .i64 2) := BA.out.cells.1
                have z1 : wA.cell? ⟨b7, 1, none⟩ = some (.slice ka kn kc) := BA.out.cells.2.1
                have z2 : wA.cell? ⟨b7, 2, none⟩ = some (.slice va vn vc) := BA.out.cells.2.2.1
                have z3 : wA.cell? ⟨b7, 3, none⟩ = some (.slice da dn dc) := BA.out.cells.2.2.2.1
                have z4 : wA.cell? ⟨b7, 4, none⟩ = some (.int .i64 0) := BA.out.cells.2.2.2.2.1
                have z5 : wA.cell? ⟨b7, 5, none⟩ = some (.int .i64 0) := BA.out.cells.2.2.2.2.2.1
                have z6 : wA.cell? ⟨b7, 6, none⟩ = some (.int .i64 0) := BA.out.cells.2.2.2.2.2.2.1
                have z7 : wA.cell? ⟨b7, 7, none⟩ = some (.int .i64 0) := BA.out.cells.2.2.2.2.2.2.2
                have x0 : wA.cell? ⟨b14, 0, none⟩ = some (.int .i64 2) := GA.out.cells.1
                have x1 : wA.cell? ⟨b14, 1, none⟩ = some (.slice ka3 kn3 kc3) := GA.out.cells.2.1
                have x2 : wA.cell? ⟨b14, 2, none⟩ = some (.slice va3 vn3 vc3) := GA.out.cells.2.2.1
                have x3 : wA.cell? ⟨b14, 3, none⟩ = some (.slice da3 dn3 dc3) := GA.out.cells.2.2.2.1
                have x4 : wA.cell? ⟨b14, 4, none⟩ = some (.int .i64 0) := GA.out.cells.2.2.2.2.1
                have x5 : wA.cell? ⟨b14, 5, none⟩ = some (.int .i64 0) := GA.out.cells.2.2.2.2.2.1
                have x6 : wA.cell? ⟨b14, 6, none⟩ = some (.int .i64 0) := GA.out.cells.2.2.2.2.2.2.1
                have x7 : wA.cell? ⟨b14, 7, none⟩ = some (.int .i64 0) := GA.out.cells.2.2.2.2.2.2.2
                go_wp2_with fail
                refine (HSM.out _ _ _ _ _ _ _ QA.out PA.out).mono ?_
                rintro e wB ⟨rfl, y⟩
                have YB : Hid (Below w.heap.size w wB) := ext_trans YA.out y
                clear y z0 z1 z2 z3 z4 z5 z6 z7 x0 x1 x2 x3 x4 x5 x6 x7 BA PA EA FA GA QA YA
                go_wp2
                go_ret
                exact ⟨ret_bool rfl, YB.out⟩

theorem walk_NodeSplits (pa : Option Addr) (n c : Nat) (l : List ByteArray) (b : Bool) (w : World) (hps : IsStrs w pa n c l) (hsz : ∀ k ∈ l, k.size ≤ 140737488351232) :
    Calls Try.prog 11 #[.slice pa n c, .bool b] w fun e w' => e = .returned (.bool true) ∧ Below w.heap.size w w' := by
  cases b with
  | true => exact walk_NodeSplits_inner pa n c l w hps hsz
  | false => exact walk_NodeSplits_leaf pa n c l w hps hsz
end Go.Proofs.Ytonhgekkdohpkaa
