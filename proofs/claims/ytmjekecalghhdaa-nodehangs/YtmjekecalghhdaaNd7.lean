/- node's Split. Own lemmas, no statement. -/
import Derived.Test.YtmjekecalghhdaaNd5
import Derived.Test.YtmjekecalghhdaaNd6
set_option linter.unusedSimpArgs false
set_option linter.unusedVariables false
namespace Go.Proofs.Ytmjekecalghhdaa
open Go.ChangeShapes Go.WideShapes Go.ChangeAt Go.RowKit

set_option maxRecDepth 100000 in
set_option maxHeartbeats 1200000 in
theorem splitL_any (p : Pg) (kv vv dv : Value) (w : World) (hp : PgAt w p kv vv dv) (hkind : p.kind = 1) (h1 : 1 < p.keys.length) (h2 : p.vals.length = p.keys.length) (hlk : p.keys.length ≤ 1000) (hlv : p.vals.length ≤ 1000) (hld : p.kids.length ≤ 1000) :
    Calls Try.prog 33 #[pgv p kv vv dv] w (SplitPost (leafA p) (leafB p) p.keys (p.keys.length / 2) w) := by
  obtain ⟨ka, kc, va, vc, da, dc, e1, e2, e3, _, _, _⟩ := hp.forms
  subst e1 e2 e3
  have HP : Hid (PgAt w p (.slice ka p.keys.length kc) (.slice va p.vals.length vc) (.slice da p.kids.length dc)) := hp
  have HF : Hid (∀ W, Calls Try.prog 63 #[pgv p (.slice ka p.keys.length kc) (.slice va p.vals.length vc) (.slice da p.kids.length dc)] W fun e w' => e = .returned (.bool (leafP p)) ∧ Below W.heap.size W w') := fun W => isLeaf_any p ka kc va vc da dc W (by omega) (by omega)
  have HI : Hid (∀ W, Calls Try.prog 67 #[pgv p (.slice ka p.keys.length kc) (.slice va p.vals.length vc) (.slice da p.kids.length dc)] W fun e w' => e = .returned (.bool (innP p)) ∧ Below W.heap.size W w') := fun W => isInner_any p ka kc va vc da dc W (by omega) (by omega)
  have HS : Hid (∀ W, Below w.heap.size w W → Calls Try.prog 66 #[pgv p (.slice ka p.keys.length kc) (.slice va p.vals.length vc) (.slice da p.kids.length dc)] W (SplitPost (leafA p) (leafB p) p.keys (p.keys.length / 2) W)) := fun W hb => splitLeaf_any p _ _ _ W (HP.out.below hb) h1 h2 hlk hlv hld
  have HLF : Hid (leafP p = true) := by show leafP p = _; unfold leafP; simp [hkind, h2]
  have HIN : Hid (innP p = false) := by show innP p = _; unfold innP; simp [hkind]
  rw [HLF.out] at HF
  rw [HIN.out] at HI
  have hkn : 1 < p.keys.length := by omega
  clear hkind h1 h2 hp HLF HIN
  generalize (p.keys.length / 2) = ix at *
  generalize p.keys.length = kn at *
  generalize p.vals.length = vn at *
  generalize p.kids.length = dn at *
  unfold pgv at *
  have HX0 : Hid (PBox (((w.alloc (.cells #[.int .i64 p.kind, .slice ka kn kc, .slice va vn vc, .slice da dn dc, .int .i64 p.root, .int .i64 p.next, .int .i64 p.size, .int .i64 p.idle] 25)).alloc (.cells #[.int .i64 0, .slice none 0 0, .slice none 0 0, .slice none 0 0, .int .i64 0, .int .i64 0, .int .i64 0, .int .i64 0] 25)).alloc (.cells #[.int .i64 0, .slice none 0 0, .slice none 0 0, .slice none 0 0, .int .i64 0, .int .i64 0, .int .i64 0, .int .i64 0] 25)) w.heap.size p (.slice ka kn kc) (.slice va vn vc) (.slice da dn dc)) := ((Blk.new _ _ _).alloc _).alloc _
  have HX1 : Hid (Blk (((w.alloc (.cells #[.int .i64 p.kind, .slice ka kn kc, .slice va vn vc, .slice da dn dc, .int .i64 p.root, .int .i64 p.next, .int .i64 p.size, .int .i64 p.idle] 25)).alloc (.cells #[.int .i64 0, .slice none 0 0, .slice none 0 0, .slice none 0 0, .int .i64 0, .int .i64 0, .int .i64 0, .int .i64 0] 25)).alloc (.cells #[.int .i64 0, .slice none 0 0, .slice none 0 0, .slice none 0 0, .int .i64 0, .int .i64 0, .int .i64 0, .int .i64 0] 25)) (w.heap.size + 1) zeroC 25) := (blk_two _ _ _ _ _).alloc _
  have HX2 : Hid (Blk (((w.alloc (.cells #[.int .i64 p.kind, .slice ka kn kc, .slice va vn vc, .slice da dn dc, .int .i64 p.root, .int .i64 p.next, .int .i64 p.size, .int .i64 p.idle] 25)).alloc (.cells #[.int .i64 0, .slice none 0 0, .slice none 0 0, .slice none 0 0, .int .i64 0, .int .i64 0, .int .i64 0, .int .i64 0] 25)).alloc (.cells #[.int .i64 0, .slice none 0 0, .slice none 0 0, .slice none 0 0, .int .i64 0, .int .i64 0, .int .i64 0, .int .i64 0] 25)) (w.heap.size + 1 + 1) zeroC 25) := by
    have := Blk.new ((w.alloc (.cells #[.int .i64 p.kind, .slice ka kn kc, .slice va vn vc, .slice da dn dc, .int .i64 p.root, .int .i64 p.next, .int .i64 p.size, .int .i64 p.idle] 25)).alloc (.cells #[.int .i64 0, .slice none 0 0, .slice none 0 0, .slice none 0 0, .int .i64 0, .int .i64 0, .int .i64 0, .int .i64 0] 25)) zeroC 25
    rw [show ((w.alloc (.cells #[.int .i64 p.kind, .slice ka kn kc, .slice va vn vc, .slice da dn dc, .int .i64 p.root, .int .i64 p.next, .int .i64 p.size, .int .i64 p.idle] 25)).alloc (.cells #[.int .i64 0, .slice none 0 0, .slice none 0 0, .slice none 0 0, .int .i64 0, .int .i64 0, .int .i64 0, .int .i64 0] 25)).heap.size = w.heap.size + 1 + 1 by simp] at this
    exact this
  have HY0 : Hid (Below w.heap.size w (((w.alloc (.cells #[.int .i64 p.kind, .slice ka kn kc, .slice va vn vc, .slice da dn dc, .int .i64 p.root, .int .i64 p.next, .int .i64 p.size, .int .i64 p.idle] 25)).alloc (.cells #[.int .i64 0, .slice none 0 0, .slice none 0 0, .slice none 0 0, .int .i64 0, .int .i64 0, .int .i64 0, .int .i64 0] 25)).alloc (.cells #[.int .i64 0, .slice none 0 0, .slice none 0 0, .slice none 0 0, .int .i64 0, .int .i64 0, .int .i64 0, .int .i64 0] 25))) := (((Below.refl _ _).alloc (Nat.le_refl _) _).alloc (by simp) _).alloc (by simp; omega) _
  go_enter Try.func33, Try.ntmps33
  go_wp2_with fail
  refine (HF.out _).mono ?_
  rintro e w1 ⟨rfl, y⟩
  have X0 : Hid (PBox w1 w.heap.size p (.slice ka kn kc) (.slice va vn vc) (.slice da dn dc)) := HX0.out.below y
  have X1 : Hid (Blk w1 (w.heap.size + 1) zeroC 25) := Blk.of HX1.out (y.block _ HX1.out.lt)
  have X2 : Hid (Blk w1 (w.heap.size + 1 + 1) zeroC 25) := Blk.of HX2.out (y.block _ HX2.out.lt)
  have YA : Hid (Below w.heap.size w w1) := ext_trans HY0.out y
  clear y HX0 HX1 HX2 HY0 HF
  obtain ⟨y0, y1, y2, y3, y4, y5, y6, y7⟩ := X0.out.cells
  go_wp2_with fail
  refine (HS.out _ YA.out).mono ?_
  rintro e w3 ⟨k1, v1, d1, s, k2, v2, d2, rfl, hk, hp1, hp2, hn1, hn2, y⟩
  obtain ⟨n1, ka1, kc1, e1⟩ := hp1.keys.any
  obtain ⟨m1, va1, vc1, e2⟩ := hp1.vals.any
  obtain ⟨l1, da1, dc1, e3⟩ := hp1.kids.any
  obtain ⟨n2, ka2, kc2, e4⟩ := hp2.keys.any
  obtain ⟨m2, va2, vc2, e5⟩ := hp2.vals.any
  obtain ⟨l2, da2, dc2, e6⟩ := hp2.kids.any
  subst e1 e2 e3 e4 e5 e6
  have HK : Hid (p.keys[ix]? = some s) := hk
  have P1 : Hid (PgAt w3 (leafA p) (.slice ka1 n1 kc1) (.slice va1 m1 vc1) (.slice da1 l1 dc1)) := hp1
  have P2 : Hid (PgAt w3 (leafB p) (.slice ka2 n2 kc2) (.slice va2 m2 vc2) (.slice da2 l2 dc2)) := hp2
  have Z1 : Hid (Blk w3 (w.heap.size + 1) zeroC 25) := Blk.of X1.out (y.block _ X1.out.lt)
  have Z2 : Hid (Blk w3 (w.heap.size + 1 + 1) zeroC 25) := Blk.of X2.out (y.block _ X2.out.lt)
  have YC : Hid (Below w.heap.size w w3) := ext_trans YA.out y
  have N1 : Hid (NewP w1.heap.size (.slice ka1 n1 kc1) (.slice va1 m1 vc1) (.slice da1 l1 dc1)) := hn1
  have N2 : Hid (NewP w1.heap.size (.slice ka2 n2 kc2) (.slice va2 m2 vc2) (.slice da2 l2 dc2)) := hn2
  have SZ : Hid (w.heap.size + 1 + 1 < w1.heap.size) := X2.out.lt
  have KA : Hid (((leafA p)).kind = p.kind ∧ ((leafA p)).root = p.root ∧ ((leafA p)).next = p.next ∧ ((leafA p)).size = p.size ∧ ((leafA p)).idle = p.idle) := ⟨rfl, rfl, rfl, rfl, rfl⟩
  clear hk hp1 hp2 hn1 hn2 y X1 X2 YA y0 y1 y2 y3 y4 y5 y6 y7 HS HI
  have KA : ((leafA p)).kind = p.kind := rfl
  have KB : ((leafA p)).root = p.root := rfl
  have KC : ((leafA p)).next = p.next := rfl
  have KD : ((leafA p)).size = p.size := rfl
  have KE : ((leafA p)).idle = p.idle := rfl
  have LA : ((leafB p)).kind = p.kind := rfl
  have LB : ((leafB p)).root = p.root := rfl
  have LC : ((leafB p)).next = p.next := rfl
  have LD : ((leafB p)).size = p.size := rfl
  have LE : ((leafB p)).idle = p.idle := rfl
  have z10 := Z1.out.cell 0
  have g10 := Z1.out.frozen 0
  have z11 := Z1.out.cell 1
  have g11 := Z1.out.frozen 1
  have z12 := Z1.out.cell 2
  have g12 := Z1.out.frozen 2
  have z13 := Z1.out.cell 3
  have g13 := Z1.out.frozen 3
  have z14 := Z1.out.cell 4
  have g14 := Z1.out.frozen 4
  have z15 := Z1.out.cell 5
  have g15 := Z1.out.frozen 5
  have z16 := Z1.out.cell 6
  have g16 := Z1.out.frozen 6
  have z17 := Z1.out.cell 7
  have g17 := Z1.out.frozen 7
  have z20 := Z2.out.cell 0
  have g20 := Z2.out.frozen 0
  have z21 := Z2.out.cell 1
  have g21 := Z2.out.frozen 1
  have z22 := Z2.out.cell 2
  have g22 := Z2.out.frozen 2
  have z23 := Z2.out.cell 3
  have g23 := Z2.out.frozen 3
  have z24 := Z2.out.cell 4
  have g24 := Z2.out.frozen 4
  have z25 := Z2.out.cell 5
  have g25 := Z2.out.frozen 5
  have z26 := Z2.out.cell 6
  have g26 := Z2.out.frozen 6
  have z27 := Z2.out.cell 7
  have g27 := Z2.out.frozen 7
  unfold zeroC at z10 z11 z12 z13 z14 z15 z16 z17 z20 z21 z22 z23 z24 z25 z26 z27
  unfold pgv
  go_wp2
  have F1 : PBox (put8 (put8 w3 (w.heap.size + 1) (.int .i64 p.kind) (.slice ka1 n1 kc1) (.slice va1 m1 vc1) (.slice da1 l1 dc1) (.int .i64 p.root) (.int .i64 p.next) (.int .i64 p.size) (.int .i64 p.idle)) (w.heap.size + 1 + 1) (.int .i64 p.kind) (.slice ka2 n2 kc2) (.slice va2 m2 vc2) (.slice da2 l2 dc2) (.int .i64 p.root) (.int .i64 p.next) (.int .i64 p.size) (.int .i64 p.idle)) (w.heap.size + 1) p (.slice ka1 n1 kc1) (.slice va1 m1 vc1) (.slice da1 l1 dc1) := Blk.of (blk_set8 _ _ _ _ _ _ _ _ Z1.out) (put8_other _ _ _ _ _ _ _ _ _ _ _ (by omega))
  have F2 : PBox (put8 (put8 w3 (w.heap.size + 1) (.int .i64 p.kind) (.slice ka1 n1 kc1) (.slice va1 m1 vc1) (.slice da1 l1 dc1) (.int .i64 p.root) (.int .i64 p.next) (.int .i64 p.size) (.int .i64 p.idle)) (w.heap.size + 1 + 1) (.int .i64 p.kind) (.slice ka2 n2 kc2) (.slice va2 m2 vc2) (.slice da2 l2 dc2) (.int .i64 p.root) (.int .i64 p.next) (.int .i64 p.size) (.int .i64 p.idle)) (w.heap.size + 1 + 1) p (.slice ka2 n2 kc2) (.slice va2 m2 vc2) (.slice da2 l2 dc2) := blk_set8 _ _ _ _ _ _ _ _ (Blk.of Z2.out (put8_other _ _ _ _ _ _ _ _ _ _ _ (by omega)))
  have hk : ∀ g, w1.heap.size ≤ g → g < w3.heap.size → (put8 (put8 w3 (w.heap.size + 1) (.int .i64 p.kind) (.slice ka1 n1 kc1) (.slice va1 m1 vc1) (.slice da1 l1 dc1) (.int .i64 p.root) (.int .i64 p.next) (.int .i64 p.size) (.int .i64 p.idle)) (w.heap.size + 1 + 1) (.int .i64 p.kind) (.slice ka2 n2 kc2) (.slice va2 m2 vc2) (.slice da2 l2 dc2) (.int .i64 p.root) (.int .i64 p.next) (.int .i64 p.size) (.int .i64 p.idle)).heap[g]? = w3.heap[g]? := fun g hg _ => by
    have := SZ.out
    rw [put8_other _ _ _ _ _ _ _ _ _ _ _ (by omega), put8_other _ _ _ _ _ _ _ _ _ _ _ (by omega)]
  have G1 : Hid (PgAt (put8 (put8 w3 (w.heap.size + 1) (.int .i64 p.kind) (.slice ka1 n1 kc1) (.slice va1 m1 vc1) (.slice da1 l1 dc1) (.int .i64 p.root) (.int .i64 p.next) (.int .i64 p.size) (.int .i64 p.idle)) (w.heap.size + 1 + 1) (.int .i64 p.kind) (.slice ka2 n2 kc2) (.slice va2 m2 vc2) (.slice da2 l2 dc2) (.int .i64 p.root) (.int .i64 p.next) (.int .i64 p.size) (.int .i64 p.idle)) (leafA p) (.slice ka1 n1 kc1) (.slice va1 m1 vc1) (.slice da1 l1 dc1)) := P1.out.kept N1.out hk
  have G2 : Hid (PgAt (put8 (put8 w3 (w.heap.size + 1) (.int .i64 p.kind) (.slice ka1 n1 kc1) (.slice va1 m1 vc1) (.slice da1 l1 dc1) (.int .i64 p.root) (.int .i64 p.next) (.int .i64 p.size) (.int .i64 p.idle)) (w.heap.size + 1 + 1) (.int .i64 p.kind) (.slice ka2 n2 kc2) (.slice va2 m2 vc2) (.slice da2 l2 dc2) (.int .i64 p.root) (.int .i64 p.next) (.int .i64 p.size) (.int .i64 p.idle)) (leafB p) (.slice ka2 n2 kc2) (.slice va2 m2 vc2) (.slice da2 l2 dc2)) := P2.out.kept N2.out hk
  have RY : Hid (Below w.heap.size w (put8 (put8 w3 (w.heap.size + 1) (.int .i64 p.kind) (.slice ka1 n1 kc1) (.slice va1 m1 vc1) (.slice da1 l1 dc1) (.int .i64 p.root) (.int .i64 p.next) (.int .i64 p.size) (.int .i64 p.idle)) (w.heap.size + 1 + 1) (.int .i64 p.kind) (.slice ka2 n2 kc2) (.slice va2 m2 vc2) (.slice da2 l2 dc2) (.int .i64 p.root) (.int .i64 p.next) (.int .i64 p.size) (.int .i64 p.idle))) := put8_below (put8_below YC.out (Nat.le_succ _) _ _ _ _ _ _ _ _) (by omega) _ _ _ _ _ _ _ _
  clear hk P1 P2 Z1 Z2 YC z10 g10 z11 g11 z12 g12 z13 g13 z14 g14 z15 g15 z16 g16 z17 g17 z20 g20 z21 g21 z22 g22 z23 g23 z24 g24 z25 g25 z26 g26 z27 g27
  have hgo : ∀ (Q : World → Prop), Q (put8 (put8 w3 (w.heap.size + 1) (.int .i64 p.kind) (.slice ka1 n1 kc1) (.slice va1 m1 vc1) (.slice da1 l1 dc1) (.int .i64 p.root) (.int .i64 p.next) (.int .i64 p.size) (.int .i64 p.idle)) (w.heap.size + 1 + 1) (.int .i64 p.kind) (.slice ka2 n2 kc2) (.slice va2 m2 vc2) (.slice da2 l2 dc2) (.int .i64 p.root) (.int .i64 p.next) (.int .i64 p.size) (.int .i64 p.idle)) → Q ((((((((((((((((w3.setCell ⟨w.heap.size + 1, 0, none⟩ (.int .i64 p.kind)).setCell ⟨w.heap.size + 1, 1, none⟩ (.slice ka1 n1 kc1)).setCell ⟨w.heap.size + 1, 2, none⟩ (.slice va1 m1 vc1)).setCell ⟨w.heap.size + 1, 3, none⟩ (.slice da1 l1 dc1)).setCell ⟨w.heap.size + 1, 4, none⟩ (.int .i64 p.root)).setCell ⟨w.heap.size + 1, 5, none⟩ (.int .i64 p.next)).setCell ⟨w.heap.size + 1, 6, none⟩ (.int .i64 p.size)).setCell ⟨w.heap.size + 1, 7, none⟩ (.int .i64 p.idle)).setCell ⟨w.heap.size + 1 + 1, 0, none⟩ (.int .i64 p.kind)).setCell ⟨w.heap.size + 1 + 1, 1, none⟩ (.slice ka2 n2 kc2)).setCell ⟨w.heap.size + 1 + 1, 2, none⟩ (.slice va2 m2 vc2)).setCell ⟨w.heap.size + 1 + 1, 3, none⟩ (.slice da2 l2 dc2)).setCell ⟨w.heap.size + 1 + 1, 4, none⟩ (.int .i64 p.root)).setCell ⟨w.heap.size + 1 + 1, 5, none⟩ (.int .i64 p.next)).setCell ⟨w.heap.size + 1 + 1, 6, none⟩ (.int .i64 p.size)).setCell ⟨w.heap.size + 1 + 1, 7, none⟩ (.int .i64 p.idle)) := fun Q h => h
  refine hgo _ ?_
  clear hgo
  generalize (put8 (put8 w3 (w.heap.size + 1) (.int .i64 p.kind) (.slice ka1 n1 kc1) (.slice va1 m1 vc1) (.slice da1 l1 dc1) (.int .i64 p.root) (.int .i64 p.next) (.int .i64 p.size) (.int .i64 p.idle)) (w.heap.size + 1 + 1) (.int .i64 p.kind) (.slice ka2 n2 kc2) (.slice va2 m2 vc2) (.slice da2 l2 dc2) (.int .i64 p.root) (.int .i64 p.next) (.int .i64 p.size) (.int .i64 p.idle)) = WF at *
  obtain ⟨q0, q1, q2, q3, q4, q5, q6, q7⟩ := F1.cells
  obtain ⟨t0, t1, t2, t3, t4, t5, t6, t7⟩ := F2.cells
  exact bodyPost_ret (v := .tuple #[pgv (leafA p) (.slice ka1 n1 kc1) (.slice va1 m1 vc1) (.slice da1 l1 dc1), .string s, pgv (leafB p) (.slice ka2 n2 kc2) (.slice va2 m2 vc2) (.slice da2 l2 dc2)]) (by simp [pgv, results, Try.results33, go_sem, q0, q1, q2, q3, q4, q5, q6, q7, t0, t1, t2, t3, t4, t5, t6, t7, KA, KB, KC, KD, KE, LA, LB, LC, LD, LE]) rfl ⟨_, _, _, _, _, _, _, rfl, HK.out, G1.out, G2.out, N1.out.mono (by have := SZ.out; omega), N2.out.mono (by have := SZ.out; omega), RY.out⟩

set_option maxRecDepth 100000 in
set_option maxHeartbeats 1200000 in
theorem splitI_any (p : Pg) (kv vv dv : Value) (w : World) (hp : PgAt w p kv vv dv) (hkind : p.kind = 2) (h1 : 3 < p.kids.length) (h2 : p.kids.length = p.keys.length + 1) (hlk : p.keys.length ≤ 1000) (hlv : p.vals.length ≤ 1000) (hld : p.kids.length ≤ 1000) :
    Calls Try.prog 33 #[pgv p kv vv dv] w (SplitPost (innA p) (innB p) p.keys (p.kids.length / 2 - 1) w) := by
  obtain ⟨ka, kc, va, vc, da, dc, e1, e2, e3, _, _, _⟩ := hp.forms
  subst e1 e2 e3
  have HP : Hid (PgAt w p (.slice ka p.keys.length kc) (.slice va p.vals.length vc) (.slice da p.kids.length dc)) := hp
  have HF : Hid (∀ W, Calls Try.prog 63 #[pgv p (.slice ka p.keys.length kc) (.slice va p.vals.length vc) (.slice da p.kids.length dc)] W fun e w' => e = .returned (.bool (leafP p)) ∧ Below W.heap.size W w') := fun W => isLeaf_any p ka kc va vc da dc W (by omega) (by omega)
  have HI : Hid (∀ W, Calls Try.prog 67 #[pgv p (.slice ka p.keys.length kc) (.slice va p.vals.length vc) (.slice da p.kids.length dc)] W fun e w' => e = .returned (.bool (innP p)) ∧ Below W.heap.size W w') := fun W => isInner_any p ka kc va vc da dc W (by omega) (by omega)
  have HS : Hid (∀ W, Below w.heap.size w W → Calls Try.prog 68 #[pgv p (.slice ka p.keys.length kc) (.slice va p.vals.length vc) (.slice da p.kids.length dc)] W (SplitPost (innA p) (innB p) p.keys (p.kids.length / 2 - 1) W)) := fun W hb => splitInner_any p _ _ _ W (HP.out.below hb) h1 h2 hlk hlv hld
  have HLF : Hid (leafP p = false) := by show leafP p = _; unfold leafP; simp [hkind]
  have HIN : Hid (innP p = true) := by show innP p = _; unfold innP; simp [hkind, h2]
  rw [HLF.out] at HF
  rw [HIN.out] at HI
  have hkn : 1 < p.kids.length := by omega
  clear hkind h1 h2 hp HLF HIN
  generalize (p.kids.length / 2 - 1) = ix at *
  generalize p.keys.length = kn at *
  generalize p.vals.length = vn at *
  generalize p.kids.length = dn at *
  unfold pgv at *
  have HX0 : Hid (PBox (((w.alloc (.cells #[.int .i64 p.kind, .slice ka kn kc, .slice va vn vc, .slice da dn dc, .int .i64 p.root, .int .i64 p.next, .int .i64 p.size, .int .i64 p.idle] 25)).alloc (.cells #[.int .i64 0, .slice none 0 0, .slice none 0 0, .slice none 0 0, .int .i64 0, .int .i64 0, .int .i64 0, .int .i64 0] 25)).alloc (.cells #[.int .i64 0, .slice none 0 0, .slice none 0 0, .slice none 0 0, .int .i64 0, .int .i64 0, .int .i64 0, .int .i64 0] 25)) w.heap.size p (.slice ka kn kc) (.slice va vn vc) (.slice da dn dc)) := ((Blk.new _ _ _).alloc _).alloc _
  have HX1 : Hid (Blk (((w.alloc (.cells #[.int .i64 p.kind, .slice ka kn kc, .slice va vn vc, .slice da dn dc, .int .i64 p.root, .int .i64 p.next, .int .i64 p.size, .int .i64 p.idle] 25)).alloc (.cells #[.int .i64 0, .slice none 0 0, .slice none 0 0, .slice none 0 0, .int .i64 0, .int .i64 0, .int .i64 0, .int .i64 0] 25)).alloc (.cells #[.int .i64 0, .slice none 0 0, .slice none 0 0, .slice none 0 0, .int .i64 0, .int .i64 0, .int .i64 0, .int .i64 0] 25)) (w.heap.size + 1) zeroC 25) := (blk_two _ _ _ _ _).alloc _
  have HX2 : Hid (Blk (((w.alloc (.cells #[.int .i64 p.kind, .slice ka kn kc, .slice va vn vc, .slice da dn dc, .int .i64 p.root, .int .i64 p.next, .int .i64 p.size, .int .i64 p.idle] 25)).alloc (.cells #[.int .i64 0, .slice none 0 0, .slice none 0 0, .slice none 0 0, .int .i64 0, .int .i64 0, .int .i64 0, .int .i64 0] 25)).alloc (.cells #[.int .i64 0, .slice none 0 0, .slice none 0 0, .slice none 0 0, .int .i64 0, .int .i64 0, .int .i64 0, .int .i64 0] 25)) (w.heap.size + 1 + 1) zeroC 25) := by
    have := Blk.new ((w.alloc (.cells #[.int .i64 p.kind, .slice ka kn kc, .slice va vn vc, .slice da dn dc, .int .i64 p.root, .int .i64 p.next, .int .i64 p.size, .int .i64 p.idle] 25)).alloc (.cells #[.int .i64 0, .slice none 0 0, .slice none 0 0, .slice none 0 0, .int .i64 0, .int .i64 0, .int .i64 0, .int .i64 0] 25)) zeroC 25
    rw [show ((w.alloc (.cells #[.int .i64 p.kind, .slice ka kn kc, .slice va vn vc, .slice da dn dc, .int .i64 p.root, .int .i64 p.next, .int .i64 p.size, .int .i64 p.idle] 25)).alloc (.cells #[.int .i64 0, .slice none 0 0, .slice none 0 0, .slice none 0 0, .int .i64 0, .int .i64 0, .int .i64 0, .int .i64 0] 25)).heap.size = w.heap.size + 1 + 1 by simp] at this
    exact this
  have HY0 : Hid (Below w.heap.size w (((w.alloc (.cells #[.int .i64 p.kind, .slice ka kn kc, .slice va vn vc, .slice da dn dc, .int .i64 p.root, .int .i64 p.next, .int .i64 p.size, .int .i64 p.idle] 25)).alloc (.cells #[.int .i64 0, .slice none 0 0, .slice none 0 0, .slice none 0 0, .int .i64 0, .int .i64 0, .int .i64 0, .int .i64 0] 25)).alloc (.cells #[.int .i64 0, .slice none 0 0, .slice none 0 0, .slice none 0 0, .int .i64 0, .int .i64 0, .int .i64 0, .int .i64 0] 25))) := (((Below.refl _ _).alloc (Nat.le_refl _) _).alloc (by simp) _).alloc (by simp; omega) _
  go_enter Try.func33, Try.ntmps33
  go_wp2_with fail
  refine (HF.out _).mono ?_
  rintro e w1 ⟨rfl, y⟩
  have X0 : Hid (PBox w1 w.heap.size p (.slice ka kn kc) (.slice va vn vc) (.slice da dn dc)) := HX0.out.below y
  have X1 : Hid (Blk w1 (w.heap.size + 1) zeroC 25) := Blk.of HX1.out (y.block _ HX1.out.lt)
  have X2 : Hid (Blk w1 (w.heap.size + 1 + 1) zeroC 25) := Blk.of HX2.out (y.block _ HX2.out.lt)
  have YA : Hid (Below w.heap.size w w1) := ext_trans HY0.out y
  clear y HX0 HX1 HX2 HY0 HF
  obtain ⟨y0, y1, y2, y3, y4, y5, y6, y7⟩ := X0.out.cells
  go_wp2_with fail
  refine (HI.out _).mono ?_
  rintro e w2 ⟨rfl, y⟩
  have X0b : Hid (PBox w2 w.heap.size p (.slice ka kn kc) (.slice va vn vc) (.slice da dn dc)) := X0.out.below y
  have X1b : Hid (Blk w2 (w.heap.size + 1) zeroC 25) := Blk.of X1.out (y.block _ X1.out.lt)
  have X2b : Hid (Blk w2 (w.heap.size + 1 + 1) zeroC 25) := Blk.of X2.out (y.block _ X2.out.lt)
  have YAb : Hid (Below w.heap.size w w2) := ext_trans YA.out y
  clear y X0 X1 X2 YA y0 y1 y2 y3 y4 y5 y6 y7
  have X1 := X1b
  have X2 := X2b
  have YA := YAb
  clear X1b X2b YAb
  obtain ⟨y0, y1, y2, y3, y4, y5, y6, y7⟩ := X0b.out.cells
  go_wp2_with fail
  refine (HS.out _ YA.out).mono ?_
  rintro e w3 ⟨k1, v1, d1, s, k2, v2, d2, rfl, hk, hp1, hp2, hn1, hn2, y⟩
  obtain ⟨n1, ka1, kc1, e1⟩ := hp1.keys.any
  obtain ⟨m1, va1, vc1, e2⟩ := hp1.vals.any
  obtain ⟨l1, da1, dc1, e3⟩ := hp1.kids.any
  obtain ⟨n2, ka2, kc2, e4⟩ := hp2.keys.any
  obtain ⟨m2, va2, vc2, e5⟩ := hp2.vals.any
  obtain ⟨l2, da2, dc2, e6⟩ := hp2.kids.any
  subst e1 e2 e3 e4 e5 e6
  have HK : Hid (p.keys[ix]? = some s) := hk
  have P1 : Hid (PgAt w3 (innA p) (.slice ka1 n1 kc1) (.slice va1 m1 vc1) (.slice da1 l1 dc1)) := hp1
  have P2 : Hid (PgAt w3 (innB p) (.slice ka2 n2 kc2) (.slice va2 m2 vc2) (.slice da2 l2 dc2)) := hp2
  have Z1 : Hid (Blk w3 (w.heap.size + 1) zeroC 25) := Blk.of X1.out (y.block _ X1.out.lt)
  have Z2 : Hid (Blk w3 (w.heap.size + 1 + 1) zeroC 25) := Blk.of X2.out (y.block _ X2.out.lt)
  have YC : Hid (Below w.heap.size w w3) := ext_trans YA.out y
  have N1 : Hid (NewP w2.heap.size (.slice ka1 n1 kc1) (.slice va1 m1 vc1) (.slice da1 l1 dc1)) := hn1
  have N2 : Hid (NewP w2.heap.size (.slice ka2 n2 kc2) (.slice va2 m2 vc2) (.slice da2 l2 dc2)) := hn2
  have SZ : Hid (w.heap.size + 1 + 1 < w2.heap.size) := X2.out.lt
  have KA : Hid (((innA p)).kind = p.kind ∧ ((innA p)).root = p.root ∧ ((innA p)).next = p.next ∧ ((innA p)).size = p.size ∧ ((innA p)).idle = p.idle) := ⟨rfl, rfl, rfl, rfl, rfl⟩
  clear hk hp1 hp2 hn1 hn2 y X1 X2 YA y0 y1 y2 y3 y4 y5 y6 y7 HS HI
  have KA : ((innA p)).kind = p.kind := rfl
  have KB : ((innA p)).root = p.root := rfl
  have KC : ((innA p)).next = p.next := rfl
  have KD : ((innA p)).size = p.size := rfl
  have KE : ((innA p)).idle = p.idle := rfl
  have LA : ((innB p)).kind = p.kind := rfl
  have LB : ((innB p)).root = p.root := rfl
  have LC : ((innB p)).next = p.next := rfl
  have LD : ((innB p)).size = p.size := rfl
  have LE : ((innB p)).idle = p.idle := rfl
  have z10 := Z1.out.cell 0
  have g10 := Z1.out.frozen 0
  have z11 := Z1.out.cell 1
  have g11 := Z1.out.frozen 1
  have z12 := Z1.out.cell 2
  have g12 := Z1.out.frozen 2
  have z13 := Z1.out.cell 3
  have g13 := Z1.out.frozen 3
  have z14 := Z1.out.cell 4
  have g14 := Z1.out.frozen 4
  have z15 := Z1.out.cell 5
  have g15 := Z1.out.frozen 5
  have z16 := Z1.out.cell 6
  have g16 := Z1.out.frozen 6
  have z17 := Z1.out.cell 7
  have g17 := Z1.out.frozen 7
  have z20 := Z2.out.cell 0
  have g20 := Z2.out.frozen 0
  have z21 := Z2.out.cell 1
  have g21 := Z2.out.frozen 1
  have z22 := Z2.out.cell 2
  have g22 := Z2.out.frozen 2
  have z23 := Z2.out.cell 3
  have g23 := Z2.out.frozen 3
  have z24 := Z2.out.cell 4
  have g24 := Z2.out.frozen 4
  have z25 := Z2.out.cell 5
  have g25 := Z2.out.frozen 5
  have z26 := Z2.out.cell 6
  have g26 := Z2.out.frozen 6
  have z27 := Z2.out.cell 7
  have g27 := Z2.out.frozen 7
  unfold zeroC at z10 z11 z12 z13 z14 z15 z16 z17 z20 z21 z22 z23 z24 z25 z26 z27
  unfold pgv
  go_wp2
  have F1 : PBox (put8 (put8 w3 (w.heap.size + 1) (.int .i64 p.kind) (.slice ka1 n1 kc1) (.slice va1 m1 vc1) (.slice da1 l1 dc1) (.int .i64 p.root) (.int .i64 p.next) (.int .i64 p.size) (.int .i64 p.idle)) (w.heap.size + 1 + 1) (.int .i64 p.kind) (.slice ka2 n2 kc2) (.slice va2 m2 vc2) (.slice da2 l2 dc2) (.int .i64 p.root) (.int .i64 p.next) (.int .i64 p.size) (.int .i64 p.idle)) (w.heap.size + 1) p (.slice ka1 n1 kc1) (.slice va1 m1 vc1) (.slice da1 l1 dc1) := Blk.of (blk_set8 _ _ _ _ _ _ _ _ Z1.out) (put8_other _ _ _ _ _ _ _ _ _ _ _ (by omega))
  have F2 : PBox (put8 (put8 w3 (w.heap.size + 1) (.int .i64 p.kind) (.slice ka1 n1 kc1) (.slice va1 m1 vc1) (.slice da1 l1 dc1) (.int .i64 p.root) (.int .i64 p.next) (.int .i64 p.size) (.int .i64 p.idle)) (w.heap.size + 1 + 1) (.int .i64 p.kind) (.slice ka2 n2 kc2) (.slice va2 m2 vc2) (.slice da2 l2 dc2) (.int .i64 p.root) (.int .i64 p.next) (.int .i64 p.size) (.int .i64 p.idle)) (w.heap.size + 1 + 1) p (.slice ka2 n2 kc2) (.slice va2 m2 vc2) (.slice da2 l2 dc2) := blk_set8 _ _ _ _ _ _ _ _ (Blk.of Z2.out (put8_other _ _ _ _ _ _ _ _ _ _ _ (by omega)))
  have hk : ∀ g, w2.heap.size ≤ g → g < w3.heap.size → (put8 (put8 w3 (w.heap.size + 1) (.int .i64 p.kind) (.slice ka1 n1 kc1) (.slice va1 m1 vc1) (.slice da1 l1 dc1) (.int .i64 p.root) (.int .i64 p.next) (.int .i64 p.size) (.int .i64 p.idle)) (w.heap.size + 1 + 1) (.int .i64 p.kind) (.slice ka2 n2 kc2) (.slice va2 m2 vc2) (.slice da2 l2 dc2) (.int .i64 p.root) (.int .i64 p.next) (.int .i64 p.size) (.int .i64 p.idle)).heap[g]? = w3.heap[g]? := fun g hg _ => by
    have := SZ.out
    rw [put8_other _ _ _ _ _ _ _ _ _ _ _ (by omega), put8_other _ _ _ _ _ _ _ _ _ _ _ (by omega)]
  have G1 : Hid (PgAt (put8 (put8 w3 (w.heap.size + 1) (.int .i64 p.kind) (.slice ka1 n1 kc1) (.slice va1 m1 vc1) (.slice da1 l1 dc1) (.int .i64 p.root) (.int .i64 p.next) (.int .i64 p.size) (.int .i64 p.idle)) (w.heap.size + 1 + 1) (.int .i64 p.kind) (.slice ka2 n2 kc2) (.slice va2 m2 vc2) (.slice da2 l2 dc2) (.int .i64 p.root) (.int .i64 p.next) (.int .i64 p.size) (.int .i64 p.idle)) (innA p) (.slice ka1 n1 kc1) (.slice va1 m1 vc1) (.slice da1 l1 dc1)) := P1.out.kept N1.out hk
  have G2 : Hid (PgAt (put8 (put8 w3 (w.heap.size + 1) (.int .i64 p.kind) (.slice ka1 n1 kc1) (.slice va1 m1 vc1) (.slice da1 l1 dc1) (.int .i64 p.root) (.int .i64 p.next) (.int .i64 p.size) (.int .i64 p.idle)) (w.heap.size + 1 + 1) (.int .i64 p.kind) (.slice ka2 n2 kc2) (.slice va2 m2 vc2) (.slice da2 l2 dc2) (.int .i64 p.root) (.int .i64 p.next) (.int .i64 p.size) (.int .i64 p.idle)) (innB p) (.slice ka2 n2 kc2) (.slice va2 m2 vc2) (.slice da2 l2 dc2)) := P2.out.kept N2.out hk
  have RY : Hid (Below w.heap.size w (put8 (put8 w3 (w.heap.size + 1) (.int .i64 p.kind) (.slice ka1 n1 kc1) (.slice va1 m1 vc1) (.slice da1 l1 dc1) (.int .i64 p.root) (.int .i64 p.next) (.int .i64 p.size) (.int .i64 p.idle)) (w.heap.size + 1 + 1) (.int .i64 p.kind) (.slice ka2 n2 kc2) (.slice va2 m2 vc2) (.slice da2 l2 dc2) (.int .i64 p.root) (.int .i64 p.next) (.int .i64 p.size) (.int .i64 p.idle))) := put8_below (put8_below YC.out (Nat.le_succ _) _ _ _ _ _ _ _ _) (by omega) _ _ _ _ _ _ _ _
  clear hk P1 P2 Z1 Z2 YC z10 g10 z11 g11 z12 g12 z13 g13 z14 g14 z15 g15 z16 g16 z17 g17 z20 g20 z21 g21 z22 g22 z23 g23 z24 g24 z25 g25 z26 g26 z27 g27
  have hgo : ∀ (Q : World → Prop), Q (put8 (put8 w3 (w.heap.size + 1) (.int .i64 p.kind) (.slice ka1 n1 kc1) (.slice va1 m1 vc1) (.slice da1 l1 dc1) (.int .i64 p.root) (.int .i64 p.next) (.int .i64 p.size) (.int .i64 p.idle)) (w.heap.size + 1 + 1) (.int .i64 p.kind) (.slice ka2 n2 kc2) (.slice va2 m2 vc2) (.slice da2 l2 dc2) (.int .i64 p.root) (.int .i64 p.next) (.int .i64 p.size) (.int .i64 p.idle)) → Q ((((((((((((((((w3.setCell ⟨w.heap.size + 1, 0, none⟩ (.int .i64 p.kind)).setCell ⟨w.heap.size + 1, 1, none⟩ (.slice ka1 n1 kc1)).setCell ⟨w.heap.size + 1, 2, none⟩ (.slice va1 m1 vc1)).setCell ⟨w.heap.size + 1, 3, none⟩ (.slice da1 l1 dc1)).setCell ⟨w.heap.size + 1, 4, none⟩ (.int .i64 p.root)).setCell ⟨w.heap.size + 1, 5, none⟩ (.int .i64 p.next)).setCell ⟨w.heap.size + 1, 6, none⟩ (.int .i64 p.size)).setCell ⟨w.heap.size + 1, 7, none⟩ (.int .i64 p.idle)).setCell ⟨w.heap.size + 1 + 1, 0, none⟩ (.int .i64 p.kind)).setCell ⟨w.heap.size + 1 + 1, 1, none⟩ (.slice ka2 n2 kc2)).setCell ⟨w.heap.size + 1 + 1, 2, none⟩ (.slice va2 m2 vc2)).setCell ⟨w.heap.size + 1 + 1, 3, none⟩ (.slice da2 l2 dc2)).setCell ⟨w.heap.size + 1 + 1, 4, none⟩ (.int .i64 p.root)).setCell ⟨w.heap.size + 1 + 1, 5, none⟩ (.int .i64 p.next)).setCell ⟨w.heap.size + 1 + 1, 6, none⟩ (.int .i64 p.size)).setCell ⟨w.heap.size + 1 + 1, 7, none⟩ (.int .i64 p.idle)) := fun Q h => h
  refine hgo _ ?_
  clear hgo
  generalize (put8 (put8 w3 (w.heap.size + 1) (.int .i64 p.kind) (.slice ka1 n1 kc1) (.slice va1 m1 vc1) (.slice da1 l1 dc1) (.int .i64 p.root) (.int .i64 p.next) (.int .i64 p.size) (.int .i64 p.idle)) (w.heap.size + 1 + 1) (.int .i64 p.kind) (.slice ka2 n2 kc2) (.slice va2 m2 vc2) (.slice da2 l2 dc2) (.int .i64 p.root) (.int .i64 p.next) (.int .i64 p.size) (.int .i64 p.idle)) = WF at *
  obtain ⟨q0, q1, q2, q3, q4, q5, q6, q7⟩ := F1.cells
  obtain ⟨t0, t1, t2, t3, t4, t5, t6, t7⟩ := F2.cells
  exact bodyPost_ret (v := .tuple #[pgv (innA p) (.slice ka1 n1 kc1) (.slice va1 m1 vc1) (.slice da1 l1 dc1), .string s, pgv (innB p) (.slice ka2 n2 kc2) (.slice va2 m2 vc2) (.slice da2 l2 dc2)]) (by simp [pgv, results, Try.results33, go_sem, q0, q1, q2, q3, q4, q5, q6, q7, t0, t1, t2, t3, t4, t5, t6, t7, KA, KB, KC, KD, KE, LA, LB, LC, LD, LE]) rfl ⟨_, _, _, _, _, _, _, rfl, HK.out, G1.out, G2.out, N1.out.mono (by have := SZ.out; omega), N2.out.mono (by have := SZ.out; omega), RY.out⟩
end Go.Proofs.Ytmjekecalghhdaa
