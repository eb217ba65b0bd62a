/- node's hasKey, Hang, Turn, Unhang of an inner page. Own lemmas, no statement. -/
import Derived.Test.YtmjekecalghhdaaNd10
import Derived.Test.YtmjekecalghhdaaNdS
set_option linter.unusedSimpArgs false
set_option linter.unusedVariables false
namespace Go.Proofs.Ytmjekecalghhdaa
open Go.ChangeShapes Go.WideShapes Go.ChangeAt Go.RowKit

set_option maxHeartbeats 1000000 in
/-- An inner page has a key at a place that is there. -/
theorem hasKey_any (p : Pg) (i : Nat) (ka kc va vc da dc) (w : World) (hin : innP p = true) (hi : i < p.keys.length) (hl : p.keys.length ≤ 1000 ∧ p.kids.length ≤ 1001) :
    Calls Try.prog 70 #[pgv p (.slice ka p.keys.length kc) (.slice va p.vals.length vc) (.slice da p.kids.length dc), .int .i64 (i : Int)] w fun e w' => e = .returned (.bool true) ∧ Below w.heap.size w w' := by
  have HF : Hid (∀ W, Calls Try.prog 67 #[pgv p (.slice ka p.keys.length kc) (.slice va p.vals.length vc) (.slice da p.kids.length dc)] W fun e w' => e = .returned (.bool true) ∧ Below W.heap.size W w') := fun W => by have := isInner_any p ka kc va vc da dc W (by omega) (by omega); rw [hin] at this; exact this
  have HX0 : Hid (PBox (w.alloc (.cells (pgc p (.slice ka p.keys.length kc) (.slice va p.vals.length vc) (.slice da p.kids.length dc)) 25)) w.heap.size p (.slice ka p.keys.length kc) (.slice va p.vals.length vc) (.slice da p.kids.length dc)) := Blk.new _ _ _
  have HE0 : Hid (∀ o, Below w.heap.size w (w.alloc o)) := fun o => (Below.refl _ _).alloc (Nat.le_refl _) _
  unfold pgv at *
  unfold pgc at HX0
  clear hin hl
  generalize p.keys.length = kn at *
  generalize p.vals.length = vn at *
  generalize p.kids.length = dn at *
  go_enter Try.func70, Try.ntmps70
  go_wp2_with fail
  refine (HF.out _).mono ?_
  rintro e w1 ⟨rfl, x1⟩
  have X1 : Hid (PBox w1 w.heap.size p (.slice ka kn kc) (.slice va vn vc) (.slice da dn dc)) := HX0.out.below x1
  have HE1 : Hid (Below w.heap.size w w1) := (HE0.out _).trans (x1.mono (HE0.out _).size)
  clear x1 HX0 HE0 HF
  obtain ⟨y0, y1, y2, y3, y4, y5, y6, y7⟩ := X1.out.cells
  have h0 : (0 : Int) ≤ (i : Int) := by omega
  have h1 : (i : Int) < (kn : Int) := by omega
  go_wp2
  go_ret
  exact ⟨by simp, HE1.out⟩

set_option maxRecDepth 100000 in
set_option maxHeartbeats 3000000 in
theorem hang_any (p : Pg) (i : Nat) (k : ByteArray) (d : Int) (kv vv dv : Value) (w : World) (hp : PgAt w p kv vv dv) (hin : innP p = true) (hi : i ≤ p.keys.length) (hl : p.keys.length ≤ 1000 ∧ p.vals.length ≤ 1000 ∧ p.kids.length ≤ 1000) :
    Calls Try.prog 35 #[pgv p kv vv dv, .int .i64 (i : Int), .string k, .int .i64 d] w fun e w' => ∃ k3 v3 d3, e = .returned (pgv (hangP p i k d) k3 v3 d3) ∧ PgAt w' (hangP p i k d) k3 v3 d3 ∧ Below w.heap.size w w' := by
  obtain ⟨ka1, kc1, va1, vc1, da1, dc1, rfl, rfl, rfl, _, _, _⟩ := hp.forms
  have HP : Hid (PgAt w p (.slice ka1 p.keys.length kc1) (.slice va1 p.vals.length vc1) (.slice da1 p.kids.length dc1)) := hp
  have HCL : Hid (∀ W, Below w.heap.size w W → w.heap.size + 2 ≤ W.heap.size → Calls Try.prog 23 #[pgv p (.slice ka1 p.keys.length kc1) (.slice va1 p.vals.length vc1) (.slice da1 p.kids.length dc1)] W fun e w' => ∃ kv' vv' dv', e = .returned (pgv p kv' vv' dv') ∧ PgO w' (w.heap.size + 2) p kv' vv' dv' ∧ Below W.heap.size W w') := fun W hb hs => (pclone_any p _ _ _ W (HP.out.below hb) ⟨by omega, by omega, by omega⟩).mono fun e w' he => by
    obtain ⟨a, b, c, h1, h2, h3⟩ := he
    exact ⟨a, b, c, h1, h2.mono hs, h3⟩
  have HF : Hid (∀ W, Calls Try.prog 67 #[pgv p (.slice ka1 p.keys.length kc1) (.slice va1 p.vals.length vc1) (.slice da1 p.kids.length dc1)] W fun e w' => e = .returned (.bool true) ∧ Below W.heap.size W w') := fun W => by have := isInner_any p ka1 kc1 va1 vc1 da1 dc1 W (by omega) (by omega); rw [hin] at this; exact this
  have hin2 : p.kind = 2 ∧ p.kids.length = p.keys.length + 1 := by unfold innP at hin; simpa only [Bool.and_eq_true, decide_eq_true_eq] using hin
  have IK : Hid (∀ (W : World) (rv : Value), OwnV W (w.heap.size + 2) 9 rv (sv p.keys) → w.heap.size + 2 ≤ W.heap.size → Calls Try.prog 64 #[rv, .int .i64 (i : Int), .slice (some ⟨W.heap.size, 0, none⟩) 1 1] (W.alloc (.cells #[.string k] 9)) fun e w' => ∃ v', e = .returned v' ∧ OwnV w' (w.heap.size + 2) 9 v' (sv (p.keys.take (i) ++ k :: p.keys.drop (i))) ∧ (v'.ownBlock = rv.ownBlock ∨ v'.ownBlock = some (W.heap.size + 1)) ∧ (W.alloc (.cells #[.string k] 9)).grownBy w' rv.ownBlock) := fun W rv ho hs => insS_any W _ rv p.keys (i) k ho (hi) (by omega) hs
  have ID : Hid (∀ (W : World) (rv : Value), OwnV W (w.heap.size + 2) 3 rv (iv p.kids) → w.heap.size + 2 ≤ W.heap.size → Calls Try.prog 69 #[rv, .int .i64 ((i : Int) + 1), .slice (some ⟨W.heap.size, 0, none⟩) 1 1] (W.alloc (.cells #[.int .i64 d] 3)) fun e w' => ∃ v', e = .returned v' ∧ OwnV w' (w.heap.size + 2) 3 v' (iv (p.kids.take (i + 1) ++ d :: p.kids.drop (i + 1))) ∧ (v'.ownBlock = rv.ownBlock ∨ v'.ownBlock = some (W.heap.size + 1)) ∧ (W.alloc (.cells #[.int .i64 d] 3)).grownBy w' rv.ownBlock) := fun W rv ho hs => by have := insI_any W _ rv p.kids (i + 1) d ho (by omega) (by omega) hs; rw [show ((i + 1 : Nat) : Int) = (i : Int) + 1 by omega] at this; exact this
  have hib : i < 1099511627776 := by omega
  have HB0 : Hid (PBox ((w.alloc (.cells #[.int .i64 p.kind, .slice ka1 p.keys.length kc1, .slice va1 p.vals.length vc1, .slice da1 p.kids.length dc1, .int .i64 p.root, .int .i64 p.next, .int .i64 p.size, .int .i64 p.idle] 25)).alloc (.cells #[.int .i64 0, .slice none 0 0, .slice none 0 0, .slice none 0 0, .int .i64 0, .int .i64 0, .int .i64 0, .int .i64 0] 25)) w.heap.size p (.slice ka1 p.keys.length kc1) (.slice va1 p.vals.length vc1) (.slice da1 p.kids.length dc1)) := (Blk.new _ _ _).alloc _
  have RX : Hid (Blk ((w.alloc (.cells #[.int .i64 p.kind, .slice ka1 p.keys.length kc1, .slice va1 p.vals.length vc1, .slice da1 p.kids.length dc1, .int .i64 p.root, .int .i64 p.next, .int .i64 p.size, .int .i64 p.idle] 25)).alloc (.cells #[.int .i64 0, .slice none 0 0, .slice none 0 0, .slice none 0 0, .int .i64 0, .int .i64 0, .int .i64 0, .int .i64 0] 25)) (w.heap.size + 1) zeroC 25) := blk_two _ _ _ _ _
  have YX : Hid (Below w.heap.size w ((w.alloc (.cells #[.int .i64 p.kind, .slice ka1 p.keys.length kc1, .slice va1 p.vals.length vc1, .slice da1 p.kids.length dc1, .int .i64 p.root, .int .i64 p.next, .int .i64 p.size, .int .i64 p.idle] 25)).alloc (.cells #[.int .i64 0, .slice none 0 0, .slice none 0 0, .slice none 0 0, .int .i64 0, .int .i64 0, .int .i64 0, .int .i64 0] 25))) := ((Below.refl _ _).alloc (Nat.le_refl _) _).alloc (by simp) _
  have SZX : Hid (w.heap.size + 2 ≤ ((w.alloc (.cells #[.int .i64 p.kind, .slice ka1 p.keys.length kc1, .slice va1 p.vals.length vc1, .slice da1 p.kids.length dc1, .int .i64 p.root, .int .i64 p.next, .int .i64 p.size, .int .i64 p.idle] 25)).alloc (.cells #[.int .i64 0, .slice none 0 0, .slice none 0 0, .slice none 0 0, .int .i64 0, .int .i64 0, .int .i64 0, .int .i64 0] 25)).heap.size) := by show _ ≤ _; simp
  clear hp hl hin hin2 HP
  unfold pgv at *
  unfold hangP
  generalize p.keys.length = kn1 at *
  generalize p.vals.length = vn1 at *
  generalize p.kids.length = dn1 at *
  go_enter Try.func35, Try.ntmps35
  go_upto_region 1 with fail
  generalize ((w.alloc (.cells #[.int .i64 p.kind, .slice ka1 kn1 kc1, .slice va1 vn1 vc1, .slice da1 dn1 dc1, .int .i64 p.root, .int .i64 p.next, .int .i64 p.size, .int .i64 p.idle] 25)).alloc (.cells #[.int .i64 0, .slice none 0 0, .slice none 0 0, .slice none 0 0, .int .i64 0, .int .i64 0, .int .i64 0, .int .i64 0] 25)) = w0 at *
  obtain ⟨z0, z1, z2, z3, z4, z5, z6, z7⟩ := HB0.out.cells
  go_wp2_with fail
  refine (HCL.out _ YX.out SZX.out).mono ?_
  rintro e w1 ⟨kv, vv, dv, rfl, ho, y⟩
  obtain ⟨kn, ka, kc, e1⟩ := ho.keys.rd.any
  obtain ⟨vn, va, vc, e2⟩ := ho.vals.rd.any
  obtain ⟨dn, da, dc, e3⟩ := ho.kids.rd.any
  subst e1 e2 e3
  have P0 : Hid (PS w (w1.alloc (.cells #[.int .i64 p.kind, .slice ka kn kc, .slice va vn vc, .slice da dn dc, .int .i64 p.root, .int .i64 p.next, .int .i64 p.size, .int .i64 p.idle] 25)) w1.heap.size p p (.slice ka1 kn1 kc1) (.slice va1 vn1 vc1) (.slice da1 dn1 dc1) (.slice ka kn kc) (.slice va vn vc) (.slice da dn dc)) := ps_first HB0.out RX.out YX.out SZX.out ho y
  clear ho y YX RX SZX HCL HB0 z0 z1 z2 z3 z4 z5 z6 z7
  go_upto_region 2 with fail
  generalize w1.alloc (.cells #[.int .i64 p.kind, .slice ka kn kc, .slice va vn vc, .slice da dn dc, .int .i64 p.root, .int .i64 p.next, .int .i64 p.size, .int .i64 p.idle] 25) = w2 at *
  obtain ⟨b, hbb⟩ : ∃ b, w1.heap.size = b := ⟨_, rfl⟩
  rw [hbb] at P0 ⊢
  clear hbb
  have h0 : ¬ ((i : Int) < 0) := by omega
  have h1 : ¬ ((kn1 : Int) < (i : Int)) := by omega
  obtain ⟨z0, z1, z2, z3, z4, z5, z6, z7⟩ := P0.out.A.cells
  go_wp2_with fail
  refine (HF.out _).mono ?_
  rintro e w3 ⟨rfl, x⟩
  have P1 : Hid (PS w w3 b p p (.slice ka1 kn1 kc1) (.slice va1 vn1 vc1) (.slice da1 dn1 dc1) (.slice ka kn kc) (.slice va vn vc) (.slice da dn dc)) := P0.out.below x
  clear x P0 z0 z1 z2 z3 z4 z5 z6 z7
  obtain ⟨z0, z1, z2, z3, z4, z5, z6, z7⟩ := P1.out.A.cells
  go_upto_region 4 with fail
  clear z0 z1 z2 z3 z4 z5 z6 z7 h0 h1
  obtain ⟨z0, z1, z2, z3, z4, z5, z6, z7⟩ := P1.out.X.box.cells
  go_wp2_with fail
  refine (IK.out w3 (.slice ka kn kc) P1.out.X.own.keys (Nat.le_trans (Nat.le_refl _) P1.out.S)).mono ?_
  rintro e X2 ⟨v2, rfl, ho, hat, hg⟩
  obtain ⟨n2, a2, c2, e1⟩ := ho.rd.any
  subst e1
  have P2 : Hid (PS w (X2.setCell ⟨b, 1, none⟩ (.slice a2 n2 c2)) b p { p with keys := p.keys.take i ++ k :: p.keys.drop i } (.slice ka1 kn1 kc1) (.slice va1 vn1 vc1) (.slice da1 dn1 dc1) (.slice a2 n2 c2) (.slice va vn vc) (.slice da dn dc)) := P1.out.insK ho hat hg
  have pre := P1.out.X.pre P1.out.X.nk hg
  clear z0 z1 z2 z3 z4 z5 z6 z7 ho hat hg
  obtain ⟨z0, z1, z2, z3, z4, z5, z6, z7⟩ := pre.cells
  have ff := pre.frozen 1
  clear pre P1
  go_upto_region 5 with fail
  generalize X2.setCell ⟨b, 1, none⟩ (.slice a2 n2 c2) = w4 at *
  clear z0 z1 z2 z3 z4 z5 z6 z7 ff
  obtain ⟨z0, z1, z2, z3, z4, z5, z6, z7⟩ := P2.out.X.box.cells
  go_wp2_with fail
  refine (ID.out w4 (.slice da dn dc) P2.out.X.own.kids (Nat.le_trans (Nat.le_refl _) P2.out.S)).mono ?_
  rintro e X3 ⟨v3, rfl, ho, hat, hg⟩
  obtain ⟨n3, a3, c3, e1⟩ := ho.rd.any
  subst e1
  have P3 : Hid (PS w (X3.setCell ⟨b, 3, none⟩ (.slice a3 n3 c3)) b p { { p with keys := p.keys.take i ++ k :: p.keys.drop i } with kids := p.kids.take (i + 1) ++ d :: p.kids.drop (i + 1) } (.slice ka1 kn1 kc1) (.slice va1 vn1 vc1) (.slice da1 dn1 dc1) (.slice a2 n2 c2) (.slice va vn vc) (.slice a3 n3 c3)) := P2.out.insD ho hat hg
  have pre := P2.out.X.pre P2.out.X.nd hg
  clear z0 z1 z2 z3 z4 z5 z6 z7 ho hat hg
  obtain ⟨z0, z1, z2, z3, z4, z5, z6, z7⟩ := pre.cells
  have ff := pre.frozen 3
  clear pre P2
  go_upto_region 6 with fail
  generalize X3.setCell ⟨b, 3, none⟩ (.slice a3 n3 c3) = w5 at *
  clear z0 z1 z2 z3 z4 z5 z6 z7 ff
  obtain ⟨x0, x1, x2, x3, x4, x5, x6, x7⟩ := P3.out.X.box.cells
  have x0' : w5.cell? ⟨b, 0, none⟩ = some (.int .i64 p.kind) := x0
  have x4' : w5.cell? ⟨b, 4, none⟩ = some (.int .i64 p.root) := x4
  have x5' : w5.cell? ⟨b, 5, none⟩ = some (.int .i64 p.next) := x5
  have x6' : w5.cell? ⟨b, 6, none⟩ = some (.int .i64 p.size) := x6
  have x7' : w5.cell? ⟨b, 7, none⟩ = some (.int .i64 p.idle) := x7
  clear x0 x4 x5 x6 x7
  have rc0 := P3.out.R.cell 0
  have rg0 := P3.out.R.frozen 0
  have rc1 := P3.out.R.cell 1
  have rg1 := P3.out.R.frozen 1
  have rc2 := P3.out.R.cell 2
  have rg2 := P3.out.R.frozen 2
  have rc3 := P3.out.R.cell 3
  have rg3 := P3.out.R.frozen 3
  have rc4 := P3.out.R.cell 4
  have rg4 := P3.out.R.frozen 4
  have rc5 := P3.out.R.cell 5
  have rg5 := P3.out.R.frozen 5
  have rc6 := P3.out.R.cell 6
  have rg6 := P3.out.R.frozen 6
  have rc7 := P3.out.R.cell 7
  have rg7 := P3.out.R.frozen 7
  unfold zeroC at rc0 rc1 rc2 rc3 rc4 rc5 rc6 rc7
  go_wp2
  have K : Hid (PBox (put8 w5 (w.heap.size + 1) (.int .i64 p.kind) (.slice a2 n2 c2) (.slice va vn vc) (.slice a3 n3 c3) (.int .i64 p.root) (.int .i64 p.next) (.int .i64 p.size) (.int .i64 p.idle)) (w.heap.size + 1) { { p with keys := p.keys.take i ++ k :: p.keys.drop i } with kids := p.kids.take (i + 1) ++ d :: p.kids.drop (i + 1) } (.slice a2 n2 c2) (.slice va vn vc) (.slice a3 n3 c3) ∧ Below w.heap.size w (put8 w5 (w.heap.size + 1) (.int .i64 p.kind) (.slice a2 n2 c2) (.slice va vn vc) (.slice a3 n3 c3) (.int .i64 p.root) (.int .i64 p.next) (.int .i64 p.size) (.int .i64 p.idle)) ∧ PgAt (put8 w5 (w.heap.size + 1) (.int .i64 p.kind) (.slice a2 n2 c2) (.slice va vn vc) (.slice a3 n3 c3) (.int .i64 p.root) (.int .i64 p.next) (.int .i64 p.size) (.int .i64 p.idle)) { { p with keys := p.keys.take i ++ k :: p.keys.drop i } with kids := p.kids.take (i + 1) ++ d :: p.kids.drop (i + 1) } (.slice a2 n2 c2) (.slice va vn vc) (.slice a3 n3 c3)) := P3.out.done
  have hgo : ∀ (Q : World → Prop), Q (put8 w5 (w.heap.size + 1) (.int .i64 p.kind) (.slice a2 n2 c2) (.slice va vn vc) (.slice a3 n3 c3) (.int .i64 p.root) (.int .i64 p.next) (.int .i64 p.size) (.int .i64 p.idle)) → Q ((((((((w5.setCell ⟨w.heap.size + 1, 0, none⟩ (.int .i64 p.kind)).setCell ⟨w.heap.size + 1, 1, none⟩ (.slice a2 n2 c2)).setCell ⟨w.heap.size + 1, 2, none⟩ (.slice va vn vc)).setCell ⟨w.heap.size + 1, 3, none⟩ (.slice a3 n3 c3)).setCell ⟨w.heap.size + 1, 4, none⟩ (.int .i64 p.root)).setCell ⟨w.heap.size + 1, 5, none⟩ (.int .i64 p.next)).setCell ⟨w.heap.size + 1, 6, none⟩ (.int .i64 p.size)).setCell ⟨w.heap.size + 1, 7, none⟩ (.int .i64 p.idle)) := fun Q h => h
  refine hgo _ ?_
  clear hgo rc0 rc1 rc2 rc3 rc4 rc5 rc6 rc7 rg0 rg1 rg2 rg3 rg4 rg5 rg6 rg7 x0' x1 x2 x3 x4' x5' x6' x7'
  generalize (put8 w5 (w.heap.size + 1) (.int .i64 p.kind) (.slice a2 n2 c2) (.slice va vn vc) (.slice a3 n3 c3) (.int .i64 p.root) (.int .i64 p.next) (.int .i64 p.size) (.int .i64 p.idle)) = WF at *
  obtain ⟨q0, q1, q2, q3, q4, q5, q6, q7⟩ := K.out.1.cells
  exact bodyPost_ret (v := pgv { { p with keys := p.keys.take i ++ k :: p.keys.drop i } with kids := p.kids.take (i + 1) ++ d :: p.kids.drop (i + 1) } (.slice a2 n2 c2) (.slice va vn vc) (.slice a3 n3 c3)) (by simp [pgv, results, Try.results35, go_sem, q0, q1, q2, q3, q4, q5, q6, q7]) rfl ⟨_, _, _, rfl, K.out.2.2, K.out.2.1⟩

set_option maxRecDepth 100000 in
set_option maxHeartbeats 3000000 in
theorem turn_any (p : Pg) (i : Nat) (k : ByteArray) (kv vv dv : Value) (w : World) (hp : PgAt w p kv vv dv) (hin : innP p = true) (hi : i < p.keys.length) (hl : p.keys.length ≤ 1000 ∧ p.vals.length ≤ 1000 ∧ p.kids.length ≤ 1000) :
    Calls Try.prog 36 #[pgv p kv vv dv, .int .i64 (i : Int), .string k] w fun e w' => ∃ k3 v3 d3, e = .returned (pgv (turnP p i k) k3 v3 d3) ∧ PgAt w' (turnP p i k) k3 v3 d3 ∧ Below w.heap.size w w' := by
  obtain ⟨ka1, kc1, va1, vc1, da1, dc1, rfl, rfl, rfl, _, _, _⟩ := hp.forms
  have HP : Hid (PgAt w p (.slice ka1 p.keys.length kc1) (.slice va1 p.vals.length vc1) (.slice da1 p.kids.length dc1)) := hp
  have HCL : Hid (∀ W, Below w.heap.size w W → w.heap.size + 2 ≤ W.heap.size → Calls Try.prog 23 #[pgv p (.slice ka1 p.keys.length kc1) (.slice va1 p.vals.length vc1) (.slice da1 p.kids.length dc1)] W fun e w' => ∃ kv' vv' dv', e = .returned (pgv p kv' vv' dv') ∧ PgO w' (w.heap.size + 2) p kv' vv' dv' ∧ Below W.heap.size W w') := fun W hb hs => (pclone_any p _ _ _ W (HP.out.below hb) ⟨by omega, by omega, by omega⟩).mono fun e w' he => by
    obtain ⟨a, b, c, h1, h2, h3⟩ := he
    exact ⟨a, b, c, h1, h2.mono hs, h3⟩
  have HF : Hid (∀ W, Calls Try.prog 67 #[pgv p (.slice ka1 p.keys.length kc1) (.slice va1 p.vals.length vc1) (.slice da1 p.kids.length dc1)] W fun e w' => e = .returned (.bool true) ∧ Below W.heap.size W w') := fun W => by have := isInner_any p ka1 kc1 va1 vc1 da1 dc1 W (by omega) (by omega); rw [hin] at this; exact this
  have hin2 : p.kind = 2 ∧ p.kids.length = p.keys.length + 1 := by unfold innP at hin; simpa only [Bool.and_eq_true, decide_eq_true_eq] using hin
  have HH : Hid (∀ W, Calls Try.prog 70 #[pgv p (.slice ka1 p.keys.length kc1) (.slice va1 p.vals.length vc1) (.slice da1 p.kids.length dc1), .int .i64 (i : Int)] W fun e w' => e = .returned (.bool true) ∧ Below W.heap.size W w') := fun W => hasKey_any p i ka1 kc1 va1 vc1 da1 dc1 W hin hi ⟨by omega, by omega⟩
  have HVL : Hid (p.keys[i]?.isSome = true) := by show _ = _; rw [List.getElem?_eq_getElem hi]; rfl
  have hib : i < 1099511627776 := by omega
  have HB0 : Hid (PBox ((w.alloc (.cells #[.int .i64 p.kind, .slice ka1 p.keys.length kc1, .slice va1 p.vals.length vc1, .slice da1 p.kids.length dc1, .int .i64 p.root, .int .i64 p.next, .int .i64 p.size, .int .i64 p.idle] 25)).alloc (.cells #[.int .i64 0, .slice none 0 0, .slice none 0 0, .slice none 0 0, .int .i64 0, .int .i64 0, .int .i64 0, .int .i64 0] 25)) w.heap.size p (.slice ka1 p.keys.length kc1) (.slice va1 p.vals.length vc1) (.slice da1 p.kids.length dc1)) := (Blk.new _ _ _).alloc _
  have RX : Hid (Blk ((w.alloc (.cells #[.int .i64 p.kind, .slice ka1 p.keys.length kc1, .slice va1 p.vals.length vc1, .slice da1 p.kids.length dc1, .int .i64 p.root, .int .i64 p.next, .int .i64 p.size, .int .i64 p.idle] 25)).alloc (.cells #[.int .i64 0, .slice none 0 0, .slice none 0 0, .slice none 0 0, .int .i64 0, .int .i64 0, .int .i64 0, .int .i64 0] 25)) (w.heap.size + 1) zeroC 25) := blk_two _ _ _ _ _
  have YX : Hid (Below w.heap.size w ((w.alloc (.cells #[.int .i64 p.kind, .slice ka1 p.keys.length kc1, .slice va1 p.vals.length vc1, .slice da1 p.kids.length dc1, .int .i64 p.root, .int .i64 p.next, .int .i64 p.size, .int .i64 p.idle] 25)).alloc (.cells #[.int .i64 0, .slice none 0 0, .slice none 0 0, .slice none 0 0, .int .i64 0, .int .i64 0, .int .i64 0, .int .i64 0] 25))) := ((Below.refl _ _).alloc (Nat.le_refl _) _).alloc (by simp) _
  have SZX : Hid (w.heap.size + 2 ≤ ((w.alloc (.cells #[.int .i64 p.kind, .slice ka1 p.keys.length kc1, .slice va1 p.vals.length vc1, .slice da1 p.kids.length dc1, .int .i64 p.root, .int .i64 p.next, .int .i64 p.size, .int .i64 p.idle] 25)).alloc (.cells #[.int .i64 0, .slice none 0 0, .slice none 0 0, .slice none 0 0, .int .i64 0, .int .i64 0, .int .i64 0, .int .i64 0] 25)).heap.size) := by show _ ≤ _; simp
  clear hp hl hin hin2 HP HF hi
  unfold pgv at *
  unfold turnP
  generalize p.keys.length = kn1 at *
  generalize p.vals.length = vn1 at *
  generalize p.kids.length = dn1 at *
  go_enter Try.func36, Try.ntmps36
  go_upto_region 1 with fail
  generalize ((w.alloc (.cells #[.int .i64 p.kind, .slice ka1 kn1 kc1, .slice va1 vn1 vc1, .slice da1 dn1 dc1, .int .i64 p.root, .int .i64 p.next, .int .i64 p.size, .int .i64 p.idle] 25)).alloc (.cells #[.int .i64 0, .slice none 0 0, .slice none 0 0, .slice none 0 0, .int .i64 0, .int .i64 0, .int .i64 0, .int .i64 0] 25)) = w0 at *
  obtain ⟨z0, z1, z2, z3, z4, z5, z6, z7⟩ := HB0.out.cells
  go_wp2_with fail
  refine (HCL.out _ YX.out SZX.out).mono ?_
  rintro e w1 ⟨kv, vv, dv, rfl, ho, y⟩
  obtain ⟨kn, ka, kc, e1⟩ := ho.keys.rd.any
  obtain ⟨vn, va, vc, e2⟩ := ho.vals.rd.any
  obtain ⟨dn, da, dc, e3⟩ := ho.kids.rd.any
  subst e1 e2 e3
  have P0 : Hid (PS w (w1.alloc (.cells #[.int .i64 p.kind, .slice ka kn kc, .slice va vn vc, .slice da dn dc, .int .i64 p.root, .int .i64 p.next, .int .i64 p.size, .int .i64 p.idle] 25)) w1.heap.size p p (.slice ka1 kn1 kc1) (.slice va1 vn1 vc1) (.slice da1 dn1 dc1) (.slice ka kn kc) (.slice va vn vc) (.slice da dn dc)) := ps_first HB0.out RX.out YX.out SZX.out ho y
  clear ho y YX RX SZX HCL HB0 z0 z1 z2 z3 z4 z5 z6 z7
  go_upto_region 2 with fail
  generalize w1.alloc (.cells #[.int .i64 p.kind, .slice ka kn kc, .slice va vn vc, .slice da dn dc, .int .i64 p.root, .int .i64 p.next, .int .i64 p.size, .int .i64 p.idle] 25) = w2 at *
  obtain ⟨b, hbb⟩ : ∃ b, w1.heap.size = b := ⟨_, rfl⟩
  rw [hbb] at P0 ⊢
  clear hbb
  obtain ⟨z0, z1, z2, z3, z4, z5, z6, z7⟩ := P0.out.A.cells
  go_wp2_with fail
  refine (HH.out _).mono ?_
  rintro e w3 ⟨rfl, x⟩
  have P1 : Hid (PS w w3 b p p (.slice ka1 kn1 kc1) (.slice va1 vn1 vc1) (.slice da1 dn1 dc1) (.slice ka kn kc) (.slice va vn vc) (.slice da dn dc)) := P0.out.below x
  clear x P0 z0 z1 z2 z3 z4 z5 z6 z7
  obtain ⟨g, cap, u, e1, c1, f1, x1⟩ := P1.out.cellK (lt_some HVL.out) k
  have XX : Hid _ := x1
  clear x1
  cases e1
  obtain ⟨z0, z1, z2, z3, z4, z5, z6, z7⟩ := P1.out.X.box.cells
  have hbd : i < p.keys.length := (lt_some HVL.out)
  go_upto_region 4 with fail
  clear z0 z1 z2 z3 z4 z5 z6 z7 c1 f1 hbd P1
  have P2 : Hid _ := XX.out
  clear XX
  generalize w3.setCell ⟨g, i, none⟩ (.string k) = w4 at *
  obtain ⟨x0, x1, x2, x3, x4, x5, x6, x7⟩ := P2.out.X.box.cells
  have x0' : w4.cell? ⟨b, 0, none⟩ = some (.int .i64 p.kind) := x0
  have x4' : w4.cell? ⟨b, 4, none⟩ = some (.int .i64 p.root) := x4
  have x5' : w4.cell? ⟨b, 5, none⟩ = some (.int .i64 p.next) := x5
  have x6' : w4.cell? ⟨b, 6, none⟩ = some (.int .i64 p.size) := x6
  have x7' : w4.cell? ⟨b, 7, none⟩ = some (.int .i64 p.idle) := x7
  clear x0 x4 x5 x6 x7
  have rc0 := P2.out.R.cell 0
  have rg0 := P2.out.R.frozen 0
  have rc1 := P2.out.R.cell 1
  have rg1 := P2.out.R.frozen 1
  have rc2 := P2.out.R.cell 2
  have rg2 := P2.out.R.frozen 2
  have rc3 := P2.out.R.cell 3
  have rg3 := P2.out.R.frozen 3
  have rc4 := P2.out.R.cell 4
  have rg4 := P2.out.R.frozen 4
  have rc5 := P2.out.R.cell 5
  have rg5 := P2.out.R.frozen 5
  have rc6 := P2.out.R.cell 6
  have rg6 := P2.out.R.frozen 6
  have rc7 := P2.out.R.cell 7
  have rg7 := P2.out.R.frozen 7
  unfold zeroC at rc0 rc1 rc2 rc3 rc4 rc5 rc6 rc7
  go_wp2
  have K : Hid (PBox (put8 w4 (w.heap.size + 1) (.int .i64 p.kind) (.slice (some ⟨g, 0, none⟩) p.keys.length kc) (.slice va vn vc) (.slice da dn dc) (.int .i64 p.root) (.int .i64 p.next) (.int .i64 p.size) (.int .i64 p.idle)) (w.heap.size + 1) { p with keys := p.keys.set i k } (.slice (some ⟨g, 0, none⟩) p.keys.length kc) (.slice va vn vc) (.slice da dn dc) ∧ Below w.heap.size w (put8 w4 (w.heap.size + 1) (.int .i64 p.kind) (.slice (some ⟨g, 0, none⟩) p.keys.length kc) (.slice va vn vc) (.slice da dn dc) (.int .i64 p.root) (.int .i64 p.next) (.int .i64 p.size) (.int .i64 p.idle)) ∧ PgAt (put8 w4 (w.heap.size + 1) (.int .i64 p.kind) (.slice (some ⟨g, 0, none⟩) p.keys.length kc) (.slice va vn vc) (.slice da dn dc) (.int .i64 p.root) (.int .i64 p.next) (.int .i64 p.size) (.int .i64 p.idle)) { p with keys := p.keys.set i k } (.slice (some ⟨g, 0, none⟩) p.keys.length kc) (.slice va vn vc) (.slice da dn dc)) := P2.out.done
  have hgo : ∀ (Q : World → Prop), Q (put8 w4 (w.heap.size + 1) (.int .i64 p.kind) (.slice (some ⟨g, 0, none⟩) p.keys.length kc) (.slice va vn vc) (.slice da dn dc) (.int .i64 p.root) (.int .i64 p.next) (.int .i64 p.size) (.int .i64 p.idle)) → Q ((((((((w4.setCell ⟨w.heap.size + 1, 0, none⟩ (.int .i64 p.kind)).setCell ⟨w.heap.size + 1, 1, none⟩ (.slice (some ⟨g, 0, none⟩) p.keys.length kc)).setCell ⟨w.heap.size + 1, 2, none⟩ (.slice va vn vc)).setCell ⟨w.heap.size + 1, 3, none⟩ (.slice da dn dc)).setCell ⟨w.heap.size + 1, 4, none⟩ (.int .i64 p.root)).setCell ⟨w.heap.size + 1, 5, none⟩ (.int .i64 p.next)).setCell ⟨w.heap.size + 1, 6, none⟩ (.int .i64 p.size)).setCell ⟨w.heap.size + 1, 7, none⟩ (.int .i64 p.idle)) := fun Q h => h
  refine hgo _ ?_
  clear hgo rc0 rc1 rc2 rc3 rc4 rc5 rc6 rc7 rg0 rg1 rg2 rg3 rg4 rg5 rg6 rg7 x0' x1 x2 x3 x4' x5' x6' x7'
  generalize (put8 w4 (w.heap.size + 1) (.int .i64 p.kind) (.slice (some ⟨g, 0, none⟩) p.keys.length kc) (.slice va vn vc) (.slice da dn dc) (.int .i64 p.root) (.int .i64 p.next) (.int .i64 p.size) (.int .i64 p.idle)) = WF at *
  obtain ⟨q0, q1, q2, q3, q4, q5, q6, q7⟩ := K.out.1.cells
  exact bodyPost_ret (v := pgv { p with keys := p.keys.set i k } (.slice (some ⟨g, 0, none⟩) p.keys.length kc) (.slice va vn vc) (.slice da dn dc)) (by simp [pgv, results, Try.results36, go_sem, q0, q1, q2, q3, q4, q5, q6, q7]) rfl ⟨_, _, _, rfl, K.out.2.2, K.out.2.1⟩

set_option maxRecDepth 100000 in
set_option maxHeartbeats 3000000 in
theorem unhang_any (p : Pg) (i : Nat) (kv vv dv : Value) (w : World) (hp : PgAt w p kv vv dv) (hin : innP p = true) (hi : i < p.keys.length) (hl : p.keys.length ≤ 1000 ∧ p.vals.length ≤ 1000 ∧ p.kids.length ≤ 1000) :
    Calls Try.prog 38 #[pgv p kv vv dv, .int .i64 (i : Int)] w fun e w' => ∃ k3 v3 d3, e = .returned (pgv (unhangP p i) k3 v3 d3) ∧ PgAt w' (unhangP p i) k3 v3 d3 ∧ Below w.heap.size w w' := by
  obtain ⟨ka1, kc1, va1, vc1, da1, dc1, rfl, rfl, rfl, _, _, _⟩ := hp.forms
  have HP : Hid (PgAt w p (.slice ka1 p.keys.length kc1) (.slice va1 p.vals.length vc1) (.slice da1 p.kids.length dc1)) := hp
  have HCL : Hid (∀ W, Below w.heap.size w W → w.heap.size + 2 ≤ W.heap.size → Calls Try.prog 23 #[pgv p (.slice ka1 p.keys.length kc1) (.slice va1 p.vals.length vc1) (.slice da1 p.kids.length dc1)] W fun e w' => ∃ kv' vv' dv', e = .returned (pgv p kv' vv' dv') ∧ PgO w' (w.heap.size + 2) p kv' vv' dv' ∧ Below W.heap.size W w') := fun W hb hs => (pclone_any p _ _ _ W (HP.out.below hb) ⟨by omega, by omega, by omega⟩).mono fun e w' he => by
    obtain ⟨a, b, c, h1, h2, h3⟩ := he
    exact ⟨a, b, c, h1, h2.mono hs, h3⟩
  have HF : Hid (∀ W, Calls Try.prog 67 #[pgv p (.slice ka1 p.keys.length kc1) (.slice va1 p.vals.length vc1) (.slice da1 p.kids.length dc1)] W fun e w' => e = .returned (.bool true) ∧ Below W.heap.size W w') := fun W => by have := isInner_any p ka1 kc1 va1 vc1 da1 dc1 W (by omega) (by omega); rw [hin] at this; exact this
  have hin2 : p.kind = 2 ∧ p.kids.length = p.keys.length + 1 := by unfold innP at hin; simpa only [Bool.and_eq_true, decide_eq_true_eq] using hin
  have HH : Hid (∀ W, Calls Try.prog 70 #[pgv p (.slice ka1 p.keys.length kc1) (.slice va1 p.vals.length vc1) (.slice da1 p.kids.length dc1), .int .i64 (i : Int)] W fun e w' => e = .returned (.bool true) ∧ Below W.heap.size W w') := fun W => hasKey_any p i ka1 kc1 va1 vc1 da1 dc1 W hin hi ⟨by omega, by omega⟩
  have DK : Hid (∀ (W : World) (v : Value), OwnV W (w.heap.size + 2) 9 v (sv p.keys) → Calls Try.prog 65 #[v, .int .i64 (i : Int), .int .i64 ((i : Int) + 1)] W fun e w' => ∃ v', e = .returned v' ∧ OwnV w' (w.heap.size + 2) 9 v' (sv (p.keys.eraseIdx (i))) ∧ v'.ownBlock = v.ownBlock ∧ W.grownBy w' v.ownBlock) := fun W v ho => delS_any W _ v p.keys _ ho hi (by omega)
  have DD : Hid (∀ (W : World) (v : Value), OwnV W (w.heap.size + 2) 3 v (iv p.kids) → Calls Try.prog 71 #[v, .int .i64 ((i : Int) + 1), .int .i64 ((i : Int) + 2)] W fun e w' => ∃ v', e = .returned v' ∧ OwnV w' (w.heap.size + 2) 3 v' (iv (p.kids.eraseIdx (i + 1))) ∧ v'.ownBlock = v.ownBlock ∧ W.grownBy w' v.ownBlock) := fun W v ho => by have := delI_any W _ v p.kids (i + 1) ho (by omega) (by omega); rw [show ((i + 1 : Nat) : Int) = (i : Int) + 1 by omega, show (i : Int) + 1 + 1 = (i : Int) + 2 by omega] at this; exact this
  have hib : i < 1099511627776 := by omega
  have HB0 : Hid (PBox ((w.alloc (.cells #[.int .i64 p.kind, .slice ka1 p.keys.length kc1, .slice va1 p.vals.length vc1, .slice da1 p.kids.length dc1, .int .i64 p.root, .int .i64 p.next, .int .i64 p.size, .int .i64 p.idle] 25)).alloc (.cells #[.int .i64 0, .slice none 0 0, .slice none 0 0, .slice none 0 0, .int .i64 0, .int .i64 0, .int .i64 0, .int .i64 0] 25)) w.heap.size p (.slice ka1 p.keys.length kc1) (.slice va1 p.vals.length vc1) (.slice da1 p.kids.length dc1)) := (Blk.new _ _ _).alloc _
  have RX : Hid (Blk ((w.alloc (.cells #[.int .i64 p.kind, .slice ka1 p.keys.length kc1, .slice va1 p.vals.length vc1, .slice da1 p.kids.length dc1, .int .i64 p.root, .int .i64 p.next, .int .i64 p.size, .int .i64 p.idle] 25)).alloc (.cells #[.int .i64 0, .slice none 0 0, .slice none 0 0, .slice none 0 0, .int .i64 0, .int .i64 0, .int .i64 0, .int .i64 0] 25)) (w.heap.size + 1) zeroC 25) := blk_two _ _ _ _ _
  have YX : Hid (Below w.heap.size w ((w.alloc (.cells #[.int .i64 p.kind, .slice ka1 p.keys.length kc1, .slice va1 p.vals.length vc1, .slice da1 p.kids.length dc1, .int .i64 p.root, .int .i64 p.next, .int .i64 p.size, .int .i64 p.idle] 25)).alloc (.cells #[.int .i64 0, .slice none 0 0, .slice none 0 0, .slice none 0 0, .int .i64 0, .int .i64 0, .int .i64 0, .int .i64 0] 25))) := ((Below.refl _ _).alloc (Nat.le_refl _) _).alloc (by simp) _
  have SZX : Hid (w.heap.size + 2 ≤ ((w.alloc (.cells #[.int .i64 p.kind, .slice ka1 p.keys.length kc1, .slice va1 p.vals.length vc1, .slice da1 p.kids.length dc1, .int .i64 p.root, .int .i64 p.next, .int .i64 p.size, .int .i64 p.idle] 25)).alloc (.cells #[.int .i64 0, .slice none 0 0, .slice none 0 0, .slice none 0 0, .int .i64 0, .int .i64 0, .int .i64 0, .int .i64 0] 25)).heap.size) := by show _ ≤ _; simp
  clear hp hl hin hin2 HP HF hi
  unfold pgv at *
  unfold unhangP
  generalize p.keys.length = kn1 at *
  generalize p.vals.length = vn1 at *
  generalize p.kids.length = dn1 at *
  go_enter Try.func38, Try.ntmps38
  go_upto_region 1 with fail
  generalize ((w.alloc (.cells #[.int .i64 p.kind, .slice ka1 kn1 kc1, .slice va1 vn1 vc1, .slice da1 dn1 dc1, .int .i64 p.root, .int .i64 p.next, .int .i64 p.size, .int .i64 p.idle] 25)).alloc (.cells #[.int .i64 0, .slice none 0 0, .slice none 0 0, .slice none 0 0, .int .i64 0, .int .i64 0, .int .i64 0, .int .i64 0] 25)) = w0 at *
  obtain ⟨z0, z1, z2, z3, z4, z5, z6, z7⟩ := HB0.out.cells
  go_wp2_with fail
  refine (HCL.out _ YX.out SZX.out).mono ?_
  rintro e w1 ⟨kv, vv, dv, rfl, ho, y⟩
  obtain ⟨kn, ka, kc, e1⟩ := ho.keys.rd.any
  obtain ⟨vn, va, vc, e2⟩ := ho.vals.rd.any
  obtain ⟨dn, da, dc, e3⟩ := ho.kids.rd.any
  subst e1 e2 e3
  have P0 : Hid (PS w (w1.alloc (.cells #[.int .i64 p.kind, .slice ka kn kc, .slice va vn vc, .slice da dn dc, .int .i64 p.root, .int .i64 p.next, .int .i64 p.size, .int .i64 p.idle] 25)) w1.heap.size p p (.slice ka1 kn1 kc1) (.slice va1 vn1 vc1) (.slice da1 dn1 dc1) (.slice ka kn kc) (.slice va vn vc) (.slice da dn dc)) := ps_first HB0.out RX.out YX.out SZX.out ho y
  clear ho y YX RX SZX HCL HB0 z0 z1 z2 z3 z4 z5 z6 z7
  go_upto_region 2 with fail
  generalize w1.alloc (.cells #[.int .i64 p.kind, .slice ka kn kc, .slice va vn vc, .slice da dn dc, .int .i64 p.root, .int .i64 p.next, .int .i64 p.size, .int .i64 p.idle] 25) = w2 at *
  obtain ⟨b, hbb⟩ : ∃ b, w1.heap.size = b := ⟨_, rfl⟩
  rw [hbb] at P0 ⊢
  clear hbb
  obtain ⟨z0, z1, z2, z3, z4, z5, z6, z7⟩ := P0.out.A.cells
  go_wp2_with fail
  refine (HH.out _).mono ?_
  rintro e w3 ⟨rfl, x⟩
  have P1 : Hid (PS w w3 b p p (.slice ka1 kn1 kc1) (.slice va1 vn1 vc1) (.slice da1 dn1 dc1) (.slice ka kn kc) (.slice va vn vc) (.slice da dn dc)) := P0.out.below x
  clear x P0 z0 z1 z2 z3 z4 z5 z6 z7
  obtain ⟨z0, z1, z2, z3, z4, z5, z6, z7⟩ := P1.out.X.box.cells
  go_wp2_with fail
  refine (DK.out w3 (.slice ka kn kc) P1.out.X.own.keys).mono ?_
  rintro e X2 ⟨v2, rfl, ho, hat, hg⟩
  obtain ⟨n2, a2, c2, e1⟩ := ho.rd.any
  subst e1
  have P2 : Hid (PS w (X2.setCell ⟨b, 1, none⟩ (.slice a2 n2 c2)) b p { p with keys := p.keys.eraseIdx i } (.slice ka1 kn1 kc1) (.slice va1 vn1 vc1) (.slice da1 dn1 dc1) (.slice a2 n2 c2) (.slice va vn vc) (.slice da dn dc)) := P1.out.delK ho hat hg
  have pre := P1.out.X.preJ P1.out.X.nk hg
  clear z0 z1 z2 z3 z4 z5 z6 z7 ho hat hg
  obtain ⟨z0, z1, z2, z3, z4, z5, z6, z7⟩ := pre.cells
  have ff := pre.frozen 1
  clear pre P1
  go_upto_region 5 with fail
  generalize X2.setCell ⟨b, 1, none⟩ (.slice a2 n2 c2) = w4 at *
  clear z0 z1 z2 z3 z4 z5 z6 z7 ff
  obtain ⟨z0, z1, z2, z3, z4, z5, z6, z7⟩ := P2.out.X.box.cells
  go_wp2_with fail
  refine (DD.out w4 (.slice da dn dc) P2.out.X.own.kids).mono ?_
  rintro e X3 ⟨v3, rfl, ho, hat, hg⟩
  obtain ⟨n3, a3, c3, e1⟩ := ho.rd.any
  subst e1
  have P3 : Hid (PS w (X3.setCell ⟨b, 3, none⟩ (.slice a3 n3 c3)) b p { { p with keys := p.keys.eraseIdx i } with kids := p.kids.eraseIdx (i + 1) } (.slice ka1 kn1 kc1) (.slice va1 vn1 vc1) (.slice da1 dn1 dc1) (.slice a2 n2 c2) (.slice va vn vc) (.slice a3 n3 c3)) := P2.out.delD ho hat hg
  have pre := P2.out.X.preJ P2.out.X.nd hg
  clear z0 z1 z2 z3 z4 z5 z6 z7 ho hat hg
  obtain ⟨z0, z1, z2, z3, z4, z5, z6, z7⟩ := pre.cells
  have ff := pre.frozen 3
  clear pre P2
  go_upto_region 6 with fail
  generalize X3.setCell ⟨b, 3, none⟩ (.slice a3 n3 c3) = w5 at *
  clear z0 z1 z2 z3 z4 z5 z6 z7 ff
  obtain ⟨x0, x1, x2, x3, x4, x5, x6, x7⟩ := P3.out.X.box.cells
  have x0' : w5.cell? ⟨b, 0, none⟩ = some (.int .i64 p.kind) := x0
  have x4' : w5.cell? ⟨b, 4, none⟩ = some (.int .i64 p.root) := x4
  have x5' : w5.cell? ⟨b, 5, none⟩ = some (.int .i64 p.next) := x5
  have x6' : w5.cell? ⟨b, 6, none⟩ = some (.int .i64 p.size) := x6
  have x7' : w5.cell? ⟨b, 7, none⟩ = some (.int .i64 p.idle) := x7
  clear x0 x4 x5 x6 x7
  have rc0 := P3.out.R.cell 0
  have rg0 := P3.out.R.frozen 0
  have rc1 := P3.out.R.cell 1
  have rg1 := P3.out.R.frozen 1
  have rc2 := P3.out.R.cell 2
  have rg2 := P3.out.R.frozen 2
  have rc3 := P3.out.R.cell 3
  have rg3 := P3.out.R.frozen 3
  have rc4 := P3.out.R.cell 4
  have rg4 := P3.out.R.frozen 4
  have rc5 := P3.out.R.cell 5
  have rg5 := P3.out.R.frozen 5
  have rc6 := P3.out.R.cell 6
  have rg6 := P3.out.R.frozen 6
  have rc7 := P3.out.R.cell 7
  have rg7 := P3.out.R.frozen 7
  unfold zeroC at rc0 rc1 rc2 rc3 rc4 rc5 rc6 rc7
  go_wp2
  have K : Hid (PBox (put8 w5 (w.heap.size + 1) (.int .i64 p.kind) (.slice a2 n2 c2) (.slice va vn vc) (.slice a3 n3 c3) (.int .i64 p.root) (.int .i64 p.next) (.int .i64 p.size) (.int .i64 p.idle)) (w.heap.size + 1) { { p with keys := p.keys.eraseIdx i } with kids := p.kids.eraseIdx (i + 1) } (.slice a2 n2 c2) (.slice va vn vc) (.slice a3 n3 c3) ∧ Below w.heap.size w (put8 w5 (w.heap.size + 1) (.int .i64 p.kind) (.slice a2 n2 c2) (.slice va vn vc) (.slice a3 n3 c3) (.int .i64 p.root) (.int .i64 p.next) (.int .i64 p.size) (.int .i64 p.idle)) ∧ PgAt (put8 w5 (w.heap.size + 1) (.int .i64 p.kind) (.slice a2 n2 c2) (.slice va vn vc) (.slice a3 n3 c3) (.int .i64 p.root) (.int .i64 p.next) (.int .i64 p.size) (.int .i64 p.idle)) { { p with keys := p.keys.eraseIdx i } with kids := p.kids.eraseIdx (i + 1) } (.slice a2 n2 c2) (.slice va vn vc) (.slice a3 n3 c3)) := P3.out.done
  have hgo : ∀ (Q : World → Prop), Q (put8 w5 (w.heap.size + 1) (.int .i64 p.kind) (.slice a2 n2 c2) (.slice va vn vc) (.slice a3 n3 c3) (.int .i64 p.root) (.int .i64 p.next) (.int .i64 p.size) (.int .i64 p.idle)) → Q ((((((((w5.setCell ⟨w.heap.size + 1, 0, none⟩ (.int .i64 p.kind)).setCell ⟨w.heap.size + 1, 1, none⟩ (.slice a2 n2 c2)).setCell ⟨w.heap.size + 1, 2, none⟩ (.slice va vn vc)).setCell ⟨w.heap.size + 1, 3, none⟩ (.slice a3 n3 c3)).setCell ⟨w.heap.size + 1, 4, none⟩ (.int .i64 p.root)).setCell ⟨w.heap.size + 1, 5, none⟩ (.int .i64 p.next)).setCell ⟨w.heap.size + 1, 6, none⟩ (.int .i64 p.size)).setCell ⟨w.heap.size + 1, 7, none⟩ (.int .i64 p.idle)) := fun Q h => h
  refine hgo _ ?_
  clear hgo rc0 rc1 rc2 rc3 rc4 rc5 rc6 rc7 rg0 rg1 rg2 rg3 rg4 rg5 rg6 rg7 x0' x1 x2 x3 x4' x5' x6' x7'
  generalize (put8 w5 (w.heap.size + 1) (.int .i64 p.kind) (.slice a2 n2 c2) (.slice va vn vc) (.slice a3 n3 c3) (.int .i64 p.root) (.int .i64 p.next) (.int .i64 p.size) (.int .i64 p.idle)) = WF at *
  obtain ⟨q0, q1, q2, q3, q4, q5, q6, q7⟩ := K.out.1.cells
  exact bodyPost_ret (v := pgv { { p with keys := p.keys.eraseIdx i } with kids := p.kids.eraseIdx (i + 1) } (.slice a2 n2 c2) (.slice va vn vc) (.slice a3 n3 c3)) (by simp [pgv, results, Try.results38, go_sem, q0, q1, q2, q3, q4, q5, q6, q7]) rfl ⟨_, _, _, rfl, K.out.2.2, K.out.2.1⟩
end Go.Proofs.Ytmjekecalghhdaa
