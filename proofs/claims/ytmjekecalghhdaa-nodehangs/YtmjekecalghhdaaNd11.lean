/- node's Put and Drop of a leaf. Own lemmas, no statement. -/
import Derived.Test.YtmjekecalghhdaaNd10
import Derived.Test.YtmjekecalghhdaaNdS
set_option linter.unusedSimpArgs false
set_option linter.unusedVariables false
namespace Go.Proofs.Ytmjekecalghhdaa
open Go.ChangeShapes Go.WideShapes Go.ChangeAt Go.RowKit


set_option maxRecDepth 100000 in
set_option maxHeartbeats 3000000 in
theorem putH_any (p : Pg) (k v : ByteArray) (kv vv dv : Value) (w : World) (hp : PgAt w p kv vv dv) (hlf : leafP p = true) (hr : RisB p.keys) (hh : hasB k p.keys = true) (hl : p.keys.length ≤ 1000 ∧ p.vals.length ≤ 1000 ∧ p.kids.length ≤ 1000) :
    Calls Try.prog 28 #[pgv p kv vv dv, .string k, .string v] w fun e w' => ∃ k3 v3 d3, e = .returned (pgv (putH p k v) k3 v3 d3) ∧ PgAt w' (putH p k v) k3 v3 d3 ∧ Below w.heap.size w w' := by
  obtain ⟨ka1, kc1, va1, vc1, da1, dc1, rfl, rfl, rfl, _, _, _⟩ := hp.forms
  have HP : Hid (PgAt w p (.slice ka1 p.keys.length kc1) (.slice va1 p.vals.length vc1) (.slice da1 p.kids.length dc1)) := hp
  have HCL : Hid (∀ W, Below w.heap.size w W → w.heap.size + 2 ≤ W.heap.size → Calls Try.prog 23 #[pgv p (.slice ka1 p.keys.length kc1) (.slice va1 p.vals.length vc1) (.slice da1 p.kids.length dc1)] W fun e w' => ∃ kv' vv' dv', e = .returned (pgv p kv' vv' dv') ∧ PgO w' (w.heap.size + 2) p kv' vv' dv' ∧ Below W.heap.size W w') := fun W hb hs => (pclone_any p _ _ _ W (HP.out.below hb) ⟨by omega, by omega, by omega⟩).mono fun e w' he => by
    obtain ⟨a, b, c, h1, h2, h3⟩ := he
    exact ⟨a, b, c, h1, h2.mono hs, h3⟩
  have HF : Hid (∀ W, Calls Try.prog 63 #[pgv p (.slice ka1 p.keys.length kc1) (.slice va1 p.vals.length vc1) (.slice da1 p.kids.length dc1)] W fun e w' => e = .returned (.bool true) ∧ Below W.heap.size W w') := fun W => by have := isLeaf_any p ka1 kc1 va1 vc1 da1 dc1 W (by omega) (by omega); rw [hlf] at this; exact this
  have hlf2 : p.kind = 1 ∧ p.vals.length = p.keys.length := by unfold leafP at hlf; simpa only [Bool.and_eq_true, decide_eq_true_eq] using hlf
  have hai : atI p k = idxB k p.keys := by unfold atI; rw [if_neg (by omega)]
  have HIX : Hid (idxB k p.keys ≤ p.keys.length) := idxB_le _ _
  have HIV : Hid (idxB k p.keys ≤ p.vals.length) := by show _ ≤ _; rw [hlf2.2]; exact idxB_le _ _
  have HK : Hid (∀ W, Below w.heap.size w W → Calls Try.prog 26 #[pgv p (.slice ka1 p.keys.length kc1) (.slice va1 p.vals.length vc1) (.slice da1 p.kids.length dc1), .string k] W fun e w' => e = .returned (.tuple #[.int .i64 (idxB k p.keys : Int), .bool true]) ∧ Below W.heap.size W w') := fun W hb => by have := at_any p k _ _ _ W (HP.out.below hb) hr (by omega); rw [hai, hh] at this; exact this
  have HVL : Hid (p.vals[idxB k p.keys]?.isSome = true) := by show _ = _; rw [List.getElem?_eq_getElem (by rw [hlf2.2]; exact hasB_lt hh)]; rfl
  have hixb : idxB k p.keys < 1099511627776 := by have := HIX.out; omega
  have HB0 : Hid (PBox ((w.alloc (.cells #[.int .i64 p.kind, .slice ka1 p.keys.length kc1, .slice va1 p.vals.length vc1, .slice da1 p.kids.length dc1, .int .i64 p.root, .int .i64 p.next, .int .i64 p.size, .int .i64 p.idle] 25)).alloc (.cells #[.int .i64 0, .slice none 0 0, .slice none 0 0, .slice none 0 0, .int .i64 0, .int .i64 0, .int .i64 0, .int .i64 0] 25)) w.heap.size p (.slice ka1 p.keys.length kc1) (.slice va1 p.vals.length vc1) (.slice da1 p.kids.length dc1)) := (Blk.new _ _ _).alloc _
  have RX : Hid (Blk ((w.alloc (.cells #[.int .i64 p.kind, .slice ka1 p.keys.length kc1, .slice va1 p.vals.length vc1, .slice da1 p.kids.length dc1, .int .i64 p.root, .int .i64 p.next, .int .i64 p.size, .int .i64 p.idle] 25)).alloc (.cells #[.int .i64 0, .slice none 0 0, .slice none 0 0, .slice none 0 0, .int .i64 0, .int .i64 0, .int .i64 0, .int .i64 0] 25)) (w.heap.size + 1) zeroC 25) := blk_two _ _ _ _ _
  have YX : Hid (Below w.heap.size w ((w.alloc (.cells #[.int .i64 p.kind, .slice ka1 p.keys.length kc1, .slice va1 p.vals.length vc1, .slice da1 p.kids.length dc1, .int .i64 p.root, .int .i64 p.next, .int .i64 p.size, .int .i64 p.idle] 25)).alloc (.cells #[.int .i64 0, .slice none 0 0, .slice none 0 0, .slice none 0 0, .int .i64 0, .int .i64 0, .int .i64 0, .int .i64 0] 25))) := ((Below.refl _ _).alloc (Nat.le_refl _) _).alloc (by simp) _
  have SZX : Hid (w.heap.size + 2 ≤ ((w.alloc (.cells #[.int .i64 p.kind, .slice ka1 p.keys.length kc1, .slice va1 p.vals.length vc1, .slice da1 p.kids.length dc1, .int .i64 p.root, .int .i64 p.next, .int .i64 p.size, .int .i64 p.idle] 25)).alloc (.cells #[.int .i64 0, .slice none 0 0, .slice none 0 0, .slice none 0 0, .int .i64 0, .int .i64 0, .int .i64 0, .int .i64 0] 25)).heap.size) := by show _ ≤ _; simp
  clear hp hl hlf hr hh hlf2 hai HIX HIV HP
  unfold pgv at *
  unfold putH
  generalize idxB k p.keys = ix at *
  generalize p.keys.length = kn1 at *
  generalize p.vals.length = vn1 at *
  generalize p.kids.length = dn1 at *
  go_enter Try.func28, Try.ntmps28
  go_upto_region 1 with fail
  generalize ((w.alloc (.cells #[.int .i64 p.kind, .slice ka1 kn1 kc1, .slice va1 vn1 vc1, .slice da1 dn1 dc1, .int .i64 p.root, .int .i64 p.next, .int .i64 p.size, .int .i64 p.idle] 25)).alloc (.cells #[.int .i64 0, .slice none 0 0, .slice none 0 0, .slice none 0 0, .int .i64 0, .int .i64 0, .int .i64 0, .int .i64 0] 25)) = w0 at *
  obtain ⟨z0, z1, z2, z3, z4, z5, z6, z7⟩ := HB0.out.cells
  go_wp2_with fail
  refine (HCL.out _ YX.out SZX.out).mono ?_
  rintro e w1 ⟨kv, vv, dv, rfl, ho, y⟩
  obtain ⟨kn, ka, kc, e1⟩ := ho.keys.rd.any
  obtain ⟨vn, va, vc, e2⟩ := ho.vals.rd.any
  obtain ⟨dn, da, dc, e3⟩ := ho.kids.rd.any
  subst e1 e2 e3
  have P0 : Hid (PS w (w1.alloc (.cells #[.int .i64 p.kind, .slice ka kn kc, .slice va vn vc, .slice da dn dc, .int .i64 p.root, .int .i64 p.next, .int .i64 p.size, .int .i64 p.idle] 25)) w1.heap.size p p (.slice ka1 kn1 kc1) (.slice va1 vn1 vc1) (.slice da1 dn1 dc1) (.slice ka kn kc) (.slice va vn vc) (.slice da dn dc)) := ps_first HB0.out RX.out YX.out SZX.out ho y
  clear ho y YX RX SZX HCL HB0 z0 z1 z2 z3 z4 z5 z6 z7
  go_upto_region 2 with fail
  generalize w1.alloc (.cells #[.int .i64 p.kind, .slice ka kn kc, .slice va vn vc, .slice da dn dc, .int .i64 p.root, .int .i64 p.next, .int .i64 p.size, .int .i64 p.idle] 25) = w2 at *
  obtain ⟨b, hbb⟩ : ∃ b, w1.heap.size = b := ⟨_, rfl⟩
  rw [hbb] at P0 ⊢
  clear hbb
  obtain ⟨z0, z1, z2, z3, z4, z5, z6, z7⟩ := P0.out.A.cells
  go_wp2_with fail
  refine (HF.out _).mono ?_
  rintro e w3 ⟨rfl, x⟩
  have P1 : Hid (PS w w3 b p p (.slice ka1 kn1 kc1) (.slice va1 vn1 vc1) (.slice da1 dn1 dc1) (.slice ka kn kc) (.slice va vn vc) (.slice da dn dc)) := P0.out.below x
  clear x P0 z0 z1 z2 z3 z4 z5 z6 z7
  obtain ⟨z0, z1, z2, z3, z4, z5, z6, z7⟩ := P1.out.A.cells
  go_wp2_with fail
  refine (HK.out _ P1.out.Y).mono ?_
  rintro e w4 ⟨rfl, x⟩
  have P2 : Hid (PS w w4 b p p (.slice ka1 kn1 kc1) (.slice va1 vn1 vc1) (.slice da1 dn1 dc1) (.slice ka kn kc) (.slice va vn vc) (.slice da dn dc)) := P1.out.below x
  clear x P1 z0 z1 z2 z3 z4 z5 z6 z7
  obtain ⟨g, cap, u, e1, c1, f1, x1⟩ := P2.out.cellV (lt_some HVL.out) v
  have XX : Hid _ := x1
  clear x1
  cases e1
  obtain ⟨z0, z1, z2, z3, z4, z5, z6, z7⟩ := P2.out.X.box.cells
  have hbd : ix < p.vals.length := (lt_some HVL.out)
  go_upto_region 7 with fail
  clear z0 z1 z2 z3 z4 z5 z6 z7 c1 f1 hbd P2
  have P3 : Hid _ := XX.out
  clear XX
  generalize w4.setCell ⟨g, ix, none⟩ (.string v) = w5 at *
  obtain ⟨x0, x1, x2, x3, x4, x5, x6, x7⟩ := P3.out.X.box.cells
  have x0' : w5.cell? ⟨b, 0, none⟩ = some (.int .i64 p.kind) := x0
  have x4' : w5.cell? ⟨b, 4, none⟩ = some (.int .i64 p.root) := x4
  have x5' : w5.cell? ⟨b, 5, none⟩ = some (.int .i64 p.next) := x5
  have x6' : w5.cell? ⟨b, 6, none⟩ = some (.int .i64 p.size) := x6
  have x7' : w5.cell? ⟨b, 7, none⟩ = some (.int .i64 p.idle) := x7
  clear x0 x4 x5 x6 x7
  have rc0 := P3.out.R.cell 0
  have rg0 := P3.out.R.frozen 0
  have rc1 := P3.out.R.cell 1
  have rg1 := P3.out.R.frozen 1
  have rc2 := P3.out.R.cell 2
  have rg2 := P3.out.R.frozen 2
  have rc3 := P3.out.R.cell 3
  have rg3 := P3.out.R.frozen 3
  have rc4 := P3.out.R.cell 4
  have rg4 := P3.out.R.frozen 4
  have rc5 := P3.out.R.cell 5
  have rg5 := P3.out.R.frozen 5
  have rc6 := P3.out.R.cell 6
  have rg6 := P3.out.R.frozen 6
  have rc7 := P3.out.R.cell 7
  have rg7 := P3.out.R.frozen 7
  unfold zeroC at rc0 rc1 rc2 rc3 rc4 rc5 rc6 rc7
  go_wp2
  have K : Hid (PBox (put8 w5 (w.heap.size + 1) (.int .i64 p.kind) (.slice ka kn kc) (.slice (some ⟨g, 0, none⟩) p.vals.length vc) (.slice da dn dc) (.int .i64 p.root) (.int .i64 p.next) (.int .i64 p.size) (.int .i64 p.idle)) (w.heap.size + 1) { p with vals := p.vals.set ix v } (.slice ka kn kc) (.slice (some ⟨g, 0, none⟩) p.vals.length vc) (.slice da dn dc) ∧ Below w.heap.size w (put8 w5 (w.heap.size + 1) (.int .i64 p.kind) (.slice ka kn kc) (.slice (some ⟨g, 0, none⟩) p.vals.length vc) (.slice da dn dc) (.int .i64 p.root) (.int .i64 p.next) (.int .i64 p.size) (.int .i64 p.idle)) ∧ PgAt (put8 w5 (w.heap.size + 1) (.int .i64 p.kind) (.slice ka kn kc) (.slice (some ⟨g, 0, none⟩) p.vals.length vc) (.slice da dn dc) (.int .i64 p.root) (.int .i64 p.next) (.int .i64 p.size) (.int .i64 p.idle)) { p with vals := p.vals.set ix v } (.slice ka kn kc) (.slice (some ⟨g, 0, none⟩) p.vals.length vc) (.slice da dn dc)) := P3.out.done
  have hgo : ∀ (Q : World → Prop), Q (put8 w5 (w.heap.size + 1) (.int .i64 p.kind) (.slice ka kn kc) (.slice (some ⟨g, 0, none⟩) p.vals.length vc) (.slice da dn dc) (.int .i64 p.root) (.int .i64 p.next) (.int .i64 p.size) (.int .i64 p.idle)) → Q ((((((((w5.setCell ⟨w.heap.size + 1, 0, none⟩ (.int .i64 p.kind)).setCell ⟨w.heap.size + 1, 1, none⟩ (.slice ka kn kc)).setCell ⟨w.heap.size + 1, 2, none⟩ (.slice (some ⟨g, 0, none⟩) p.vals.length vc)).setCell ⟨w.heap.size + 1, 3, none⟩ (.slice da dn dc)).setCell ⟨w.heap.size + 1, 4, none⟩ (.int .i64 p.root)).setCell ⟨w.heap.size + 1, 5, none⟩ (.int .i64 p.next)).setCell ⟨w.heap.size + 1, 6, none⟩ (.int .i64 p.size)).setCell ⟨w.heap.size + 1, 7, none⟩ (.int .i64 p.idle)) := fun Q h => h
  refine hgo _ ?_
  clear hgo rc0 rc1 rc2 rc3 rc4 rc5 rc6 rc7 rg0 rg1 rg2 rg3 rg4 rg5 rg6 rg7 x0' x1 x2 x3 x4' x5' x6' x7'
  generalize (put8 w5 (w.heap.size + 1) (.int .i64 p.kind) (.slice ka kn kc) (.slice (some ⟨g, 0, none⟩) p.vals.length vc) (.slice da dn dc) (.int .i64 p.root) (.int .i64 p.next) (.int .i64 p.size) (.int .i64 p.idle)) = WF at *
  obtain ⟨q0, q1, q2, q3, q4, q5, q6, q7⟩ := K.out.1.cells
  exact bodyPost_ret (v := pgv { p with vals := p.vals.set ix v } (.slice ka kn kc) (.slice (some ⟨g, 0, none⟩) p.vals.length vc) (.slice da dn dc)) (by simp [pgv, results, Try.results28, go_sem, q0, q1, q2, q3, q4, q5, q6, q7]) rfl ⟨_, _, _, rfl, K.out.2.2, K.out.2.1⟩

set_option maxRecDepth 100000 in
set_option maxHeartbeats 3000000 in
theorem putN_any (p : Pg) (k v : ByteArray) (kv vv dv : Value) (w : World) (hp : PgAt w p kv vv dv) (hlf : leafP p = true) (hr : RisB p.keys) (hh : hasB k p.keys = false) (hl : p.keys.length ≤ 1000 ∧ p.vals.length ≤ 1000 ∧ p.kids.length ≤ 1000) :
    Calls Try.prog 28 #[pgv p kv vv dv, .string k, .string v] w fun e w' => ∃ k3 v3 d3, e = .returned (pgv (putN p k v) k3 v3 d3) ∧ PgAt w' (putN p k v) k3 v3 d3 ∧ Below w.heap.size w w' := by
  obtain ⟨ka1, kc1, va1, vc1, da1, dc1, rfl, rfl, rfl, _, _, _⟩ := hp.forms
  have HP : Hid (PgAt w p (.slice ka1 p.keys.length kc1) (.slice va1 p.vals.length vc1) (.slice da1 p.kids.length dc1)) := hp
  have HCL : Hid (∀ W, Below w.heap.size w W → w.heap.size + 2 ≤ W.heap.size → Calls Try.prog 23 #[pgv p (.slice ka1 p.keys.length kc1) (.slice va1 p.vals.length vc1) (.slice da1 p.kids.length dc1)] W fun e w' => ∃ kv' vv' dv', e = .returned (pgv p kv' vv' dv') ∧ PgO w' (w.heap.size + 2) p kv' vv' dv' ∧ Below W.heap.size W w') := fun W hb hs => (pclone_any p _ _ _ W (HP.out.below hb) ⟨by omega, by omega, by omega⟩).mono fun e w' he => by
    obtain ⟨a, b, c, h1, h2, h3⟩ := he
    exact ⟨a, b, c, h1, h2.mono hs, h3⟩
  have HF : Hid (∀ W, Calls Try.prog 63 #[pgv p (.slice ka1 p.keys.length kc1) (.slice va1 p.vals.length vc1) (.slice da1 p.kids.length dc1)] W fun e w' => e = .returned (.bool true) ∧ Below W.heap.size W w') := fun W => by have := isLeaf_any p ka1 kc1 va1 vc1 da1 dc1 W (by omega) (by omega); rw [hlf] at this; exact this
  have hlf2 : p.kind = 1 ∧ p.vals.length = p.keys.length := by unfold leafP at hlf; simpa only [Bool.and_eq_true, decide_eq_true_eq] using hlf
  have hai : atI p k = idxB k p.keys := by unfold atI; rw [if_neg (by omega)]
  have HIX : Hid (idxB k p.keys ≤ p.keys.length) := idxB_le _ _
  have HIV : Hid (idxB k p.keys ≤ p.vals.length) := by show _ ≤ _; rw [hlf2.2]; exact idxB_le _ _
  have HK : Hid (∀ W, Below w.heap.size w W → Calls Try.prog 26 #[pgv p (.slice ka1 p.keys.length kc1) (.slice va1 p.vals.length vc1) (.slice da1 p.kids.length dc1), .string k] W fun e w' => e = .returned (.tuple #[.int .i64 (idxB k p.keys : Int), .bool false]) ∧ Below W.heap.size W w') := fun W hb => by have := at_any p k _ _ _ W (HP.out.below hb) hr (by omega); rw [hai, hh] at this; exact this
  have IK : Hid (∀ (W : World) (rv : Value), OwnV W (w.heap.size + 2) 9 rv (sv p.keys) → w.heap.size + 2 ≤ W.heap.size → Calls Try.prog 64 #[rv, .int .i64 (idxB k p.keys : Int), .slice (some ⟨W.heap.size, 0, none⟩) 1 1] (W.alloc (.cells #[.string k] 9)) fun e w' => ∃ v', e = .returned v' ∧ OwnV w' (w.heap.size + 2) 9 v' (sv (p.keys.take (idxB k p.keys) ++ k :: p.keys.drop (idxB k p.keys))) ∧ (v'.ownBlock = rv.ownBlock ∨ v'.ownBlock = some (W.heap.size + 1)) ∧ (W.alloc (.cells #[.string k] 9)).grownBy w' rv.ownBlock) := fun W rv ho hs => insS_any W _ rv p.keys (idxB k p.keys) k ho (HIX.out) (by omega) hs
  have IV : Hid (∀ (W : World) (rv : Value), OwnV W (w.heap.size + 2) 9 rv (sv p.vals) → w.heap.size + 2 ≤ W.heap.size → Calls Try.prog 64 #[rv, .int .i64 (idxB k p.keys : Int), .slice (some ⟨W.heap.size, 0, none⟩) 1 1] (W.alloc (.cells #[.string v] 9)) fun e w' => ∃ v', e = .returned v' ∧ OwnV w' (w.heap.size + 2) 9 v' (sv (p.vals.take (idxB k p.keys) ++ v :: p.vals.drop (idxB k p.keys))) ∧ (v'.ownBlock = rv.ownBlock ∨ v'.ownBlock = some (W.heap.size + 1)) ∧ (W.alloc (.cells #[.string v] 9)).grownBy w' rv.ownBlock) := fun W rv ho hs => insS_any W _ rv p.vals (idxB k p.keys) v ho (HIV.out) (by omega) hs
  have hixb : idxB k p.keys < 1099511627776 := by have := HIX.out; omega
  have HB0 : Hid (PBox ((w.alloc (.cells #[.int .i64 p.kind, .slice ka1 p.keys.length kc1, .slice va1 p.vals.length vc1, .slice da1 p.kids.length dc1, .int .i64 p.root, .int .i64 p.next, .int .i64 p.size, .int .i64 p.idle] 25)).alloc (.cells #[.int .i64 0, .slice none 0 0, .slice none 0 0, .slice none 0 0, .int .i64 0, .int .i64 0, .int .i64 0, .int .i64 0] 25)) w.heap.size p (.slice ka1 p.keys.length kc1) (.slice va1 p.vals.length vc1) (.slice da1 p.kids.length dc1)) := (Blk.new _ _ _).alloc _
  have RX : Hid (Blk ((w.alloc (.cells #[.int .i64 p.kind, .slice ka1 p.keys.length kc1, .slice va1 p.vals.length vc1, .slice da1 p.kids.length dc1, .int .i64 p.root, .int .i64 p.next, .int .i64 p.size, .int .i64 p.idle] 25)).alloc (.cells #[.int .i64 0, .slice none 0 0, .slice none 0 0, .slice none 0 0, .int .i64 0, .int .i64 0, .int .i64 0, .int .i64 0] 25)) (w.heap.size + 1) zeroC 25) := blk_two _ _ _ _ _
  have YX : Hid (Below w.heap.size w ((w.alloc (.cells #[.int .i64 p.kind, .slice ka1 p.keys.length kc1, .slice va1 p.vals.length vc1, .slice da1 p.kids.length dc1, .int .i64 p.root, .int .i64 p.next, .int .i64 p.size, .int .i64 p.idle] 25)).alloc (.cells #[.int .i64 0, .slice none 0 0, .slice none 0 0, .slice none 0 0, .int .i64 0, .int .i64 0, .int .i64 0, .int .i64 0] 25))) := ((Below.refl _ _).alloc (Nat.le_refl _) _).alloc (by simp) _
  have SZX : Hid (w.heap.size + 2 ≤ ((w.alloc (.cells #[.int .i64 p.kind, .slice ka1 p.keys.length kc1, .slice va1 p.vals.length vc1, .slice da1 p.kids.length dc1, .int .i64 p.root, .int .i64 p.next, .int .i64 p.size, .int .i64 p.idle] 25)).alloc (.cells #[.int .i64 0, .slice none 0 0, .slice none 0 0, .slice none 0 0, .int .i64 0, .int .i64 0, .int .i64 0, .int .i64 0] 25)).heap.size) := by show _ ≤ _; simp
  clear hp hl hlf hr hh hlf2 hai HIX HIV HP
  unfold pgv at *
  unfold putN
  generalize idxB k p.keys = ix at *
  generalize p.keys.length = kn1 at *
  generalize p.vals.length = vn1 at *
  generalize p.kids.length = dn1 at *
  go_enter Try.func28, Try.ntmps28
  go_upto_region 1 with fail
  generalize ((w.alloc (.cells #[.int .i64 p.kind, .slice ka1 kn1 kc1, .slice va1 vn1 vc1, .slice da1 dn1 dc1, .int .i64 p.root, .int .i64 p.next, .int .i64 p.size, .int .i64 p.idle] 25)).alloc (.cells #[.int .i64 0, .slice none 0 0, .slice none 0 0, .slice none 0 0, .int .i64 0, .int .i64 0, .int .i64 0, .int .i64 0] 25)) = w0 at *
  obtain ⟨z0, z1, z2, z3, z4, z5, z6, z7⟩ := HB0.out.cells
  go_wp2_with fail
  refine (HCL.out _ YX.out SZX.out).mono ?_
  rintro e w1 ⟨kv, vv, dv, rfl, ho, y⟩
  obtain ⟨kn, ka, kc, e1⟩ := ho.keys.rd.any
  obtain ⟨vn, va, vc, e2⟩ := ho.vals.rd.any
  obtain ⟨dn, da, dc, e3⟩ := ho.kids.rd.any
  subst e1 e2 e3
  have P0 : Hid (PS w (w1.alloc (.cells #[.int .i64 p.kind, .slice ka kn kc, .slice va vn vc, .slice da dn dc, .int .i64 p.root, .int .i64 p.next, .int .i64 p.size, .int .i64 p.idle] 25)) w1.heap.size p p (.slice ka1 kn1 kc1) (.slice va1 vn1 vc1) (.slice da1 dn1 dc1) (.slice ka kn kc) (.slice va vn vc) (.slice da dn dc)) := ps_first HB0.out RX.out YX.out SZX.out ho y
  clear ho y YX RX SZX HCL HB0 z0 z1 z2 z3 z4 z5 z6 z7
  go_upto_region 2 with fail
  generalize w1.alloc (.cells #[.int .i64 p.kind, .slice ka kn kc, .slice va vn vc, .slice da dn dc, .int .i64 p.root, .int .i64 p.next, .int .i64 p.size, .int .i64 p.idle] 25) = w2 at *
  obtain ⟨b, hbb⟩ : ∃ b, w1.heap.size = b := ⟨_, rfl⟩
  rw [hbb] at P0 ⊢
  clear hbb
  obtain ⟨z0, z1, z2, z3, z4, z5, z6, z7⟩ := P0.out.A.cells
  go_wp2_with fail
  refine (HF.out _).mono ?_
  rintro e w3 ⟨rfl, x⟩
  have P1 : Hid (PS w w3 b p p (.slice ka1 kn1 kc1) (.slice va1 vn1 vc1) (.slice da1 dn1 dc1) (.slice ka kn kc) (.slice va vn vc) (.slice da dn dc)) := P0.out.below x
  clear x P0 z0 z1 z2 z3 z4 z5 z6 z7
  obtain ⟨z0, z1, z2, z3, z4, z5, z6, z7⟩ := P1.out.A.cells
  go_wp2_with fail
  refine (HK.out _ P1.out.Y).mono ?_
  rintro e w4 ⟨rfl, x⟩
  have P2 : Hid (PS w w4 b p p (.slice ka1 kn1 kc1) (.slice va1 vn1 vc1) (.slice da1 dn1 dc1) (.slice ka kn kc) (.slice va vn vc) (.slice da dn dc)) := P1.out.below x
  clear x P1 z0 z1 z2 z3 z4 z5 z6 z7
  obtain ⟨z0, z1, z2, z3, z4, z5, z6, z7⟩ := P2.out.X.box.cells
  go_wp2_with fail
  refine (IK.out w4 (.slice ka kn kc) P2.out.X.own.keys (Nat.le_trans (Nat.le_refl _) P2.out.S)).mono ?_
  rintro e X3 ⟨v3, rfl, ho, hat, hg⟩
  obtain ⟨n3, a3, c3, e1⟩ := ho.rd.any
  subst e1
  have P3 : Hid (PS w (X3.setCell ⟨b, 1, none⟩ (.slice a3 n3 c3)) b p { p with keys := p.keys.take ix ++ k :: p.keys.drop ix } (.slice ka1 kn1 kc1) (.slice va1 vn1 vc1) (.slice da1 dn1 dc1) (.slice a3 n3 c3) (.slice va vn vc) (.slice da dn dc)) := P2.out.insK ho hat hg
  have pre := P2.out.X.pre P2.out.X.nk hg
  clear z0 z1 z2 z3 z4 z5 z6 z7 ho hat hg
  obtain ⟨z0, z1, z2, z3, z4, z5, z6, z7⟩ := pre.cells
  have ff := pre.frozen 1
  clear pre P2
  go_upto_region 9 with fail
  generalize X3.setCell ⟨b, 1, none⟩ (.slice a3 n3 c3) = w5 at *
  clear z0 z1 z2 z3 z4 z5 z6 z7 ff
  obtain ⟨z0, z1, z2, z3, z4, z5, z6, z7⟩ := P3.out.X.box.cells
  go_wp2_with fail
  refine (IV.out w5 (.slice va vn vc) P3.out.X.own.vals (Nat.le_trans (Nat.le_refl _) P3.out.S)).mono ?_
  rintro e X4 ⟨v4, rfl, ho, hat, hg⟩
  obtain ⟨n4, a4, c4, e1⟩ := ho.rd.any
  subst e1
  have P4 : Hid (PS w (X4.setCell ⟨b, 2, none⟩ (.slice a4 n4 c4)) b p { { p with keys := p.keys.take ix ++ k :: p.keys.drop ix } with vals := p.vals.take ix ++ v :: p.vals.drop ix } (.slice ka1 kn1 kc1) (.slice va1 vn1 vc1) (.slice da1 dn1 dc1) (.slice a3 n3 c3) (.slice a4 n4 c4) (.slice da dn dc)) := P3.out.insV ho hat hg
  have pre := P3.out.X.pre P3.out.X.nv hg
  clear z0 z1 z2 z3 z4 z5 z6 z7 ho hat hg
  obtain ⟨z0, z1, z2, z3, z4, z5, z6, z7⟩ := pre.cells
  have ff := pre.frozen 2
  clear pre P3
  go_upto_region 10 with fail
  generalize X4.setCell ⟨b, 2, none⟩ (.slice a4 n4 c4) = w6 at *
  clear z0 z1 z2 z3 z4 z5 z6 z7 ff
  obtain ⟨x0, x1, x2, x3, x4, x5, x6, x7⟩ := P4.out.X.box.cells
  have x0' : w6.cell? ⟨b, 0, none⟩ = some (.int .i64 p.kind) := x0
  have x4' : w6.cell? ⟨b, 4, none⟩ = some (.int .i64 p.root) := x4
  have x5' : w6.cell? ⟨b, 5, none⟩ = some (.int .i64 p.next) := x5
  have x6' : w6.cell? ⟨b, 6, none⟩ = some (.int .i64 p.size) := x6
  have x7' : w6.cell? ⟨b, 7, none⟩ = some (.int .i64 p.idle) := x7
  clear x0 x4 x5 x6 x7
  have rc0 := P4.out.R.cell 0
  have rg0 := P4.out.R.frozen 0
  have rc1 := P4.out.R.cell 1
  have rg1 := P4.out.R.frozen 1
  have rc2 := P4.out.R.cell 2
  have rg2 := P4.out.R.frozen 2
  have rc3 := P4.out.R.cell 3
  have rg3 := P4.out.R.frozen 3
  have rc4 := P4.out.R.cell 4
  have rg4 := P4.out.R.frozen 4
  have rc5 := P4.out.R.cell 5
  have rg5 := P4.out.R.frozen 5
  have rc6 := P4.out.R.cell 6
  have rg6 := P4.out.R.frozen 6
  have rc7 := P4.out.R.cell 7
  have rg7 := P4.out.R.frozen 7
  unfold zeroC at rc0 rc1 rc2 rc3 rc4 rc5 rc6 rc7
  go_wp2
  have K : Hid (PBox (put8 w6 (w.heap.size + 1) (.int .i64 p.kind) (.slice a3 n3 c3) (.slice a4 n4 c4) (.slice da dn dc) (.int .i64 p.root) (.int .i64 p.next) (.int .i64 p.size) (.int .i64 p.idle)) (w.heap.size + 1) { { p with keys := p.keys.take ix ++ k :: p.keys.drop ix } with vals := p.vals.take ix ++ v :: p.vals.drop ix } (.slice a3 n3 c3) (.slice a4 n4 c4) (.slice da dn dc) ∧ Below w.heap.size w (put8 w6 (w.heap.size + 1) (.int .i64 p.kind) (.slice a3 n3 c3) (.slice a4 n4 c4) (.slice da dn dc) (.int .i64 p.root) (.int .i64 p.next) (.int .i64 p.size) (.int .i64 p.idle)) ∧ PgAt (put8 w6 (w.heap.size + 1) (.int .i64 p.kind) (.slice a3 n3 c3) (.slice a4 n4 c4) (.slice da dn dc) (.int .i64 p.root) (.int .i64 p.next) (.int .i64 p.size) (.int .i64 p.idle)) { { p with keys := p.keys.take ix ++ k :: p.keys.drop ix } with vals := p.vals.take ix ++ v :: p.vals.drop ix } (.slice a3 n3 c3) (.slice a4 n4 c4) (.slice da dn dc)) := P4.out.done
  have hgo : ∀ (Q : World → Prop), Q (put8 w6 (w.heap.size + 1) (.int .i64 p.kind) (.slice a3 n3 c3) (.slice a4 n4 c4) (.slice da dn dc) (.int .i64 p.root) (.int .i64 p.next) (.int .i64 p.size) (.int .i64 p.idle)) → Q ((((((((w6.setCell ⟨w.heap.size + 1, 0, none⟩ (.int .i64 p.kind)).setCell ⟨w.heap.size + 1, 1, none⟩ (.slice a3 n3 c3)).setCell ⟨w.heap.size + 1, 2, none⟩ (.slice a4 n4 c4)).setCell ⟨w.heap.size + 1, 3, none⟩ (.slice da dn dc)).setCell ⟨w.heap.size + 1, 4, none⟩ (.int .i64 p.root)).setCell ⟨w.heap.size + 1, 5, none⟩ (.int .i64 p.next)).setCell ⟨w.heap.size + 1, 6, none⟩ (.int .i64 p.size)).setCell ⟨w.heap.size + 1, 7, none⟩ (.int .i64 p.idle)) := fun Q h => h
  refine hgo _ ?_
  clear hgo rc0 rc1 rc2 rc3 rc4 rc5 rc6 rc7 rg0 rg1 rg2 rg3 rg4 rg5 rg6 rg7 x0' x1 x2 x3 x4' x5' x6' x7'
  generalize (put8 w6 (w.heap.size + 1) (.int .i64 p.kind) (.slice a3 n3 c3) (.slice a4 n4 c4) (.slice da dn dc) (.int .i64 p.root) (.int .i64 p.next) (.int .i64 p.size) (.int .i64 p.idle)) = WF at *
  obtain ⟨q0, q1, q2, q3, q4, q5, q6, q7⟩ := K.out.1.cells
  exact bodyPost_ret (v := pgv { { p with keys := p.keys.take ix ++ k :: p.keys.drop ix } with vals := p.vals.take ix ++ v :: p.vals.drop ix } (.slice a3 n3 c3) (.slice a4 n4 c4) (.slice da dn dc)) (by simp [pgv, results, Try.results28, go_sem, q0, q1, q2, q3, q4, q5, q6, q7]) rfl ⟨_, _, _, rfl, K.out.2.2, K.out.2.1⟩

theorem nput_any (p : Pg) (k v : ByteArray) (kv vv dv : Value) (w : World) (hp : PgAt w p kv vv dv) (hlf : leafP p = true) (hr : RisB p.keys) (hl : p.keys.length ≤ 1000 ∧ p.vals.length ≤ 1000 ∧ p.kids.length ≤ 1000) :
    Calls Try.prog 28 #[pgv p kv vv dv, .string k, .string v] w fun e w' => ∃ k3 v3 d3, e = .returned (pgv (putP p k v) k3 v3 d3) ∧ PgAt w' (putP p k v) k3 v3 d3 ∧ Below w.heap.size w w' := by
  unfold putP
  cases hh : hasB k p.keys with
  | true => simp only [if_true]; exact putH_any p k v kv vv dv w hp hlf hr hh hl
  | false => simp only [Bool.false_eq_true, if_false]; exact putN_any p k v kv vv dv w hp hlf hr hh hl

set_option maxRecDepth 100000 in
set_option maxHeartbeats 3000000 in
theorem dropH_any (p : Pg) (k : ByteArray) (kv vv dv : Value) (w : World) (hp : PgAt w p kv vv dv) (hlf : leafP p = true) (hr : RisB p.keys) (hh : hasB k p.keys = true) (hl : p.keys.length ≤ 1000 ∧ p.vals.length ≤ 1000 ∧ p.kids.length ≤ 1000) :
    Calls Try.prog 29 #[pgv p kv vv dv, .string k] w fun e w' => ∃ k3 v3 d3, e = .returned (pgv (dropH p k) k3 v3 d3) ∧ PgAt w' (dropH p k) k3 v3 d3 ∧ Below w.heap.size w w' := by
  obtain ⟨ka1, kc1, va1, vc1, da1, dc1, rfl, rfl, rfl, _, _, _⟩ := hp.forms
  have HP : Hid (PgAt w p (.slice ka1 p.keys.length kc1) (.slice va1 p.vals.length vc1) (.slice da1 p.kids.length dc1)) := hp
  have HCL : Hid (∀ W, Below w.heap.size w W → w.heap.size + 2 ≤ W.heap.size → Calls Try.prog 23 #[pgv p (.slice ka1 p.keys.length kc1) (.slice va1 p.vals.length vc1) (.slice da1 p.kids.length dc1)] W fun e w' => ∃ kv' vv' dv', e = .returned (pgv p kv' vv' dv') ∧ PgO w' (w.heap.size + 2) p kv' vv' dv' ∧ Below W.heap.size W w') := fun W hb hs => (pclone_any p _ _ _ W (HP.out.below hb) ⟨by omega, by omega, by omega⟩).mono fun e w' he => by
    obtain ⟨a, b, c, h1, h2, h3⟩ := he
    exact ⟨a, b, c, h1, h2.mono hs, h3⟩
  have HF : Hid (∀ W, Calls Try.prog 63 #[pgv p (.slice ka1 p.keys.length kc1) (.slice va1 p.vals.length vc1) (.slice da1 p.kids.length dc1)] W fun e w' => e = .returned (.bool true) ∧ Below W.heap.size W w') := fun W => by have := isLeaf_any p ka1 kc1 va1 vc1 da1 dc1 W (by omega) (by omega); rw [hlf] at this; exact this
  have hlf2 : p.kind = 1 ∧ p.vals.length = p.keys.length := by unfold leafP at hlf; simpa only [Bool.and_eq_true, decide_eq_true_eq] using hlf
  have hai : atI p k = idxB k p.keys := by unfold atI; rw [if_neg (by omega)]
  have HIX : Hid (idxB k p.keys ≤ p.keys.length) := idxB_le _ _
  have HIV : Hid (idxB k p.keys ≤ p.vals.length) := by show _ ≤ _; rw [hlf2.2]; exact idxB_le _ _
  have HK : Hid (∀ W, Below w.heap.size w W → Calls Try.prog 26 #[pgv p (.slice ka1 p.keys.length kc1) (.slice va1 p.vals.length vc1) (.slice da1 p.kids.length dc1), .string k] W fun e w' => e = .returned (.tuple #[.int .i64 (idxB k p.keys : Int), .bool true]) ∧ Below W.heap.size W w') := fun W hb => by have := at_any p k _ _ _ W (HP.out.below hb) hr (by omega); rw [hai, hh] at this; exact this
  have HVL : Hid (idxB k p.keys < p.vals.length) := by show _ < _; rw [hlf2.2]; exact hasB_lt hh
  have HKL : Hid (idxB k p.keys < p.keys.length) := hasB_lt hh
  have DK : Hid (∀ (W : World) (v : Value), OwnV W (w.heap.size + 2) 9 v (sv p.keys) → Calls Try.prog 65 #[v, .int .i64 (idxB k p.keys : Int), .int .i64 ((idxB k p.keys : Int) + 1)] W fun e w' => ∃ v', e = .returned v' ∧ OwnV w' (w.heap.size + 2) 9 v' (sv (p.keys.eraseIdx (idxB k p.keys))) ∧ v'.ownBlock = v.ownBlock ∧ W.grownBy w' v.ownBlock) := fun W v ho => delS_any W _ v p.keys _ ho HKL.out (by omega)
  have DV : Hid (∀ (W : World) (v : Value), OwnV W (w.heap.size + 2) 9 v (sv p.vals) → Calls Try.prog 65 #[v, .int .i64 (idxB k p.keys : Int), .int .i64 ((idxB k p.keys : Int) + 1)] W fun e w' => ∃ v', e = .returned v' ∧ OwnV w' (w.heap.size + 2) 9 v' (sv (p.vals.eraseIdx (idxB k p.keys))) ∧ v'.ownBlock = v.ownBlock ∧ W.grownBy w' v.ownBlock) := fun W v ho => delS_any W _ v p.vals _ ho HVL.out (by omega)
  have hixb : idxB k p.keys < 1099511627776 := by have := HIX.out; omega
  have HB0 : Hid (PBox ((w.alloc (.cells #[.int .i64 p.kind, .slice ka1 p.keys.length kc1, .slice va1 p.vals.length vc1, .slice da1 p.kids.length dc1, .int .i64 p.root, .int .i64 p.next, .int .i64 p.size, .int .i64 p.idle] 25)).alloc (.cells #[.int .i64 0, .slice none 0 0, .slice none 0 0, .slice none 0 0, .int .i64 0, .int .i64 0, .int .i64 0, .int .i64 0] 25)) w.heap.size p (.slice ka1 p.keys.length kc1) (.slice va1 p.vals.length vc1) (.slice da1 p.kids.length dc1)) := (Blk.new _ _ _).alloc _
  have RX : Hid (Blk ((w.alloc (.cells #[.int .i64 p.kind, .slice ka1 p.keys.length kc1, .slice va1 p.vals.length vc1, .slice da1 p.kids.length dc1, .int .i64 p.root, .int .i64 p.next, .int .i64 p.size, .int .i64 p.idle] 25)).alloc (.cells #[.int .i64 0, .slice none 0 0, .slice none 0 0, .slice none 0 0, .int .i64 0, .int .i64 0, .int .i64 0, .int .i64 0] 25)) (w.heap.size + 1) zeroC 25) := blk_two _ _ _ _ _
  have YX : Hid (Below w.heap.size w ((w.alloc (.cells #[.int .i64 p.kind, .slice ka1 p.keys.length kc1, .slice va1 p.vals.length vc1, .slice da1 p.kids.length dc1, .int .i64 p.root, .int .i64 p.next, .int .i64 p.size, .int .i64 p.idle] 25)).alloc (.cells #[.int .i64 0, .slice none 0 0, .slice none 0 0, .slice none 0 0, .int .i64 0, .int .i64 0, .int .i64 0, .int .i64 0] 25))) := ((Below.refl _ _).alloc (Nat.le_refl _) _).alloc (by simp) _
  have SZX : Hid (w.heap.size + 2 ≤ ((w.alloc (.cells #[.int .i64 p.kind, .slice ka1 p.keys.length kc1, .slice va1 p.vals.length vc1, .slice da1 p.kids.length dc1, .int .i64 p.root, .int .i64 p.next, .int .i64 p.size, .int .i64 p.idle] 25)).alloc (.cells #[.int .i64 0, .slice none 0 0, .slice none 0 0, .slice none 0 0, .int .i64 0, .int .i64 0, .int .i64 0, .int .i64 0] 25)).heap.size) := by show _ ≤ _; simp
  clear hp hl hlf hr hh hlf2 hai HIX HIV HP HVL HKL
  unfold pgv at *
  unfold dropH
  generalize idxB k p.keys = ix at *
  generalize p.keys.length = kn1 at *
  generalize p.vals.length = vn1 at *
  generalize p.kids.length = dn1 at *
  go_enter Try.func29, Try.ntmps29
  go_upto_region 1 with fail
  generalize ((w.alloc (.cells #[.int .i64 p.kind, .slice ka1 kn1 kc1, .slice va1 vn1 vc1, .slice da1 dn1 dc1, .int .i64 p.root, .int .i64 p.next, .int .i64 p.size, .int .i64 p.idle] 25)).alloc (.cells #[.int .i64 0, .slice none 0 0, .slice none 0 0, .slice none 0 0, .int .i64 0, .int .i64 0, .int .i64 0, .int .i64 0] 25)) = w0 at *
  obtain ⟨z0, z1, z2, z3, z4, z5, z6, z7⟩ := HB0.out.cells
  go_wp2_with fail
  refine (HCL.out _ YX.out SZX.out).mono ?_
  rintro e w1 ⟨kv, vv, dv, rfl, ho, y⟩
  obtain ⟨kn, ka, kc, e1⟩ := ho.keys.rd.any
  obtain ⟨vn, va, vc, e2⟩ := ho.vals.rd.any
  obtain ⟨dn, da, dc, e3⟩ := ho.kids.rd.any
  subst e1 e2 e3
  have P0 : Hid (PS w (w1.alloc (.cells #[.int .i64 p.kind, .slice ka kn kc, .slice va vn vc, .slice da dn dc, .int .i64 p.root, .int .i64 p.next, .int .i64 p.size, .int .i64 p.idle] 25)) w1.heap.size p p (.slice ka1 kn1 kc1) (.slice va1 vn1 vc1) (.slice da1 dn1 dc1) (.slice ka kn kc) (.slice va vn vc) (.slice da dn dc)) := ps_first HB0.out RX.out YX.out SZX.out ho y
  clear ho y YX RX SZX HCL HB0 z0 z1 z2 z3 z4 z5 z6 z7
  go_upto_region 2 with fail
  generalize w1.alloc (.cells #[.int .i64 p.kind, .slice ka kn kc, .slice va vn vc, .slice da dn dc, .int .i64 p.root, .int .i64 p.next, .int .i64 p.size, .int .i64 p.idle] 25) = w2 at *
  obtain ⟨b, hbb⟩ : ∃ b, w1.heap.size = b := ⟨_, rfl⟩
  rw [hbb] at P0 ⊢
  clear hbb
  obtain ⟨z0, z1, z2, z3, z4, z5, z6, z7⟩ := P0.out.A.cells
  go_wp2_with fail
  refine (HK.out _ P0.out.Y).mono ?_
  rintro e w3 ⟨rfl, x⟩
  have P1 : Hid (PS w w3 b p p (.slice ka1 kn1 kc1) (.slice va1 vn1 vc1) (.slice da1 dn1 dc1) (.slice ka kn kc) (.slice va vn vc) (.slice da dn dc)) := P0.out.below x
  clear x P0 z0 z1 z2 z3 z4 z5 z6 z7
  obtain ⟨z0, z1, z2, z3, z4, z5, z6, z7⟩ := P1.out.A.cells
  go_wp2_with fail
  refine (HF.out _).mono ?_
  rintro e w4 ⟨rfl, x⟩
  have P2 : Hid (PS w w4 b p p (.slice ka1 kn1 kc1) (.slice va1 vn1 vc1) (.slice da1 dn1 dc1) (.slice ka kn kc) (.slice va vn vc) (.slice da dn dc)) := P1.out.below x
  clear x P1 z0 z1 z2 z3 z4 z5 z6 z7
  obtain ⟨z0, z1, z2, z3, z4, z5, z6, z7⟩ := P2.out.X.box.cells
  go_wp2_with fail
  refine (DK.out w4 (.slice ka kn kc) P2.out.X.own.keys).mono ?_
  rintro e X3 ⟨v3, rfl, ho, hat, hg⟩
  obtain ⟨n3, a3, c3, e1⟩ := ho.rd.any
  subst e1
  have P3 : Hid (PS w (X3.setCell ⟨b, 1, none⟩ (.slice a3 n3 c3)) b p { p with keys := p.keys.eraseIdx ix } (.slice ka1 kn1 kc1) (.slice va1 vn1 vc1) (.slice da1 dn1 dc1) (.slice a3 n3 c3) (.slice va vn vc) (.slice da dn dc)) := P2.out.delK ho hat hg
  have pre := P2.out.X.preJ P2.out.X.nk hg
  clear z0 z1 z2 z3 z4 z5 z6 z7 ho hat hg
  obtain ⟨z0, z1, z2, z3, z4, z5, z6, z7⟩ := pre.cells
  have ff := pre.frozen 1
  clear pre P2
  go_upto_region 6 with fail
  generalize X3.setCell ⟨b, 1, none⟩ (.slice a3 n3 c3) = w5 at *
  clear z0 z1 z2 z3 z4 z5 z6 z7 ff
  obtain ⟨z0, z1, z2, z3, z4, z5, z6, z7⟩ := P3.out.X.box.cells
  go_wp2_with fail
  refine (DV.out w5 (.slice va vn vc) P3.out.X.own.vals).mono ?_
  rintro e X4 ⟨v4, rfl, ho, hat, hg⟩
  obtain ⟨n4, a4, c4, e1⟩ := ho.rd.any
  subst e1
  have P4 : Hid (PS w (X4.setCell ⟨b, 2, none⟩ (.slice a4 n4 c4)) b p { { p with keys := p.keys.eraseIdx ix } with vals := p.vals.eraseIdx ix } (.slice ka1 kn1 kc1) (.slice va1 vn1 vc1) (.slice da1 dn1 dc1) (.slice a3 n3 c3) (.slice a4 n4 c4) (.slice da dn dc)) := P3.out.delV ho hat hg
  have pre := P3.out.X.preJ P3.out.X.nv hg
  clear z0 z1 z2 z3 z4 z5 z6 z7 ho hat hg
  obtain ⟨z0, z1, z2, z3, z4, z5, z6, z7⟩ := pre.cells
  have ff := pre.frozen 2
  clear pre P3
  go_upto_region 7 with fail
  generalize X4.setCell ⟨b, 2, none⟩ (.slice a4 n4 c4) = w6 at *
  clear z0 z1 z2 z3 z4 z5 z6 z7 ff
  obtain ⟨x0, x1, x2, x3, x4, x5, x6, x7⟩ := P4.out.X.box.cells
  have x0' : w6.cell? ⟨b, 0, none⟩ = some (.int .i64 p.kind) := x0
  have x4' : w6.cell? ⟨b, 4, none⟩ = some (.int .i64 p.root) := x4
  have x5' : w6.cell? ⟨b, 5, none⟩ = some (.int .i64 p.next) := x5
  have x6' : w6.cell? ⟨b, 6, none⟩ = some (.int .i64 p.size) := x6
  have x7' : w6.cell? ⟨b, 7, none⟩ = some (.int .i64 p.idle) := x7
  clear x0 x4 x5 x6 x7
  have rc0 := P4.out.R.cell 0
  have rg0 := P4.out.R.frozen 0
  have rc1 := P4.out.R.cell 1
  have rg1 := P4.out.R.frozen 1
  have rc2 := P4.out.R.cell 2
  have rg2 := P4.out.R.frozen 2
  have rc3 := P4.out.R.cell 3
  have rg3 := P4.out.R.frozen 3
  have rc4 := P4.out.R.cell 4
  have rg4 := P4.out.R.frozen 4
  have rc5 := P4.out.R.cell 5
  have rg5 := P4.out.R.frozen 5
  have rc6 := P4.out.R.cell 6
  have rg6 := P4.out.R.frozen 6
  have rc7 := P4.out.R.cell 7
  have rg7 := P4.out.R.frozen 7
  unfold zeroC at rc0 rc1 rc2 rc3 rc4 rc5 rc6 rc7
  go_wp2
  have K : Hid (PBox (put8 w6 (w.heap.size + 1) (.int .i64 p.kind) (.slice a3 n3 c3) (.slice a4 n4 c4) (.slice da dn dc) (.int .i64 p.root) (.int .i64 p.next) (.int .i64 p.size) (.int .i64 p.idle)) (w.heap.size + 1) { { p with keys := p.keys.eraseIdx ix } with vals := p.vals.eraseIdx ix } (.slice a3 n3 c3) (.slice a4 n4 c4) (.slice da dn dc) ∧ Below w.heap.size w (put8 w6 (w.heap.size + 1) (.int .i64 p.kind) (.slice a3 n3 c3) (.slice a4 n4 c4) (.slice da dn dc) (.int .i64 p.root) (.int .i64 p.next) (.int .i64 p.size) (.int .i64 p.idle)) ∧ PgAt (put8 w6 (w.heap.size + 1) (.int .i64 p.kind) (.slice a3 n3 c3) (.slice a4 n4 c4) (.slice da dn dc) (.int .i64 p.root) (.int .i64 p.next) (.int .i64 p.size) (.int .i64 p.idle)) { { p with keys := p.keys.eraseIdx ix } with vals := p.vals.eraseIdx ix } (.slice a3 n3 c3) (.slice a4 n4 c4) (.slice da dn dc)) := P4.out.done
  have hgo : ∀ (Q : World → Prop), Q (put8 w6 (w.heap.size + 1) (.int .i64 p.kind) (.slice a3 n3 c3) (.slice a4 n4 c4) (.slice da dn dc) (.int .i64 p.root) (.int .i64 p.next) (.int .i64 p.size) (.int .i64 p.idle)) → Q ((((((((w6.setCell ⟨w.heap.size + 1, 0, none⟩ (.int .i64 p.kind)).setCell ⟨w.heap.size + 1, 1, none⟩ (.slice a3 n3 c3)).setCell ⟨w.heap.size + 1, 2, none⟩ (.slice a4 n4 c4)).setCell ⟨w.heap.size + 1, 3, none⟩ (.slice da dn dc)).setCell ⟨w.heap.size + 1, 4, none⟩ (.int .i64 p.root)).setCell ⟨w.heap.size + 1, 5, none⟩ (.int .i64 p.next)).setCell ⟨w.heap.size + 1, 6, none⟩ (.int .i64 p.size)).setCell ⟨w.heap.size + 1, 7, none⟩ (.int .i64 p.idle)) := fun Q h => h
  refine hgo _ ?_
  clear hgo rc0 rc1 rc2 rc3 rc4 rc5 rc6 rc7 rg0 rg1 rg2 rg3 rg4 rg5 rg6 rg7 x0' x1 x2 x3 x4' x5' x6' x7'
  generalize (put8 w6 (w.heap.size + 1) (.int .i64 p.kind) (.slice a3 n3 c3) (.slice a4 n4 c4) (.slice da dn dc) (.int .i64 p.root) (.int .i64 p.next) (.int .i64 p.size) (.int .i64 p.idle)) = WF at *
  obtain ⟨q0, q1, q2, q3, q4, q5, q6, q7⟩ := K.out.1.cells
  exact bodyPost_ret (v := pgv { { p with keys := p.keys.eraseIdx ix } with vals := p.vals.eraseIdx ix } (.slice a3 n3 c3) (.slice a4 n4 c4) (.slice da dn dc)) (by simp [pgv, results, Try.results29, go_sem, q0, q1, q2, q3, q4, q5, q6, q7]) rfl ⟨_, _, _, rfl, K.out.2.2, K.out.2.1⟩

set_option maxRecDepth 100000 in
set_option maxHeartbeats 3000000 in
theorem dropN_any (p : Pg) (k : ByteArray) (kv vv dv : Value) (w : World) (hp : PgAt w p kv vv dv) (hlf : leafP p = true) (hr : RisB p.keys) (hh : hasB k p.keys = false) (hl : p.keys.length ≤ 1000 ∧ p.vals.length ≤ 1000 ∧ p.kids.length ≤ 1000) :
    Calls Try.prog 29 #[pgv p kv vv dv, .string k] w fun e w' => ∃ k3 v3 d3, e = .returned (pgv p k3 v3 d3) ∧ PgAt w' p k3 v3 d3 ∧ Below w.heap.size w w' := by
  obtain ⟨ka1, kc1, va1, vc1, da1, dc1, rfl, rfl, rfl, _, _, _⟩ := hp.forms
  have HP : Hid (PgAt w p (.slice ka1 p.keys.length kc1) (.slice va1 p.vals.length vc1) (.slice da1 p.kids.length dc1)) := hp
  have HCL : Hid (∀ W, Below w.heap.size w W → w.heap.size + 2 ≤ W.heap.size → Calls Try.prog 23 #[pgv p (.slice ka1 p.keys.length kc1) (.slice va1 p.vals.length vc1) (.slice da1 p.kids.length dc1)] W fun e w' => ∃ kv' vv' dv', e = .returned (pgv p kv' vv' dv') ∧ PgO w' (w.heap.size + 2) p kv' vv' dv' ∧ Below W.heap.size W w') := fun W hb hs => (pclone_any p _ _ _ W (HP.out.below hb) ⟨by omega, by omega, by omega⟩).mono fun e w' he => by
    obtain ⟨a, b, c, h1, h2, h3⟩ := he
    exact ⟨a, b, c, h1, h2.mono hs, h3⟩
  have HF : Hid (∀ W, Calls Try.prog 63 #[pgv p (.slice ka1 p.keys.length kc1) (.slice va1 p.vals.length vc1) (.slice da1 p.kids.length dc1)] W fun e w' => e = .returned (.bool true) ∧ Below W.heap.size W w') := fun W => by have := isLeaf_any p ka1 kc1 va1 vc1 da1 dc1 W (by omega) (by omega); rw [hlf] at this; exact this
  have hlf2 : p.kind = 1 ∧ p.vals.length = p.keys.length := by unfold leafP at hlf; simpa only [Bool.and_eq_true, decide_eq_true_eq] using hlf
  have hai : atI p k = idxB k p.keys := by unfold atI; rw [if_neg (by omega)]
  have HIX : Hid (idxB k p.keys ≤ p.keys.length) := idxB_le _ _
  have HIV : Hid (idxB k p.keys ≤ p.vals.length) := by show _ ≤ _; rw [hlf2.2]; exact idxB_le _ _
  have HK : Hid (∀ W, Below w.heap.size w W → Calls Try.prog 26 #[pgv p (.slice ka1 p.keys.length kc1) (.slice va1 p.vals.length vc1) (.slice da1 p.kids.length dc1), .string k] W fun e w' => e = .returned (.tuple #[.int .i64 (idxB k p.keys : Int), .bool false]) ∧ Below W.heap.size W w') := fun W hb => by have := at_any p k _ _ _ W (HP.out.below hb) hr (by omega); rw [hai, hh] at this; exact this
  have hixb : idxB k p.keys < 1099511627776 := by have := HIX.out; omega
  have HB0 : Hid (PBox ((w.alloc (.cells #[.int .i64 p.kind, .slice ka1 p.keys.length kc1, .slice va1 p.vals.length vc1, .slice da1 p.kids.length dc1, .int .i64 p.root, .int .i64 p.next, .int .i64 p.size, .int .i64 p.idle] 25)).alloc (.cells #[.int .i64 0, .slice none 0 0, .slice none 0 0, .slice none 0 0, .int .i64 0, .int .i64 0, .int .i64 0, .int .i64 0] 25)) w.heap.size p (.slice ka1 p.keys.length kc1) (.slice va1 p.vals.length vc1) (.slice da1 p.kids.length dc1)) := (Blk.new _ _ _).alloc _
  have RX : Hid (Blk ((w.alloc (.cells #[.int .i64 p.kind, .slice ka1 p.keys.length kc1, .slice va1 p.vals.length vc1, .slice da1 p.kids.length dc1, .int .i64 p.root, .int .i64 p.next, .int .i64 p.size, .int .i64 p.idle] 25)).alloc (.cells #[.int .i64 0, .slice none 0 0, .slice none 0 0, .slice none 0 0, .int .i64 0, .int .i64 0, .int .i64 0, .int .i64 0] 25)) (w.heap.size + 1) zeroC 25) := blk_two _ _ _ _ _
  have YX : Hid (Below w.heap.size w ((w.alloc (.cells #[.int .i64 p.kind, .slice ka1 p.keys.length kc1, .slice va1 p.vals.length vc1, .slice da1 p.kids.length dc1, .int .i64 p.root, .int .i64 p.next, .int .i64 p.size, .int .i64 p.idle] 25)).alloc (.cells #[.int .i64 0, .slice none 0 0, .slice none 0 0, .slice none 0 0, .int .i64 0, .int .i64 0, .int .i64 0, .int .i64 0] 25))) := ((Below.refl _ _).alloc (Nat.le_refl _) _).alloc (by simp) _
  have SZX : Hid (w.heap.size + 2 ≤ ((w.alloc (.cells #[.int .i64 p.kind, .slice ka1 p.keys.length kc1, .slice va1 p.vals.length vc1, .slice da1 p.kids.length dc1, .int .i64 p.root, .int .i64 p.next, .int .i64 p.size, .int .i64 p.idle] 25)).alloc (.cells #[.int .i64 0, .slice none 0 0, .slice none 0 0, .slice none 0 0, .int .i64 0, .int .i64 0, .int .i64 0, .int .i64 0] 25)).heap.size) := by show _ ≤ _; simp
  clear hp hl hlf hr hh hlf2 hai HIX HIV HP HF
  unfold pgv at *
  generalize idxB k p.keys = ix at *
  generalize p.keys.length = kn1 at *
  generalize p.vals.length = vn1 at *
  generalize p.kids.length = dn1 at *
  go_enter Try.func29, Try.ntmps29
  go_upto_region 1 with fail
  generalize ((w.alloc (.cells #[.int .i64 p.kind, .slice ka1 kn1 kc1, .slice va1 vn1 vc1, .slice da1 dn1 dc1, .int .i64 p.root, .int .i64 p.next, .int .i64 p.size, .int .i64 p.idle] 25)).alloc (.cells #[.int .i64 0, .slice none 0 0, .slice none 0 0, .slice none 0 0, .int .i64 0, .int .i64 0, .int .i64 0, .int .i64 0] 25)) = w0 at *
  obtain ⟨z0, z1, z2, z3, z4, z5, z6, z7⟩ := HB0.out.cells
  go_wp2_with fail
  refine (HCL.out _ YX.out SZX.out).mono ?_
  rintro e w1 ⟨kv, vv, dv, rfl, ho, y⟩
  obtain ⟨kn, ka, kc, e1⟩ := ho.keys.rd.any
  obtain ⟨vn, va, vc, e2⟩ := ho.vals.rd.any
  obtain ⟨dn, da, dc, e3⟩ := ho.kids.rd.any
  subst e1 e2 e3
  have P0 : Hid (PS w (w1.alloc (.cells #[.int .i64 p.kind, .slice ka kn kc, .slice va vn vc, .slice da dn dc, .int .i64 p.root, .int .i64 p.next, .int .i64 p.size, .int .i64 p.idle] 25)) w1.heap.size p p (.slice ka1 kn1 kc1) (.slice va1 vn1 vc1) (.slice da1 dn1 dc1) (.slice ka kn kc) (.slice va vn vc) (.slice da dn dc)) := ps_first HB0.out RX.out YX.out SZX.out ho y
  clear ho y YX RX SZX HCL HB0 z0 z1 z2 z3 z4 z5 z6 z7
  go_upto_region 2 with fail
  generalize w1.alloc (.cells #[.int .i64 p.kind, .slice ka kn kc, .slice va vn vc, .slice da dn dc, .int .i64 p.root, .int .i64 p.next, .int .i64 p.size, .int .i64 p.idle] 25) = w2 at *
  obtain ⟨b, hbb⟩ : ∃ b, w1.heap.size = b := ⟨_, rfl⟩
  rw [hbb] at P0 ⊢
  clear hbb
  obtain ⟨z0, z1, z2, z3, z4, z5, z6, z7⟩ := P0.out.A.cells
  go_wp2_with fail
  refine (HK.out _ P0.out.Y).mono ?_
  rintro e w3 ⟨rfl, x⟩
  have P1 : Hid (PS w w3 b p p (.slice ka1 kn1 kc1) (.slice va1 vn1 vc1) (.slice da1 dn1 dc1) (.slice ka kn kc) (.slice va vn vc) (.slice da dn dc)) := P0.out.below x
  clear x P0 z0 z1 z2 z3 z4 z5 z6 z7
  go_upto_region 4 with fail
  obtain ⟨x0, x1, x2, x3, x4, x5, x6, x7⟩ := P1.out.X.box.cells
  have x0' : w3.cell? ⟨b, 0, none⟩ = some (.int .i64 p.kind) := x0
  have x4' : w3.cell? ⟨b, 4, none⟩ = some (.int .i64 p.root) := x4
  have x5' : w3.cell? ⟨b, 5, none⟩ = some (.int .i64 p.next) := x5
  have x6' : w3.cell? ⟨b, 6, none⟩ = some (.int .i64 p.size) := x6
  have x7' : w3.cell? ⟨b, 7, none⟩ = some (.int .i64 p.idle) := x7
  clear x0 x4 x5 x6 x7
  have rc0 := P1.out.R.cell 0
  have rg0 := P1.out.R.frozen 0
  have rc1 := P1.out.R.cell 1
  have rg1 := P1.out.R.frozen 1
  have rc2 := P1.out.R.cell 2
  have rg2 := P1.out.R.frozen 2
  have rc3 := P1.out.R.cell 3
  have rg3 := P1.out.R.frozen 3
  have rc4 := P1.out.R.cell 4
  have rg4 := P1.out.R.frozen 4
  have rc5 := P1.out.R.cell 5
  have rg5 := P1.out.R.frozen 5
  have rc6 := P1.out.R.cell 6
  have rg6 := P1.out.R.frozen 6
  have rc7 := P1.out.R.cell 7
  have rg7 := P1.out.R.frozen 7
  unfold zeroC at rc0 rc1 rc2 rc3 rc4 rc5 rc6 rc7
  go_wp2
  have K : Hid (PBox (put8 w3 (w.heap.size + 1) (.int .i64 p.kind) (.slice ka kn kc) (.slice va vn vc) (.slice da dn dc) (.int .i64 p.root) (.int .i64 p.next) (.int .i64 p.size) (.int .i64 p.idle)) (w.heap.size + 1) p (.slice ka kn kc) (.slice va vn vc) (.slice da dn dc) ∧ Below w.heap.size w (put8 w3 (w.heap.size + 1) (.int .i64 p.kind) (.slice ka kn kc) (.slice va vn vc) (.slice da dn dc) (.int .i64 p.root) (.int .i64 p.next) (.int .i64 p.size) (.int .i64 p.idle)) ∧ PgAt (put8 w3 (w.heap.size + 1) (.int .i64 p.kind) (.slice ka kn kc) (.slice va vn vc) (.slice da dn dc) (.int .i64 p.root) (.int .i64 p.next) (.int .i64 p.size) (.int .i64 p.idle)) p (.slice ka kn kc) (.slice va vn vc) (.slice da dn dc)) := P1.out.done
  have hgo : ∀ (Q : World → Prop), Q (put8 w3 (w.heap.size + 1) (.int .i64 p.kind) (.slice ka kn kc) (.slice va vn vc) (.slice da dn dc) (.int .i64 p.root) (.int .i64 p.next) (.int .i64 p.size) (.int .i64 p.idle)) → Q ((((((((w3.setCell ⟨w.heap.size + 1, 0, none⟩ (.int .i64 p.kind)).setCell ⟨w.heap.size + 1, 1, none⟩ (.slice ka kn kc)).setCell ⟨w.heap.size + 1, 2, none⟩ (.slice va vn vc)).setCell ⟨w.heap.size + 1, 3, none⟩ (.slice da dn dc)).setCell ⟨w.heap.size + 1, 4, none⟩ (.int .i64 p.root)).setCell ⟨w.heap.size + 1, 5, none⟩ (.int .i64 p.next)).setCell ⟨w.heap.size + 1, 6, none⟩ (.int .i64 p.size)).setCell ⟨w.heap.size + 1, 7, none⟩ (.int .i64 p.idle)) := fun Q h => h
  refine hgo _ ?_
  clear hgo rc0 rc1 rc2 rc3 rc4 rc5 rc6 rc7 rg0 rg1 rg2 rg3 rg4 rg5 rg6 rg7 x0' x1 x2 x3 x4' x5' x6' x7'
  generalize (put8 w3 (w.heap.size + 1) (.int .i64 p.kind) (.slice ka kn kc) (.slice va vn vc) (.slice da dn dc) (.int .i64 p.root) (.int .i64 p.next) (.int .i64 p.size) (.int .i64 p.idle)) = WF at *
  obtain ⟨q0, q1, q2, q3, q4, q5, q6, q7⟩ := K.out.1.cells
  exact bodyPost_ret (v := pgv p (.slice ka kn kc) (.slice va vn vc) (.slice da dn dc)) (by simp [pgv, results, Try.results29, go_sem, q0, q1, q2, q3, q4, q5, q6, q7]) rfl ⟨_, _, _, rfl, K.out.2.2, K.out.2.1⟩

theorem ndrop_any (p : Pg) (k : ByteArray) (kv vv dv : Value) (w : World) (hp : PgAt w p kv vv dv) (hlf : leafP p = true) (hr : RisB p.keys) (hl : p.keys.length ≤ 1000 ∧ p.vals.length ≤ 1000 ∧ p.kids.length ≤ 1000) :
    Calls Try.prog 29 #[pgv p kv vv dv, .string k] w fun e w' => ∃ k3 v3 d3, e = .returned (pgv (dropP p k) k3 v3 d3) ∧ PgAt w' (dropP p k) k3 v3 d3 ∧ Below w.heap.size w w' := by
  unfold dropP
  cases hh : hasB k p.keys with
  | true => simp only [if_true]; exact dropH_any p k kv vv dv w hp hlf hr hh hl
  | false => simp only [Bool.false_eq_true, if_false]; exact dropN_any p k kv vv dv w hp hlf hr hh hl
end Go.Proofs.Ytmjekecalghhdaa
