/- NodeWays: the walk of the law's Go text. -/
import Derived.Test.YtonhgekkdohpkaaNdQ
set_option linter.unusedSimpArgs false
set_option linter.unusedVariables false
namespace Go.Proofs.Ytonhgekkdohpkaa
open Go.ChangeShapes Go.WideShapes Go.ChangeAt Go.RowKit

/-- How many are at most a text, and whether it is among them: as the law counts. -/
def leC (x k : ByteArray) : Bool := Op.bytesLess x.toList k.toList || (x.toList == k.toList)
def cntTo (k : ByteArray) : List ByteArray → Nat
  | [] => 0
  | x :: t => cntTo k t + (if leC x k then 1 else 0)
def anyTo (k : ByteArray) : List ByteArray → Bool
  | [] => false
  | x :: t => anyTo k t || (x.toList == k.toList)
theorem cntTo_snoc (k x : ByteArray) : ∀ l, cntTo k (l ++ [x]) = cntTo k l + (if leC x k then 1 else 0)
  | [] => by simp [cntTo]
  | y :: t => by simp only [List.cons_append, cntTo, cntTo_snoc k x t]; omega
theorem anyTo_snoc (k x : ByteArray) : ∀ l, anyTo k (l ++ [x]) = (anyTo k l || (x.toList == k.toList))
  | [] => by simp [anyTo]
  | y :: t => by
    simp only [List.cons_append, anyTo, anyTo_snoc k x t]
    cases anyTo k t <;> cases (x.toList == k.toList) <;> simp
theorem great_none (k : ByteArray) : ∀ l : List ByteArray, (∀ x ∈ l, ltK k x = true) → cntTo k l = 0 ∧ anyTo k l = false
  | [], _ => ⟨rfl, rfl⟩
  | x :: t, h => by
    obtain ⟨h1, h2⟩ := great_none k t (fun y hy => h y (List.mem_cons_of_mem _ hy))
    have hx := h x List.mem_cons_self
    have hn : x ≠ k := fun e => by subst e; rw [ltK_irrefl] at hx; cases hx
    have e1 : Op.bytesLess x.toList k.toList = false := ltK_asymm hx
    have e2 : (x.toList == k.toList) = false := by rw [beq_str]; simp [hn]
    simp [cntTo, anyTo, leC, h1, h2, e1, e2]
theorem cnt_law (k : ByteArray) : ∀ l : List ByteArray, RisB l → cntTo k l = cntB k l ∧ anyTo k l = hasB k l
  | [], _ => ⟨rfl, rfl⟩
  | x :: t, h => by
    have h' := List.pairwise_cons.1 h
    obtain ⟨h1, h2⟩ := cnt_law k t h'.2
    cases hx : ltK x k with
    | true =>
      have e1 : Op.bytesLess x.toList k.toList = true := hx
      have hn : x ≠ k := fun e => by subst e; rw [ltK_irrefl] at hx; cases hx
      have e2 : (x.toList == k.toList) = false := by rw [beq_str]; simp [hn]
      refine ⟨?_, ?_⟩
      · simp only [cntTo, leC, e1, Bool.true_or, if_true, h1, cntB, idxB, hasB, hx]
        split <;> omega
      · simp [anyTo, e2, h2, hasB, hx]
    | false =>
      cases hk : ltK k x with
      | true =>
        obtain ⟨g1, g2⟩ := great_none k (x :: t) (fun y hy => by
          rcases List.mem_cons.1 hy with rfl | hy
          · exact hk
          · exact ltK_trans hk (h'.1 y hy))
        obtain ⟨f1, f2⟩ := idx_less (ys := t) hk
        rw [g1, g2]
        unfold cntB
        rw [f1, f2]
        exact ⟨rfl, rfl⟩
      | false =>
        have e := ltK_total hx hk
        subst e
        obtain ⟨g1, g2⟩ := great_none x t (fun y hy => h'.1 y hy)
        simp [cntTo, anyTo, leC, g1, g2, cntB, idxB, hasB, hx]

set_option maxRecDepth 100000 in
set_option maxHeartbeats 3000000 in
theorem walk_NodeWays (pa : Option Addr) (n c : Nat) (l : List ByteArray) (k : ByteArray) (w : World) (hps : IsStrs w pa n c l) (hsz : ∀ k ∈ l, k.size ≤ 140737488351232) (_wk : k.size ≤ maxLen) :
    Calls Try.prog 10 #[.slice pa n c, .string k] w fun e w' => e = .returned (.bool true) ∧ Below w.heap.size w w' := by
  have HR : Hid (Rd w (.slice pa n c) (sv l)) := isStrs_rd hps
  have HLN : Hid (l.length = n) := hps.1
  have hnm : n ≤ 9223372036854775807 := Nat.le_trans hps.2.1 hps.2.2.1
  have HZ : Hid (∀ k ∈ l, k.size ≤ 140737488351232) := hsz
  clear hps hsz _wk
  go_enter Try.func10, Try.ntmps10
  go_wp2_with fail
  refine (head7_any _).mono ?_
  rintro e w1 ⟨rfl, y⟩
  have Y1 : Hid (Below w.heap.size w w1) := y
  clear y
  by_cases h20 : 20 < n
  · go_wp2_with fail
    go_ret
    exact ⟨ret_bool rfl, Y1.out⟩
  · have HIC : Hid (Calls Try.prog 32 #[.slice pa n c, .int .i64 1] w1 _) := inner_any _ l 1 w1 (HR.out.below Y1.out) (by have := HLN.out; omega) HZ.out (by omega)
    go_wp2_with fail
    refine HIC.out.mono ?_
    rintro e w2 ⟨kv, vv, dv, rfl, ho, y⟩
    obtain ⟨kn, ka, kc, e1⟩ := ho.keys.rd.any
    obtain ⟨vn, va, vc, e2⟩ := ho.vals.rd.any
    obtain ⟨dn, da, dc, e3⟩ := ho.kids.rd.any
    subst e1 e2 e3
    have HKN : Hid ((ksOf l).length = kn) := by have := ho.keys.rd.at.1; rw [sv_length] at this; exact this.symm
    have HDN : Hid ((ksOf l).length + 1 = dn) := by have := ho.kids.rd.at.1; rw [iv_length] at this; show _ = _; rw [this]; exact (kidsM_length _ _).symm
    have hk20 : kn ≤ 20 := by have h1 := ksOf_length l; have h2 := HLN.out; have h3 := HKN.out; omega
    have hd21 : dn ≤ 21 := by have := HKN.out; have := HDN.out; omega
    have HRI : Hid (RisB (ksOf l)) := ksOf_rising l
    have Y2 : Hid (Below w.heap.size w w2) := ext_trans Y1.out y
    have P2 : Hid (PgAt w2 (innM (ksOf l) 1 ((ksOf l).length + 1)) (.slice ka kn kc) (.slice va vn vc) (.slice da dn dc)) := ho.at
    clear ho y Y1 HIC
    generalize ksOf l = ks at *
    have B3 : Hid (PBox (w2.alloc (.cells #[.int .i64 (innM ks 1 (ks.length + 1)).kind, .slice ka kn kc, .slice va vn vc, .slice da dn dc, .int .i64 (innM ks 1 (ks.length + 1)).root, .int .i64 (innM ks 1 (ks.length + 1)).next, .int .i64 (innM ks 1 (ks.length + 1)).size, .int .i64 (innM ks 1 (ks.length + 1)).idle] 25)) w2.heap.size (innM ks 1 (ks.length + 1)) (.slice ka kn kc) (.slice va vn vc) (.slice da dn dc)) := Blk.new _ _ _
    have P3 : Hid (PgAt (w2.alloc (.cells #[.int .i64 (innM ks 1 (ks.length + 1)).kind, .slice ka kn kc, .slice va vn vc, .slice da dn dc, .int .i64 (innM ks 1 (ks.length + 1)).root, .int .i64 (innM ks 1 (ks.length + 1)).next, .int .i64 (innM ks 1 (ks.length + 1)).size, .int .i64 (innM ks 1 (ks.length + 1)).idle] 25)) (innM ks 1 (ks.length + 1)) (.slice ka kn kc) (.slice va vn vc) (.slice da dn dc)) := P2.out.below ((Below.refl _ _).alloc (Nat.le_refl _) _)
    have Y3 : Hid (Below w.heap.size w (w2.alloc (.cells #[.int .i64 (innM ks 1 (ks.length + 1)).kind, .slice ka kn kc, .slice va vn vc, .slice da dn dc, .int .i64 (innM ks 1 (ks.length + 1)).root, .int .i64 (innM ks 1 (ks.length + 1)).next, .int .i64 (innM ks 1 (ks.length + 1)).size, .int .i64 (innM ks 1 (ks.length + 1)).idle] 25))) := Y2.out.alloc Y2.out.size _
    unfold pgv
    go_upto_region 8 with fail
    generalize w2.alloc (.cells #[.int .i64 (innM ks 1 (ks.length + 1)).kind, .slice ka kn kc, .slice va vn vc, .slice da dn dc, .int .i64 (innM ks 1 (ks.length + 1)).root, .int .i64 (innM ks 1 (ks.length + 1)).next, .int .i64 (innM ks 1 (ks.length + 1)).size, .int .i64 (innM ks 1 (ks.length + 1)).idle] 25) = w3 at *
    obtain ⟨b5, hb5⟩ : ∃ b, w2.heap.size = b := ⟨_, rfl⟩
    rw [hb5] at B3 ⊢
    clear hb5 P2 Y2
    have z1 := B3.out.cells.2.1
    go_wp2
    clear z1
    go_loopw [6, 7, 24] (fun vw vt vj wr => ∃ j : Nat, vj = .int .i64 (j : Int) ∧ j ≤ kn ∧ vw = .int .i64 (cntTo k (ks.take j) : Int) ∧ vt = .bool (anyTo k (ks.take j)) ∧ w3 = wr) (fun _ _ vj _ => kn - (intOf vj).toNat)
    case atStart => exact ⟨0, rfl, Nat.zero_le _, rfl, rfl, rfl⟩
    case round =>
      obtain ⟨j, rfl, hj, rfl, rfl, hw⟩ := hrel
      subst hw
      have HCT : Hid (cntTo k (ks.take j) ≤ 20) := by
        have : ∀ l : List ByteArray, cntTo k l ≤ l.length := fun l => by
          induction l with
          | nil => exact Nat.le_refl _
          | cons x t ih => simp only [cntTo, List.length_cons]; split <;> omega
        have h1 := this (ks.take j)
        rw [List.length_take] at h1
        show _ ≤ _
        omega
      by_cases hjn : j < kn
      · have hjk : j < ks.length := by rw [HKN.out]; exact hjn
        obtain ⟨r0, r1, r2, r3⟩ := P3.out.keys.at
        obtain ⟨kad, hkad⟩ := r3.ad (by rw [sv_length]; show 0 < ks.length; omega)
        subst hkad
        have y1 : w3.cell? (kad.add j) = some (.string ks[j]) := r3.str (ss := ks) rfl hjk
        have HS1 : Hid (cntTo k (ks.take (j + 1)) = cntTo k (ks.take j) + (if leC ks[j] k then 1 else 0)) := by show _ = _; rw [List.take_succ_eq_append_getElem hjk, cntTo_snoc]
        have HS2 : Hid (anyTo k (ks.take (j + 1)) = (anyTo k (ks.take j) || (ks[j].toList == k.toList))) := by show _ = _; rw [List.take_succ_eq_append_getElem hjk, anyTo_snoc]
        have HLC : Hid (leC ks[j] k = (Op.bytesLess ks[j].toList k.toList || (ks[j].toList == k.toList))) := rfl
        clear r0 r1 r2 r3
        generalize ks[j] = x at *
        have hct : cntTo k (ks.take j) ≤ 20 := HCT.out
        generalize hcn : cntTo k (ks.take j) = cn at *
        generalize han : anyTo k (ks.take j) = an at *
        clear hcn han
        generalize leC x k = lc at *
        cases hlt : Op.bytesLess x.toList k.toList with
        | true =>
          cases heq : (x.toList == k.toList) with
          | true =>
            cases an with
            | true =>
              go_wp2
              go_roundw
              case rel => exact ⟨j + 1, by go_num, hjn, by rw [HS1.out, HLC.out, hlt]; simp, by rw [HS2.out]; simp, trivial⟩
              case measure => simp [intOf]; omega
            | false =>
              go_wp2
              go_roundw
              case rel => exact ⟨j + 1, by go_num, hjn, by rw [HS1.out, HLC.out, hlt]; simp, by rw [HS2.out, heq]; simp, trivial⟩
              case measure => simp [intOf]; omega
          | false =>
            cases an with
            | true =>
              go_wp2
              go_roundw
              case rel => exact ⟨j + 1, by go_num, hjn, by rw [HS1.out, HLC.out, hlt]; simp, by rw [HS2.out]; simp, trivial⟩
              case measure => simp [intOf]; omega
            | false =>
              go_wp2
              go_roundw
              case rel => exact ⟨j + 1, by go_num, hjn, by rw [HS1.out, HLC.out, hlt]; simp, by rw [HS2.out, heq]; simp, trivial⟩
              case measure => simp [intOf]; omega
        | false =>
          cases heq : (x.toList == k.toList) with
          | true =>
            cases an with
            | true =>
              go_wp2
              go_roundw
              case rel => exact ⟨j + 1, by go_num, hjn, by rw [HS1.out, HLC.out, heq]; simp, by rw [HS2.out]; simp, trivial⟩
              case measure => simp [intOf]; omega
            | false =>
              go_wp2
              go_roundw
              case rel => exact ⟨j + 1, by go_num, hjn, by rw [HS1.out, HLC.out, heq]; simp, by rw [HS2.out, heq]; simp, trivial⟩
              case measure => simp [intOf]; omega
          | false =>
            cases an with
            | true =>
              go_wp2
              go_roundw
              case rel => exact ⟨j + 1, by go_num, hjn, by rw [HS1.out, HLC.out, hlt, heq]; simp, by rw [HS2.out]; simp, trivial⟩
              case measure => simp [intOf]; omega
            | false =>
              go_wp2
              go_roundw
              case rel => exact ⟨j + 1, by go_num, hjn, by rw [HS1.out, HLC.out, hlt, heq]; simp, by rw [HS2.out, heq]; simp, trivial⟩
              case measure => simp [intOf]; omega
      · have htk : ks.take j = ks := List.take_of_length_le (by rw [HKN.out]; omega)
        obtain ⟨hc1, hc2⟩ := cnt_law k ks HRI.out
        rw [htk, hc1, hc2]
        clear htk hc1 hc2 HCT
        have G1 : Hid (∀ W, PgAt W (innM ks 1 (ks.length + 1)) (.slice ka kn kc) (.slice va vn vc) (.slice da dn dc) → Calls Try.prog 26 #[pgv (innM ks 1 (ks.length + 1)) (.slice ka kn kc) (.slice va vn vc) (.slice da dn dc), .string k] W fun e w' => e = .returned (.tuple #[.int .i64 (cntB k ks : Int), .bool (hasB k ks)]) ∧ Below W.heap.size W w') := fun W h => by
          have e : atI (innM ks 1 (ks.length + 1)) k = cntB k ks := by simp [atI, innM, cntB]
          rw [← e]
          exact at_any (innM ks 1 (ks.length + 1)) k _ _ _ W h HRI.out (by show ks.length < _; have := HKN.out; omega)
        have G2 : Hid (∀ W, PgAt W (innM ks 1 (ks.length + 1)) (.slice ka kn kc) (.slice va vn vc) (.slice da dn dc) → Calls Try.prog 27 #[pgv (innM ks 1 (ks.length + 1)) (.slice ka kn kc) (.slice va vn vc) (.slice da dn dc), .string k] W fun e w' => e = .returned (.tuple #[.string .empty, .bool false]) ∧ Below W.heap.size W w') := fun W h => by
          have e : getP (innM ks 1 (ks.length + 1)) k = (.empty, false) := by simp [getP, leafP, innM]
          have := get_any (innM ks 1 (ks.length + 1)) k _ _ _ W h HRI.out (by show ks.length < _; have := HKN.out; omega) (by show 0 < _; omega)
          rw [e] at this
          exact this
        have HO : Hid (∀ W, Calls Try.prog 30 #[.agg #[.int .i64 (innM ks 1 (ks.length + 1)).kind, .slice ka kn kc, .slice va vn vc, .slice da dn dc, .int .i64 (innM ks 1 (ks.length + 1)).root, .int .i64 (innM ks 1 (ks.length + 1)).next, .int .i64 (innM ks 1 (ks.length + 1)).size, .int .i64 (innM ks 1 (ks.length + 1)).idle]] W fun e w' => e = .returned (.bool (decide (8 < (dn : Int)))) ∧ Below W.heap.size W w') := fun W => by
          have h1 : (innM ks 1 (ks.length + 1)).keys.length = kn := HKN.out
          have h2 : (innM ks 1 (ks.length + 1)).vals.length = vn := by have := P3.out.vals.at.1; rw [sv_length] at this; exact this.symm
          have h3 : (innM ks 1 (ks.length + 1)).kids.length = dn := by rw [← HDN.out]; exact kidsM_length _ _
          have := over_any (innM ks 1 (ks.length + 1)) ka kc va vc da dc W
          rw [h1, h2, h3] at this
          have e : overP (innM ks 1 (ks.length + 1)) = decide (8 < (dn : Int)) := by
            unfold overP
            rw [h3, if_neg (by simp [innM]), if_pos (by simp [innM])]
            rw [Bool.eq_iff_iff]
            simp only [decide_eq_true_eq]
            omega
          rw [e] at this
          exact this
        have HU : Hid (∀ W, Calls Try.prog 31 #[.agg #[.int .i64 (innM ks 1 (ks.length + 1)).kind, .slice ka kn kc, .slice va vn vc, .slice da dn dc, .int .i64 (innM ks 1 (ks.length + 1)).root, .int .i64 (innM ks 1 (ks.length + 1)).next, .int .i64 (innM ks 1 (ks.length + 1)).size, .int .i64 (innM ks 1 (ks.length + 1)).idle]] W fun e w' => e = .returned (.bool (decide ((dn : Int) < 4))) ∧ Below W.heap.size W w') := fun W => by
          have h1 : (innM ks 1 (ks.length + 1)).keys.length = kn := HKN.out
          have h2 : (innM ks 1 (ks.length + 1)).vals.length = vn := by have := P3.out.vals.at.1; rw [sv_length] at this; exact this.symm
          have h3 : (innM ks 1 (ks.length + 1)).kids.length = dn := by rw [← HDN.out]; exact kidsM_length _ _
          have := under_any (innM ks 1 (ks.length + 1)) ka kc va vc da dc W
          rw [h1, h2, h3] at this
          have e : underP (innM ks 1 (ks.length + 1)) = decide ((dn : Int) < 4) := by
            unfold underP
            rw [h3, if_neg (by simp [innM]), if_pos (by simp [innM])]
            rw [Bool.eq_iff_iff]
            simp only [decide_eq_true_eq]
            omega
          rw [e] at this
          exact this
        have HO0 : Hid (∀ W, Calls Try.prog 30 #[.agg #[.int .i64 0, .slice none 0 0, .slice none 0 0, .slice none 0 0, .int .i64 0, .int .i64 0, .int .i64 0, .int .i64 0]] W fun e w' => e = .returned (.bool false) ∧ Below W.heap.size W w') := fun W => over_any ⟨0, [], [], [], 0, 0, 0, 0⟩ none 0 none 0 none 0 W
        have HU0 : Hid (∀ W, Calls Try.prog 31 #[.agg #[.int .i64 3, .slice none 0 0, .slice none 0 0, .slice none 0 0, .int .i64 0, .int .i64 0, .int .i64 0, .int .i64 0]] W fun e w' => e = .returned (.bool false) ∧ Below W.heap.size W w') := fun W => under_any ⟨3, [], [], [], 0, 0, 0, 0⟩ none 0 none 0 none 0 W
        unfold pgv at G1 G2
        generalize cntB k ks = CN at *
        generalize hasB k ks = HN at *
        obtain ⟨z0, z1, z2, z3, z4, z5, z6, z7⟩ := B3.out.cells
        go_wp2_with fail
        refine (G1.out _ P3.out).mono ?_
        rintro e w6 ⟨rfl, y⟩
        have B6 : Hid (PBox w6 b5 (innM ks 1 (ks.length + 1)) (.slice ka kn kc) (.slice va vn vc) (.slice da dn dc)) := B3.out.below y
        have P6 : Hid (PgAt w6 (innM ks 1 (ks.length + 1)) (.slice ka kn kc) (.slice va vn vc) (.slice da dn dc)) := P3.out.below y
        have Y6 : Hid (Below w.heap.size w w6) := ext_trans Y3.out y
        clear y z0 z1 z2 z3 z4 z5 z6 z7 B3 P3 Y3 G1
        obtain ⟨z0, z1, z2, z3, z4, z5, z6, z7⟩ := B6.out.cells
        go_wp2_with fail
        refine (G2.out _ P6.out).mono ?_
        rintro e w8 ⟨rfl, y⟩
        have C8 : Hid (PBox w8 b5 (innM ks 1 (ks.length + 1)) (.slice ka kn kc) (.slice va vn vc) (.slice da dn dc)) := B6.out.below y
        have Y8 : Hid (Below w.heap.size w w8) := ext_trans Y6.out y
        clear y z0 z1 z2 z3 z4 z5 z6 z7 B6 P6 Y6 G2
        go_upto_region 17 with fail
        obtain ⟨z0, z1, z2, z3, z4, z5, z6, z7⟩ := C8.out.cells
        refine wp_region_ext (by kernel_rfl) ?_
        haveI nA := cls_ext w8.drew
        have q0 := cellX (W0 := w8.drew) (show (w8.drew).cell? ⟨b5, 0, none⟩ = some _ from z0)
        have q1 := cellX (W0 := w8.drew) (show (w8.drew).cell? ⟨b5, 1, none⟩ = some _ from z1)
        have q2 := cellX (W0 := w8.drew) (show (w8.drew).cell? ⟨b5, 2, none⟩ = some _ from z2)
        have q3 := cellX (W0 := w8.drew) (show (w8.drew).cell? ⟨b5, 3, none⟩ = some _ from z3)
        have q4 := cellX (W0 := w8.drew) (show (w8.drew).cell? ⟨b5, 4, none⟩ = some _ from z4)
        have q5 := cellX (W0 := w8.drew) (show (w8.drew).cell? ⟨b5, 5, none⟩ = some _ from z5)
        have q6 := cellX (W0 := w8.drew) (show (w8.drew).cell? ⟨b5, 6, none⟩ = some _ from z6)
        have q7 := cellX (W0 := w8.drew) (show (w8.drew).cell? ⟨b5, 7, none⟩ = some _ from z7)
        refine wpAnyH_seg (by kernel_rfl) (fun _ _ _ h => h) [0, 1, 2, 3, 4, 5, 6, 7, 8, 9, 10, 11, 12, 13, 15, 16, 17, 18] 23 _ _ _ (Ext.refl _) (by kernel_rfl) ?_
        simp only [opsAt, List.getElem?_toArray, List.getElem?_cons_zero, List.getElem?_cons_succ, List.cons_append, List.nil_append]
        repeat (go_big_quiet_step (fail))
        refine wpQuiet_nil ?_
        clear nA q0 q1 q2 q3 q4 q5 q6 q7 z0 z1 z2 z3 z4 z5 z6 z7
        refine wpAnyH_callE (i := 14) (fuel := 22) 66 rfl (by kernel_rfl) rfl (Ext.refl _) (by kernel_rfl) (f := 30) (args := #[.agg #[.int .i64 (innM ks 1 (ks.length + 1)).kind, .slice ka kn kc, .slice va vn vc, .slice da dn dc, .int .i64 (innM ks 1 (ks.length + 1)).root, .int .i64 (innM ks 1 (ks.length + 1)).next, .int .i64 (innM ks 1 (ks.length + 1)).size, .int .i64 (innM ks 1 (ks.length + 1)).idle]]) (by kernel_rfl) (HO.out w8.drew) ?_
        rintro e wa ⟨rfl, y⟩
        refine ⟨_, rfl, y, ?_⟩
        have Ya : Hid (Below w.heap.size w wa) := ext_trans (Below.drew Y8.out) y
        have Ca : Hid (PBox wa b5 (innM ks 1 (ks.length + 1)) (.slice ka kn kc) (.slice va vn vc) (.slice da dn dc)) := PBox.below (show PBox w8.drew b5 _ _ _ _ from C8.out) y
        clear y
        simp only [Act.put, List.setIfInBounds_toArray, List.set_cons_succ, List.set_cons_zero]
        obtain ⟨z0, z1, z2, z3, z4, z5, z6, z7⟩ := Ca.out.cells
        haveI nA := cls_ext wa
        have q0 := cellX (W0 := wa) (show (wa).cell? ⟨b5, 0, none⟩ = some _ from z0)
        have q1 := cellX (W0 := wa) (show (wa).cell? ⟨b5, 1, none⟩ = some _ from z1)
        have q2 := cellX (W0 := wa) (show (wa).cell? ⟨b5, 2, none⟩ = some _ from z2)
        have q3 := cellX (W0 := wa) (show (wa).cell? ⟨b5, 3, none⟩ = some _ from z3)
        have q4 := cellX (W0 := wa) (show (wa).cell? ⟨b5, 4, none⟩ = some _ from z4)
        have q5 := cellX (W0 := wa) (show (wa).cell? ⟨b5, 5, none⟩ = some _ from z5)
        have q6 := cellX (W0 := wa) (show (wa).cell? ⟨b5, 6, none⟩ = some _ from z6)
        have q7 := cellX (W0 := wa) (show (wa).cell? ⟨b5, 7, none⟩ = some _ from z7)
        refine wpAnyH_seg (by kernel_rfl) (fun _ _ _ h => h) [19, 20, 21, 22, 24, 25, 26, 27] 14 _ _ _ (Ext.refl _) (by kernel_rfl) ?_
        simp only [opsAt, List.getElem?_toArray, List.getElem?_cons_zero, List.getElem?_cons_succ, List.cons_append, List.nil_append]
        repeat (go_big_quiet_step (fail))
        refine wpQuiet_nil ?_
        clear nA q0 q1 q2 q3 q4 q5 q6 q7 z0 z1 z2 z3 z4 z5 z6 z7
        refine wpAnyH_callE (i := 23) (fuel := 13) 75 rfl (by kernel_rfl) rfl (Ext.refl _) (by kernel_rfl) (f := 31) (args := #[.agg #[.int .i64 (innM ks 1 (ks.length + 1)).kind, .slice ka kn kc, .slice va vn vc, .slice da dn dc, .int .i64 (innM ks 1 (ks.length + 1)).root, .int .i64 (innM ks 1 (ks.length + 1)).next, .int .i64 (innM ks 1 (ks.length + 1)).size, .int .i64 (innM ks 1 (ks.length + 1)).idle]]) (by kernel_rfl) (HU.out wa) ?_
        rintro e wb ⟨rfl, y⟩
        refine ⟨_, rfl, y, ?_⟩
        have Yb : Hid (Below w.heap.size w wb) := ext_trans Ya.out y
        clear y
        simp only [Act.put, List.setIfInBounds_toArray, List.set_cons_succ, List.set_cons_zero]
        haveI nA := cls_ext wb
        refine wpAnyH_seg (by kernel_rfl) (fun _ _ _ h => h) [28, 29, 30, 31] 9 _ _ _ (Ext.refl _) (by kernel_rfl) ?_
        simp only [opsAt, List.getElem?_toArray, List.getElem?_cons_zero, List.getElem?_cons_succ, List.cons_append, List.nil_append]
        repeat (go_big_quiet_step (fail))
        refine wpQuiet_nil ?_
        clear nA
        refine wpAnyH_callE (i := 32) (fuel := 8) 84 rfl (by kernel_rfl) rfl (Ext.refl _) (by kernel_rfl) (f := 30) (args := #[.agg #[.int .i64 0, .slice none 0 0, .slice none 0 0, .slice none 0 0, .int .i64 0, .int .i64 0, .int .i64 0, .int .i64 0]]) (by kernel_rfl) (HO0.out wb) ?_
        rintro e wd ⟨rfl, y⟩
        refine ⟨_, rfl, y, ?_⟩
        have Yd : Hid (Below w.heap.size w wd) := ext_trans Yb.out y
        clear y
        simp only [Act.put, List.setIfInBounds_toArray, List.set_cons_succ, List.set_cons_zero]
        haveI nA := cls_ext wd
        refine wpAnyH_seg (by kernel_rfl) (fun _ _ _ h => h) [33, 34, 35, 36] 4 _ _ _ (Ext.refl _) (by kernel_rfl) ?_
        simp only [opsAt, List.getElem?_toArray, List.getElem?_cons_zero, List.getElem?_cons_succ, List.cons_append, List.nil_append]
        repeat (go_big_quiet_step (fail))
        refine wpQuiet_nil ?_
        clear nA
        refine wpAnyH_callE (i := 37) (fuel := 3) 89 rfl (by kernel_rfl) rfl (Ext.refl _) (by kernel_rfl) (f := 31) (args := #[.agg #[.int .i64 3, .slice none 0 0, .slice none 0 0, .slice none 0 0, .int .i64 0, .int .i64 0, .int .i64 0, .int .i64 0]]) (by kernel_rfl) (HU0.out wd) ?_
        rintro e we ⟨rfl, y⟩
        refine ⟨_, rfl, y, ?_⟩
        have Ye : Hid (Below w.heap.size w we) := ext_trans Yd.out y
        clear y
        simp only [Act.put, List.setIfInBounds_toArray, List.set_cons_succ, List.set_cons_zero]
        haveI nA := cls_ext we
        refine wpAnyH_seg (by kernel_rfl) (fun _ _ _ h => h) [38, 39, 40] 0 _ _ _ (Ext.refl _) (by kernel_rfl) ?_
        simp only [opsAt, List.getElem?_toArray, List.getElem?_cons_zero, List.getElem?_cons_succ, List.cons_append, List.nil_append]
        repeat (go_big_quiet_step (fail))
        refine wpQuiet_nil ?_
        refine wpAnyH_done (by kernel_rfl) (NoPanic.normal ?_) 0
        clear nA
        go_wp2
        go_ret
        exact ⟨ret_bool rfl, Ye.out⟩
end Go.Proofs.Ytonhgekkdohpkaa
