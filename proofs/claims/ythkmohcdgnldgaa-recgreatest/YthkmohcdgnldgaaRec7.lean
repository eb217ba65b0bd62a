/- rec: the law's head, tid, strs, Alike; an Open's Clone. Own lemmas, no statement. -/
import Derived.Test.YthkmohcdgnldgaaRec6
set_option linter.unusedSimpArgs false
set_option linter.unusedVariables false
namespace Go.Proofs.Ythkmohcdgnldgaa
open Go.ChangeShapes Go.WideShapes Go.ChangeAt Go.RowKit

/-- A record without lists. -/
def recOf (k n y : Int) (key : ByteArray) (was : Bool) (old : ByteArray) (prev : Int) : RecV := ⟨k, n, y, key, was, old, prev, none, 0, 0, [], none, 0, 0, [], none, 0, 0, [], none, 0, 0, [], none, 0, 0, []⟩
theorem recOf_at (W : World) (k n y : Int) (key : ByteArray) (was : Bool) (old : ByteArray) (prev : Int) (h1 : key.size ≤ maxLen) (h2 : old.size ≤ maxLen) : (recOf k n y key was old prev).At W :=
  ⟨h1, h2, Rd.nil W, Rd.nil W, (fun s hs => nomatch hs), RowsN.nil W _ _, (fun s hs => nomatch hs), RowsN.nil W _ _, (fun s hs => nomatch hs), RowsN.nil W _ _, (fun s hs => nomatch hs)⟩
set_option maxRecDepth 100000 in
theorem head11_any (w : World) : Calls Try.prog 6 #[] w fun e w' => e = .returned (.bool true) ∧ Below w.heap.size w w' := by
  have HE : Hid (Calls Try.prog 8 #[.agg #[.int .i64 4, .int .u64 5, .int .i64 1, .string ByteArray.empty, .bool false, .string ByteArray.empty, .int .u64 0, .slice none 0 0, .slice none 0 0, .slice none 0 0, .slice none 0 0, .slice none 0 0]] w (EncP w [4, 5, 1])) :=
    encode_of (recOf 4 5 1 .empty false .empty 0) [] w (recOf_at w _ _ _ _ _ _ _ (by decide) (by decide)) 4 5 rfl (by omega) rfl (by omega) (by kernel_rfl) (by simp) (fun W hb => body4_any _ W rfl)
  go_enter Try.func6, Try.ntmps6
  go_wp2_with fail
  refine HE.out.mono ?_
  rintro e w1 ⟨⟨v, er, rfl, h⟩, y⟩
  rw [if_neg (by decide)] at h
  obtain ⟨ho, rfl⟩ := h
  obtain ⟨g, cap, hv, _⟩ := ho.form (by simp)
  subst hv
  have hs : (convert 27 9 (.slice (some ⟨g, 0, none⟩) 3 cap)).run Try.prog w1 = .ok (.string ⟨#[4, 5, 1]⟩) w1 := ho.src.str
  have HY : Hid (Below w.heap.size w w1) := y
  clear y ho HE
  go_wp2
  go_ret
  exact ⟨rfl, HY.out⟩
theorem tid11_any (x y : Int) (w : World) : Calls Try.prog 7 #[.agg #[.int .u64 x, .int .i64 y]] w fun e w' => e = .returned (.bool (tidOk x y)) ∧ Below w.heap.size w w' := by
  have HB : Hid (∀ o, Below w.heap.size w (w.alloc o)) := fun o => (Below.refl _ _).alloc (Nat.le_refl _) _
  have HT : Hid (tidOk x y = (decide (x ≤ 1099511627776) && (decide (0 ≤ y) && decide (y < 64)))) := rfl
  go_enter Try.func7, Try.ntmps7
  by_cases h1 : x ≤ 1099511627776
  · have H1 : Hid (decide (x ≤ 1099511627776) = true) := decide_eq_true h1
    by_cases h2 : 0 ≤ y
    · have H2 : Hid (decide (0 ≤ y) = true) := decide_eq_true h2
      go_wp2
      go_ret
      exact ⟨ret_bool (by rw [HT.out, H1.out, H2.out]; rfl), HB.out _⟩
    · have H2 : Hid (decide (0 ≤ y) = false) := decide_eq_false h2
      go_wp2
      go_ret
      exact ⟨ret_bool (by rw [HT.out, H1.out, H2.out]; rfl), HB.out _⟩
  · have H1 : Hid (decide (x ≤ 1099511627776) = false) := decide_eq_false h1
    go_wp2
    go_ret
    exact ⟨ret_bool (by rw [HT.out, H1.out]; rfl), HB.out _⟩
theorem strs_any (u v : Value) (a b : List ByteArray) (w : World) (hu : Rd w u (sv a)) (hv : Rd w v (sv b)) :
    Calls Try.prog 19 #[u, v] w fun e w' => e = .returned (.bool (decide (a = b))) ∧ Below w.heap.size w w' := by
  obtain ⟨na, aa, ca, rfl⟩ := hu.any2
  obtain ⟨nb, ab, cb, rfl⟩ := hv.any2
  have HU : Hid (Rd w (.slice aa na ca) (sv a)) := hu
  have HV : Hid (Rd w (.slice ab nb cb) (sv b)) := hv
  have ha : na = a.length := by have := hu.at.1; rw [sv_length] at this; exact this
  have hb : nb = b.length := by have := hv.at.1; rw [sv_length] at this; exact this
  have hm1 : na ≤ 9223372036854775807 := by have h0 := hu.at.1; have h1 := hu.at.2.1; have h2 := hu.at.2.2.1; unfold maxLen at h2; omega
  have HA : Hid (na = a.length) := ha
  have HB : Hid (nb = b.length) := hb
  clear ha hb hu hv
  go_enter Try.func19, Try.ntmps19
  by_cases hn : na = nb
  · subst hn
    go_wp2
    go_loopw [13] (fun vi wr => ∃ i : Nat, vi = .int .i64 (i : Int) ∧ i ≤ na ∧ a.take i = b.take i ∧ Below w.heap.size w wr) (fun vi _ => na - (intOf vi).toNat)
    case atStart => exact ⟨0, rfl, Nat.zero_le _, by simp, Below.refl _ _⟩
    case round =>
      obtain ⟨i, rfl, hi, ht, y⟩ := hrel
      have HT : Hid (a.take i = b.take i) := ht
      have HY : Hid (Below w.heap.size w wr) := y
      clear ht y
      by_cases hlt : i < na
      · have hia : i < a.length := by rw [← HA.out]; exact hlt
        have hib : i < b.length := by rw [← HB.out]; exact hlt
        obtain ⟨ad, e1⟩ := HU.out.at.2.2.2.ad (by rw [sv_length]; omega)
        obtain ⟨bd, e2⟩ := HV.out.at.2.2.2.ad (by rw [sv_length]; omega)
        subst e1 e2
        have y1 : wr.cell? (ad.add i) = some (.string a[i]) := (HU.out.below HY.out).at.2.2.2.str rfl hia
        have y2 : wr.cell? (bd.add i) = some (.string b[i]) := (HV.out.below HY.out).at.2.2.2.str rfl hib
        have HS : Hid (a.take (i + 1) = a.take i ++ [a[i]] ∧ b.take (i + 1) = b.take i ++ [b[i]]) := ⟨List.take_succ_eq_append_getElem hia, List.take_succ_eq_append_getElem hib⟩
        have HE : Hid (a[i] ≠ b[i] → a ≠ b) := fun hne e => hne (by subst e; rfl)
        have hi2 : (i : Int) < (na : Int) := by omega
        generalize a[i] = x at *
        generalize b[i] = z at *
        by_cases hxz : x = z
        · have hq : (x.toList == z.toList) = true := by rw [beq_str]; simp [hxz]
          have HXZ : Hid (x = z) := hxz
          clear hxz
          go_wp2
          go_quiet (fail)
          go_wp2
          go_roundw
          case rel => exact ⟨i + 1, by go_num, hlt, by rw [HS.out.1, HS.out.2, HT.out, HXZ.out], ⟨HY.out.os, HY.out.tape, HY.out.output, HY.out.size, HY.out.block⟩⟩
          case measure => simp [intOf]; omega
        · have hq : (x.toList == z.toList) = false := by rw [beq_str]; simp [hxz]
          have HXZ : Hid (x ≠ z) := hxz
          clear hxz
          go_wp2
          go_quiet (fail)
          go_wp2
          go_ret
          exact ⟨ret_bool (by simp [HE.out HXZ.out]), ⟨HY.out.os, HY.out.tape, HY.out.output, HY.out.size, HY.out.block⟩⟩
      · have hin : i = na := by omega
        have HE : Hid (a = b) := by
          have h := HT.out
          rw [List.take_of_length_le (by rw [← HA.out]; omega), List.take_of_length_le (by rw [← HB.out]; omega)] at h
          exact h
        clear hin hi
        go_wp2
        go_ret
        exact ⟨ret_bool (by simp [HE.out]), HY.out⟩
  · have HE : Hid (a ≠ b) := fun e => hn (by rw [HA.out, HB.out, e])
    have hn2 : ¬ ((na : Int) = (nb : Int)) := by omega
    go_wp2
    go_ret
    exact ⟨ret_bool (by simp [HE.out]), Below.refl _ _⟩
def put7 (w : World) (b : Nat) (u0 u1 u2 u3 u4 u5 u6 : Value) : World := ((((((w.setCell ⟨b, 0, none⟩ u0).setCell ⟨b, 1, none⟩ u1).setCell ⟨b, 2, none⟩ u2).setCell ⟨b, 3, none⟩ u3).setCell ⟨b, 4, none⟩ u4).setCell ⟨b, 5, none⟩ u5).setCell ⟨b, 6, none⟩ u6
theorem blk_set7 {w : World} {b : Nat} {T : TypeId} {x0 x1 x2 x3 x4 x5 x6 : Value} (u0 u1 u2 u3 u4 u5 u6 : Value) (h : Blk w b #[x0, x1, x2, x3, x4, x5, x6] T) : Blk (put7 w b u0 u1 u2 u3 u4 u5 u6) b #[u0, u1, u2, u3, u4, u5, u6] T := by
  have := ((((((h.set 0 u0).set 1 u1).set 2 u2).set 3 u3).set 4 u4).set 5 u5).set 6 u6
  simpa [put7] using this
theorem put7_other (w : World) (b : Nat) (u0 u1 u2 u3 u4 u5 u6 : Value) (g : Nat) (hg : g ≠ b) : (put7 w b u0 u1 u2 u3 u4 u5 u6).heap[g]? = w.heap[g]? := by
  unfold put7
  rw [Below.heap_setCell _ _ _ _ hg, Below.heap_setCell _ _ _ _ hg, Below.heap_setCell _ _ _ _ hg, Below.heap_setCell _ _ _ _ hg, Below.heap_setCell _ _ _ _ hg, Below.heap_setCell _ _ _ _ hg, Below.heap_setCell _ _ _ _ hg]
theorem put7_below {B : Nat} {a w : World} (h : Below B a w) {b : Nat} (hb : B ≤ b) (u0 u1 u2 u3 u4 u5 u6 : Value) : Below B a (put7 w b u0 u1 u2 u3 u4 u5 u6) :=
  ((((((h.setCell hb u0).setCell hb u1).setCell hb u2).setCell hb u3).setCell hb u4).setCell hb u5).setCell hb u6

set_option maxRecDepth 100000 in
set_option maxHeartbeats 4000000 in
theorem openClone_any (x : OpenV) (w : World) (h : x.At w) (hl : x.rs.length < 1000000) : Calls Try.prog 12 #[.agg #[.int .u64 x.num, .int .i64 x.node, .int .u64 x.last, .int .u64 x.first, .int .i64 x.count, .bool x.ready, .slice x.ra x.rn x.rc]] w fun e w' => ∃ a n c, e = .returned (.agg #[.int .u64 x.num, .int .i64 x.node, .int .u64 x.last, .int .u64 x.first, .int .i64 x.count, .bool x.ready, .slice a n c]) ∧ OwnV w' (w.heap.size + 2) 9 (.slice a n c) (sv x.rs) ∧ Below w.heap.size w w' := by
  have HX : Hid (x.At w) := h
  have HL : Hid (x.rs.length < 1000000) := hl
  clear h hl
  have HA : Hid (Blk ((w.alloc (.cells #[.int .u64 x.num, .int .i64 x.node, .int .u64 x.last, .int .u64 x.first, .int .i64 x.count, .bool x.ready, .slice x.ra x.rn x.rc] 46)).alloc (.cells #[.int .u64 0, .int .i64 0, .int .u64 0, .int .u64 0, .int .i64 0, .bool false, .slice none 0 0] 46)) w.heap.size #[.int .u64 x.num, .int .i64 x.node, .int .u64 x.last, .int .u64 x.first, .int .i64 x.count, .bool x.ready, .slice x.ra x.rn x.rc] 46) := (Blk.new _ _ _).alloc _
  have HR : Hid (Blk ((w.alloc (.cells #[.int .u64 x.num, .int .i64 x.node, .int .u64 x.last, .int .u64 x.first, .int .i64 x.count, .bool x.ready, .slice x.ra x.rn x.rc] 46)).alloc (.cells #[.int .u64 0, .int .i64 0, .int .u64 0, .int .u64 0, .int .i64 0, .bool false, .slice none 0 0] 46)) (w.heap.size + 1) #[.int .u64 0, .int .i64 0, .int .u64 0, .int .u64 0, .int .i64 0, .bool false, .slice none 0 0] 46) := blk_two _ _ _ _ _
  have HY : Hid (Below w.heap.size w ((w.alloc (.cells #[.int .u64 x.num, .int .i64 x.node, .int .u64 x.last, .int .u64 x.first, .int .i64 x.count, .bool x.ready, .slice x.ra x.rn x.rc] 46)).alloc (.cells #[.int .u64 0, .int .i64 0, .int .u64 0, .int .u64 0, .int .i64 0, .bool false, .slice none 0 0] 46))) := ((Below.refl _ _).alloc (Nat.le_refl _) _).alloc (by simp) _
  have HS : Hid (((w.alloc (.cells #[.int .u64 x.num, .int .i64 x.node, .int .u64 x.last, .int .u64 x.first, .int .i64 x.count, .bool x.ready, .slice x.ra x.rn x.rc] 46)).alloc (.cells #[.int .u64 0, .int .i64 0, .int .u64 0, .int .u64 0, .int .i64 0, .bool false, .slice none 0 0] 46)).heap.size = w.heap.size + 2) := by show _ = _; simp
  go_enter Try.func12, Try.ntmps12
  go_upto_region 1 with fail
  generalize ((w.alloc (.cells #[.int .u64 x.num, .int .i64 x.node, .int .u64 x.last, .int .u64 x.first, .int .i64 x.count, .bool x.ready, .slice x.ra x.rn x.rc] 46)).alloc (.cells #[.int .u64 0, .int .i64 0, .int .u64 0, .int .u64 0, .int .i64 0, .bool false, .slice none 0 0] 46)) = w0 at *
  have z6 : w0.cell? ⟨w.heap.size, 6, none⟩ = some (.slice x.ra x.rn x.rc) := HA.out.cell 6
  go_wp2_with fail
  refine (cloneS_any _ x.rs w0 (HX.out.rd.below HY.out) (by have := HL.out; omega)).mono ?_
  rintro e w1 ⟨v1, rfl, o1, y⟩
  obtain ⟨n1, a1, c1, hv⟩ := o1.rd.any2
  subst hv
  have HO1 : Hid (OwnV w1 (w.heap.size + 2) 9 (.slice a1 n1 c1) (sv x.rs)) := by rw [← HS.out]; exact o1
  have HA1 : Hid (Blk w1 w.heap.size #[.int .u64 x.num, .int .i64 x.node, .int .u64 x.last, .int .u64 x.first, .int .i64 x.count, .bool x.ready, .slice x.ra x.rn x.rc] 46) := Blk.of HA.out (y.block _ HA.out.lt)
  have HR1 : Hid (Blk w1 (w.heap.size + 1) #[.int .u64 0, .int .i64 0, .int .u64 0, .int .u64 0, .int .i64 0, .bool false, .slice none 0 0] 46) := Blk.of HR.out (y.block _ HR.out.lt)
  have HY1 : Hid (Below w.heap.size w w1) := ext_trans HY.out y
  clear z6 y o1 HA HR HY HS
  have z6 : w1.cell? ⟨w.heap.size, 6, none⟩ = some (.slice x.ra x.rn x.rc) := HA1.out.cell 6
  have f6 := HA1.out.frozen 6
  have HA2 : Hid (Blk (w1.setCell ⟨w.heap.size, 6, none⟩ (.slice a1 n1 c1)) w.heap.size #[.int .u64 x.num, .int .i64 x.node, .int .u64 x.last, .int .u64 x.first, .int .i64 x.count, .bool x.ready, .slice a1 n1 c1] 46) := by show Blk _ _ _ _; have := HA1.out.set 6 (.slice a1 n1 c1); simpa using this
  have HR2 : Hid (Blk (w1.setCell ⟨w.heap.size, 6, none⟩ (.slice a1 n1 c1)) (w.heap.size + 1) #[.int .u64 0, .int .i64 0, .int .u64 0, .int .u64 0, .int .i64 0, .bool false, .slice none 0 0] 46) := HR1.out.setOther _ _ (by simp)
  have HY2 : Hid (Below w.heap.size w (w1.setCell ⟨w.heap.size, 6, none⟩ (.slice a1 n1 c1))) := HY1.out.setCell (Nat.le_refl _) _
  have HO2 : Hid (OwnV (w1.setCell ⟨w.heap.size, 6, none⟩ (.slice a1 n1 c1)) (w.heap.size + 2) 9 (.slice a1 n1 c1) (sv x.rs)) := HO1.out.kept fun g hg => Below.heap_setCell _ _ _ _ (by have := (HO1.out.blk g hg).1; simp; omega)
  go_upto_region 2 with fail
  generalize w1.setCell ⟨w.heap.size, 6, none⟩ (.slice a1 n1 c1) = w2 at *
  clear z6 f6 HA1 HR1 HY1 HO1
  have z0 : w2.cell? ⟨w.heap.size, 0, none⟩ = some (.int .u64 x.num) := HA2.out.cell 0
  have y0 := HR2.out.cell 0
  have g0 := HR2.out.frozen 0
  have z1 : w2.cell? ⟨w.heap.size, 1, none⟩ = some (.int .i64 x.node) := HA2.out.cell 1
  have y1 := HR2.out.cell 1
  have g1 := HR2.out.frozen 1
  have z2 : w2.cell? ⟨w.heap.size, 2, none⟩ = some (.int .u64 x.last) := HA2.out.cell 2
  have y2 := HR2.out.cell 2
  have g2 := HR2.out.frozen 2
  have z3 : w2.cell? ⟨w.heap.size, 3, none⟩ = some (.int .u64 x.first) := HA2.out.cell 3
  have y3 := HR2.out.cell 3
  have g3 := HR2.out.frozen 3
  have z4 : w2.cell? ⟨w.heap.size, 4, none⟩ = some (.int .i64 x.count) := HA2.out.cell 4
  have y4 := HR2.out.cell 4
  have g4 := HR2.out.frozen 4
  have z5 : w2.cell? ⟨w.heap.size, 5, none⟩ = some (.bool x.ready) := HA2.out.cell 5
  have y5 := HR2.out.cell 5
  have g5 := HR2.out.frozen 5
  have z6 : w2.cell? ⟨w.heap.size, 6, none⟩ = some (.slice a1 n1 c1) := HA2.out.cell 6
  have y6 := HR2.out.cell 6
  have g6 := HR2.out.frozen 6
  go_wp2
  have K1 := blk_set7 (.int .u64 x.num) (.int .i64 x.node) (.int .u64 x.last) (.int .u64 x.first) (.int .i64 x.count) (.bool x.ready) (.slice a1 n1 c1) HR2.out
  have K2 : Below w.heap.size w (put7 w2 (w.heap.size + 1) (.int .u64 x.num) (.int .i64 x.node) (.int .u64 x.last) (.int .u64 x.first) (.int .i64 x.count) (.bool x.ready) (.slice a1 n1 c1)) := put7_below HY2.out (by omega) _ _ _ _ _ _ _
  have K3 : OwnV (put7 w2 (w.heap.size + 1) (.int .u64 x.num) (.int .i64 x.node) (.int .u64 x.last) (.int .u64 x.first) (.int .i64 x.count) (.bool x.ready) (.slice a1 n1 c1)) (w.heap.size + 2) 9 (.slice a1 n1 c1) (sv x.rs) := HO2.out.kept fun g hg => put7_other _ _ _ _ _ _ _ _ _ _ (by have := (HO2.out.blk g hg).1; omega)
  have hgo : ∀ (Q : World → Prop), Q (put7 w2 (w.heap.size + 1) (.int .u64 x.num) (.int .i64 x.node) (.int .u64 x.last) (.int .u64 x.first) (.int .i64 x.count) (.bool x.ready) (.slice a1 n1 c1)) → Q (((((((w2.setCell ⟨w.heap.size + 1, 0, none⟩ (.int .u64 x.num)).setCell ⟨w.heap.size + 1, 1, none⟩ (.int .i64 x.node)).setCell ⟨w.heap.size + 1, 2, none⟩ (.int .u64 x.last)).setCell ⟨w.heap.size + 1, 3, none⟩ (.int .u64 x.first)).setCell ⟨w.heap.size + 1, 4, none⟩ (.int .i64 x.count)).setCell ⟨w.heap.size + 1, 5, none⟩ (.bool x.ready)).setCell ⟨w.heap.size + 1, 6, none⟩ (.slice a1 n1 c1)) := fun _ h => h
  refine hgo _ ?_
  clear hgo
  generalize (put7 w2 (w.heap.size + 1) (.int .u64 x.num) (.int .i64 x.node) (.int .u64 x.last) (.int .u64 x.first) (.int .i64 x.count) (.bool x.ready) (.slice a1 n1 c1)) = W9 at *
  have q0 := K1.cell 0
  have q1 := K1.cell 1
  have q2 := K1.cell 2
  have q3 := K1.cell 3
  have q4 := K1.cell 4
  have q5 := K1.cell 5
  have q6 := K1.cell 6
  clear z0 y0 g0 z1 y1 g1 z2 y2 g2 z3 y3 g3 z4 y4 g4 z5 y5 g5 z6 y6 g6 K1
  exact bodyPost_ret (v := .agg #[.int .u64 x.num, .int .i64 x.node, .int .u64 x.last, .int .u64 x.first, .int .i64 x.count, .bool x.ready, .slice a1 n1 c1]) (by simp [results, Try.results12, go_sem, q0, q1, q2, q3, q4, q5, q6]) rfl ⟨_, _, _, rfl, K3, K2⟩
end Go.Proofs.Ythkmohcdgnldgaa
