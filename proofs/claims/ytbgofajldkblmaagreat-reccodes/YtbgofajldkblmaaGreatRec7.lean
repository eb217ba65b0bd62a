/- rec: the law's head, tid, strs, Alike; an Open's Clone. Own lemmas, no statement. -/
import Derived.Test.YtbgofajldkblmaaGreatRec6
set_option linter.unusedSimpArgs false
set_option linter.unusedVariables false
namespace Go.Proofs.YtbgofajldkblmaaGreat
open Go.ChangeShapes Go.WideShapes Go.ChangeAt Go.RowKit

/-- A record without lists. -/
def recOf (k n y : Int) (key : ByteArray) (was : Bool) (old : ByteArray) (prev : Int) : RecV := ⟨k, n, y, key, was, old, prev, none, 0, 0, [], none, 0, 0, [], none, 0, 0, [], none, 0, 0, [], none, 0, 0, []⟩
theorem recOf_at (W : World) (k n y : Int) (key : ByteArray) (was : Bool) (old : ByteArray) (prev : Int) (h1 : key.size ≤ maxLen) (h2 : old.size ≤ maxLen) : (recOf k n y key was old prev).At W :=
  ⟨h1, h2, Rd.nil W, Rd.nil W, (fun s hs => nomatch hs), RowsN.nil W _ _, (fun s hs => nomatch hs), RowsN.nil W _ _, (fun s hs => nomatch hs), RowsN.nil W _ _, (fun s hs => nomatch hs)⟩
set_option maxRecDepth 100000 in
theorem head11_any (w : World) : Calls Tryz.prog 6 #[] w fun e w' => e = .returned (.bool true) ∧ Below w.heap.size w w' := by
  have HE : Hid (Calls Tryz.prog 8 #[.agg #[.int .i64 4, .int .u64 5, .int .i64 1, .string ByteArray.empty, .bool false, .string ByteArray.empty, .int .u64 0, .slice none 0 0, .slice none 0 0, .slice none 0 0, .slice none 0 0, .slice none 0 0]] w (EncP w [4, 5, 1])) :=
    encode_of (recOf 4 5 1 .empty false .empty 0) [] w (recOf_at w _ _ _ _ _ _ _ (by decide) (by decide)) 4 5 rfl (by omega) rfl (by omega) (by kernel_rfl) (by simp) (fun W hb => body4_any _ W rfl)
  go_enter Tryz.func6, Tryz.ntmps6
  go_wp2_with fail
  refine HE.out.mono ?_
  rintro e w1 ⟨⟨v, er, rfl, h⟩, y⟩
  rw [if_neg (by decide)] at h
  obtain ⟨ho, rfl⟩ := h
  obtain ⟨g, cap, hv, _⟩ := ho.form (by simp)
  subst hv
  have hs : (convert 34 9 (.slice (some ⟨g, 0, none⟩) 3 cap)).run Tryz.prog w1 = .ok (.string ⟨#[4, 5, 1]⟩) w1 := ho.src.str
  have HY : Hid (Below w.heap.size w w1) := y
  clear y ho HE
  go_wp2
  go_ret
  exact ⟨rfl, HY.out⟩
theorem tid11_any (x y : Int) (w : World) : Calls Tryz.prog 22 #[.agg #[.int .u64 x, .int .i64 y]] w fun e w' => e = .returned (.bool (tidOk x y)) ∧ Below w.heap.size w w' := by
  have HB : Hid (∀ o, Below w.heap.size w (w.alloc o)) := fun o => (Below.refl _ _).alloc (Nat.le_refl _) _
  have HT : Hid (tidOk x y = (decide (x ≤ 1099511627776) && (decide (0 ≤ y) && decide (y < 64)))) := rfl
  go_enter Tryz.func22, Tryz.ntmps22
  by_cases h1 : x ≤ 1099511627776
  · have H1 : Hid (decide (x ≤ 1099511627776) = true) := decide_eq_true h1
    by_cases h2 : 0 ≤ y
    · have H2 : Hid (decide (0 ≤ y) = true) := decide_eq_true h2
      go_wp2
      go_ret
      exact ⟨ret_bool (by rw [HT.out, H1.out, H2.out]; rfl), HB.out _⟩
    · have H2 : Hid (decide (0 ≤ y) = false) := decide_eq_false h2
      go_wp2
      go_ret
      exact ⟨ret_bool (by rw [HT.out, H1.out, H2.out]; rfl), HB.out _⟩
  · have H1 : Hid (decide (x ≤ 1099511627776) = false) := decide_eq_false h1
    go_wp2
    go_ret
    exact ⟨ret_bool (by rw [HT.out, H1.out]; rfl), HB.out _⟩
theorem strs_any (u v : Value) (a b : List ByteArray) (w : World) (hu : Rd w u (sv a)) (hv : Rd w v (sv b)) :
    Calls Tryz.prog 39 #[u, v] w fun e w' => e = .returned (.bool (decide (a = b))) ∧ Below w.heap.size w w' := by
  obtain ⟨na, aa, ca, rfl⟩ := hu.any2
  obtain ⟨nb, ab, cb, rfl⟩ := hv.any2
  have HU : Hid (Rd w (.slice aa na ca) (sv a)) := hu
  have HV : Hid (Rd w (.slice ab nb cb) (sv b)) := hv
  have ha : na = a.length := by have := hu.at.1; rw [sv_length] at this; exact this
  have hb : nb = b.length := by have := hv.at.1; rw [sv_length] at this; exact this
  have hm1 : na ≤ 9223372036854775807 := by have h0 := hu.at.1; have h1 := hu.at.2.1; have h2 := hu.at.2.2.1; unfold maxLen at h2; omega
  have HA : Hid (na = a.length) := ha
  have HB : Hid (nb = b.length) := hb
  clear ha hb hu hv
  go_enter Tryz.func39, Tryz.ntmps39
  by_cases hn : na = nb
  · subst hn
    go_wp2
    go_loopw [13] (fun vi wr => ∃ i : Nat, vi = .int .i64 (i : Int) ∧ i ≤ na ∧ a.take i = b.take i ∧ Below w.heap.size w wr) (fun vi _ => na - (intOf vi).toNat)
    case atStart => exact ⟨0, rfl, Nat.zero_le _, by simp, Below.refl _ _⟩
    case round =>
      obtain ⟨i, rfl, hi, ht, y⟩ := hrel
      have HT : Hid (a.take i = b.take i) := ht
      have HY : Hid (Below w.heap.size w wr) := y
      clear ht y
      by_cases hlt : i < na
      · have hia : i < a.length := by rw [← HA.out]; exact hlt
        have hib : i < b.length := by rw [← HB.out]; exact hlt
        obtain ⟨ad, e1⟩ := HU.out.at.2.2.2.ad (by rw [sv_length]; omega)
        obtain ⟨bd, e2⟩ := HV.out.at.2.2.2.ad (by rw [sv_length]; omega)
        subst e1 e2
        have y1 : wr.cell? (ad.add i) = some (.string a[i]) := (HU.out.below HY.out).at.2.2.2.str rfl hia
        have y2 : wr.cell? (bd.add i) = some (.string b[i]) := (HV.out.below HY.out).at.2.2.2.str rfl hib
        have HS : Hid (a.take (i + 1) = a.take i ++ [a[i]] ∧ b.take (i + 1) = b.take i ++ [b[i]]) := ⟨List.take_succ_eq_append_getElem hia, List.take_succ_eq_append_getElem hib⟩
        have HE : Hid (a[i] ≠ b[i] → a ≠ b) := fun hne e => hne (by subst e; rfl)
        have hi2 : (i : Int) < (na : Int) := by omega
        generalize a[i] = x at *
        generalize b[i] = z at *
        by_cases hxz : x = z
        · have hq : (x.toList == z.toList) = true := by rw [beq_str]; simp [hxz]
          have HXZ : Hid (x = z) := hxz
          clear hxz
          go_wp2
          go_quiet (fail)
          go_wp2
          go_roundw
          case rel => exact ⟨i + 1, by go_num, hlt, by rw [HS.out.1, HS.out.2, HT.out, HXZ.out], ⟨HY.out.os, HY.out.tape, HY.out.output, HY.out.size, HY.out.block⟩⟩
          case measure => simp [intOf]; omega
        · have hq : (x.toList == z.toList) = false := by rw [beq_str]; simp [hxz]
          have HXZ : Hid (x ≠ z) := hxz
          clear hxz
          go_wp2
          go_quiet (fail)
          go_wp2
          go_ret
          exact ⟨ret_bool (by simp [HE.out HXZ.out]), ⟨HY.out.os, HY.out.tape, HY.out.output, HY.out.size, HY.out.block⟩⟩
      · have hin : i = na := by omega
        have HE : Hid (a = b) := by
          have h := HT.out
          rw [List.take_of_length_le (by rw [← HA.out]; omega), List.take_of_length_le (by rw [← HB.out]; omega)] at h
          exact h
        clear hin hi
        go_wp2
        go_ret
        exact ⟨ret_bool (by simp [HE.out]), HY.out⟩
  · have HE : Hid (a ≠ b) := fun e => hn (by rw [HA.out, HB.out, e])
    have hn2 : ¬ ((na : Int) = (nb : Int)) := by omega
    go_wp2
    go_ret
    exact ⟨ret_bool (by simp [HE.out]), Below.refl _ _⟩
end Go.Proofs.YtbgofajldkblmaaGreat
