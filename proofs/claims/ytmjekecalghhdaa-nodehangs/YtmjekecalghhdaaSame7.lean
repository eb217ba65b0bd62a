/- The law's same: two lists of texts. Own lemmas, no statement. -/
import Derived.Test.YtmjekecalghhdaaPIn
import Derived.Deep.QuietTactic
import Derived.BigQuiet
set_option linter.unusedSimpArgs false
set_option linter.unusedVariables false
namespace Go.Proofs.Ytmjekecalghhdaa
open Go.ChangeShapes Go.WideShapes Go.ChangeAt Go.RowKit
theorem same7_any (u v : Value) (a b : List ByteArray) (w : World) (hu : Rd w u (sv a)) (hv : Rd w v (sv b)) :
    Calls Try.prog 37 #[u, v] w fun e w' => e = .returned (.bool (decide (a = b))) ∧ Below w.heap.size w w' := by
  obtain ⟨na, aa, ca, rfl⟩ := hu.any
  obtain ⟨nb, ab, cb, rfl⟩ := hv.any
  have HU : Hid (Rd w (.slice aa na ca) (sv a)) := hu
  have HV : Hid (Rd w (.slice ab nb cb) (sv b)) := hv
  have ha : na = a.length := by have := hu.at.1; rw [sv_length] at this; exact this
  have hb : nb = b.length := by have := hv.at.1; rw [sv_length] at this; exact this
  have hm1 : na ≤ 9223372036854775807 := by have h0 := hu.at.1; have h1 := hu.at.2.1; have h2 := hu.at.2.2.1; unfold maxLen at h2; omega
  have HA : Hid (na = a.length) := ha
  have HB : Hid (nb = b.length) := hb
  clear ha hb hu hv
  go_enter Try.func37, Try.ntmps37
  by_cases hn : na = nb
  · subst hn
    go_wp2
    go_loopw [13] (fun vi wr => ∃ i : Nat, vi = .int .i64 (i : Int) ∧ i ≤ na ∧ a.take i = b.take i ∧ Below w.heap.size w wr) (fun vi _ => na - (intOf vi).toNat)
    case atStart => exact ⟨0, rfl, Nat.zero_le _, by simp, Below.refl _ _⟩
    case round =>
      obtain ⟨i, rfl, hi, ht, y⟩ := hrel
      have HT : Hid (a.take i = b.take i) := ht
      have HY : Hid (Below w.heap.size w wr) := y
      clear ht y
      by_cases hlt : i < na
      · have hia : i < a.length := by rw [← HA.out]; exact hlt
        have hib : i < b.length := by rw [← HB.out]; exact hlt
        obtain ⟨ad, e1⟩ := HU.out.at.2.2.2.ad (by rw [sv_length]; omega)
        obtain ⟨bd, e2⟩ := HV.out.at.2.2.2.ad (by rw [sv_length]; omega)
        subst e1 e2
        have y1 : wr.cell? (ad.add i) = some (.string a[i]) := (HU.out.below HY.out).at.2.2.2.str rfl hia
        have y2 : wr.cell? (bd.add i) = some (.string b[i]) := (HV.out.below HY.out).at.2.2.2.str rfl hib
        have HS : Hid (a.take (i + 1) = a.take i ++ [a[i]] ∧ b.take (i + 1) = b.take i ++ [b[i]]) := ⟨List.take_succ_eq_append_getElem hia, List.take_succ_eq_append_getElem hib⟩
        have HE : Hid (a[i] ≠ b[i] → a ≠ b) := fun hne e => hne (by subst e; rfl)
        have hi2 : (i : Int) < (na : Int) := by omega
        generalize a[i] = x at *
        generalize b[i] = z at *
        by_cases hxz : x = z
        · have hq : (x.toList == z.toList) = true := by rw [beq_str]; simp [hxz]
          have HXZ : Hid (x = z) := hxz
          clear hxz
          go_wp2
          go_quiet (fail)
          go_wp2
          go_roundw
          case rel => exact ⟨i + 1, by go_num, hlt, by rw [HS.out.1, HS.out.2, HT.out, HXZ.out], ⟨HY.out.os, HY.out.tape, HY.out.output, HY.out.size, HY.out.block⟩⟩
          case measure => simp [intOf]; omega
        · have hq : (x.toList == z.toList) = false := by rw [beq_str]; simp [hxz]
          have HXZ : Hid (x ≠ z) := hxz
          clear hxz
          go_wp2
          go_quiet (fail)
          go_wp2
          go_ret
          exact ⟨ret_bool (by simp [HE.out HXZ.out]), ⟨HY.out.os, HY.out.tape, HY.out.output, HY.out.size, HY.out.block⟩⟩
      · have hin : i = na := by omega
        have HE : Hid (a = b) := by
          have h := HT.out
          rw [List.take_of_length_le (by rw [← HA.out]; omega), List.take_of_length_le (by rw [← HB.out]; omega)] at h
          exact h
        clear hin hi
        go_wp2
        go_ret
        exact ⟨ret_bool (by simp [HE.out]), HY.out⟩
  · have HE : Hid (a ≠ b) := fun e => hn (by rw [HA.out, HB.out, e])
    have hn2 : ¬ ((na : Int) = (nb : Int)) := by omega
    go_wp2
    go_ret
    exact ⟨ret_bool (by simp [HE.out]), Below.refl _ _⟩
theorem same7_true (u v : Value) (a b : List ByteArray) (w : World) (hu : Rd w u (sv a)) (hv : Rd w v (sv b)) (h : a = b) :
    Calls Try.prog 37 #[u, v] w fun e w' => e = .returned (.bool true) ∧ Below w.heap.size w w' := by
  have := same7_any u v a b w hu hv
  rw [decide_eq_true h] at this
  exact this
theorem Rd.dropS {W : World} {ad : Addr} {n c k : Nat} {us : List Value} (h : Rd W (.slice (some ad) n c) us) (hk : k + 1 ≤ n) : Rd W (.slice (if c = k + 1 then some ad else some ⟨ad.block, ad.off + (k + 1), none⟩) (n - (k + 1)) (c - (k + 1))) (us.drop (k + 1)) := by
  have := Rd.drop h hk
  by_cases hc : c = k + 1
  · rw [if_pos hc] at this ⊢; exact this
  · rw [if_neg hc] at this ⊢
    simpa [Addr.add] using this
theorem Rd.dropZ {W : World} {ad : Addr} {n c k : Nat} {us : List Value} (h : Rd W (.slice (some ad) n c) us) (hk : k ≤ n) : Rd W (.slice (if c = k then some ad else some (ad.add k)) (n - k) (c - k)) (us.drop k) := by
  have := Rd.drop h hk
  by_cases hc : c = k
  · rw [if_pos hc] at this ⊢; exact this
  · rw [if_neg hc] at this ⊢
    exact this
theorem slice_to (uk : Option Addr) (km kc i : Nat) (h1 : i ≤ km) (h2 : km ≤ kc) (hn : uk = none → kc = 0) (W : World) : (Instr.slice 22 (.slice uk km kc) none (some (.int .i64 (i : Int))) none).run Try.prog W = .ok (.slice uk i kc) W := by
  cases uk with
  | none =>
    have := hn rfl
    subst this
    have : km = 0 := by omega
    subst this
    have : i = 0 := by omega
    subst this
    go_simp
  | some ad =>
    have a1 : (i : Int) ≤ (kc : Int) := by omega
    go_simp


theorem slice_from (uk : Option Addr) (km kc i : Nat) (h1 : i ≤ km) (h2 : km ≤ kc) (hn : uk = none → kc = 0) (W : World) : (Instr.slice 22 (.slice uk km kc) (some (.int .i64 (i : Int))) none none).run Try.prog W = .ok (.slice (if kc = i then uk else uk.map (·.add i)) (km - i) (kc - i)) W := by
  cases uk with
  | none =>
    have := hn rfl
    subst this
    have : km = 0 := by omega
    subst this
    have : i = 0 := by omega
    subst this
    go_simp
  | some ad =>
    have a1 : (i : Int) ≤ (kc : Int) := by omega
    go_simp


theorem Rd.dropA {W : World} {ao : Option Addr} {n c k : Nat} {us : List Value} (h : Rd W (.slice ao n c) us) (hk : k ≤ n) (hn : ao = none → c = 0) : Rd W (.slice (if c = k then ao else ao.map (·.add k)) (n - k) (c - k)) (us.drop k) := by
  cases ao with
  | none =>
    have e := hn rfl
    have h1 := h.at.2.1
    have h0 := h.at.1
    have hn0 : n = 0 := by omega
    have hk0 : k = 0 := by omega
    subst e hn0 hk0
    have := Rd.dropN (k := 0) h
    simpa using this
  | some ad =>
    have := Rd.dropZ h hk
    simpa using this
theorem cell_key {W : World} {p : Pg} {a : Addr} {n c : Nat} {vv dv : Value} {j : Nat} {s : ByteArray} (h : PgAt W p (.slice (some a) n c) vv dv) (hj : p.keys[j]? = some s) : W.cell? (a.add j) = some (.string s) := by
  obtain ⟨hl, rfl⟩ := List.getElem?_eq_some_iff.1 hj
  exact h.keys.at.2.2.2.str rfl hl
theorem cell_kid {W : World} {p : Pg} {a : Addr} {n c : Nat} {kv vv : Value} {j : Nat} {d : Int} (h : PgAt W p kv vv (.slice (some a) n c)) (hj : p.kids[j]? = some d) : W.cell? (a.add j) = some (.int .i64 d) := by
  exact h.kids.at.2.2.2.2 a rfl j _ (by simp [iv, hj])
end Go.Proofs.Ytmjekecalghhdaa
