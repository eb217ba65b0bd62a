/- rec: the law's own flag, texts, list. Own lemmas, no statement. -/
import Derived.Test.YthkmohcdgnldgaaGreatRec12
import Derived.Test.YthkmohcdgnldgaaGreatLawB
set_option linter.unusedSimpArgs false
set_option linter.unusedVariables false
namespace Go.Proofs.YthkmohcdgnldgaaGreat
open Go.ChangeShapes Go.WideShapes Go.ChangeAt Go.RowKit

theorem tidP (v : Value) (l : List UInt8) (x y : Int) (w : World) (hv : Src w v l) (h0 : 0 ≤ x) (h1 : x < 18446744073709551616) (hl : l.length < 800000000) : Calls Tryz.prog 16 #[v, .agg #[.int .u64 x, .int .i64 y]] w (BytesP w (l ++ tidB x y)) := by
  obtain ⟨ao, c, rfl⟩ := hv.form
  have := tid_any ao l.length c l x.toNat y w hv (by omega) (by omega)
  rw [Int.toNat_of_nonneg h0] at this
  refine this.mono ?_
  rintro e w1 ⟨g, cap, rfl, ho, hb⟩
  refine ⟨_, rfl, ?_, hb⟩
  have h2 := ho.src
  unfold tidB
  simpa [join, List.append_assoc] using h2
theorem putP (v : Value) (l : List UInt8) (n : Int) (w : World) (hv : Src w v l) (h0 : 0 ≤ n) (h1 : n < 18446744073709551616) (hl : l.length < 800000000) : Calls Tryz.prog 28 #[v, .int .u64 n] w (BytesP w (l ++ intB n)) := by
  have := num_put v l n.toNat w hv (by omega) (by omega)
  rw [Int.toNat_of_nonneg h0] at this
  exact this
theorem txtP (v : Value) (l : List UInt8) (s : ByteArray) (w : World) (hv : Src w v l) (hl : l.length + s.size < 800000000) : Calls Tryz.prog 27 #[v, .string s] w (BytesP w (l ++ textB s)) := txt_any v l s w hv (by omega)
theorem flag11_any (b : Bool) (w : World) : Calls Tryz.prog 29 #[.bool b] w fun e w' => e = .returned (.int .u64 (flagN b : Int)) ∧ w' = w := by
  go_enter Tryz.func29, Tryz.ntmps29
  cases b with
  | true => go_wp2; go_ret; exact ⟨rfl, rfl⟩
  | false => go_wp2; go_ret; exact ⟨rfl, rfl⟩
theorem textB_len (s : ByteArray) : (textB s).length = (enc s.size).length + s.size := by unfold textB; rw [List.length_append]; rfl
theorem wrap_small {n : Int} (h0 : 0 ≤ n) (h1 : n < 9223372036854775808) : IntKind.u64.wrap n = n := by rw [IntKind.wrap_u64]; omega

set_option maxRecDepth 100000 in
set_option maxHeartbeats 4000000 in
theorem texts11_any (v u : Value) (l : List UInt8) (ss : List ByteArray) (w : World) (hv : Src w v l) (hu : Rd w u (sv ss)) (hl : l.length + (allB8 textB ss).length < 100000000) (hn : ss.length ≤ 100000) :
    Calls Tryz.prog 31 #[v, u] w (BytesP w (l ++ allB8 textB ss)) := by
  obtain ⟨ao, c, rfl⟩ := hv.form
  obtain ⟨un, uo, uc, rfl⟩ := hu.any2
  have hun : un = ss.length := by have := hu.at.1; rw [sv_length] at this; exact this
  have HN : Hid (un = ss.length) := hun
  have hub : un ≤ 100000 := by omega
  have HU : Hid (Rd w (.slice uo un uc) (sv ss)) := hu
  have HS : Hid (Src w (.slice ao l.length c) l) := hv
  have HL : Hid (l.length + (allB8 textB ss).length < 100000000) := hl

  clear hv hu hl hn hun
  obtain ⟨ln, hln⟩ : ∃ x, x = l.length := ⟨_, rfl⟩
  have HLN : Hid (ln = l.length) := hln
  rw [← hln] at HS ⊢
  clear hln
  go_enter Tryz.func31, Tryz.ntmps31
  go_wp2_with fail
  refine (num_put _ l un w HS.out (by omega) (by have := HL.out; have := HS.out.at; omega)).mono ?_
  rintro e w1 ⟨v1, rfl, hs, y⟩
  have HS1 : Hid (Src w1 v1 (l ++ partB textB ss 0)) := by show Src _ _ _; unfold partB; rw [List.take_zero, List.map_nil, List.flatten_nil, List.append_nil, ← HN.out]; exact hs
  have HY1 : Hid (Below w.heap.size w w1) := y
  clear hs y HS
  go_wp2
  go_loopw [0, 14] (fun v i wr => ∃ k : Nat, i = .int .i64 (k : Int) ∧ k ≤ un ∧ Src wr v (l ++ partB textB ss k) ∧ Below w.heap.size w wr) (fun _ i _ => un - (intOf i).toNat)
  case atStart => exact ⟨0, rfl, Nat.zero_le _, HS1.out, HY1.out⟩
  case round =>
    obtain ⟨k, rfl, hk, hs, y⟩ := hrel
    clear HS1 HY1
    have HSK : Hid (Src wr _ (l ++ partB textB ss k)) := hs
    have HYK : Hid (Below w.heap.size w wr) := y
    clear hs y
    obtain ⟨vo, vc, hvk⟩ := HSK.out.form
    subst hvk
    by_cases hlt : k < un
    · have hkl : k < ss.length := by rw [← HN.out]; exact hlt
      have hi2 : (k : Int) < (un : Int) := by omega
      obtain ⟨ad, had⟩ := HU.out.at.2.2.2.ad (by rw [sv_length]; omega)
      subst had
      have y1 := (HU.out.below HYK.out).at.2.2.2.str rfl hkl
      have HST : Hid (partB textB ss (k + 1) = partB textB ss k ++ textB ss[k]) := all_take textB hkl
      have HLE : Hid ((l ++ partB textB ss k).length + (textB ss[k]).length < 100000000) := by
        have h1 := all_le textB ss (k + 1)
        rw [HST.out, List.length_append] at h1
        have h2 := HL.out
        have h3 : l.length = ln := HLN.out.symm
        show _ < _
        rw [List.length_append]
        omega

      generalize ss[k] = x at *
      obtain ⟨kn, hkn⟩ : ∃ x, x = (l ++ partB textB ss k).length := ⟨_, rfl⟩
      have HKN : Hid (kn = (l ++ partB textB ss k).length) := hkn
      rw [← hkn] at HSK HLE ⊢
      clear hkn

      go_wp2_with fail
      refine (txtP _ _ x wr HSK.out (by have h1 := HLE.out; unfold textB at h1; rw [List.length_append] at h1; have h2 : x.data.toList.length = x.size := rfl; have h3 := HKN.out; omega)).mono ?_
      rintro e w2 ⟨v2, rfl, hs, y⟩
      have HS2 : Hid (Src w2 v2 (l ++ partB textB ss (k + 1))) := by show Src _ _ _; rw [HST.out, ← List.append_assoc]; exact hs
      have HY2 : Hid (Below w.heap.size w w2) := ext_trans HYK.out y
      clear hs y HSK HYK y1
      go_wp2
      go_roundw
      case rel => exact ⟨k + 1, by go_num, hlt, HS2.out, HY2.out⟩
      case measure => simp [intOf]; omega
    · have hkn : k = ss.length := by rw [← HN.out]; omega
      have HE : Hid (partB textB ss k = allB8 textB ss) := by show _ = _; rw [hkn]; unfold partB allB8; rw [List.take_length]
      clear hkn hk
      go_wp2
      go_ret
      exact ⟨_, rfl, by rw [← HE.out]; exact HSK.out, HYK.out⟩

set_option maxRecDepth 100000 in
set_option maxHeartbeats 4000000 in
theorem list11_any (v u : Value) (l : List UInt8) (ss : List Int) (w : World) (hv : Src w v l) (hu : Rd w u (iv ss)) (hl : l.length + (allB8 intB ss).length < 100000000) (hn : ss.length ≤ 100000) (hsm : ∀ n ∈ ss, 0 ≤ n ∧ n < 64) :
    Calls Tryz.prog 32 #[v, u] w (BytesP w (l ++ allB8 intB ss)) := by
  obtain ⟨ao, c, rfl⟩ := hv.form
  obtain ⟨un, uo, uc, rfl⟩ := hu.any2
  have hun : un = ss.length := by have := hu.at.1; rw [iv_length] at this; exact this
  have HN : Hid (un = ss.length) := hun
  have hub : un ≤ 100000 := by omega
  have HU : Hid (Rd w (.slice uo un uc) (iv ss)) := hu
  have HS : Hid (Src w (.slice ao l.length c) l) := hv
  have HL : Hid (l.length + (allB8 intB ss).length < 100000000) := hl
  have HSM : Hid (∀ n ∈ ss, 0 ≤ n ∧ n < 64) := hsm
  clear hv hu hl hn hun hsm
  obtain ⟨ln, hln⟩ : ∃ x, x = l.length := ⟨_, rfl⟩
  have HLN : Hid (ln = l.length) := hln
  rw [← hln] at HS ⊢
  clear hln
  go_enter Tryz.func32, Tryz.ntmps32
  go_wp2_with fail
  refine (num_put _ l un w HS.out (by omega) (by have := HL.out; have := HS.out.at; omega)).mono ?_
  rintro e w1 ⟨v1, rfl, hs, y⟩
  have HS1 : Hid (Src w1 v1 (l ++ partB intB ss 0)) := by show Src _ _ _; unfold partB; rw [List.take_zero, List.map_nil, List.flatten_nil, List.append_nil, ← HN.out]; exact hs
  have HY1 : Hid (Below w.heap.size w w1) := y
  clear hs y HS
  go_wp2
  go_loopw [0, 14] (fun v i wr => ∃ k : Nat, i = .int .i64 (k : Int) ∧ k ≤ un ∧ Src wr v (l ++ partB intB ss k) ∧ Below w.heap.size w wr) (fun _ i _ => un - (intOf i).toNat)
  case atStart => exact ⟨0, rfl, Nat.zero_le _, HS1.out, HY1.out⟩
  case round =>
    obtain ⟨k, rfl, hk, hs, y⟩ := hrel
    clear HS1 HY1
    have HSK : Hid (Src wr _ (l ++ partB intB ss k)) := hs
    have HYK : Hid (Below w.heap.size w wr) := y
    clear hs y
    obtain ⟨vo, vc, hvk⟩ := HSK.out.form
    subst hvk
    by_cases hlt : k < un
    · have hkl : k < ss.length := by rw [← HN.out]; exact hlt
      have hi2 : (k : Int) < (un : Int) := by omega
      obtain ⟨ad, had⟩ := HU.out.at.2.2.2.ad (by rw [iv_length]; omega)
      subst had
      have y1 := (HU.out.below HYK.out).at.2.2.2.num rfl hkl
      have HST : Hid (partB intB ss (k + 1) = partB intB ss k ++ intB ss[k]) := all_take intB hkl
      have HLE : Hid ((l ++ partB intB ss k).length + (intB ss[k]).length < 100000000) := by
        have h1 := all_le intB ss (k + 1)
        rw [HST.out, List.length_append] at h1
        have h2 := HL.out
        have h3 : l.length = ln := HLN.out.symm
        show _ < _
        rw [List.length_append]
        omega
      have hsm := HSM.out ss[k] (List.getElem_mem hkl)
      generalize ss[k] = x at *
      obtain ⟨kn, hkn⟩ : ∃ x, x = (l ++ partB intB ss k).length := ⟨_, rfl⟩
      have HKN : Hid (kn = (l ++ partB intB ss k).length) := hkn
      rw [← hkn] at HSK HLE ⊢
      clear hkn
      have hwx := wrap_small hsm.1 (by omega)
      go_wp2_with fail
      refine (putP _ _ x wr HSK.out hsm.1 (by omega) (by have h1 := HLE.out; have h3 := HKN.out; omega)).mono ?_
      rintro e w2 ⟨v2, rfl, hs, y⟩
      have HS2 : Hid (Src w2 v2 (l ++ partB intB ss (k + 1))) := by show Src _ _ _; rw [HST.out, ← List.append_assoc]; exact hs
      have HY2 : Hid (Below w.heap.size w w2) := ext_trans HYK.out y
      clear hs y HSK HYK y1
      go_wp2
      go_roundw
      case rel => exact ⟨k + 1, by go_num, hlt, HS2.out, HY2.out⟩
      case measure => simp [intOf]; omega
    · have hkn : k = ss.length := by rw [← HN.out]; omega
      have HE : Hid (partB intB ss k = allB8 intB ss) := by show _ = _; rw [hkn]; unfold partB allB8; rw [List.take_length]
      clear hkn hk
      go_wp2
      go_ret
      exact ⟨_, rfl, by rw [← HE.out]; exact HSK.out, HYK.out⟩
end Go.Proofs.YthkmohcdgnldgaaGreat
