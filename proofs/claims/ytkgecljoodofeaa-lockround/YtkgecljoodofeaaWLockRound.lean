/- LockRound: the walk of the law's Go text. -/
import Derived.Test.YtkgecljoodofeaaLkLS
import Derived.Test.YtkgecljoodofeaaLkQ
set_option linter.unusedSimpArgs false
set_option linter.unusedVariables false
namespace Go.Proofs.Ytkgecljoodofeaa
open Go.ChangeShapes Go.WideShapes Go.ChangeAt Go.RowKit

set_option maxRecDepth 100000 in
set_option maxHeartbeats 8000000 in
theorem walk_LockRound (a : Option Addr) (len cap : Nat) (os : List OpL) (w : World) (_w0 : IsOpsL w a len os) :
    Calls Try.prog 4 #[.slice a len cap] w fun e w' => e = .returned (.bool true) ∧ Below w.heap.size w w' := by
  have HOP : Hid (IsOpsL w a len os) := _w0
  have hlm : (len : Int) ≤ 9223372036854775807 := by have := _w0.2.1; unfold maxLen at this; omega
  clear _w0
  go_enter Try.func4, Try.ntmps4
  go_wp2_with fail
  refine (head12_any _).mono ?_
  rintro e w1 ⟨rfl, h1⟩
  have HE1 : Hid (Ext w w1) := h1
  clear h1
  go_wp2_with fail
  refine (newT_any w1).mono ?_
  rintro e w2 ⟨g, T0, rfl, hT, hx⟩
  have HL2 : Hid (LS w w2 w1.heap.size g 0 say0 T0 []) := LS.new HE1.out hT hx
  clear hT hx
  obtain ⟨w3, hw3⟩ : ∃ w3, w3 = w2.alloc (.cells #[] 9) := ⟨_, rfl⟩
  have HL3 : Hid (LS w w3 w1.heap.size g 0 say0 T0 []) := by rw [hw3]; exact HL2.out.below (ext_one _)
  have HK3 : Hid (OwnK w3 w2.heap.size (.slice (some ⟨w2.heap.size, 0, none⟩) 0 0) []) := by rw [hw3]; exact OwnK.madeK w2
  have HZ2 : Hid (w.heap.size ≤ w2.heap.size) := HL2.out.ext.size
  have HZ3 : Hid (w2.heap.size ≤ w3.heap.size) := by rw [hw3]; exact (ext_one (w := w2) _).size
  go_upto_region 6 with fail
  rw [← hw3]
  clear hw3
  go_loopw [4, 5] (fun kv vi wr => ∃ (i : Nat) (ks : List ByteArray) (S : Say) (T : Tab), vi = .int .i64 (i : Int) ∧ i ≤ 40 ∧ (∃ a n c, kv = .slice a n c) ∧ OwnK wr w2.heap.size kv ks ∧ ks.length ≤ i ∧ (∀ q ∈ ks, q.size ≤ 40) ∧ LS w wr w1.heap.size g (41 * i) S T ks ∧ w2.heap.size ≤ wr.heap.size) (fun _ vi _ => 40 - (intOf vi).toNat)
  case atStart => exact ⟨0, [], say0, T0, rfl, Nat.zero_le _, ⟨_, _, _, rfl⟩, HK3.out, Nat.le_refl _, (fun q h => by cases h), HL3.out, HZ3.out⟩
  case round =>
    obtain ⟨i, ks, S, T, rfl, hi, ⟨ka, kn, kc, rfl⟩, ho, hkl, hk4, hL, hz⟩ := hrel
    have HZ : Hid (w2.heap.size ≤ wr.heap.size) := hz
    have HO : Hid (OwnK wr w2.heap.size (.slice ka kn kc) ks) := ho
    have HL : Hid (LS w wr w1.heap.size g (41 * i) S T ks) := hL
    have HK4 : Hid (ks.length ≤ i ∧ ∀ q ∈ ks, q.size ≤ 40) := ⟨hkl, hk4⟩
    clear ho hkl hk4 hL hz
    by_cases hin : i < len ∧ i < 40
    · obtain ⟨hin1, hin2⟩ := hin
      have d1 : decide ((i : Int) < (len : Int)) = true := by simp; omega
      have d2 : decide ((i : Int) < 40) = true := by simp; omega
      have hio : i < os.length := by rw [HOP.out.1]; exact hin1
      obtain ⟨ad, had⟩ : ∃ ad, a = some ad := by
        cases a with
        | none => have := HOP.out.2.2.1 rfl; omega
        | some ad => exact ⟨ad, rfl⟩
      obtain ⟨q, hq⟩ : ∃ q, q = os[i] := ⟨_, rfl⟩
      have HQ : Hid (OpLAt w ad i q) := by rw [hq]; exact HOP.out.2.2.2 ad had i hio
      have HQW : Hid (q.t.wf ∧ q.key.size ≤ maxLen) := HQ.out.wf
      have HQR : Hid (OpLAt wr ad i q) := HQ.out.below HL.out.ext
      have k0 := HQR.out.c0
      have k1 := cell_on (by decide) HQR.out.c1
      have k2 := cell_on (by decide) HQR.out.c2
      have k3 := cell_on (by decide) HQR.out.c3
      have k4 := cell_on (by decide) HQR.out.c4
      obtain ⟨w4, hw4⟩ : ∃ w4, w4 = wr.alloc (.cells #[.int .i64 q.k, .int .u64 q.num, .int .i64 q.node, .string q.key, .int .i64 q.mode] 31) := ⟨_, rfl⟩
      have HE4 : Hid (Ext wr w4) := by rw [hw4]; exact ext_one _
      have HB4 : Hid (Blk w4 wr.heap.size #[.int .i64 q.k, .int .u64 q.num, .int .i64 q.node, .string q.key, .int .i64 q.mode] 31) := by rw [hw4]; exact Blk.new _ _ _
      have HL4 : Hid (LS w w4 w1.heap.size g (41 * i) S T ks) := HL.out.below HE4.out
      have HO4 : Hid (OwnK w4 w2.heap.size (.slice ka kn kc) ks) := HO.out.below HE4.out
      have hii : (i : Int) + 1 ≤ 20000 := by omega
      have hkm : (q.key.size : Int) ≤ 9223372036854775807 := by have := HQW.out.2; unfold maxLen at this; omega
      subst had
      clear hq
      go_upto_region 9 with fail
      rw [← hw4]
      clear hw4 k0 k1 k2 k3 k4 HQR HQ
      have c0 : w4.cell? ⟨wr.heap.size, 0, none⟩ = some (.int .i64 q.k) := HB4.out.cell 0
      have c1 : w4.cell? ⟨wr.heap.size, 1, none⟩ = some (.int .u64 q.num) := HB4.out.cell 1
      have c2 : w4.cell? ⟨wr.heap.size, 2, none⟩ = some (.int .i64 q.node) := HB4.out.cell 2
      have c3 : w4.cell? ⟨wr.heap.size, 3, none⟩ = some (.string q.key) := HB4.out.cell 3
      have c4 : w4.cell? ⟨wr.heap.size, 4, none⟩ = some (.int .i64 q.mode) := HB4.out.cell 4
      by_cases h40 : 40 < q.key.size
      · have d3 : decide ((40 : Int) < (q.key.size : Int)) = true := by simp; omega
        go_wp2
        go_roundw
        case rel => exact ⟨i + 1, ks, S, T, by go_num, by omega, ⟨_, _, _, rfl⟩, HO4.out, by have := HK4.out.1; omega, HK4.out.2, HL4.out.mono (by omega), Nat.le_trans HZ.out HE4.out.size⟩
        case measure => simp [intOf]; omega
      · have d3 : decide ((40 : Int) < (q.key.size : Int)) = false := by simp; omega
        by_cases hk1 : q.k = 1
        · rw [hk1] at c0
          clear hk1
          go_wp2_with fail
          refine (freeT_any (c := 41) w4 HL4.out.tt q.t HQW.out.1 (by omega) HL4.out.bsize ks (fun x hx => HL4.out.inl.at_ hx) (by have := HK4.out.1; omega)).mono ?_
          rintro e w5 ⟨v, fs, T5, rfl, _, _, _, hT, hs⟩
          have HZ5 : Hid (w2.heap.size ≤ w5.heap.size) := Nat.le_trans HZ.out (Nat.le_trans HE4.out.size hs.chg.size)
          have HL5 : Hid (LS w w5 w1.heap.size g (41 * i + 41) (S.free q.t) T5 ks) := HL4.out.freed hs hT
          have HO5 : Hid (OwnK w5 w2.heap.size (.slice ka kn kc) ks) := HL4.out.keepK hs HO4.out
          clear hT hs c0 c1 c2 c3 c4
          go_wp2
          go_roundw
          case rel => exact ⟨i + 1, ks, S.free q.t, T5, by go_num, by omega, ⟨_, _, _, rfl⟩, HO5.out, by have := HK4.out.1; omega, HK4.out.2, HL5.out.mono (by omega), HZ5.out⟩
          case measure => simp [intOf]; omega
        · have hk1b : (q.k == 1) = false := beq_eq_false_iff_ne.2 hk1
          go_wp2_with fail
          refine (askT_any HL4.out.tt q.t q.mode q.key HQW.out.1 HQW.out.2 (by omega)).mono ?_
          rintro e w5 ⟨rfl, T5, hT, hs⟩
          have HZ5 : Hid (w2.heap.size ≤ w5.heap.size) := Nat.le_trans HZ.out (Nat.le_trans HE4.out.size hs.chg.size)
          have HL5 : Hid (LS w w5 w1.heap.size g (41 * i + 1) (S.askM q.t q.mode q.key) T5 (ks ++ [q.key])) := HL4.out.askd hs hT (by simp) (fun x hx => by simp [hx])
          have HO5 : Hid (OwnK w5 w2.heap.size (.slice ka kn kc) ks) := HL4.out.keepK hs HO4.out
          have HB5 : Hid (Blk w5 wr.heap.size #[.int .i64 q.k, .int .u64 q.num, .int .i64 q.node, .string q.key, .int .i64 q.mode] 31) := HL4.out.keepB hs HB4.out (by decide) (by decide)
          clear hT hs c0 c1 c2 c3 c4 hk1 hk1b
          have c3 : w5.cell? ⟨wr.heap.size, 3, none⟩ = some (.string q.key) := HB5.out.cell 3
          have HOA : Hid (OwnK (w5.alloc (.cells #[.string q.key] 9)) w2.heap.size (.slice ka kn kc) ks) := HO5.out.below (ext_one _)
          have HBA : Hid (Blk (w5.alloc (.cells #[.string q.key] 9)) w5.heap.size #[.string q.key] 9) := Blk.new _ _ _
          have HZA : Hid (w2.heap.size ≤ (w5.alloc (.cells #[.string q.key] 9)).heap.size) := Nat.le_trans HZ5.out (ext_one (w := w5) _).size
          go_wp2_with (at_builtin; refine wpList_pushK _ rfl _ _ rfl w2.heap.size _ ks q.key w5.heap.size HOA.out rfl HBA.out rfl (by have := HK4.out.1; omega) HZA.out ?_)
          intro v6 w6 ho6 hg6 _
          have HO6 : Hid (OwnK w6 w2.heap.size v6 (ks ++ [q.key])) := ho6
          have HL6 : Hid (LS w w6 w1.heap.size g (41 * i + 1) (S.askM q.t q.mode q.key) T5 (ks ++ [q.key])) := HL5.out.pushK (ext_one _) HOA.out HZ2.out hg6
          have HZ6 : Hid (w2.heap.size ≤ w6.heap.size) := Nat.le_trans HZA.out hg6.size
          obtain ⟨a6, n6, c6, e6⟩ : ∃ a n c, v6 = .slice a n c := by obtain ⟨a, c, e, _⟩ := ho6.form; exact ⟨a, _, c, e⟩
          subst e6
          clear ho6 hg6 c3
          go_wp2
          go_roundw
          case rel =>
            refine ⟨i + 1, ks ++ [q.key], _, T5, by go_num, by omega, ⟨_, _, _, rfl⟩, HO6.out, by have := HK4.out.1; simp; omega, fun x hx => ?_, HL6.out.mono (by omega), HZ6.out⟩
            rcases List.mem_append.1 hx with h | h
            · exact HK4.out.2 x h
            · rw [List.mem_singleton.1 h]; omega
          case measure => simp [intOf]; omega
    · generalize wr = V at HO HL HZ ⊢
      obtain ⟨kao, kc2, ek, _, _, _, _⟩ := HO.out.form
      have hkn : kn = ks.length := by injection ek
      have HKN : Hid (ks.length = kn) := hkn.symm
      have hk9 : kn ≤ 40 := by have := HK4.out.1; omega
      clear ek hkn
      by_cases hin1 : i < len
      · have d1 : decide ((i : Int) < (len : Int)) = true := by simp; omega
        have d2 : decide ((i : Int) < 40) = false := by simp; omega
        go_wp2_with fail
        go_loopw [53] (fun vj wx => ∃ j : Nat, vj = .int .i64 (j : Int) ∧ j ≤ kn ∧ Ext V wx) (fun vj _ => kn - (intOf vj).toNat)
        case atStart => exact ⟨0, rfl, Nat.zero_le _, Ext.refl _⟩
        case round =>
          obtain ⟨j, rfl, hj, hE⟩ := hrel
          have HE : Hid (Ext V wr) := hE
          clear hE
          by_cases hlj : j < kn
          · have hjl : j < ks.length := by rw [HKN.out]; exact hlj
            obtain ⟨kg, hkg⟩ : ∃ kg, ka = some ⟨kg, 0, none⟩ := by
              obtain ⟨ao, c, e, _, _, h3, h4⟩ := HO.out.form
              injection e with e1
              cases ao with
              | none => have := h3 rfl; omega
              | some y => exact ⟨y.block, by rw [e1, ← (h4 y rfl).1]⟩
            subst hkg
            obtain ⟨k, hk⟩ : ∃ k, k = ks[j] := ⟨_, rfl⟩
            have k0 : wr.cell? ⟨kg, j, none⟩ = some (.string k) := by rw [hk]; exact (HO.out.below HE.out).at_ hjl
            have HKZ : Hid (k.size ≤ maxLen) := by have := HK4.out.2 k (by rw [hk]; exact List.getElem_mem _); show _ ≤ _; unfold maxLen; omega
            have HLW : Hid (LS w wr w1.heap.size g (41 * i) S T ks) := HL.out.below HE.out
            have HN1 : Hid (41 * i ≤ 9000) := by show _ ≤ _; omega
            have hjj : (j : Int) + 1 ≤ 20000 := by omega
            clear hk
            go_wp2_with fail
            refine (hasT_any wr HLW.out.tt k HKZ.out HN1.out).mono ?_
            rintro e w5 ⟨v5, rfl, o5, h5⟩
            have HO5 : Hid (OwnW w5 wr.heap.size v5 (S.has k)) := o5
            have HE5 : Hid (Ext wr w5) := h5
            have HL5 : Hid (LS w w5 w1.heap.size g (41 * i) S T ks) := HLW.out.below h5
            clear o5 h5 k0
            go_wp2_with fail
            refine (waitingT_any w5 HL5.out.tt k HKZ.out HN1.out).mono ?_
            rintro e w6 ⟨v6, rfl, o6, h6⟩
            have HO6 : Hid (OwnW w6 w5.heap.size v6 (S.waits k)) := o6
            have HE6 : Hid (Ext w5 w6) := h6
            have HL6 : Hid (LS w w6 w1.heap.size g (41 * i) S T ks) := HL5.out.below h6
            clear o6 h6
            have HLN : Hid ((S.has k).length ≤ 10000 ∧ (S.waits k).length ≤ 10000) := by
              have h1 := HL6.out.tt.inv.len k
              have h2 := HL6.out.tt.n
              have h3 := HN1.out
              rw [HL6.out.tt.has, HL6.out.tt.waits]
              exact ⟨by omega, by omega⟩
            have HRT : Hid (Calls _ _ _ _ _) := right12_ok v5 v6 (S.has k) (S.waits k) w6 ((HO5.out.below HE6.out).row) HO6.out.row (HL6.out.good k).right HLN.out.1 HLN.out.2
            obtain ⟨a5, n5, c5, e5⟩ : ∃ a n c, v5 = .slice a n c := by obtain ⟨a, c, e, _⟩ := HO5.out.row; exact ⟨a, _, c, e⟩
            obtain ⟨a6, n6, c6, e6⟩ : ∃ a n c, v6 = .slice a n c := by obtain ⟨a, c, e, _⟩ := HO6.out.row; exact ⟨a, _, c, e⟩
            subst e5 e6
            go_wp2_with fail
            refine HRT.out.mono ?_
            rintro e w7 ⟨rfl, h7⟩
            have HE7 : Hid (Ext V w7) := Ext.trans HE.out (Ext.trans HE5.out (Ext.trans HE6.out h7))
            clear h7 HRT HLN HL6 HL5 HLW HO5 HO6
            go_wp2
            go_roundw
            case rel => exact ⟨j + 1, by go_num, hlj, HE7.out⟩
            case measure => simp [intOf]; omega
          · have HEE : Hid (Ext w wr) := Ext.trans HL.out.ext HE.out
            go_wp2
            go_ret
            exact ⟨rfl, HEE.out⟩
      · have d1 : decide ((i : Int) < (len : Int)) = false := by simp; omega
        go_wp2_with fail
        go_loopw [53] (fun vj wx => ∃ j : Nat, vj = .int .i64 (j : Int) ∧ j ≤ kn ∧ Ext V wx) (fun vj _ => kn - (intOf vj).toNat)
        case atStart => exact ⟨0, rfl, Nat.zero_le _, Ext.refl _⟩
        case round =>
          obtain ⟨j, rfl, hj, hE⟩ := hrel
          have HE : Hid (Ext V wr) := hE
          clear hE
          by_cases hlj : j < kn
          · have hjl : j < ks.length := by rw [HKN.out]; exact hlj
            obtain ⟨kg, hkg⟩ : ∃ kg, ka = some ⟨kg, 0, none⟩ := by
              obtain ⟨ao, c, e, _, _, h3, h4⟩ := HO.out.form
              injection e with e1
              cases ao with
              | none => have := h3 rfl; omega
              | some y => exact ⟨y.block, by rw [e1, ← (h4 y rfl).1]⟩
            subst hkg
            obtain ⟨k, hk⟩ : ∃ k, k = ks[j] := ⟨_, rfl⟩
            have k0 : wr.cell? ⟨kg, j, none⟩ = some (.string k) := by rw [hk]; exact (HO.out.below HE.out).at_ hjl
            have HKZ : Hid (k.size ≤ maxLen) := by have := HK4.out.2 k (by rw [hk]; exact List.getElem_mem _); show _ ≤ _; unfold maxLen; omega
            have HLW : Hid (LS w wr w1.heap.size g (41 * i) S T ks) := HL.out.below HE.out
            have HN1 : Hid (41 * i ≤ 9000) := by show _ ≤ _; omega
            have hjj : (j : Int) + 1 ≤ 20000 := by omega
            clear hk
            go_wp2_with fail
            refine (hasT_any wr HLW.out.tt k HKZ.out HN1.out).mono ?_
            rintro e w5 ⟨v5, rfl, o5, h5⟩
            have HO5 : Hid (OwnW w5 wr.heap.size v5 (S.has k)) := o5
            have HE5 : Hid (Ext wr w5) := h5
            have HL5 : Hid (LS w w5 w1.heap.size g (41 * i) S T ks) := HLW.out.below h5
            clear o5 h5 k0
            go_wp2_with fail
            refine (waitingT_any w5 HL5.out.tt k HKZ.out HN1.out).mono ?_
            rintro e w6 ⟨v6, rfl, o6, h6⟩
            have HO6 : Hid (OwnW w6 w5.heap.size v6 (S.waits k)) := o6
            have HE6 : Hid (Ext w5 w6) := h6
            have HL6 : Hid (LS w w6 w1.heap.size g (41 * i) S T ks) := HL5.out.below h6
            clear o6 h6
            have HLN : Hid ((S.has k).length ≤ 10000 ∧ (S.waits k).length ≤ 10000) := by
              have h1 := HL6.out.tt.inv.len k
              have h2 := HL6.out.tt.n
              have h3 := HN1.out
              rw [HL6.out.tt.has, HL6.out.tt.waits]
              exact ⟨by omega, by omega⟩
            have HRT : Hid (Calls _ _ _ _ _) := right12_ok v5 v6 (S.has k) (S.waits k) w6 ((HO5.out.below HE6.out).row) HO6.out.row (HL6.out.good k).right HLN.out.1 HLN.out.2
            obtain ⟨a5, n5, c5, e5⟩ : ∃ a n c, v5 = .slice a n c := by obtain ⟨a, c, e, _⟩ := HO5.out.row; exact ⟨a, _, c, e⟩
            obtain ⟨a6, n6, c6, e6⟩ : ∃ a n c, v6 = .slice a n c := by obtain ⟨a, c, e, _⟩ := HO6.out.row; exact ⟨a, _, c, e⟩
            subst e5 e6
            go_wp2_with fail
            refine HRT.out.mono ?_
            rintro e w7 ⟨rfl, h7⟩
            have HE7 : Hid (Ext V w7) := Ext.trans HE.out (Ext.trans HE5.out (Ext.trans HE6.out h7))
            clear h7 HRT HLN HL6 HL5 HLW HO5 HO6
            go_wp2
            go_roundw
            case rel => exact ⟨j + 1, by go_num, hlj, HE7.out⟩
            case measure => simp [intOf]; omega
          · have HEE : Hid (Ext w wr) := Ext.trans HL.out.ext HE.out
            go_wp2
            go_ret
            exact ⟨rfl, HEE.out⟩
end Go.Proofs.Ytkgecljoodofeaa
