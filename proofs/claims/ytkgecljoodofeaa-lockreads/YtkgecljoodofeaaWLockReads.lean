/- LockReads: the walk of the law's Go text. -/
import Derived.Test.YtkgecljoodofeaaG2
import Derived.Test.YtkgecljoodofeaaOpen
import Derived.Test.YtkgecljoodofeaaLkQ
set_option linter.unusedSimpArgs false
set_option linter.unusedVariables false
namespace Go.Proofs.Ytkgecljoodofeaa
open Go.ChangeShapes Go.WideShapes Go.ChangeAt Go.RowKit

theorem td_split (t v : Td) : t = v ∨ (t ≠ v ∧ ((t.num = v.num ∧ t.node ≠ v.node) ∨ t.num ≠ v.num)) := by
  by_cases a1 : t.num = v.num
  · by_cases a2 : t.node = v.node
    · exact .inl (Td.ext' a1 a2)
    · exact .inr ⟨fun e => a2 (congrArg Td.node e), .inl ⟨a1, a2⟩⟩
  · exact .inr ⟨fun e => a1 (congrArg Td.num e), .inr a1⟩
set_option maxRecDepth 100000 in
set_option maxHeartbeats 16000000 in
theorem walk_LockReads (a : Option Addr) (len cap : Nat) (zs : List (Int × Int)) (x1 y1 : Int) (k : ByteArray) (w : World) (_w0 : IsTids w a len zs) (_w1 : (Lit.int .u64 x1).wf = true ∧ (Lit.int .i64 y1).wf = true) (_w2 : k.size ≤ maxLen) :
    Calls Try.prog 7 #[.slice a len cap, .agg #[.int .u64 x1, .int .i64 y1], .string k] w fun e w' => e = .returned (.bool true) ∧ Below w.heap.size w w' := by
  have HOP : Hid (IsTids w a len zs) := _w0
  obtain ⟨v, hv⟩ : ∃ v : Td, v = ⟨x1, y1⟩ := ⟨_, rfl⟩
  have HVW : Hid (v.wf ∧ k.size ≤ maxLen) := ⟨by rw [hv]; exact _w1, _w2⟩
  obtain rfl : v.num = x1 := by rw [hv]
  obtain rfl : v.node = y1 := by rw [hv]
  have hlm : (len : Int) ≤ 9223372036854775807 := by have := _w0.2.1; unfold maxLen at this; omega
  have hkm : (k.size : Int) ≤ 9223372036854775807 := by have := _w2; unfold maxLen at this; omega
  clear _w0 _w1 _w2 hv
  obtain ⟨w0, hw0⟩ : ∃ w0, w0 = w.alloc (.cells #[.int .u64 v.num, .int .i64 v.node] 29) := ⟨_, rfl⟩
  have HE0 : Hid (Ext w w0) := by rw [hw0]; exact ext_one _
  have HB0 : Hid (Blk w0 w.heap.size #[.int .u64 v.num, .int .i64 v.node] 29) := by rw [hw0]; exact Blk.new _ _ _
  go_enter Try.func7, Try.ntmps7
  go_upto_region 1 with fail
  rw [← hw0]
  clear hw0
  go_wp2_with fail
  refine (head12_any _).mono ?_
  rintro e w1 ⟨rfl, h1⟩
  have HE1 : Hid (Ext w w1) := Ext.trans HE0.out h1
  have HB1 : Hid (Blk w1 w.heap.size #[.int .u64 v.num, .int .i64 v.node] 29) := HB0.out.below_ h1
  clear h1 HE0 HB0
  by_cases h10 : 10 < len
  · have d1 : decide ((10 : Int) < (len : Int)) = true := by simp; omega
    go_wp2
    go_ret
    exact ⟨rfl, HE1.out⟩
  have d1 : decide ((10 : Int) < (len : Int)) = false := by simp; omega
  by_cases h40 : 40 < k.size
  · have d2 : decide ((40 : Int) < (k.size : Int)) = true := by simp; omega
    go_wp2
    go_ret
    exact ⟨rfl, HE1.out⟩
  have d2 : decide ((40 : Int) < (k.size : Int)) = false := by simp; omega
  go_wp2_with fail
  refine (newT_any w1).mono ?_
  rintro e w2_ ⟨g, T0, rfl, hT, hx⟩
  have HL2 : Hid (LS w w2_ w1.heap.size g 0 say0 T0 [k]) := (LS.new HE1.out hT hx).more (fun q h => by cases h)
  have HB2 : Hid (Blk w2_ w.heap.size #[.int .u64 v.num, .int .i64 v.node] 29) := HB1.out.below_ hx
  clear hT hx
  obtain ⟨w3, hw3⟩ : ∃ w3, w3 = w2_.alloc (.cells #[] 29) := ⟨_, rfl⟩
  have HL3 : Hid (LS w w3 w1.heap.size g 0 say0 T0 [k]) := by rw [hw3]; exact HL2.out.below (ext_one _)
  have HK3 : Hid (OwnT w3 w2_.heap.size (.slice (some ⟨w2_.heap.size, 0, none⟩) 0 0) []) := by rw [hw3]; exact OwnT.madeT w2_
  have HB3 : Hid (Blk w3 w.heap.size #[.int .u64 v.num, .int .i64 v.node] 29) := by rw [hw3]; exact HB2.out.alloc _
  have HZ2 : Hid (w.heap.size < w2_.heap.size) := HB2.out.lt
  have HZ3 : Hid (w2_.heap.size ≤ w3.heap.size) := by rw [hw3]; exact (ext_one (w := w2_) _).size
  go_upto_region 7 with fail
  rw [← hw3]
  clear hw3 d1 d2
  go_wp2_with fail
  go_loopw [8, 36] (fun ov vi wr => ∃ (i : Nat) (ts : List Td) (S : Say) (T : Tab), vi = .int .i64 (i : Int) ∧ i ≤ len ∧ (∃ a n c, ov = .slice a n c) ∧ OwnT wr w2_.heap.size ov ts ∧ ts.length ≤ i ∧ ts.Nodup ∧ v ∉ ts ∧ (∀ t ∈ ts, t.wf) ∧ LS w wr w1.heap.size g i S T [k] ∧ RS S k ts [] ∧ Blk wr w.heap.size #[.int .u64 v.num, .int .i64 v.node] 29 ∧ w2_.heap.size ≤ wr.heap.size) (fun _ vi _ => len - (intOf vi).toNat)
  case atStart => exact ⟨0, [], say0, T0, rfl, Nat.zero_le _, ⟨_, _, _, rfl⟩, HK3.out, Nat.le_refl _, List.nodup_nil, List.not_mem_nil, (fun t h => by cases h), HL3.out, RS.zero k, HB3.out, HZ3.out⟩
  case round =>
    obtain ⟨i, ts, S, T, rfl, hi, ⟨ka, kn, kc, rfl⟩, ho, hkl, hnd, hvn, htw, hL, hrs, hb, hz⟩ := hrel
    generalize wr = V at ho hL hb hz ⊢
    have HO : Hid (OwnT V w2_.heap.size (.slice ka kn kc) ts) := ho
    have HTS : Hid (ts.length ≤ i ∧ ts.Nodup ∧ v ∉ ts ∧ ∀ t ∈ ts, t.wf) := ⟨hkl, hnd, hvn, htw⟩
    have HL : Hid (LS w V w1.heap.size g i S T [k]) := hL
    have HRS : Hid (RS S k ts []) := hrs
    have HB : Hid (Blk V w.heap.size #[.int .u64 v.num, .int .i64 v.node] 29) := hb
    have HZ : Hid (w2_.heap.size ≤ V.heap.size) := hz
    have HKN : Hid (ts.length = kn) := by
      obtain ⟨_, _, ek, _, _, _⟩ := ho.form
      injection ek with _ e2
      exact e2.symm
    have hk9 : kn ≤ 10 := by rw [← HKN.out]; omega
    clear ho hkl hnd hvn htw hL hrs hb hz
    by_cases hin : i < len
    · have d1 : decide ((i : Int) < (len : Int)) = true := by simp; omega
      have hio : i < zs.length := by rw [HOP.out.1]; exact hin
      obtain ⟨ad, had⟩ : ∃ ad, a = some ad := by
        cases a with
        | none => have := HOP.out.2.2.1 rfl; omega
        | some ad => exact ⟨ad, rfl⟩
      obtain ⟨t, ht⟩ : ∃ t : Td, t = ⟨zs[i].1, zs[i].2⟩ := ⟨_, rfl⟩
      obtain ⟨z0, z1, z2, z3⟩ := HOP.out.2.2.2 ad had i hio
      have HTW : Hid (t.wf) := by rw [ht]; exact ⟨z2, z3⟩
      rw [show zs[i].1 = t.num by rw [ht]] at z0
      rw [show zs[i].2 = t.node by rw [ht]] at z1
      have k0 := (Below.cell HL.out.ext (cell_lt z0)).trans z0
      have k1 := cell_on (by decide) ((Below.cell HL.out.ext (cell_lt z1)).trans z1)
      obtain ⟨w4, hw4⟩ : ∃ w4, w4 = V.alloc (.cells #[.int .u64 t.num, .int .i64 t.node] 29) := ⟨_, rfl⟩
      have HE4 : Hid (Ext V w4) := by rw [hw4]; exact ext_one _
      have HT4 : Hid (Blk w4 V.heap.size #[.int .u64 t.num, .int .i64 t.node] 29) := by rw [hw4]; exact Blk.new _ _ _
      have HL4 : Hid (LS w w4 w1.heap.size g i S T [k]) := HL.out.below HE4.out
      have HO4 : Hid (OwnT w4 w2_.heap.size (.slice ka kn kc) ts) := HO.out.below HE4.out
      have HB4 : Hid (Blk w4 w.heap.size #[.int .u64 v.num, .int .i64 v.node] 29) := HB.out.below_ HE4.out
      have hii : (i : Int) + 1 ≤ 20000 := by omega
      subst had
      clear ht z0 z1 z2 z3
      go_upto_region 10 with fail
      rw [← hw4]
      clear hw4 k0 k1
      have c0 : w4.cell? ⟨V.heap.size, 0, none⟩ = some (.int .u64 t.num) := HT4.out.cell 0
      have c1 : w4.cell? ⟨V.heap.size, 1, none⟩ = some (.int .i64 t.node) := HT4.out.cell 1
      have v0 : w4.cell? ⟨w.heap.size, 0, none⟩ = some (.int .u64 v.num) := HB4.out.cell 0
      have v1 : w4.cell? ⟨w.heap.size, 1, none⟩ = some (.int .i64 v.node) := HB4.out.cell 1
      obtain ⟨ts2, S2, hts2, has⟩ : ∃ ts2 S2, (ts2 = ts ∧ t ∈ ts ∨ ts2 = ts ++ [t] ∧ t ∉ ts) ∧ S2 = S.askM t 1 k ∧ ansM t 1 S k = 1 ∧ RS S2 k ts2 [] := by
        by_cases hm : t ∈ ts
        · exact ⟨ts, _, .inl ⟨rfl, hm⟩, rfl, HRS.out.ask_old hm⟩
        · exact ⟨ts ++ [t], _, .inr ⟨rfl, hm⟩, rfl, HRS.out.ask_new hm⟩
      have HTS2 : Hid (ts2 = ts ∧ t ∈ ts ∨ ts2 = ts ++ [t] ∧ t ∉ ts) := hts2
      have HAS : Hid (S2 = S.askM t 1 k ∧ ansM t 1 S k = 1 ∧ RS S2 k ts2 []) := has
      have HFA : Hid (Calls Try.prog 12 #[.pointer (some ⟨g, 0, none⟩), .agg #[.int .u64 t.num, .int .i64 t.node], .string k, .int .i64 1] w4 fun e w' => e = .returned (.int .i64 1) ∧ ∃ T', TT w1.heap.size w' g (i + 1) S2 T' ∧ StepT w4 T w' T') := by
        have h1 := askT_any HL4.out.tt t 1 k HTW.out HVW.out.2 (by omega)
        rw [HAS.out.2.1, ← HAS.out.1] at h1
        exact h1
      clear hts2 has
      rcases td_split t v with htv | ⟨htv, hcs⟩
      · rw [show t.num = v.num by rw [htv]] at c0
        rw [show t.node = v.node by rw [htv]] at c1
        have HEE : Hid (Ext w w4) := HL4.out.ext
        clear htv HFA
        go_wp2
        go_ret
        exact ⟨rfl, HEE.out⟩
      · have HTV : Hid (t ≠ v) := htv
        clear htv
        rcases hcs with ⟨a1, a2⟩ | a1
        · have b1 : (t.node == v.node) = false := beq_eq_false_iff_ne.2 a2
          rw [a1] at c0 HFA
          have HA1 : Hid (t.num = v.num) := a1
          clear a1 a2
          go_wp2_with fail
          refine HFA.out.mono ?_
          rintro e w5 ⟨rfl, T5, hT, hs⟩
          have HL5 : Hid (LS w w5 w1.heap.size g (i + 1) S2 T5 [k]) := by
            have h1 := hT
            rw [HAS.out.1] at h1 ⊢
            exact HL4.out.askd hs h1 (by simp) (fun x hx => hx)
          have HO5 : Hid (OwnT w5 w2_.heap.size (.slice ka kn kc) ts) := HL4.out.keepT hs HO4.out
          have HB5 : Hid (Blk w5 w.heap.size #[.int .u64 v.num, .int .i64 v.node] 29) := HL4.out.keepB hs HB4.out (by decide) (by decide)
          have HT5 : Hid (Blk w5 V.heap.size #[.int .u64 t.num, .int .i64 t.node] 29) := HL4.out.keepB hs HT4.out (by decide) (by decide)
          have HZ5 : Hid (w2_.heap.size ≤ w5.heap.size) := Nat.le_trans HZ.out (Nat.le_trans HE4.out.size hs.chg.size)
          clear hT hs c0 c1 v0 v1 HFA b1
          go_wp2_with fail
          go_loopw [11, 50] (fun vb vj wx => ∃ (j : Nat) (b : Bool), vj = .int .i64 (j : Int) ∧ vb = .bool b ∧ j ≤ kn ∧ (b = true ↔ t ∈ ts.take j) ∧ Ext w5 wx) (fun _ vj _ => kn - (intOf vj).toNat)
          case atStart => exact ⟨0, false, rfl, rfl, Nat.zero_le _, by simp, Ext.refl _⟩
          case round =>
            obtain ⟨j, b, rfl, rfl, hj, hbt, hE⟩ := hrel
            have HBT : Hid (b = true ↔ t ∈ ts.take j) := hbt
            have HE6 : Hid (Ext w5 wr) := hE
            clear hbt hE
            by_cases hlj : j < kn
            · have hjl : j < ts.length := by rw [HKN.out]; exact hlj
              obtain ⟨s, hs⟩ : ∃ s, s = ts[j] := ⟨_, rfl⟩
              have HTK : Hid (ts.take (j + 1) = ts.take j ++ [s]) := by rw [hs]; exact List.take_succ_eq_append_getElem hjl
              obtain ⟨kg, hkg, k0, k1⟩ : ∃ kg, ka = some ⟨kg, 0, none⟩ ∧ wr.cell? ⟨kg, j * 2, none⟩ = some (.int .u64 s.num) ∧ wr.cell? ⟨kg, j * 2 + 1, none⟩ = some (.int .i64 s.node) := by
                obtain ⟨ao, c, e, _, _, h3⟩ := (HO5.out.below HE6.out).form
                injection e with e1
                obtain ⟨g', e2, e3, e4⟩ := h3 j hjl
                rw [hs]
                exact ⟨g', by rw [e1, e2], e3, e4⟩
              subst hkg
              obtain ⟨w7, hw7⟩ : ∃ w7, w7 = wr.alloc (.cells #[.int .u64 s.num, .int .i64 s.node] 29) := ⟨_, rfl⟩
              have HE7 : Hid (Ext w5 w7) := by rw [hw7]; exact Ext.trans HE6.out (ext_one _)
              have HS7 : Hid (Blk w7 wr.heap.size #[.int .u64 s.num, .int .i64 s.node] 29) := by rw [hw7]; exact Blk.new _ _ _
              have HT7 : Hid (Blk w7 V.heap.size #[.int .u64 t.num, .int .i64 t.node] 29) := HT5.out.below_ HE7.out
              have hjj : (j : Int) + 1 ≤ 20000 := by omega
              clear hs
              go_upto_region 18 with fail
              rw [← hw7]
              clear hw7 k0 k1
              cases b with
              | true =>
                go_wp2
                go_roundw
                case rel => exact ⟨j + 1, true, by go_num, rfl, hlj, ⟨fun _ => by rw [HTK.out]; exact List.mem_append.2 (.inl (HBT.out.1 rfl)), fun _ => rfl⟩, HE7.out⟩
                case measure => simp [intOf]; omega
              | false =>
                have c0 : w7.cell? ⟨V.heap.size, 0, none⟩ = some (.int .u64 t.num) := HT7.out.cell 0
                have c1 : w7.cell? ⟨V.heap.size, 1, none⟩ = some (.int .i64 t.node) := HT7.out.cell 1
                have s0 : w7.cell? ⟨wr.heap.size, 0, none⟩ = some (.int .u64 s.num) := HS7.out.cell 0
                have s1 : w7.cell? ⟨wr.heap.size, 1, none⟩ = some (.int .i64 s.node) := HS7.out.cell 1
                have HNB : Hid (t ∉ ts.take j) := fun e => by have := HBT.out.2 e; cases this
                rcases td_split s t with hst | ⟨hst, hc2⟩
                · have HST : Hid (s = t) := hst
                  rw [show s.num = t.num by rw [hst]] at s0
                  rw [show s.node = t.node by rw [hst]] at s1
                  clear hst
                  go_wp2
                  go_roundw
                  case rel => exact ⟨j + 1, true, by go_num, by simp, hlj, ⟨fun _ => by rw [HTK.out, HST.out]; simp, fun _ => rfl⟩, HE7.out⟩
                  case measure => simp [intOf]; omega
                · have HST : Hid (s ≠ t) := hst
                  clear hst
                  rcases hc2 with ⟨a1, a2⟩ | a1
                  · have b1 : (s.node == t.node) = false := beq_eq_false_iff_ne.2 a2
                    rw [a1] at s0
                    clear a1 a2
                    go_wp2
                    go_roundw
                    case rel =>
                      refine ⟨j + 1, false, by go_num, by simp, hlj, ⟨fun e => (by cases e), fun e => ?_⟩, HE7.out⟩
                      rw [HTK.out] at e
                      rcases List.mem_append.1 e with h | h
                      · exact absurd h HNB.out
                      · exact absurd (List.mem_singleton.1 h).symm HST.out
                    case measure => simp [intOf]; omega
                  · have b1 : (s.num == t.num) = false := beq_eq_false_iff_ne.2 a1
                    clear a1
                    go_wp2
                    go_roundw
                    case rel =>
                      refine ⟨j + 1, false, by go_num, by simp, hlj, ⟨fun e => (by cases e), fun e => ?_⟩, HE7.out⟩
                      rw [HTK.out] at e
                      rcases List.mem_append.1 e with h | h
                      · exact absurd h HNB.out
                      · exact absurd (List.mem_singleton.1 h).symm HST.out
                    case measure => simp [intOf]; omega
            · have HBF : Hid (b = true ↔ t ∈ ts) := by
                have h1 := HBT.out
                rw [List.take_of_length_le (by rw [HKN.out]; omega)] at h1
                exact h1
              have HL8 : Hid (LS w wr w1.heap.size g (i + 1) S2 T5 [k]) := HL5.out.below HE6.out
              have HO8 : Hid (OwnT wr w2_.heap.size (.slice ka kn kc) ts) := HO5.out.below HE6.out
              have HB8 : Hid (Blk wr w.heap.size #[.int .u64 v.num, .int .i64 v.node] 29) := HB5.out.below_ HE6.out
              have HT8 : Hid (Blk wr V.heap.size #[.int .u64 t.num, .int .i64 t.node] 29) := HT5.out.below_ HE6.out
              have HZ8 : Hid (w2_.heap.size ≤ wr.heap.size) := Nat.le_trans HZ5.out HE6.out.size
              cases b with
              | true =>
                have HRS2 : Hid (ts2 = ts) := by
                  rcases HTS2.out with h | h
                  · exact h.1
                  · exact absurd (HBF.out.1 rfl) h.2
                go_wp2
                go_roundw
                case rel =>
                  refine ⟨i + 1, ts, S2, T5, by go_num, hin, ⟨_, _, _, rfl⟩, HO8.out, by have := HTS.out.1; omega, HTS.out.2.1, HTS.out.2.2.1, HTS.out.2.2.2, HL8.out, ?_, HB8.out, HZ8.out⟩
                  have := HAS.out.2.2
                  rw [HRS2.out] at this
                  exact this
                case measure => simp [intOf]; omega
              | false =>
                have HNT : Hid (t ∉ ts) := fun e => by have := HBF.out.2 e; cases this
                have HRS2 : Hid (ts2 = ts ++ [t]) := by
                  rcases HTS2.out with h | h
                  · exact absurd h.2 HNT.out
                  · exact h.1
                have c0 : wr.cell? ⟨V.heap.size, 0, none⟩ = some (.int .u64 t.num) := HT8.out.cell 0
                have c1 : wr.cell? ⟨V.heap.size, 1, none⟩ = some (.int .i64 t.node) := HT8.out.cell 1
                have HOA : Hid (OwnT (wr.alloc (.cells #[.int .u64 t.num, .int .i64 t.node] 29)) w2_.heap.size (.slice ka kn kc) ts) := HO8.out.below (ext_one _)
                have HBA : Hid (Blk (wr.alloc (.cells #[.int .u64 t.num, .int .i64 t.node] 29)) wr.heap.size #[.int .u64 t.num, .int .i64 t.node] 29) := Blk.new _ _ _
                have HCA : Hid (Blk (wr.alloc (.cells #[.int .u64 t.num, .int .i64 t.node] 29)) w.heap.size #[.int .u64 v.num, .int .i64 v.node] 29) := HB8.out.alloc _
                have HZA : Hid (w2_.heap.size ≤ (wr.alloc (.cells #[.int .u64 t.num, .int .i64 t.node] 29)).heap.size) := Nat.le_trans HZ8.out (ext_one (w := wr) _).size
                go_wp2_with (at_builtin; refine wpList_pushT _ rfl _ _ rfl w2_.heap.size _ ts t wr.heap.size HOA.out rfl HBA.out rfl (by have := HKN.out; omega) HZA.out ?_)
                intro v9 w9 ho9 hg9 _
                have HO9 : Hid (OwnT w9 w2_.heap.size v9 (ts ++ [t])) := ho9
                have HL9 : Hid (LS w w9 w1.heap.size g (i + 1) S2 T5 [k]) := HL8.out.pushT (ext_one _) HOA.out (Nat.le_of_lt HZ2.out) hg9
                have HB9 : Hid (Blk w9 w.heap.size #[.int .u64 v.num, .int .i64 v.node] 29) := HCA.out.of (hg9.block _ HCA.out.lt (fun e => by have := (HOA.out.blk e.symm).1; have := HZ2.out; omega))
                have HZ9 : Hid (w2_.heap.size ≤ w9.heap.size) := Nat.le_trans HZA.out hg9.size
                obtain ⟨a9, n9, c9, e9⟩ : ∃ a n c, v9 = .slice a n c := by obtain ⟨a, c, e, _⟩ := ho9.form; exact ⟨a, _, c, e⟩
                subst e9
                clear ho9 hg9 c0 c1
                go_wp2
                go_roundw
                case rel =>
                  refine ⟨i + 1, ts ++ [t], S2, T5, by go_num, hin, ⟨_, _, _, rfl⟩, HO9.out, by have := HTS.out.1; simp; omega, ?_, ?_, ?_, HL9.out, ?_, HB9.out, HZ9.out⟩
                  · exact List.nodup_append.2 ⟨HTS.out.2.1, by simp, fun x hx y hy e => HNT.out (by rw [List.mem_singleton.1 hy] at e; rw [← e]; exact hx)⟩
                  · intro e
                    rcases List.mem_append.1 e with h | h
                    · exact HTS.out.2.2.1 h
                    · exact HTV.out (List.mem_singleton.1 h).symm
                  · intro x hx
                    rcases List.mem_append.1 hx with h | h
                    · exact HTS.out.2.2.2 x h
                    · rw [List.mem_singleton.1 h]; exact HTW.out
                  · have := HAS.out.2.2
                    rw [HRS2.out] at this
                    exact this
                case measure => simp [intOf]; omega
        · have b1 : (t.num == v.num) = false := beq_eq_false_iff_ne.2 a1
          clear a1
          go_wp2_with fail
          refine HFA.out.mono ?_
          rintro e w5 ⟨rfl, T5, hT, hs⟩
          have HL5 : Hid (LS w w5 w1.heap.size g (i + 1) S2 T5 [k]) := by
            have h1 := hT
            rw [HAS.out.1] at h1 ⊢
            exact HL4.out.askd hs h1 (by simp) (fun x hx => hx)
          have HO5 : Hid (OwnT w5 w2_.heap.size (.slice ka kn kc) ts) := HL4.out.keepT hs HO4.out
          have HB5 : Hid (Blk w5 w.heap.size #[.int .u64 v.num, .int .i64 v.node] 29) := HL4.out.keepB hs HB4.out (by decide) (by decide)
          have HT5 : Hid (Blk w5 V.heap.size #[.int .u64 t.num, .int .i64 t.node] 29) := HL4.out.keepB hs HT4.out (by decide) (by decide)
          have HZ5 : Hid (w2_.heap.size ≤ w5.heap.size) := Nat.le_trans HZ.out (Nat.le_trans HE4.out.size hs.chg.size)
          clear hT hs c0 c1 v0 v1 HFA b1
          go_wp2_with fail
          go_loopw [11, 50] (fun vb vj wx => ∃ (j : Nat) (b : Bool), vj = .int .i64 (j : Int) ∧ vb = .bool b ∧ j ≤ kn ∧ (b = true ↔ t ∈ ts.take j) ∧ Ext w5 wx) (fun _ vj _ => kn - (intOf vj).toNat)
          case atStart => exact ⟨0, false, rfl, rfl, Nat.zero_le _, by simp, Ext.refl _⟩
          case round =>
            obtain ⟨j, b, rfl, rfl, hj, hbt, hE⟩ := hrel
            have HBT : Hid (b = true ↔ t ∈ ts.take j) := hbt
            have HE6 : Hid (Ext w5 wr) := hE
            clear hbt hE
            by_cases hlj : j < kn
            · have hjl : j < ts.length := by rw [HKN.out]; exact hlj
              obtain ⟨s, hs⟩ : ∃ s, s = ts[j] := ⟨_, rfl⟩
              have HTK : Hid (ts.take (j + 1) = ts.take j ++ [s]) := by rw [hs]; exact List.take_succ_eq_append_getElem hjl
              obtain ⟨kg, hkg, k0, k1⟩ : ∃ kg, ka = some ⟨kg, 0, none⟩ ∧ wr.cell? ⟨kg, j * 2, none⟩ = some (.int .u64 s.num) ∧ wr.cell? ⟨kg, j * 2 + 1, none⟩ = some (.int .i64 s.node) := by
                obtain ⟨ao, c, e, _, _, h3⟩ := (HO5.out.below HE6.out).form
                injection e with e1
                obtain ⟨g', e2, e3, e4⟩ := h3 j hjl
                rw [hs]
                exact ⟨g', by rw [e1, e2], e3, e4⟩
              subst hkg
              obtain ⟨w7, hw7⟩ : ∃ w7, w7 = wr.alloc (.cells #[.int .u64 s.num, .int .i64 s.node] 29) := ⟨_, rfl⟩
              have HE7 : Hid (Ext w5 w7) := by rw [hw7]; exact Ext.trans HE6.out (ext_one _)
              have HS7 : Hid (Blk w7 wr.heap.size #[.int .u64 s.num, .int .i64 s.node] 29) := by rw [hw7]; exact Blk.new _ _ _
              have HT7 : Hid (Blk w7 V.heap.size #[.int .u64 t.num, .int .i64 t.node] 29) := HT5.out.below_ HE7.out
              have hjj : (j : Int) + 1 ≤ 20000 := by omega
              clear hs
              go_upto_region 18 with fail
              rw [← hw7]
              clear hw7 k0 k1
              cases b with
              | true =>
                go_wp2
                go_roundw
                case rel => exact ⟨j + 1, true, by go_num, rfl, hlj, ⟨fun _ => by rw [HTK.out]; exact List.mem_append.2 (.inl (HBT.out.1 rfl)), fun _ => rfl⟩, HE7.out⟩
                case measure => simp [intOf]; omega
              | false =>
                have c0 : w7.cell? ⟨V.heap.size, 0, none⟩ = some (.int .u64 t.num) := HT7.out.cell 0
                have c1 : w7.cell? ⟨V.heap.size, 1, none⟩ = some (.int .i64 t.node) := HT7.out.cell 1
                have s0 : w7.cell? ⟨wr.heap.size, 0, none⟩ = some (.int .u64 s.num) := HS7.out.cell 0
                have s1 : w7.cell? ⟨wr.heap.size, 1, none⟩ = some (.int .i64 s.node) := HS7.out.cell 1
                have HNB : Hid (t ∉ ts.take j) := fun e => by have := HBT.out.2 e; cases this
                rcases td_split s t with hst | ⟨hst, hc2⟩
                · have HST : Hid (s = t) := hst
                  rw [show s.num = t.num by rw [hst]] at s0
                  rw [show s.node = t.node by rw [hst]] at s1
                  clear hst
                  go_wp2
                  go_roundw
                  case rel => exact ⟨j + 1, true, by go_num, by simp, hlj, ⟨fun _ => by rw [HTK.out, HST.out]; simp, fun _ => rfl⟩, HE7.out⟩
                  case measure => simp [intOf]; omega
                · have HST : Hid (s ≠ t) := hst
                  clear hst
                  rcases hc2 with ⟨a1, a2⟩ | a1
                  · have b1 : (s.node == t.node) = false := beq_eq_false_iff_ne.2 a2
                    rw [a1] at s0
                    clear a1 a2
                    go_wp2
                    go_roundw
                    case rel =>
                      refine ⟨j + 1, false, by go_num, by simp, hlj, ⟨fun e => (by cases e), fun e => ?_⟩, HE7.out⟩
                      rw [HTK.out] at e
                      rcases List.mem_append.1 e with h | h
                      · exact absurd h HNB.out
                      · exact absurd (List.mem_singleton.1 h).symm HST.out
                    case measure => simp [intOf]; omega
                  · have b1 : (s.num == t.num) = false := beq_eq_false_iff_ne.2 a1
                    clear a1
                    go_wp2
                    go_roundw
                    case rel =>
                      refine ⟨j + 1, false, by go_num, by simp, hlj, ⟨fun e => (by cases e), fun e => ?_⟩, HE7.out⟩
                      rw [HTK.out] at e
                      rcases List.mem_append.1 e with h | h
                      · exact absurd h HNB.out
                      · exact absurd (List.mem_singleton.1 h).symm HST.out
                    case measure => simp [intOf]; omega
            · have HBF : Hid (b = true ↔ t ∈ ts) := by
                have h1 := HBT.out
                rw [List.take_of_length_le (by rw [HKN.out]; omega)] at h1
                exact h1
              have HL8 : Hid (LS w wr w1.heap.size g (i + 1) S2 T5 [k]) := HL5.out.below HE6.out
              have HO8 : Hid (OwnT wr w2_.heap.size (.slice ka kn kc) ts) := HO5.out.below HE6.out
              have HB8 : Hid (Blk wr w.heap.size #[.int .u64 v.num, .int .i64 v.node] 29) := HB5.out.below_ HE6.out
              have HT8 : Hid (Blk wr V.heap.size #[.int .u64 t.num, .int .i64 t.node] 29) := HT5.out.below_ HE6.out
              have HZ8 : Hid (w2_.heap.size ≤ wr.heap.size) := Nat.le_trans HZ5.out HE6.out.size
              cases b with
              | true =>
                have HRS2 : Hid (ts2 = ts) := by
                  rcases HTS2.out with h | h
                  · exact h.1
                  · exact absurd (HBF.out.1 rfl) h.2
                go_wp2
                go_roundw
                case rel =>
                  refine ⟨i + 1, ts, S2, T5, by go_num, hin, ⟨_, _, _, rfl⟩, HO8.out, by have := HTS.out.1; omega, HTS.out.2.1, HTS.out.2.2.1, HTS.out.2.2.2, HL8.out, ?_, HB8.out, HZ8.out⟩
                  have := HAS.out.2.2
                  rw [HRS2.out] at this
                  exact this
                case measure => simp [intOf]; omega
              | false =>
                have HNT : Hid (t ∉ ts) := fun e => by have := HBF.out.2 e; cases this
                have HRS2 : Hid (ts2 = ts ++ [t]) := by
                  rcases HTS2.out with h | h
                  · exact absurd h.2 HNT.out
                  · exact h.1
                have c0 : wr.cell? ⟨V.heap.size, 0, none⟩ = some (.int .u64 t.num) := HT8.out.cell 0
                have c1 : wr.cell? ⟨V.heap.size, 1, none⟩ = some (.int .i64 t.node) := HT8.out.cell 1
                have HOA : Hid (OwnT (wr.alloc (.cells #[.int .u64 t.num, .int .i64 t.node] 29)) w2_.heap.size (.slice ka kn kc) ts) := HO8.out.below (ext_one _)
                have HBA : Hid (Blk (wr.alloc (.cells #[.int .u64 t.num, .int .i64 t.node] 29)) wr.heap.size #[.int .u64 t.num, .int .i64 t.node] 29) := Blk.new _ _ _
                have HCA : Hid (Blk (wr.alloc (.cells #[.int .u64 t.num, .int .i64 t.node] 29)) w.heap.size #[.int .u64 v.num, .int .i64 v.node] 29) := HB8.out.alloc _
                have HZA : Hid (w2_.heap.size ≤ (wr.alloc (.cells #[.int .u64 t.num, .int .i64 t.node] 29)).heap.size) := Nat.le_trans HZ8.out (ext_one (w := wr) _).size
                go_wp2_with (at_builtin; refine wpList_pushT _ rfl _ _ rfl w2_.heap.size _ ts t wr.heap.size HOA.out rfl HBA.out rfl (by have := HKN.out; omega) HZA.out ?_)
                intro v9 w9 ho9 hg9 _
                have HO9 : Hid (OwnT w9 w2_.heap.size v9 (ts ++ [t])) := ho9
                have HL9 : Hid (LS w w9 w1.heap.size g (i + 1) S2 T5 [k]) := HL8.out.pushT (ext_one _) HOA.out (Nat.le_of_lt HZ2.out) hg9
                have HB9 : Hid (Blk w9 w.heap.size #[.int .u64 v.num, .int .i64 v.node] 29) := HCA.out.of (hg9.block _ HCA.out.lt (fun e => by have := (HOA.out.blk e.symm).1; have := HZ2.out; omega))
                have HZ9 : Hid (w2_.heap.size ≤ w9.heap.size) := Nat.le_trans HZA.out hg9.size
                obtain ⟨a9, n9, c9, e9⟩ : ∃ a n c, v9 = .slice a n c := by obtain ⟨a, c, e, _⟩ := ho9.form; exact ⟨a, _, c, e⟩
                subst e9
                clear ho9 hg9 c0 c1
                go_wp2
                go_roundw
                case rel =>
                  refine ⟨i + 1, ts ++ [t], S2, T5, by go_num, hin, ⟨_, _, _, rfl⟩, HO9.out, by have := HTS.out.1; simp; omega, ?_, ?_, ?_, HL9.out, ?_, HB9.out, HZ9.out⟩
                  · exact List.nodup_append.2 ⟨HTS.out.2.1, by simp, fun x hx y hy e => HNT.out (by rw [List.mem_singleton.1 hy] at e; rw [← e]; exact hx)⟩
                  · intro e
                    rcases List.mem_append.1 e with h | h
                    · exact HTS.out.2.2.1 h
                    · exact HTV.out (List.mem_singleton.1 h).symm
                  · intro x hx
                    rcases List.mem_append.1 hx with h | h
                    · exact HTS.out.2.2.2 x h
                    · rw [List.mem_singleton.1 h]; exact HTW.out
                  · have := HAS.out.2.2
                    rw [HRS2.out] at this
                    exact this
                case measure => simp [intOf]; omega
    · have d1 : decide ((i : Int) < (len : Int)) = false := by simp; omega
      go_wp2_with fail
      refine (hasT_any V HL.out.tt k HVW.out.2 (by omega)).mono ?_
      rintro e w5 ⟨v5, rfl, o5, h5⟩
      obtain ⟨a5, c5, e5⟩ : ∃ a c, v5 = .slice a kn c := by
        obtain ⟨a, c, e, _⟩ := o5.row
        rw [HRS.out.len HTS.out.2.1, HKN.out] at e
        exact ⟨a, c, e⟩
      subst e5
      have HL5 : Hid (LS w w5 w1.heap.size g i S T [k]) := HL.out.below h5
      have HO5 : Hid (OwnT w5 w2_.heap.size (.slice ka kn kc) ts) := HO.out.below h5
      have HB5 : Hid (Blk w5 w.heap.size #[.int .u64 v.num, .int .i64 v.node] 29) := HB.out.below_ h5
      have hne : ((kn : Int) != (kn : Int)) = false := by simp
      clear o5 h5
      go_wp2_with fail
      go_loopw [14, 77] (fun vb vj wx => ∃ (j : Nat) (b : Bool), vj = .int .i64 (j : Int) ∧ vb = .bool b ∧ j ≤ kn ∧ b = (ts.take j).any (fun t => !eldT v t) ∧ Ext w5 wx) (fun _ vj _ => kn - (intOf vj).toNat)
      case atStart => exact ⟨0, false, rfl, rfl, Nat.zero_le _, by simp, Ext.refl _⟩
      case round =>
        obtain ⟨j, b, rfl, rfl, hj, hbt, hE⟩ := hrel
        have HBT : Hid (b = (ts.take j).any (fun t => !eldT v t)) := hbt
        have HE6 : Hid (Ext w5 wr) := hE
        clear hbt hE
        by_cases hlj : j < kn
        · have hjl : j < ts.length := by rw [HKN.out]; exact hlj
          obtain ⟨s, hs⟩ : ∃ s, s = ts[j] := ⟨_, rfl⟩
          have HTK : Hid ((ts.take (j + 1)).any (fun t => !eldT v t) = (b || !eldT v s)) := by
            show _ = _
            rw [hs, List.take_succ_eq_append_getElem hjl, List.any_append, ← HBT.out]
            simp
          obtain ⟨kg, hkg, k0, k1⟩ : ∃ kg, ka = some ⟨kg, 0, none⟩ ∧ wr.cell? ⟨kg, j * 2, none⟩ = some (.int .u64 s.num) ∧ wr.cell? ⟨kg, j * 2 + 1, none⟩ = some (.int .i64 s.node) := by
            obtain ⟨ao, c, e, _, _, h3⟩ := (HO5.out.below HE6.out).form
            injection e with e1
            obtain ⟨g', e2, e3, e4⟩ := h3 j hjl
            rw [hs]
            exact ⟨g', by rw [e1, e2], e3, e4⟩
          subst hkg
          obtain ⟨w7, hw7⟩ : ∃ w7, w7 = wr.alloc (.cells #[.int .u64 s.num, .int .i64 s.node] 29) := ⟨_, rfl⟩
          have HE7 : Hid (Ext w5 w7) := by rw [hw7]; exact Ext.trans HE6.out (ext_one _)
          have HS7 : Hid (Blk w7 wr.heap.size #[.int .u64 s.num, .int .i64 s.node] 29) := by rw [hw7]; exact Blk.new _ _ _
          have HB7 : Hid (Blk w7 w.heap.size #[.int .u64 v.num, .int .i64 v.node] 29) := HB5.out.below_ HE7.out
          have hjj : (j : Int) + 1 ≤ 20000 := by omega
          clear hs
          go_upto_region 29 with fail
          rw [← hw7]
          clear hw7 k0 k1
          cases b with
          | true =>
            go_wp2
            go_roundw
            case rel => exact ⟨j + 1, true, by go_num, rfl, hlj, by rw [HTK.out]; rfl, HE7.out⟩
            case measure => simp [intOf]; omega
          | false =>
            have v0 : w7.cell? ⟨w.heap.size, 0, none⟩ = some (.int .u64 v.num) := HB7.out.cell 0
            have v1 : w7.cell? ⟨w.heap.size, 1, none⟩ = some (.int .i64 v.node) := HB7.out.cell 1
            have s0 : w7.cell? ⟨wr.heap.size, 0, none⟩ = some (.int .u64 s.num) := HS7.out.cell 0
            have s1 : w7.cell? ⟨wr.heap.size, 1, none⟩ = some (.int .i64 s.node) := HS7.out.cell 1
            go_wp2_with fail
            refine (elder12_any v s w7).mono ?_
            rintro e w8 ⟨rfl, hx⟩
            have HE8 : Hid (Ext w5 w8) := Ext.trans HE7.out hx
            obtain ⟨eb, heb⟩ : ∃ eb, eldT v s = eb := ⟨_, rfl⟩
            rw [heb]
            have HEB : Hid (eldT v s = eb) := heb
            clear hx v0 v1 s0 s1 heb
            go_wp2
            go_roundw
            case rel => exact ⟨j + 1, !eb, by go_num, by simp, hlj, by rw [HTK.out, HEB.out]; simp, HE8.out⟩
            case measure => simp [intOf]; omega
        · have HBF : Hid (b = ts.any (fun t => !eldT v t)) := by
            have h1 := HBT.out
            rw [List.take_of_length_le (by rw [HKN.out]; omega)] at h1
            exact h1
          generalize wr = Y at HE6 ⊢
          have HLY : Hid (LS w Y w1.heap.size g i S T [k]) := HL5.out.below HE6.out
          have HOY : Hid (OwnT Y w2_.heap.size (.slice ka kn kc) ts) := HO5.out.below HE6.out
          have HBY : Hid (Blk Y w.heap.size #[.int .u64 v.num, .int .i64 v.node] 29) := HB5.out.below_ HE6.out
          have v0 : Y.cell? ⟨w.heap.size, 0, none⟩ = some (.int .u64 v.num) := HBY.out.cell 0
          have v1 : Y.cell? ⟨w.heap.size, 1, none⟩ = some (.int .i64 v.node) := HBY.out.cell 1
          have HAK : Hid (Calls Try.prog 12 #[.pointer (some ⟨g, 0, none⟩), .agg #[.int .u64 v.num, .int .i64 v.node], .string k, .int .i64 2] Y _) := askT_any HLY.out.tt v 2 k HVW.out.1 HVW.out.2 (by omega)
          clear HE6
          go_wp2_with fail
          refine HAK.out.mono ?_
          rintro e w6 ⟨rfl, T6, hT, hs⟩
          obtain ⟨S6, hS6⟩ : ∃ S6, S6 = S.askM v 2 k := ⟨_, rfl⟩
          have HS6 : Hid (S6 = S.askM v 2 k) := hS6
          rw [← hS6] at hT
          have HL6 : Hid (LS w w6 w1.heap.size g (i + 1) S6 T6 [k]) := by
            rw [hS6] at hT ⊢
            exact HLY.out.askd hs hT (by simp) (fun x hx => hx)
          have HO6 : Hid (OwnT w6 w2_.heap.size (.slice ka kn kc) ts) := HLY.out.keepT hs HOY.out
          have HB6 : Hid (Blk w6 w.heap.size #[.int .u64 v.num, .int .i64 v.node] 29) := HLY.out.keepB hs HBY.out (by decide) (by decide)
          clear hT hs hS6 HAK v0 v1
          by_cases hk0 : kn = 0
          · have HA : Hid (ansM v 2 S k = 1) := by
              have h0 : ts = [] := List.eq_nil_of_length_eq_zero (by rw [HKN.out]; exact hk0)
              have h1 := HRS.out
              rw [h0] at h1
              exact h1.askw_none
            rw [HA.out]
            have hkd : ((kn : Int) == 0) = true := by rw [hk0]; rfl
            have HEE : Hid (Ext w w6) := HL6.out.ext
            go_wp2
            go_ret
            exact ⟨rfl, HEE.out⟩
          · have hkd : ((kn : Int) == 0) = false := beq_eq_false_iff_ne.2 (by omega)
            cases b with
            | true =>
              have HA : Hid (ansM v 2 S k = 3 ∧ RS S6 k ts []) := by
                obtain ⟨u, hu, he⟩ := List.any_eq_true.1 HBF.out.symm
                rw [HS6.out]
                exact HRS.out.askw_dies HTS.out.2.2.1 hu (by simpa using he)
              rw [HA.out.1]
              go_wp2_with fail
              refine (waitingT_any w6 HL6.out.tt k HVW.out.2 (by omega)).mono ?_
              rintro e w7 ⟨v7, rfl, o7, h7⟩
              rw [HA.out.2.waits] at o7
              obtain ⟨a7, c7, e7⟩ : ∃ a c, v7 = .slice a 0 c := by obtain ⟨a, c, e, _⟩ := o7.row; exact ⟨a, c, e⟩
              subst e7
              have HEE : Hid (Ext w w7) := Ext.trans HL6.out.ext h7
              clear o7 h7
              go_wp2
              go_ret
              exact ⟨rfl, HEE.out⟩
            | false =>
              have HA : Hid (ansM v 2 S k = 2 ∧ RS S6 k ts [w2 v]) := by
                rw [HS6.out]
                refine HRS.out.askw_waits HTS.out.2.2.1 (fun e => hk0 (by rw [← HKN.out, e]; rfl)) fun u hu => ?_
                have := List.any_eq_false.1 HBF.out.symm u hu
                simpa using this
              rw [HA.out.1]
              have v0 : w6.cell? ⟨w.heap.size, 0, none⟩ = some (.int .u64 v.num) := HB6.out.cell 0
              have v1 : w6.cell? ⟨w.heap.size, 1, none⟩ = some (.int .i64 v.node) := HB6.out.cell 1
              go_wp2_with fail
              refine (askT_any HL6.out.tt v 2 k HVW.out.1 HVW.out.2 (by omega)).mono ?_
              rintro e w7 ⟨rfl, T7, hT, hs⟩
              obtain ⟨S7, hS7⟩ : ∃ S7, S7 = S6.askM v 2 k := ⟨_, rfl⟩
              have HA7 : Hid (ansM v 2 S6 k = 2 ∧ RS S7 k ts [w2 v]) := by
                rw [hS7]
                exact HA.out.2.askw_again HTS.out.2.2.1
              rw [HA7.out.1]
              have HL7 : Hid (LS w w7 w1.heap.size g (i + 2) S7 T7 [k]) := by
                rw [hS7]
                exact HL6.out.askd hs hT (by simp) (fun x hx => hx)
              have HO7 : Hid (OwnT w7 w2_.heap.size (.slice ka kn kc) ts) := HL6.out.keepT hs HO6.out
              have HB7 : Hid (Blk w7 w.heap.size #[.int .u64 v.num, .int .i64 v.node] 29) := HL6.out.keepB hs HB6.out (by decide) (by decide)
              clear hT hs hS7 v0 v1
              go_wp2_with fail
              go_loopw [121] (fun vj wx => ∃ (j : Nat) (S2 : Say) (T2 : Tab), vj = .int .i64 (j : Int) ∧ j ≤ kn ∧ LS w wx w1.heap.size g (12 + j) S2 T2 [k] ∧ (j < kn → RS S2 k (ts.drop j) [w2 v]) ∧ (j = kn → S2.has k = [w2 v]) ∧ OwnT wx w2_.heap.size (.slice ka kn kc) ts ∧ Blk wx w.heap.size #[.int .u64 v.num, .int .i64 v.node] 29) (fun vj _ => kn - (intOf vj).toNat)
              case atStart => exact ⟨0, S7, T7, rfl, Nat.zero_le _, HL7.out.mono (by omega), (fun _ => HA7.out.2), (fun e => absurd e.symm hk0), HO7.out, HB7.out⟩
              case round =>
                obtain ⟨j, S2, T2, rfl, hj, hL, hr1, hr2, ho, hb⟩ := hrel
                have HL8 : Hid (LS w wr w1.heap.size g (12 + j) S2 T2 [k]) := hL
                have HR8 : Hid ((j < kn → RS S2 k (ts.drop j) [w2 v]) ∧ (j = kn → S2.has k = [w2 v])) := ⟨hr1, hr2⟩
                have HO8 : Hid (OwnT wr w2_.heap.size (.slice ka kn kc) ts) := ho
                have HB8 : Hid (Blk wr w.heap.size #[.int .u64 v.num, .int .i64 v.node] 29) := hb
                clear hL hr1 hr2 ho hb
                by_cases hlj : j < kn
                · have hjl : j < ts.length := by rw [HKN.out]; exact hlj
                  obtain ⟨t, ht⟩ : ∃ t, t = ts[j] := ⟨_, rfl⟩
                  have HDJ : Hid (ts.drop j = t :: ts.drop (j + 1)) := by rw [ht]; exact List.drop_eq_getElem_cons hjl
                  have HTW : Hid (t.wf) := HTS.out.2.2.2 t (by rw [ht]; exact List.getElem_mem _)
                  have HRD : Hid (RS S2 k (t :: ts.drop (j + 1)) [w2 v]) := by have := HR8.out.1 hlj; rw [HDJ.out] at this; exact this
                  have HND : Hid ((t :: ts.drop (j + 1)).Nodup ∧ v ∉ t :: ts.drop (j + 1)) := by
                    rw [← HDJ.out]
                    exact ⟨(List.drop_sublist j ts).nodup HTS.out.2.1, fun e => HTS.out.2.2.1 (List.mem_of_mem_drop e)⟩
                  obtain ⟨kg, hkg, k0, k1⟩ : ∃ kg, ka = some ⟨kg, 0, none⟩ ∧ wr.cell? ⟨kg, j * 2, none⟩ = some (.int .u64 t.num) ∧ wr.cell? ⟨kg, j * 2 + 1, none⟩ = some (.int .i64 t.node) := by
                    obtain ⟨ao, c, e, _, _, h3⟩ := HO8.out.form
                    injection e with e1
                    obtain ⟨g', e2, e3, e4⟩ := h3 j hjl
                    rw [ht]
                    exact ⟨g', by rw [e1, e2], e3, e4⟩
                  subst hkg
                  obtain ⟨w9, hw9⟩ : ∃ w9, w9 = wr.alloc (.cells #[.int .u64 t.num, .int .i64 t.node] 29) := ⟨_, rfl⟩
                  have HE9 : Hid (Ext wr w9) := by rw [hw9]; exact ext_one _
                  have HT9 : Hid (Blk w9 wr.heap.size #[.int .u64 t.num, .int .i64 t.node] 29) := by rw [hw9]; exact Blk.new _ _ _
                  have HL9 : Hid (LS w w9 w1.heap.size g (12 + j) S2 T2 [k]) := HL8.out.below HE9.out
                  have HO9 : Hid (OwnT w9 w2_.heap.size (.slice (some ⟨kg, 0, none⟩) kn kc) ts) := HO8.out.below HE9.out
                  have HB9 : Hid (Blk w9 w.heap.size #[.int .u64 v.num, .int .i64 v.node] 29) := HB8.out.below_ HE9.out
                  have hjj : (j : Int) + 1 ≤ 20000 := by omega
                  clear ht
                  go_upto_region 41 with fail
                  rw [← hw9]
                  clear hw9 k0 k1
                  have c0 : w9.cell? ⟨wr.heap.size, 0, none⟩ = some (.int .u64 t.num) := HT9.out.cell 0
                  have c1 : w9.cell? ⟨wr.heap.size, 1, none⟩ = some (.int .i64 t.node) := HT9.out.cell 1
                  go_wp2_with fail
                  refine (freeT_any (c := 1) w9 HL9.out.tt t HTW.out (by omega) HL9.out.bsize [k] (fun x hx => HL9.out.inl.at_ hx) (by simp)).mono ?_
                  rintro e w10 ⟨gv, fs, T10, rfl, hp, hq, ho, hT, hs⟩
                  have hfs : fs = [k] := by
                    have h1 : ∀ q, q ∈ fs ↔ q = k := fun q => (hq q).trans (HRD.out.free_in q)
                    have hnd := keys_nodup hp
                    have hl : fs.length ≤ 1 := nodup_le fs [k] hnd fun q hq => by simpa using (h1 q).1 hq
                    have hm := (h1 k).2 rfl
                    cases fs with
                    | nil => cases hm
                    | cons x r =>
                      have : r = [] := by simpa using hl
                      subst this
                      rw [(h1 x).1 (by simp)]
                  rw [hfs] at ho
                  simp only [List.flatMap_cons, List.flatMap_nil, List.append_nil] at ho
                  have HL10 : Hid (LS w w10 w1.heap.size g (12 + j + 1) (S2.free t) T10 [k]) := HL9.out.freed hs hT
                  have HO10 : Hid (OwnT w10 w2_.heap.size (.slice (some ⟨kg, 0, none⟩) kn kc) ts) := HL9.out.keepT hs HO9.out
                  have HB10 : Hid (Blk w10 w.heap.size #[.int .u64 v.num, .int .i64 v.node] 29) := HL9.out.keepB hs HB9.out (by decide) (by decide)
                  have HOG : Hid (OwnG w10 w9.heap.size gv (freeG t k (S2.has k) (S2.waits k))) := ho
                  clear hp hq hfs ho hT hs c0 c1
                  by_cases hlast : j + 1 < kn
                  · have HF : Hid (freeG t k (S2.has k) (S2.waits k) = [] ∧ RS (S2.free t) k (ts.drop (j + 1)) [w2 v]) := HRD.out.freed HND.out.2 HND.out.1 (fun e => by have := congrArg List.length e; rw [List.length_drop, HKN.out, List.length_nil] at this; omega)
                    obtain ⟨ga, gc, eg⟩ : ∃ a c, gv = .slice a 0 c := by
                      obtain ⟨a, c, e, _⟩ := HOG.out.len
                      rw [HF.out.1] at e
                      exact ⟨a, c, e⟩
                    subst eg
                    have hl1 : ((j : Int) == (kn : Int) - 1) = false := beq_eq_false_iff_ne.2 (by omega)
                    go_upto_region 43 with fail
                    go_quiet (fail)
                    obtain ⟨wz, hwz⟩ : ∃ wz, wz = w10.drewN nq := ⟨_, rfl⟩
                    rw [← hwz]
                    have hEz : Ext w10 wz := by rw [hwz]; exact ⟨rfl, rfl, rfl, Nat.le_refl _, fun _ _ => rfl⟩
                    have HLz : Hid (LS w wz w1.heap.size g (12 + j + 1) (S2.free t) T10 [k]) := HL10.out.below hEz
                    have HOz : Hid (OwnT wz w2_.heap.size (.slice (some ⟨kg, 0, none⟩) kn kc) ts) := HO10.out.below hEz
                    have HBz : Hid (Blk wz w.heap.size #[.int .u64 v.num, .int .i64 v.node] 29) := HB10.out.below_ hEz
                    clear hwz hEz
                    go_wp2
                    go_roundw
                    case rel => exact ⟨j + 1, S2.free t, T10, by go_num, by omega, HLz.out.mono (by omega), (fun _ => HF.out.2), (fun e => by omega), HOz.out, HBz.out⟩
                    case measure => simp [intOf]; omega
                  · have hdn : ts.drop (j + 1) = [] := List.drop_eq_nil_of_le (by rw [HKN.out]; omega)
                    have HF : Hid (freeG t k (S2.has k) (S2.waits k) = [⟨v.num, v.node, k, 2⟩] ∧ (S2.free t).has k = [w2 v]) := by
                      have h1 := HRD.out
                      have h2 := HND.out.2
                      rw [hdn] at h1 h2
                      exact h1.freed_last h2
                    obtain ⟨gg, gc, eg⟩ : ∃ g c, gv = .slice (some ⟨g, 0, none⟩) 1 c := by
                      rcases HOG.out.form with ⟨_, e⟩ | ⟨g, c, e, _⟩
                      · rw [HF.out.1] at e; cases e
                      · rw [HF.out.1] at e; exact ⟨g, c, e⟩
                    subst eg
                    have HOG2 : Hid (OwnG w10 w9.heap.size (.slice (some ⟨gg, 0, none⟩) 1 gc) [⟨v.num, v.node, k, 2⟩]) := by have := HOG.out; rw [HF.out.1] at this; exact this
                    obtain ⟨g0, g1, g2, g3⟩ := HOG2.out.at_ (i := 0) (by simp)
                    simp only [Nat.zero_mul, Nat.zero_add, List.getElem_cons_zero] at g0 g1 g2 g3
                    have v0 : w10.cell? ⟨w.heap.size, 0, none⟩ = some (.int .u64 v.num) := HB10.out.cell 0
                    have v1 : w10.cell? ⟨w.heap.size, 1, none⟩ = some (.int .i64 v.node) := HB10.out.cell 1
                    have hl1 : ((j : Int) == (kn : Int) - 1) = true := by simp; omega
                    have HJ1 : Hid (j + 1 = kn) := by show _ = _; omega
                    clear hdn
                    go_upto_region 43 with fail
                    go_quiet (fail)
                    obtain ⟨wz, hwz⟩ : ∃ wz, wz = w10.drewN nq := ⟨_, rfl⟩
                    rw [← hwz]
                    have hEz : Ext w10 wz := by rw [hwz]; exact ⟨rfl, rfl, rfl, Nat.le_refl _, fun _ _ => rfl⟩
                    have HLz : Hid (LS w wz w1.heap.size g (12 + j + 1) (S2.free t) T10 [k]) := HL10.out.below hEz
                    have HOz : Hid (OwnT wz w2_.heap.size (.slice (some ⟨kg, 0, none⟩) kn kc) ts) := HO10.out.below hEz
                    have HBz : Hid (Blk wz w.heap.size #[.int .u64 v.num, .int .i64 v.node] 29) := HB10.out.below_ hEz
                    clear hwz hEz g0 g1 g2 g3 v0 v1
                    go_wp2
                    go_roundw
                    case rel => exact ⟨j + 1, S2.free t, T10, by go_num, by omega, HLz.out.mono (by omega), (fun e => by omega), (fun _ => HF.out.2), HOz.out, HBz.out⟩
                    case measure => simp [intOf]; omega
                · have HHK : Hid (S2.has k = [w2 v]) := HR8.out.2 (by omega)
                  have hj10 : 12 + j ≤ 9000 := by omega
                  have HH1 : Hid (Calls Try.prog 18 #[.pointer (some ⟨g, 0, none⟩), .string k] wr.drew fun e w' => ∃ rv, e = .returned rv ∧ OwnW w' wr.drew.heap.size rv [w2 v] ∧ Ext wr.drew w') := by
                    have h1 := hasT_any wr.drew (HL8.out.tt.below (Below.drew (Below.refl _ _))) k HVW.out.2 hj10
                    rw [HHK.out] at h1
                    exact h1
                  have HHT : Hid (∀ W, Ext wr.drew W → Calls Try.prog 18 #[.pointer (some ⟨g, 0, none⟩), .string k] W fun e w' => ∃ rv, e = .returned rv ∧ OwnW w' W.heap.size rv [w2 v] ∧ Ext W w') := fun W hW => by
                    have h1 := hasT_any W ((HL8.out.tt.below (Below.drew (Below.refl _ _))).below hW) k HVW.out.2 hj10
                    rw [HHK.out] at h1
                    exact h1
                  have HEV : Hid (Ext w wr.drew) := Below.drew HL8.out.ext
                  have HBV : Hid (Blk wr.drew w.heap.size #[.int .u64 v.num, .int .i64 v.node] 29) := HB8.out.drew
                  go_upto_region 46 with fail
                  clear hlj
                  haveI n1 := cls_ext wr.drew
                  refine wp_region_ext (by kernel_rfl) ?_
                  refine wpAnyH_seg (by kernel_rfl) (fun _ _ _ h => h) [0, 1] 14 _ _ _ (Ext.refl _) (by kernel_rfl) ?_
                  simp only [opsAt, List.getElem?_toArray, List.getElem?_cons_zero, List.getElem?_cons_succ, List.cons_append, List.nil_append]
                  repeat (go_big_quiet_step (fail))
                  refine wpQuiet_nil ?_
                  refine wpAnyH_callE (i := 2) (fuel := 13) 154 rfl (by kernel_rfl) rfl (Ext.refl _) (by kernel_rfl) (f := 18) (args := #[.pointer (some ⟨g, 0, none⟩), .string k]) (by kernel_rfl) HH1.out ?_
                  rintro e w9 ⟨v9, rfl, o9, hE9⟩
                  obtain ⟨a9, c9, e9⟩ : ∃ a c, v9 = .slice a 1 c := by obtain ⟨a, c, e, _⟩ := o9.row; exact ⟨a, c, e⟩
                  subst e9
                  refine ⟨_, rfl, hE9, ?_⟩
                  have HE9 : Hid (Ext w w9) := Ext.trans HEV.out hE9
                  have HB9 : Hid (Blk w9 w.heap.size #[.int .u64 v.num, .int .i64 v.node] 29) := HBV.out.below_ hE9
                  have HH2 : Hid (Calls _ _ _ _ _) := HHT.out w9 hE9
                  clear hE9 o9 n1 HH1 HHT
                  haveI n2 := cls_ext w9
                  have q0 := cellX (W0 := w9) (show w9.cell? ⟨w.heap.size, 0, none⟩ = some (.int .u64 v.num) from HB9.out.cell 0)
                  have q1 := cellX (W0 := w9) (show w9.cell? ⟨w.heap.size, 1, none⟩ = some (.int .i64 v.node) from HB9.out.cell 1)
                  simp only [Act.put, List.setIfInBounds_toArray, List.set_cons_succ, List.set_cons_zero]
                  refine wpAnyH_seg (by kernel_rfl) (fun _ _ _ h => h) [3, 4, 5, 6, 7, 11, 12] 6 _ _ _ (Ext.refl _) (by kernel_rfl) ?_
                  simp only [opsAt, List.getElem?_toArray, List.getElem?_cons_zero, List.getElem?_cons_succ, List.cons_append, List.nil_append]
                  repeat (go_big_quiet_step (fail))
                  refine wpQuiet_nil ?_
                  clear q0 q1
                  refine wpAnyH_callE (i := 8) (fuel := 5) 160 rfl (by kernel_rfl) rfl (Ext.refl _) (by kernel_rfl) (f := 18) (args := #[.pointer (some ⟨g, 0, none⟩), .string k]) (by kernel_rfl) HH2.out ?_
                  rintro e w10 ⟨v10, rfl, o10, hE10⟩
                  obtain ⟨g10, c10, e10⟩ : ∃ g c, v10 = .slice (some ⟨g, 0, none⟩) 1 c := by
                    rcases o10.form with ⟨_, e⟩ | ⟨g, c, e, _⟩
                    · cases e
                    · exact ⟨g, c, e⟩
                  subst e10
                  obtain ⟨p0, p1, p2⟩ : w10.cell? ⟨g10, 0, none⟩ = some (.int .u64 v.num) ∧ w10.cell? ⟨g10, 1, none⟩ = some (.int .i64 v.node) ∧ w10.cell? ⟨g10, 2, none⟩ = some (.int .i64 2) := by
                    obtain ⟨ao, c', e, _, _, _, hr⟩ := o10.row
                    injection e with e1 e2 e3
                    have := hr.2 ⟨g10, 0, none⟩ e1.symm 0 (by simp)
                    simp only [add0, Nat.zero_mul, Nat.zero_add] at this
                    exact this
                  refine ⟨_, rfl, hE10, ?_⟩
                  have HE10 : Hid (Ext w w10) := Ext.trans HE9.out hE10
                  clear hE10 o10 n2 HH2
                  haveI n3 := cls_ext w10
                  have q0 := cellX (W0 := w10) p0
                  have q1 := cellX (W0 := w10) p1
                  have q2 := cellX (W0 := w10) p2
                  clear p0 p1 p2
                  simp only [Act.put, List.setIfInBounds_toArray, List.set_cons_succ, List.set_cons_zero]
                  refine wpAnyH_seg (by kernel_rfl) (fun _ _ _ h => h) [9, 10, 13, 14, 15] 0 _ _ _ (Ext.refl _) (by kernel_rfl) ?_
                  simp only [opsAt, List.getElem?_toArray, List.getElem?_cons_zero, List.getElem?_cons_succ, List.cons_append, List.nil_append]
                  repeat (go_big_quiet_step (fail))
                  refine wpQuiet_nil ?_
                  refine wpAnyH_done (by kernel_rfl) (NoPanic.normal ?_) 0
                  clear n3 q0 q1 q2
                  go_wp2
                  go_ret
                  exact ⟨rfl, HE10.out⟩
end Go.Proofs.Ytkgecljoodofeaa
