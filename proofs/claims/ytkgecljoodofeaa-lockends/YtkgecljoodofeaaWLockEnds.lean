/- LockEnds: the walk of the law's Go text. -/
import Derived.Test.YtkgecljoodofeaaLkKt
import Derived.Test.YtkgecljoodofeaaLkQ
set_option linter.unusedSimpArgs false
set_option linter.unusedVariables false
namespace Go.Proofs.Ytkgecljoodofeaa
open Go.ChangeShapes Go.WideShapes Go.ChangeAt Go.RowKit

set_option maxRecDepth 100000 in
set_option maxHeartbeats 8000000 in
theorem walk_LockEnds (a : Option Addr) (len cap : Nat) (os : List OpL) (x0 y0 : Int) (w : World) (_w0 : IsOpsL w a len os) (_w1 : (Lit.int .u64 x0).wf = true ∧ (Lit.int .i64 y0).wf = true) :
    Calls Try.prog 5 #[.slice a len cap, .agg #[.int .u64 x0, .int .i64 y0]] w fun e w' => e = .returned (.bool true) ∧ Below w.heap.size w w' := by
  have HOP : Hid (IsOpsL w a len os) := _w0
  obtain ⟨u, hu⟩ : ∃ u : Td, u = ⟨x0, y0⟩ := ⟨_, rfl⟩
  have HUW : Hid (u.wf) := by rw [hu]; exact _w1
  obtain rfl : u.num = x0 := by rw [hu]
  obtain rfl : u.node = y0 := by rw [hu]
  have hlm : (len : Int) ≤ 9223372036854775807 := by have := _w0.2.1; unfold maxLen at this; omega
  clear _w0 _w1 hu
  obtain ⟨w0, hw0⟩ : ∃ w0, w0 = w.alloc (.cells #[.int .u64 u.num, .int .i64 u.node] 29) := ⟨_, rfl⟩
  have HE0 : Hid (Ext w w0) := by rw [hw0]; exact ext_one _
  have HB0 : Hid (Blk w0 w.heap.size #[.int .u64 u.num, .int .i64 u.node] 29) := by rw [hw0]; exact Blk.new _ _ _
  go_enter Try.func5, Try.ntmps5
  go_upto_region 1 with fail
  rw [← hw0]
  clear hw0
  go_wp2_with fail
  refine (head12_any _).mono ?_
  rintro e w1 ⟨rfl, h1⟩
  have HE1 : Hid (Ext w w1) := Ext.trans HE0.out h1
  have HB1 : Hid (Blk w1 w.heap.size #[.int .u64 u.num, .int .i64 u.node] 29) := HB0.out.below_ h1
  clear h1 HE0 HB0
  go_wp2_with fail
  refine (newT_any w1).mono ?_
  rintro e w2 ⟨g, T0, rfl, hT, hx⟩
  have HL2 : Hid (LS w w2 w1.heap.size g 0 say0 T0 []) := LS.new HE1.out hT hx
  have HB2 : Hid (Blk w2 w.heap.size #[.int .u64 u.num, .int .i64 u.node] 29) := HB1.out.below_ hx
  clear hT hx
  obtain ⟨w3, hw3⟩ : ∃ w3, w3 = w2.alloc (.cells #[] 29) := ⟨_, rfl⟩
  have HL3 : Hid (LS w w3 w1.heap.size g 0 say0 T0 []) := by rw [hw3]; exact HL2.out.below (ext_one _)
  have HK3 : Hid (OwnT w3 w2.heap.size (.slice (some ⟨w2.heap.size, 0, none⟩) 0 0) []) := by rw [hw3]; exact OwnT.madeT w2
  have HB3 : Hid (Blk w3 w.heap.size #[.int .u64 u.num, .int .i64 u.node] 29) := by rw [hw3]; exact HB2.out.alloc _
  have HZ2 : Hid (w.heap.size < w2.heap.size) := HB2.out.lt
  have HZ3 : Hid (w2.heap.size ≤ w3.heap.size) := by rw [hw3]; exact (ext_one (w := w2) _).size
  go_upto_region 6 with fail
  rw [← hw3]
  clear hw3
  go_loopw [6, 7] (fun kv vi wr => ∃ (i : Nat) (ts : List Td) (L : List ByteArray) (S : Say) (T : Tab), vi = .int .i64 (i : Int) ∧ i ≤ 40 ∧ (∃ a n c, kv = .slice a n c) ∧ OwnT wr w2.heap.size kv ts ∧ ts.length ≤ i ∧ L.length ≤ i ∧ (∀ t ∈ ts, t.wf) ∧ LS w wr w1.heap.size g i S T L ∧ HdS S ∧ Tids S (fun t => t ∈ ts) ∧ Blk wr w.heap.size #[.int .u64 u.num, .int .i64 u.node] 29 ∧ w2.heap.size ≤ wr.heap.size) (fun _ vi _ => 40 - (intOf vi).toNat)
  case atStart => exact ⟨0, [], [], say0, T0, rfl, Nat.zero_le _, ⟨_, _, _, rfl⟩, HK3.out, Nat.le_refl _, Nat.le_refl _, (fun q h => by cases h), HL3.out, HdS.zero, Tids.zero _, HB3.out, HZ3.out⟩
  case round =>
    obtain ⟨i, ts, L, S, T, rfl, hi, ⟨ka, kn, kc, rfl⟩, ho, hkl, hll, htw, hL, hhd, htd, hb, hz⟩ := hrel
    have HZ : Hid (w2.heap.size ≤ wr.heap.size) := hz
    have HO : Hid (OwnT wr w2.heap.size (.slice ka kn kc) ts) := ho
    have HL : Hid (LS w wr w1.heap.size g i S T L) := hL
    have HK4 : Hid (ts.length ≤ i ∧ L.length ≤ i ∧ ∀ t ∈ ts, t.wf) := ⟨hkl, hll, htw⟩
    have HHD : Hid (HdS S ∧ Tids S (fun t => t ∈ ts)) := ⟨hhd, htd⟩
    have HB : Hid (Blk wr w.heap.size #[.int .u64 u.num, .int .i64 u.node] 29) := hb
    clear ho hkl hll htw hL hhd htd hb hz
    by_cases hin : i < len ∧ i < 40
    · obtain ⟨hin1, hin2⟩ := hin
      have d1 : decide ((i : Int) < (len : Int)) = true := by simp; omega
      have d2 : decide ((i : Int) < 40) = true := by simp; omega
      have hio : i < os.length := by rw [HOP.out.1]; exact hin1
      obtain ⟨ad, had⟩ : ∃ ad, a = some ad := by
        cases a with
        | none => have := HOP.out.2.2.1 rfl; omega
        | some ad => exact ⟨ad, rfl⟩
      obtain ⟨q, hq⟩ : ∃ q, q = os[i] := ⟨_, rfl⟩
      have HQ : Hid (OpLAt w ad i q) := by rw [hq]; exact HOP.out.2.2.2 ad had i hio
      have HQW : Hid (q.t.wf ∧ q.key.size ≤ maxLen) := HQ.out.wf
      have HQR : Hid (OpLAt wr ad i q) := HQ.out.below HL.out.ext
      have k0 := HQR.out.c0
      have k1 := cell_on (by decide) HQR.out.c1
      have k2 := cell_on (by decide) HQR.out.c2
      have k3 := cell_on (by decide) HQR.out.c3
      have k4 := cell_on (by decide) HQR.out.c4
      obtain ⟨w4, hw4⟩ : ∃ w4, w4 = wr.alloc (.cells #[.int .i64 q.k, .int .u64 q.num, .int .i64 q.node, .string q.key, .int .i64 q.mode] 31) := ⟨_, rfl⟩
      have HE4 : Hid (Ext wr w4) := by rw [hw4]; exact ext_one _
      have HB4 : Hid (Blk w4 wr.heap.size #[.int .i64 q.k, .int .u64 q.num, .int .i64 q.node, .string q.key, .int .i64 q.mode] 31) := by rw [hw4]; exact Blk.new _ _ _
      have HL4 : Hid (LS w w4 w1.heap.size g i S T L) := HL.out.below HE4.out
      have HO4 : Hid (OwnT w4 w2.heap.size (.slice ka kn kc) ts) := HO.out.below HE4.out
      have HC4 : Hid (Blk w4 w.heap.size #[.int .u64 u.num, .int .i64 u.node] 29) := HB.out.below_ HE4.out
      have hii : (i : Int) + 1 ≤ 20000 := by omega
      have hkm : (q.key.size : Int) ≤ 9223372036854775807 := by have := HQW.out.2; unfold maxLen at this; omega
      subst had
      clear hq
      go_upto_region 9 with fail
      rw [← hw4]
      clear hw4 k0 k1 k2 k3 k4 HQR HQ
      have c0 : w4.cell? ⟨wr.heap.size, 0, none⟩ = some (.int .i64 q.k) := HB4.out.cell 0
      have c1 : w4.cell? ⟨wr.heap.size, 1, none⟩ = some (.int .u64 q.num) := HB4.out.cell 1
      have c2 : w4.cell? ⟨wr.heap.size, 2, none⟩ = some (.int .i64 q.node) := HB4.out.cell 2
      have c3 : w4.cell? ⟨wr.heap.size, 3, none⟩ = some (.string q.key) := HB4.out.cell 3
      have c4 : w4.cell? ⟨wr.heap.size, 4, none⟩ = some (.int .i64 q.mode) := HB4.out.cell 4
      by_cases h40 : 40 < q.key.size
      · have d3 : decide ((40 : Int) < (q.key.size : Int)) = true := by simp; omega
        go_wp2
        go_roundw
        case rel => exact ⟨i + 1, ts, L, S, T, by go_num, by omega, ⟨_, _, _, rfl⟩, HO4.out, by have := HK4.out.1; omega, by have := HK4.out.2.1; omega, HK4.out.2.2, HL4.out.mono (by omega), HHD.out.1, HHD.out.2, HC4.out, Nat.le_trans HZ.out HE4.out.size⟩
        case measure => simp [intOf]; omega
      · have d3 : decide ((40 : Int) < (q.key.size : Int)) = false := by simp; omega
        go_wp2_with fail
        refine (askT_any HL4.out.tt q.t q.mode q.key HQW.out.1 HQW.out.2 (by omega)).mono ?_
        rintro e w5 ⟨rfl, T5, hT, hs⟩
        have HZ5 : Hid (w2.heap.size ≤ w5.heap.size) := Nat.le_trans HZ.out (Nat.le_trans HE4.out.size hs.chg.size)
        have HL5 : Hid (LS w w5 w1.heap.size g (i + 1) (S.askM q.t q.mode q.key) T5 (L ++ [q.key])) := HL4.out.askd hs hT (by simp) (fun x hx => by simp [hx])
        have HO5 : Hid (OwnT w5 w2.heap.size (.slice ka kn kc) ts) := HL4.out.keepT hs HO4.out
        have HB5 : Hid (Blk w5 wr.heap.size #[.int .i64 q.k, .int .u64 q.num, .int .i64 q.node, .string q.key, .int .i64 q.mode] 31) := HL4.out.keepB hs HB4.out (by decide) (by decide)
        have HC5 : Hid (Blk w5 w.heap.size #[.int .u64 u.num, .int .i64 u.node] 29) := HL4.out.keepB hs HC4.out (by decide) (by decide)
        have HHD5 : Hid (HdS (S.askM q.t q.mode q.key) ∧ Tids (S.askM q.t q.mode q.key) (fun t => t ∈ ts ++ [q.t])) := ⟨HHD.out.1.askM HL4.out.good HL4.out.tt.modes q.t q.mode q.key, (HHD.out.2.mono fun t ht => List.mem_append.2 (.inl ht)).askM (by simp) q.mode q.key⟩
        clear hT hs c0 c1 c2 c3 c4
        have c1 : w5.cell? ⟨wr.heap.size, 1, none⟩ = some (.int .u64 q.num) := HB5.out.cell 1
        have c2 : w5.cell? ⟨wr.heap.size, 2, none⟩ = some (.int .i64 q.node) := HB5.out.cell 2
        have HOA : Hid (OwnT (w5.alloc (.cells #[.int .u64 q.num, .int .i64 q.node] 29)) w2.heap.size (.slice ka kn kc) ts) := HO5.out.below (ext_one _)
        have HBA : Hid (Blk (w5.alloc (.cells #[.int .u64 q.num, .int .i64 q.node] 29)) w5.heap.size #[.int .u64 q.t.num, .int .i64 q.t.node] 29) := Blk.new _ _ _
        have HCA : Hid (Blk (w5.alloc (.cells #[.int .u64 q.num, .int .i64 q.node] 29)) w.heap.size #[.int .u64 u.num, .int .i64 u.node] 29) := HC5.out.alloc _
        have HZA : Hid (w2.heap.size ≤ (w5.alloc (.cells #[.int .u64 q.num, .int .i64 q.node] 29)).heap.size) := Nat.le_trans HZ5.out (ext_one (w := w5) _).size
        go_wp2_with (at_builtin; refine wpList_pushT _ rfl _ _ rfl w2.heap.size _ ts q.t w5.heap.size HOA.out rfl HBA.out rfl (by have := HK4.out.1; omega) HZA.out ?_)
        intro v6 w6 ho6 hg6 _
        have HO6 : Hid (OwnT w6 w2.heap.size v6 (ts ++ [q.t])) := ho6
        have HL6 : Hid (LS w w6 w1.heap.size g (i + 1) (S.askM q.t q.mode q.key) T5 (L ++ [q.key])) := HL5.out.pushT (ext_one _) HOA.out (Nat.le_of_lt HZ2.out) hg6
        have HC6 : Hid (Blk w6 w.heap.size #[.int .u64 u.num, .int .i64 u.node] 29) := HCA.out.of (hg6.block _ HCA.out.lt (fun e => by have := (HOA.out.blk e.symm).1; have := HZ2.out; omega))
        have HZ6 : Hid (w2.heap.size ≤ w6.heap.size) := Nat.le_trans HZA.out hg6.size
        obtain ⟨a6, n6, c6, e6⟩ : ∃ a n c, v6 = .slice a n c := by obtain ⟨a, c, e, _⟩ := ho6.form; exact ⟨a, _, c, e⟩
        subst e6
        clear ho6 hg6 c1 c2
        go_wp2
        go_roundw
        case rel =>
          refine ⟨i + 1, ts ++ [q.t], L ++ [q.key], _, T5, by go_num, by omega, ⟨_, _, _, rfl⟩, HO6.out, by have := HK4.out.1; simp; omega, by have := HK4.out.2.1; simp; omega, fun x hx => ?_, HL6.out.mono (by omega), HHD5.out.1, HHD5.out.2, HC6.out, HZ6.out⟩
          rcases List.mem_append.1 hx with h | h
          · exact HK4.out.2.2 x h
          · rw [List.mem_singleton.1 h]; exact HQW.out.1
        case measure => simp [intOf]; omega
    · generalize wr = V at HO HL HZ HB ⊢
      obtain ⟨kao, kc2, ek, _, _, _⟩ := HO.out.form
      have hkn : kn = ts.length := by injection ek
      have HKN : Hid (ts.length = kn) := hkn.symm
      have hk9 : kn ≤ 40 := by have := HK4.out.1; omega
      clear ek hkn
      by_cases hin1 : i < len
      · have d1 : decide ((i : Int) < (len : Int)) = true := by simp; omega
        have d2 : decide ((i : Int) < 40) = false := by simp; omega
        go_wp2_with fail
        go_loopw [51] (fun vj wx => ∃ (j : Nat) (S2 : Say) (T2 : Tab), vj = .int .i64 (j : Int) ∧ j ≤ kn ∧ LS w wx w1.heap.size g (40 + 40 * j) S2 T2 L ∧ HdS S2 ∧ Tids S2 (fun t => t ∈ ts ∧ (t = u ∨ t ∉ ts.take j)) ∧ OwnT wx w2.heap.size (.slice ka kn kc) ts ∧ Blk wx w.heap.size #[.int .u64 u.num, .int .i64 u.node] 29) (fun vj _ => kn - (intOf vj).toNat)
        case atStart => exact ⟨0, S, T, rfl, Nat.zero_le _, HL.out.mono (by omega), HHD.out.1, HHD.out.2.mono (fun t ht => ⟨ht, .inr (by rw [List.take_zero]; exact List.not_mem_nil)⟩), HO.out, HB.out⟩
        case round =>
          obtain ⟨j, S2, T2, rfl, hj, hL, hhd, htd, ho, hb⟩ := hrel
          have HL2 : Hid (LS w wr w1.heap.size g (40 + 40 * j) S2 T2 L) := hL
          have HH2 : Hid (HdS S2 ∧ Tids S2 (fun t => t ∈ ts ∧ (t = u ∨ t ∉ ts.take j))) := ⟨hhd, htd⟩
          have HO2 : Hid (OwnT wr w2.heap.size (.slice ka kn kc) ts) := ho
          have HB2 : Hid (Blk wr w.heap.size #[.int .u64 u.num, .int .i64 u.node] 29) := hb
          clear hL hhd htd ho hb
          by_cases hlj : j < kn
          · have hjl : j < ts.length := by rw [HKN.out]; exact hlj
            obtain ⟨t, ht⟩ : ∃ t, t = ts[j] := ⟨_, rfl⟩
            have HTJ : Hid (t = ts[j]) := ht
            have HTK : Hid (ts.take (j + 1) = ts.take j ++ [t]) := by rw [ht]; exact List.take_succ_eq_append_getElem hjl
            have HTW : Hid (t.wf) := HK4.out.2.2 t (by rw [ht]; exact List.getElem_mem _)
            obtain ⟨kg, hkg, k0, k1⟩ : ∃ kg, ka = some ⟨kg, 0, none⟩ ∧ wr.cell? ⟨kg, j * 2, none⟩ = some (.int .u64 t.num) ∧ wr.cell? ⟨kg, j * 2 + 1, none⟩ = some (.int .i64 t.node) := by
              obtain ⟨ao, c, e, _, _, h3⟩ := HO2.out.form
              injection e with e1
              obtain ⟨g', e2, e3, e4⟩ := h3 j hjl
              rw [ht]
              exact ⟨g', by rw [e1, e2], e3, e4⟩
            subst hkg
            obtain ⟨w4, hw4⟩ : ∃ w4, w4 = wr.alloc (.cells #[.int .u64 t.num, .int .i64 t.node] 29) := ⟨_, rfl⟩
            have HE4 : Hid (Ext wr w4) := by rw [hw4]; exact ext_one _
            have HB4 : Hid (Blk w4 wr.heap.size #[.int .u64 t.num, .int .i64 t.node] 29) := by rw [hw4]; exact Blk.new _ _ _
            have HL4 : Hid (LS w w4 w1.heap.size g (40 + 40 * j) S2 T2 L) := HL2.out.below HE4.out
            have HO4 : Hid (OwnT w4 w2.heap.size (.slice (some ⟨kg, 0, none⟩) kn kc) ts) := HO2.out.below HE4.out
            have HC4 : Hid (Blk w4 w.heap.size #[.int .u64 u.num, .int .i64 u.node] 29) := HB2.out.below_ HE4.out
            have hjj : (j : Int) + 1 ≤ 20000 := by omega
            clear ht
            go_upto_region 15 with fail
            rw [← hw4]
            clear hw4 k0 k1
            have c0 : w4.cell? ⟨wr.heap.size, 0, none⟩ = some (.int .u64 t.num) := HB4.out.cell 0
            have c1 : w4.cell? ⟨wr.heap.size, 1, none⟩ = some (.int .i64 t.node) := HB4.out.cell 1
            have u0 : w4.cell? ⟨w.heap.size, 0, none⟩ = some (.int .u64 u.num) := HC4.out.cell 0
            have u1 : w4.cell? ⟨w.heap.size, 1, none⟩ = some (.int .i64 u.node) := HC4.out.cell 1
            have HFR : Hid (Calls Try.prog 16 #[.pointer (some ⟨g, 0, none⟩), .agg #[.int .u64 t.num, .int .i64 t.node]] w4 _) := freeT_any (c := 40) w4 HL4.out.tt t HTW.out (by omega) HL4.out.bsize L (fun x hx => HL4.out.inl.at_ hx) (by have := HK4.out.2.1; omega)
            by_cases htu : t = u
            · have HTU : Hid (t = u) := htu
              have e0 : t.num = u.num := by rw [htu]
              have e1 : t.node = u.node := by rw [htu]
              rw [e0] at c0
              rw [e1] at c1
              clear e0 e1 htu HFR
              go_wp2
              go_roundw
              case rel =>
                refine ⟨j + 1, S2, T2, by go_num, hlj, HL4.out.mono (by omega), HH2.out.1, HH2.out.2.mono fun x hx => ⟨hx.1, ?_⟩, HO4.out, HC4.out⟩
                rcases hx.2 with h | h
                · exact .inl h
                · by_cases hxu : x = u
                  · exact .inl hxu
                  · refine .inr fun hm => ?_
                    rw [HTK.out] at hm
                    rcases List.mem_append.1 hm with h2 | h2
                    · exact h h2
                    · exact hxu ((List.mem_singleton.1 h2).trans HTU.out)
              case measure => simp [intOf]; omega
            · have HTU : Hid (t ≠ u) := htu
              have htc : (t.num = u.num ∧ t.node ≠ u.node) ∨ t.num ≠ u.num := by
                by_cases a1 : t.num = u.num
                · exact .inl ⟨a1, fun a2 => htu (Td.ext' a1 a2)⟩
                · exact .inr a1
              clear htu
              rcases htc with ⟨a1, a2⟩ | a1
              · have b1 : (t.node == u.node) = false := beq_eq_false_iff_ne.2 a2
                rw [a1] at c0 HFR
                clear a1 a2
                go_wp2_with fail
                refine HFR.out.mono ?_
                rintro e w5 ⟨v, fs, T5, rfl, _, _, _, hT, hs⟩
                have HL5 : Hid (LS w w5 w1.heap.size g (40 + 40 * j + 40) (S2.free t) T5 L) := HL4.out.freed hs hT
                have HO5 : Hid (OwnT w5 w2.heap.size (.slice (some ⟨kg, 0, none⟩) kn kc) ts) := HL4.out.keepT hs HO4.out
                have HC5 : Hid (Blk w5 w.heap.size #[.int .u64 u.num, .int .i64 u.node] 29) := HL4.out.keepB hs HC4.out (by decide) (by decide)
                clear hT hs c0 c1 u0 u1 HFR
                go_wp2
                go_roundw
                case rel =>
                  refine ⟨j + 1, S2.free t, T5, by go_num, hlj, HL5.out.mono (by omega), HH2.out.1.free t, (HH2.out.2.free t).mono fun x hx => ⟨hx.1.1, ?_⟩, HO5.out, HC5.out⟩
                  rcases hx.1.2 with h | h
                  · exact .inl h
                  · refine .inr fun hm => ?_
                    rw [HTK.out] at hm
                    rcases List.mem_append.1 hm with h2 | h2
                    · exact h h2
                    · exact hx.2 (List.mem_singleton.1 h2)
                case measure => simp [intOf]; omega
              · have b1 : (t.num == u.num) = false := beq_eq_false_iff_ne.2 a1
                clear a1
                go_wp2_with fail
                refine HFR.out.mono ?_
                rintro e w5 ⟨v, fs, T5, rfl, _, _, _, hT, hs⟩
                have HL5 : Hid (LS w w5 w1.heap.size g (40 + 40 * j + 40) (S2.free t) T5 L) := HL4.out.freed hs hT
                have HO5 : Hid (OwnT w5 w2.heap.size (.slice (some ⟨kg, 0, none⟩) kn kc) ts) := HL4.out.keepT hs HO4.out
                have HC5 : Hid (Blk w5 w.heap.size #[.int .u64 u.num, .int .i64 u.node] 29) := HL4.out.keepB hs HC4.out (by decide) (by decide)
                clear hT hs c0 c1 u0 u1 HFR
                go_wp2
                go_roundw
                case rel =>
                  refine ⟨j + 1, S2.free t, T5, by go_num, hlj, HL5.out.mono (by omega), HH2.out.1.free t, (HH2.out.2.free t).mono fun x hx => ⟨hx.1.1, ?_⟩, HO5.out, HC5.out⟩
                  rcases hx.1.2 with h | h
                  · exact .inl h
                  · refine .inr fun hm => ?_
                    rw [HTK.out] at hm
                    rcases List.mem_append.1 hm with h2 | h2
                    · exact h h2
                    · exact hx.2 (List.mem_singleton.1 h2)
                case measure => simp [intOf]; omega
          · generalize wr = U at HL2 HO2 HB2 ⊢
            have HJN : Hid (Tids S2 (fun t => t = u)) := HH2.out.2.mono fun t ht => by
              rcases ht.2 with h | h
              · exact h
              · exact absurd (by rw [List.take_of_length_le (by rw [HKN.out]; omega)]; exact ht.1) h
            have HWN : Hid (∀ k, S2.waits k = []) := HH2.out.1.alone HJN.out
            have HNN : Hid (40 + 40 * j ≤ 2000) := by show _ ≤ _; omega
            go_wp2_with fail
            go_loopw [11] (fun vp wx => ∃ p : Nat, vp = .int .i64 (p : Int) ∧ p ≤ 40 ∧ Ext U wx) (fun vp _ => 40 - (intOf vp).toNat)
            case atStart => exact ⟨0, rfl, Nat.zero_le _, Ext.refl _⟩
            case round =>
              obtain ⟨p, rfl, hp, hE⟩ := hrel
              generalize wr = X at hE ⊢
              have HEX : Hid (Ext U X) := hE
              have HLX : Hid (LS w X w1.heap.size g (40 + 40 * j) S2 T2 L) := HL2.out.below hE
              have HBX : Hid (Blk X w.heap.size #[.int .u64 u.num, .int .i64 u.node] 29) := HB2.out.below_ hE
              clear hE
              by_cases hpn : p < len ∧ p < 40
              · obtain ⟨hpn1, hpn2⟩ := hpn
                have d3 : decide ((p : Int) < (len : Int)) = true := by simp; omega
                have d4 : decide ((p : Int) < 40) = true := by simp; omega
                have hpo : p < os.length := by rw [HOP.out.1]; exact hpn1
                obtain ⟨ad, had⟩ : ∃ ad, a = some ad := by
                  cases a with
                  | none => have := HOP.out.2.2.1 rfl; omega
                  | some ad => exact ⟨ad, rfl⟩
                obtain ⟨q, hq⟩ : ∃ q, q = os[p] := ⟨_, rfl⟩
                have HQ : Hid (OpLAt w ad p q) := by rw [hq]; exact HOP.out.2.2.2 ad had p hpo
                have HQW : Hid (q.t.wf ∧ q.key.size ≤ maxLen) := HQ.out.wf
                have k3 := cell_on (by decide) (HQ.out.below HLX.out.ext).c3
                have hpp : (p : Int) + 1 ≤ 20000 := by omega
                have hqm : (q.key.size : Int) ≤ 9223372036854775807 := by have := HQW.out.2; unfold maxLen at this; omega
                subst had
                clear hq
                by_cases h40 : 40 < q.key.size
                · have d5 : decide ((40 : Int) < (q.key.size : Int)) = true := by simp; omega
                  go_wp2
                  go_roundw
                  case rel => exact ⟨p + 1, by go_num, hpn2, HEX.out⟩
                  case measure => simp [intOf]; omega
                · have d5 : decide ((40 : Int) < (q.key.size : Int)) = false := by simp; omega
                  go_wp2_with fail
                  refine (hasT_any X HLX.out.tt q.key HQW.out.2 (by have := HNN.out; omega)).mono ?_
                  rintro e w5 ⟨v5, rfl, o5, h5⟩
                  have HO5 : Hid (OwnW w5 X.heap.size v5 (S2.has q.key)) := o5
                  have HE5 : Hid (Ext X w5) := h5
                  have HL5 : Hid (LS w w5 w1.heap.size g (40 + 40 * j) S2 T2 L) := HLX.out.below h5
                  have HB5 : Hid (Blk w5 w.heap.size #[.int .u64 u.num, .int .i64 u.node] 29) := HBX.out.below_ h5
                  obtain ⟨hs, hhs⟩ : ∃ hs, hs = S2.has q.key := ⟨_, rfl⟩
                  have HHS : Hid (∀ x ∈ hs, x.t = u) := fun x hx => HJN.out q.key x (.inl (by rw [← hhs]; exact hx))
                  rw [← hhs] at HO5
                  obtain ⟨a5, n5, c5, e5, hn5⟩ : ∃ a n c, v5 = .slice a n c ∧ hs.length = n := by obtain ⟨a, c, e, _⟩ := HO5.out.row; exact ⟨a, _, c, e, rfl⟩
                  have HN5 : Hid (hs.length = n5) := hn5
                  have hn59 : n5 ≤ 10000 := by
                    have h1 := HL5.out.tt.inv.len q.key
                    have h2 := HL5.out.tt.n
                    have h3 := HNN.out
                    rw [← hn5, hhs, HL5.out.tt.has]
                    omega
                  subst e5
                  clear o5 h5 hhs hn5 k3
                  go_wp2_with fail
                  go_loopw [87] (fun vr wy => ∃ r : Nat, vr = .int .i64 (r : Int) ∧ r ≤ n5 ∧ Ext w5 wy) (fun vr _ => n5 - (intOf vr).toNat)
                  case atStart => exact ⟨0, rfl, Nat.zero_le _, Ext.refl _⟩
                  case round =>
                    obtain ⟨r, rfl, hr, hE⟩ := hrel
                    have HEY : Hid (Ext w5 wr) := hE
                    clear hE
                    by_cases hlr : r < n5
                    · have hrl : r < hs.length := by rw [HN5.out]; exact hlr
                      obtain ⟨bd, e2, j0, j1, j2⟩ := ((HO5.out.below HEY.out).row).cell3 rfl hrl
                      subst e2
                      have hxu : (hs[r]).t = u := HHS.out _ (List.getElem_mem _)
                      have e0 : (hs[r]).num = u.num := congrArg Td.num hxu
                      have e1 : (hs[r]).node = u.node := congrArg Td.node hxu
                      rw [e0] at j0
                      rw [e1] at j1
                      obtain ⟨md, hmd⟩ : ∃ md, md = (hs[r]).mode := ⟨_, rfl⟩
                      rw [← hmd] at j2
                      clear e0 e1 hxu hmd
                      obtain ⟨w7, hw7⟩ : ∃ w7, w7 = wr.alloc (.cells #[.int .u64 u.num, .int .i64 u.node, .int .i64 md] 55) := ⟨_, rfl⟩
                      have HE7 : Hid (Ext wr w7) := by rw [hw7]; exact ext_one _
                      have HB7 : Hid (Blk w7 wr.heap.size #[.int .u64 u.num, .int .i64 u.node, .int .i64 md] 55) := by rw [hw7]; exact Blk.new _ _ _
                      have HEY7 : Hid (Ext w5 w7) := Ext.trans HEY.out HE7.out
                      have hrr : (r : Int) + 1 ≤ 20000 := by omega
                      go_upto_region 25 with fail
                      rw [← hw7]
                      clear hw7 j0 j1 j2
                      have c0 : w7.cell? ⟨wr.heap.size, 0, none⟩ = some (.int .u64 u.num) := HB7.out.cell 0
                      have c1 : w7.cell? ⟨wr.heap.size, 1, none⟩ = some (.int .i64 u.node) := HB7.out.cell 1
                      have u0 : w7.cell? ⟨w.heap.size, 0, none⟩ = some (.int .u64 u.num) := (HB5.out.below_ HEY7.out).cell 0
                      have u1 : w7.cell? ⟨w.heap.size, 1, none⟩ = some (.int .i64 u.node) := (HB5.out.below_ HEY7.out).cell 1
                      go_wp2
                      go_roundw
                      case rel => exact ⟨r + 1, by go_num, hlr, HEY7.out⟩
                      case measure => simp [intOf]; omega
                    · have HLY : Hid (LS w wr w1.heap.size g (40 + 40 * j) S2 T2 L) := HL5.out.below HEY.out
                      have HEU : Hid (Ext U wr) := Ext.trans HEX.out (Ext.trans HE5.out HEY.out)
                      have k3 := cell_on (by decide) (HQ.out.below HLY.out.ext).c3
                      go_wp2_with fail
                      refine (waitingT_any wr HLY.out.tt q.key HQW.out.2 (by have := HNN.out; omega)).mono ?_
                      rintro e w8 ⟨v8, rfl, o8, h8⟩
                      rw [HWN.out q.key] at o8
                      obtain ⟨a8, c8, e8⟩ : ∃ a c, v8 = .slice a 0 c := by obtain ⟨a, c, e, _⟩ := o8.row; exact ⟨a, c, e⟩
                      subst e8
                      have HEU8 : Hid (Ext U w8) := Ext.trans HEU.out h8
                      clear o8 h8 k3
                      go_wp2
                      go_roundw
                      case rel => exact ⟨p + 1, by go_num, hpn2, HEU8.out⟩
                      case measure => simp [intOf]; omega
              · have u0 : X.cell? ⟨w.heap.size, 0, none⟩ = some (.int .u64 u.num) := HBX.out.cell 0
                have u1 : X.cell? ⟨w.heap.size, 1, none⟩ = some (.int .i64 u.node) := HBX.out.cell 1
                by_cases hpn1 : p < len
                · have d3 : decide ((p : Int) < (len : Int)) = true := by simp; omega
                  have d4 : decide ((p : Int) < 40) = false := by simp; omega
                  go_wp2_with fail
                  refine (freeT_any (c := 40) X HLX.out.tt u HUW.out (by have := HNN.out; omega) HLX.out.bsize L (fun x hx => HLX.out.inl.at_ hx) (by have := HK4.out.2.1; omega)).mono ?_
                  rintro e w5 ⟨v, fs, T5, rfl, _, _, _, hT, hs⟩
                  have HL5 : Hid (LS w w5 w1.heap.size g (40 + 40 * j + 40) (S2.free u) T5 L) := HLX.out.freed hs hT
                  have HB5 : Hid (Blk w5 w.heap.size #[.int .u64 u.num, .int .i64 u.node] 29) := HLX.out.keepB hs HBX.out (by decide) (by decide)
                  have HEM : Hid (∀ k, (S2.free u).has k = []) := fun k => by
                    have h1 := HJN.out.free u
                    cases hq : (S2.free u).has k with
                    | nil => rfl
                    | cons x r =>
                      have h2 := h1 k x (.inl (by rw [hq]; exact List.mem_cons_self))
                      exact absurd h2.1 h2.2
                  clear hT hs u0 u1
                  have u0 : w5.cell? ⟨w.heap.size, 0, none⟩ = some (.int .u64 u.num) := HB5.out.cell 0
                  have u1 : w5.cell? ⟨w.heap.size, 1, none⟩ = some (.int .i64 u.node) := HB5.out.cell 1
                  go_wp2_with fail
                  refine (lenT_any w5 HL5.out.tt).mono ?_
                  rintro e w6 ⟨ls, rfl, rfl, _, hm, _⟩
                  have hls : ls = [] := by
                    cases ls with
                    | nil => rfl
                    | cons x r => exact absurd (HEM.out x) ((hm x).1 List.mem_cons_self)
                  subst hls
                  simp only [List.length_nil]
                  clear hm
                  go_wp2_with fail
                  refine (keysT_any w6 HL5.out.tt u HUW.out (by have := HNN.out; omega)).mono ?_
                  rintro e w7 ⟨v7, ks, rfl, _, hm, ho, hx⟩
                  have hks : ks = [] := by
                    cases ks with
                    | nil => rfl
                    | cons x r =>
                      have h1 := (hm x).1 List.mem_cons_self
                      rw [HEM.out x] at h1
                      cases h1
                  subst hks
                  obtain ⟨a7, c7, e7⟩ : ∃ a c, v7 = .slice a 0 c := by obtain ⟨a, c, e, _⟩ := ho.form; exact ⟨a, c, e⟩
                  subst e7
                  have HE7 : Hid (Ext w w7) := Ext.trans HL5.out.ext hx
                  clear hm ho hx u0 u1
                  go_wp2
                  go_ret
                  exact ⟨rfl, HE7.out⟩
                · have d3 : decide ((p : Int) < (len : Int)) = false := by simp; omega
                  go_wp2_with fail
                  refine (freeT_any (c := 40) X HLX.out.tt u HUW.out (by have := HNN.out; omega) HLX.out.bsize L (fun x hx => HLX.out.inl.at_ hx) (by have := HK4.out.2.1; omega)).mono ?_
                  rintro e w5 ⟨v, fs, T5, rfl, _, _, _, hT, hs⟩
                  have HL5 : Hid (LS w w5 w1.heap.size g (40 + 40 * j + 40) (S2.free u) T5 L) := HLX.out.freed hs hT
                  have HB5 : Hid (Blk w5 w.heap.size #[.int .u64 u.num, .int .i64 u.node] 29) := HLX.out.keepB hs HBX.out (by decide) (by decide)
                  have HEM : Hid (∀ k, (S2.free u).has k = []) := fun k => by
                    have h1 := HJN.out.free u
                    cases hq : (S2.free u).has k with
                    | nil => rfl
                    | cons x r =>
                      have h2 := h1 k x (.inl (by rw [hq]; exact List.mem_cons_self))
                      exact absurd h2.1 h2.2
                  clear hT hs u0 u1
                  have u0 : w5.cell? ⟨w.heap.size, 0, none⟩ = some (.int .u64 u.num) := HB5.out.cell 0
                  have u1 : w5.cell? ⟨w.heap.size, 1, none⟩ = some (.int .i64 u.node) := HB5.out.cell 1
                  go_wp2_with fail
                  refine (lenT_any w5 HL5.out.tt).mono ?_
                  rintro e w6 ⟨ls, rfl, rfl, _, hm, _⟩
                  have hls : ls = [] := by
                    cases ls with
                    | nil => rfl
                    | cons x r => exact absurd (HEM.out x) ((hm x).1 List.mem_cons_self)
                  subst hls
                  simp only [List.length_nil]
                  clear hm
                  go_wp2_with fail
                  refine (keysT_any w6 HL5.out.tt u HUW.out (by have := HNN.out; omega)).mono ?_
                  rintro e w7 ⟨v7, ks, rfl, _, hm, ho, hx⟩
                  have hks : ks = [] := by
                    cases ks with
                    | nil => rfl
                    | cons x r =>
                      have h1 := (hm x).1 List.mem_cons_self
                      rw [HEM.out x] at h1
                      cases h1
                  subst hks
                  obtain ⟨a7, c7, e7⟩ : ∃ a c, v7 = .slice a 0 c := by obtain ⟨a, c, e, _⟩ := ho.form; exact ⟨a, c, e⟩
                  subst e7
                  have HE7 : Hid (Ext w w7) := Ext.trans HL5.out.ext hx
                  clear hm ho hx u0 u1
                  go_wp2
                  go_ret
                  exact ⟨rfl, HE7.out⟩
      · have d1 : decide ((i : Int) < (len : Int)) = false := by simp; omega
        go_wp2_with fail
        go_loopw [51] (fun vj wx => ∃ (j : Nat) (S2 : Say) (T2 : Tab), vj = .int .i64 (j : Int) ∧ j ≤ kn ∧ LS w wx w1.heap.size g (40 + 40 * j) S2 T2 L ∧ HdS S2 ∧ Tids S2 (fun t => t ∈ ts ∧ (t = u ∨ t ∉ ts.take j)) ∧ OwnT wx w2.heap.size (.slice ka kn kc) ts ∧ Blk wx w.heap.size #[.int .u64 u.num, .int .i64 u.node] 29) (fun vj _ => kn - (intOf vj).toNat)
        case atStart => exact ⟨0, S, T, rfl, Nat.zero_le _, HL.out.mono (by omega), HHD.out.1, HHD.out.2.mono (fun t ht => ⟨ht, .inr (by rw [List.take_zero]; exact List.not_mem_nil)⟩), HO.out, HB.out⟩
        case round =>
          obtain ⟨j, S2, T2, rfl, hj, hL, hhd, htd, ho, hb⟩ := hrel
          have HL2 : Hid (LS w wr w1.heap.size g (40 + 40 * j) S2 T2 L) := hL
          have HH2 : Hid (HdS S2 ∧ Tids S2 (fun t => t ∈ ts ∧ (t = u ∨ t ∉ ts.take j))) := ⟨hhd, htd⟩
          have HO2 : Hid (OwnT wr w2.heap.size (.slice ka kn kc) ts) := ho
          have HB2 : Hid (Blk wr w.heap.size #[.int .u64 u.num, .int .i64 u.node] 29) := hb
          clear hL hhd htd ho hb
          by_cases hlj : j < kn
          · have hjl : j < ts.length := by rw [HKN.out]; exact hlj
            obtain ⟨t, ht⟩ : ∃ t, t = ts[j] := ⟨_, rfl⟩
            have HTJ : Hid (t = ts[j]) := ht
            have HTK : Hid (ts.take (j + 1) = ts.take j ++ [t]) := by rw [ht]; exact List.take_succ_eq_append_getElem hjl
            have HTW : Hid (t.wf) := HK4.out.2.2 t (by rw [ht]; exact List.getElem_mem _)
            obtain ⟨kg, hkg, k0, k1⟩ : ∃ kg, ka = some ⟨kg, 0, none⟩ ∧ wr.cell? ⟨kg, j * 2, none⟩ = some (.int .u64 t.num) ∧ wr.cell? ⟨kg, j * 2 + 1, none⟩ = some (.int .i64 t.node) := by
              obtain ⟨ao, c, e, _, _, h3⟩ := HO2.out.form
              injection e with e1
              obtain ⟨g', e2, e3, e4⟩ := h3 j hjl
              rw [ht]
              exact ⟨g', by rw [e1, e2], e3, e4⟩
            subst hkg
            obtain ⟨w4, hw4⟩ : ∃ w4, w4 = wr.alloc (.cells #[.int .u64 t.num, .int .i64 t.node] 29) := ⟨_, rfl⟩
            have HE4 : Hid (Ext wr w4) := by rw [hw4]; exact ext_one _
            have HB4 : Hid (Blk w4 wr.heap.size #[.int .u64 t.num, .int .i64 t.node] 29) := by rw [hw4]; exact Blk.new _ _ _
            have HL4 : Hid (LS w w4 w1.heap.size g (40 + 40 * j) S2 T2 L) := HL2.out.below HE4.out
            have HO4 : Hid (OwnT w4 w2.heap.size (.slice (some ⟨kg, 0, none⟩) kn kc) ts) := HO2.out.below HE4.out
            have HC4 : Hid (Blk w4 w.heap.size #[.int .u64 u.num, .int .i64 u.node] 29) := HB2.out.below_ HE4.out
            have hjj : (j : Int) + 1 ≤ 20000 := by omega
            clear ht
            go_upto_region 15 with fail
            rw [← hw4]
            clear hw4 k0 k1
            have c0 : w4.cell? ⟨wr.heap.size, 0, none⟩ = some (.int .u64 t.num) := HB4.out.cell 0
            have c1 : w4.cell? ⟨wr.heap.size, 1, none⟩ = some (.int .i64 t.node) := HB4.out.cell 1
            have u0 : w4.cell? ⟨w.heap.size, 0, none⟩ = some (.int .u64 u.num) := HC4.out.cell 0
            have u1 : w4.cell? ⟨w.heap.size, 1, none⟩ = some (.int .i64 u.node) := HC4.out.cell 1
            have HFR : Hid (Calls Try.prog 16 #[.pointer (some ⟨g, 0, none⟩), .agg #[.int .u64 t.num, .int .i64 t.node]] w4 _) := freeT_any (c := 40) w4 HL4.out.tt t HTW.out (by omega) HL4.out.bsize L (fun x hx => HL4.out.inl.at_ hx) (by have := HK4.out.2.1; omega)
            by_cases htu : t = u
            · have HTU : Hid (t = u) := htu
              have e0 : t.num = u.num := by rw [htu]
              have e1 : t.node = u.node := by rw [htu]
              rw [e0] at c0
              rw [e1] at c1
              clear e0 e1 htu HFR
              go_wp2
              go_roundw
              case rel =>
                refine ⟨j + 1, S2, T2, by go_num, hlj, HL4.out.mono (by omega), HH2.out.1, HH2.out.2.mono fun x hx => ⟨hx.1, ?_⟩, HO4.out, HC4.out⟩
                rcases hx.2 with h | h
                · exact .inl h
                · by_cases hxu : x = u
                  · exact .inl hxu
                  · refine .inr fun hm => ?_
                    rw [HTK.out] at hm
                    rcases List.mem_append.1 hm with h2 | h2
                    · exact h h2
                    · exact hxu ((List.mem_singleton.1 h2).trans HTU.out)
              case measure => simp [intOf]; omega
            · have HTU : Hid (t ≠ u) := htu
              have htc : (t.num = u.num ∧ t.node ≠ u.node) ∨ t.num ≠ u.num := by
                by_cases a1 : t.num = u.num
                · exact .inl ⟨a1, fun a2 => htu (Td.ext' a1 a2)⟩
                · exact .inr a1
              clear htu
              rcases htc with ⟨a1, a2⟩ | a1
              · have b1 : (t.node == u.node) = false := beq_eq_false_iff_ne.2 a2
                rw [a1] at c0 HFR
                clear a1 a2
                go_wp2_with fail
                refine HFR.out.mono ?_
                rintro e w5 ⟨v, fs, T5, rfl, _, _, _, hT, hs⟩
                have HL5 : Hid (LS w w5 w1.heap.size g (40 + 40 * j + 40) (S2.free t) T5 L) := HL4.out.freed hs hT
                have HO5 : Hid (OwnT w5 w2.heap.size (.slice (some ⟨kg, 0, none⟩) kn kc) ts) := HL4.out.keepT hs HO4.out
                have HC5 : Hid (Blk w5 w.heap.size #[.int .u64 u.num, .int .i64 u.node] 29) := HL4.out.keepB hs HC4.out (by decide) (by decide)
                clear hT hs c0 c1 u0 u1 HFR
                go_wp2
                go_roundw
                case rel =>
                  refine ⟨j + 1, S2.free t, T5, by go_num, hlj, HL5.out.mono (by omega), HH2.out.1.free t, (HH2.out.2.free t).mono fun x hx => ⟨hx.1.1, ?_⟩, HO5.out, HC5.out⟩
                  rcases hx.1.2 with h | h
                  · exact .inl h
                  · refine .inr fun hm => ?_
                    rw [HTK.out] at hm
                    rcases List.mem_append.1 hm with h2 | h2
                    · exact h h2
                    · exact hx.2 (List.mem_singleton.1 h2)
                case measure => simp [intOf]; omega
              · have b1 : (t.num == u.num) = false := beq_eq_false_iff_ne.2 a1
                clear a1
                go_wp2_with fail
                refine HFR.out.mono ?_
                rintro e w5 ⟨v, fs, T5, rfl, _, _, _, hT, hs⟩
                have HL5 : Hid (LS w w5 w1.heap.size g (40 + 40 * j + 40) (S2.free t) T5 L) := HL4.out.freed hs hT
                have HO5 : Hid (OwnT w5 w2.heap.size (.slice (some ⟨kg, 0, none⟩) kn kc) ts) := HL4.out.keepT hs HO4.out
                have HC5 : Hid (Blk w5 w.heap.size #[.int .u64 u.num, .int .i64 u.node] 29) := HL4.out.keepB hs HC4.out (by decide) (by decide)
                clear hT hs c0 c1 u0 u1 HFR
                go_wp2
                go_roundw
                case rel =>
                  refine ⟨j + 1, S2.free t, T5, by go_num, hlj, HL5.out.mono (by omega), HH2.out.1.free t, (HH2.out.2.free t).mono fun x hx => ⟨hx.1.1, ?_⟩, HO5.out, HC5.out⟩
                  rcases hx.1.2 with h | h
                  · exact .inl h
                  · refine .inr fun hm => ?_
                    rw [HTK.out] at hm
                    rcases List.mem_append.1 hm with h2 | h2
                    · exact h h2
                    · exact hx.2 (List.mem_singleton.1 h2)
                case measure => simp [intOf]; omega
          · generalize wr = U at HL2 HO2 HB2 ⊢
            have HJN : Hid (Tids S2 (fun t => t = u)) := HH2.out.2.mono fun t ht => by
              rcases ht.2 with h | h
              · exact h
              · exact absurd (by rw [List.take_of_length_le (by rw [HKN.out]; omega)]; exact ht.1) h
            have HWN : Hid (∀ k, S2.waits k = []) := HH2.out.1.alone HJN.out
            have HNN : Hid (40 + 40 * j ≤ 2000) := by show _ ≤ _; omega
            go_wp2_with fail
            go_loopw [11] (fun vp wx => ∃ p : Nat, vp = .int .i64 (p : Int) ∧ p ≤ 40 ∧ Ext U wx) (fun vp _ => 40 - (intOf vp).toNat)
            case atStart => exact ⟨0, rfl, Nat.zero_le _, Ext.refl _⟩
            case round =>
              obtain ⟨p, rfl, hp, hE⟩ := hrel
              generalize wr = X at hE ⊢
              have HEX : Hid (Ext U X) := hE
              have HLX : Hid (LS w X w1.heap.size g (40 + 40 * j) S2 T2 L) := HL2.out.below hE
              have HBX : Hid (Blk X w.heap.size #[.int .u64 u.num, .int .i64 u.node] 29) := HB2.out.below_ hE
              clear hE
              by_cases hpn : p < len ∧ p < 40
              · obtain ⟨hpn1, hpn2⟩ := hpn
                have d3 : decide ((p : Int) < (len : Int)) = true := by simp; omega
                have d4 : decide ((p : Int) < 40) = true := by simp; omega
                have hpo : p < os.length := by rw [HOP.out.1]; exact hpn1
                obtain ⟨ad, had⟩ : ∃ ad, a = some ad := by
                  cases a with
                  | none => have := HOP.out.2.2.1 rfl; omega
                  | some ad => exact ⟨ad, rfl⟩
                obtain ⟨q, hq⟩ : ∃ q, q = os[p] := ⟨_, rfl⟩
                have HQ : Hid (OpLAt w ad p q) := by rw [hq]; exact HOP.out.2.2.2 ad had p hpo
                have HQW : Hid (q.t.wf ∧ q.key.size ≤ maxLen) := HQ.out.wf
                have k3 := cell_on (by decide) (HQ.out.below HLX.out.ext).c3
                have hpp : (p : Int) + 1 ≤ 20000 := by omega
                have hqm : (q.key.size : Int) ≤ 9223372036854775807 := by have := HQW.out.2; unfold maxLen at this; omega
                subst had
                clear hq
                by_cases h40 : 40 < q.key.size
                · have d5 : decide ((40 : Int) < (q.key.size : Int)) = true := by simp; omega
                  go_wp2
                  go_roundw
                  case rel => exact ⟨p + 1, by go_num, hpn2, HEX.out⟩
                  case measure => simp [intOf]; omega
                · have d5 : decide ((40 : Int) < (q.key.size : Int)) = false := by simp; omega
                  go_wp2_with fail
                  refine (hasT_any X HLX.out.tt q.key HQW.out.2 (by have := HNN.out; omega)).mono ?_
                  rintro e w5 ⟨v5, rfl, o5, h5⟩
                  have HO5 : Hid (OwnW w5 X.heap.size v5 (S2.has q.key)) := o5
                  have HE5 : Hid (Ext X w5) := h5
                  have HL5 : Hid (LS w w5 w1.heap.size g (40 + 40 * j) S2 T2 L) := HLX.out.below h5
                  have HB5 : Hid (Blk w5 w.heap.size #[.int .u64 u.num, .int .i64 u.node] 29) := HBX.out.below_ h5
                  obtain ⟨hs, hhs⟩ : ∃ hs, hs = S2.has q.key := ⟨_, rfl⟩
                  have HHS : Hid (∀ x ∈ hs, x.t = u) := fun x hx => HJN.out q.key x (.inl (by rw [← hhs]; exact hx))
                  rw [← hhs] at HO5
                  obtain ⟨a5, n5, c5, e5, hn5⟩ : ∃ a n c, v5 = .slice a n c ∧ hs.length = n := by obtain ⟨a, c, e, _⟩ := HO5.out.row; exact ⟨a, _, c, e, rfl⟩
                  have HN5 : Hid (hs.length = n5) := hn5
                  have hn59 : n5 ≤ 10000 := by
                    have h1 := HL5.out.tt.inv.len q.key
                    have h2 := HL5.out.tt.n
                    have h3 := HNN.out
                    rw [← hn5, hhs, HL5.out.tt.has]
                    omega
                  subst e5
                  clear o5 h5 hhs hn5 k3
                  go_wp2_with fail
                  go_loopw [87] (fun vr wy => ∃ r : Nat, vr = .int .i64 (r : Int) ∧ r ≤ n5 ∧ Ext w5 wy) (fun vr _ => n5 - (intOf vr).toNat)
                  case atStart => exact ⟨0, rfl, Nat.zero_le _, Ext.refl _⟩
                  case round =>
                    obtain ⟨r, rfl, hr, hE⟩ := hrel
                    have HEY : Hid (Ext w5 wr) := hE
                    clear hE
                    by_cases hlr : r < n5
                    · have hrl : r < hs.length := by rw [HN5.out]; exact hlr
                      obtain ⟨bd, e2, j0, j1, j2⟩ := ((HO5.out.below HEY.out).row).cell3 rfl hrl
                      subst e2
                      have hxu : (hs[r]).t = u := HHS.out _ (List.getElem_mem _)
                      have e0 : (hs[r]).num = u.num := congrArg Td.num hxu
                      have e1 : (hs[r]).node = u.node := congrArg Td.node hxu
                      rw [e0] at j0
                      rw [e1] at j1
                      obtain ⟨md, hmd⟩ : ∃ md, md = (hs[r]).mode := ⟨_, rfl⟩
                      rw [← hmd] at j2
                      clear e0 e1 hxu hmd
                      obtain ⟨w7, hw7⟩ : ∃ w7, w7 = wr.alloc (.cells #[.int .u64 u.num, .int .i64 u.node, .int .i64 md] 55) := ⟨_, rfl⟩
                      have HE7 : Hid (Ext wr w7) := by rw [hw7]; exact ext_one _
                      have HB7 : Hid (Blk w7 wr.heap.size #[.int .u64 u.num, .int .i64 u.node, .int .i64 md] 55) := by rw [hw7]; exact Blk.new _ _ _
                      have HEY7 : Hid (Ext w5 w7) := Ext.trans HEY.out HE7.out
                      have hrr : (r : Int) + 1 ≤ 20000 := by omega
                      go_upto_region 25 with fail
                      rw [← hw7]
                      clear hw7 j0 j1 j2
                      have c0 : w7.cell? ⟨wr.heap.size, 0, none⟩ = some (.int .u64 u.num) := HB7.out.cell 0
                      have c1 : w7.cell? ⟨wr.heap.size, 1, none⟩ = some (.int .i64 u.node) := HB7.out.cell 1
                      have u0 : w7.cell? ⟨w.heap.size, 0, none⟩ = some (.int .u64 u.num) := (HB5.out.below_ HEY7.out).cell 0
                      have u1 : w7.cell? ⟨w.heap.size, 1, none⟩ = some (.int .i64 u.node) := (HB5.out.below_ HEY7.out).cell 1
                      go_wp2
                      go_roundw
                      case rel => exact ⟨r + 1, by go_num, hlr, HEY7.out⟩
                      case measure => simp [intOf]; omega
                    · have HLY : Hid (LS w wr w1.heap.size g (40 + 40 * j) S2 T2 L) := HL5.out.below HEY.out
                      have HEU : Hid (Ext U wr) := Ext.trans HEX.out (Ext.trans HE5.out HEY.out)
                      have k3 := cell_on (by decide) (HQ.out.below HLY.out.ext).c3
                      go_wp2_with fail
                      refine (waitingT_any wr HLY.out.tt q.key HQW.out.2 (by have := HNN.out; omega)).mono ?_
                      rintro e w8 ⟨v8, rfl, o8, h8⟩
                      rw [HWN.out q.key] at o8
                      obtain ⟨a8, c8, e8⟩ : ∃ a c, v8 = .slice a 0 c := by obtain ⟨a, c, e, _⟩ := o8.row; exact ⟨a, c, e⟩
                      subst e8
                      have HEU8 : Hid (Ext U w8) := Ext.trans HEU.out h8
                      clear o8 h8 k3
                      go_wp2
                      go_roundw
                      case rel => exact ⟨p + 1, by go_num, hpn2, HEU8.out⟩
                      case measure => simp [intOf]; omega
              · have u0 : X.cell? ⟨w.heap.size, 0, none⟩ = some (.int .u64 u.num) := HBX.out.cell 0
                have u1 : X.cell? ⟨w.heap.size, 1, none⟩ = some (.int .i64 u.node) := HBX.out.cell 1
                by_cases hpn1 : p < len
                · have d3 : decide ((p : Int) < (len : Int)) = true := by simp; omega
                  have d4 : decide ((p : Int) < 40) = false := by simp; omega
                  go_wp2_with fail
                  refine (freeT_any (c := 40) X HLX.out.tt u HUW.out (by have := HNN.out; omega) HLX.out.bsize L (fun x hx => HLX.out.inl.at_ hx) (by have := HK4.out.2.1; omega)).mono ?_
                  rintro e w5 ⟨v, fs, T5, rfl, _, _, _, hT, hs⟩
                  have HL5 : Hid (LS w w5 w1.heap.size g (40 + 40 * j + 40) (S2.free u) T5 L) := HLX.out.freed hs hT
                  have HB5 : Hid (Blk w5 w.heap.size #[.int .u64 u.num, .int .i64 u.node] 29) := HLX.out.keepB hs HBX.out (by decide) (by decide)
                  have HEM : Hid (∀ k, (S2.free u).has k = []) := fun k => by
                    have h1 := HJN.out.free u
                    cases hq : (S2.free u).has k with
                    | nil => rfl
                    | cons x r =>
                      have h2 := h1 k x (.inl (by rw [hq]; exact List.mem_cons_self))
                      exact absurd h2.1 h2.2
                  clear hT hs u0 u1
                  have u0 : w5.cell? ⟨w.heap.size, 0, none⟩ = some (.int .u64 u.num) := HB5.out.cell 0
                  have u1 : w5.cell? ⟨w.heap.size, 1, none⟩ = some (.int .i64 u.node) := HB5.out.cell 1
                  go_wp2_with fail
                  refine (lenT_any w5 HL5.out.tt).mono ?_
                  rintro e w6 ⟨ls, rfl, rfl, _, hm, _⟩
                  have hls : ls = [] := by
                    cases ls with
                    | nil => rfl
                    | cons x r => exact absurd (HEM.out x) ((hm x).1 List.mem_cons_self)
                  subst hls
                  simp only [List.length_nil]
                  clear hm
                  go_wp2_with fail
                  refine (keysT_any w6 HL5.out.tt u HUW.out (by have := HNN.out; omega)).mono ?_
                  rintro e w7 ⟨v7, ks, rfl, _, hm, ho, hx⟩
                  have hks : ks = [] := by
                    cases ks with
                    | nil => rfl
                    | cons x r =>
                      have h1 := (hm x).1 List.mem_cons_self
                      rw [HEM.out x] at h1
                      cases h1
                  subst hks
                  obtain ⟨a7, c7, e7⟩ : ∃ a c, v7 = .slice a 0 c := by obtain ⟨a, c, e, _⟩ := ho.form; exact ⟨a, c, e⟩
                  subst e7
                  have HE7 : Hid (Ext w w7) := Ext.trans HL5.out.ext hx
                  clear hm ho hx u0 u1
                  go_wp2
                  go_ret
                  exact ⟨rfl, HE7.out⟩
                · have d3 : decide ((p : Int) < (len : Int)) = false := by simp; omega
                  go_wp2_with fail
                  refine (freeT_any (c := 40) X HLX.out.tt u HUW.out (by have := HNN.out; omega) HLX.out.bsize L (fun x hx => HLX.out.inl.at_ hx) (by have := HK4.out.2.1; omega)).mono ?_
                  rintro e w5 ⟨v, fs, T5, rfl, _, _, _, hT, hs⟩
                  have HL5 : Hid (LS w w5 w1.heap.size g (40 + 40 * j + 40) (S2.free u) T5 L) := HLX.out.freed hs hT
                  have HB5 : Hid (Blk w5 w.heap.size #[.int .u64 u.num, .int .i64 u.node] 29) := HLX.out.keepB hs HBX.out (by decide) (by decide)
                  have HEM : Hid (∀ k, (S2.free u).has k = []) := fun k => by
                    have h1 := HJN.out.free u
                    cases hq : (S2.free u).has k with
                    | nil => rfl
                    | cons x r =>
                      have h2 := h1 k x (.inl (by rw [hq]; exact List.mem_cons_self))
                      exact absurd h2.1 h2.2
                  clear hT hs u0 u1
                  have u0 : w5.cell? ⟨w.heap.size, 0, none⟩ = some (.int .u64 u.num) := HB5.out.cell 0
                  have u1 : w5.cell? ⟨w.heap.size, 1, none⟩ = some (.int .i64 u.node) := HB5.out.cell 1
                  go_wp2_with fail
                  refine (lenT_any w5 HL5.out.tt).mono ?_
                  rintro e w6 ⟨ls, rfl, rfl, _, hm, _⟩
                  have hls : ls = [] := by
                    cases ls with
                    | nil => rfl
                    | cons x r => exact absurd (HEM.out x) ((hm x).1 List.mem_cons_self)
                  subst hls
                  simp only [List.length_nil]
                  clear hm
                  go_wp2_with fail
                  refine (keysT_any w6 HL5.out.tt u HUW.out (by have := HNN.out; omega)).mono ?_
                  rintro e w7 ⟨v7, ks, rfl, _, hm, ho, hx⟩
                  have hks : ks = [] := by
                    cases ks with
                    | nil => rfl
                    | cons x r =>
                      have h1 := (hm x).1 List.mem_cons_self
                      rw [HEM.out x] at h1
                      cases h1
                  subst hks
                  obtain ⟨a7, c7, e7⟩ : ∃ a c, v7 = .slice a 0 c := by obtain ⟨a, c, e, _⟩ := ho.form; exact ⟨a, c, e⟩
                  subst e7
                  have HE7 : Hid (Ext w w7) := Ext.trans HL5.out.ext hx
                  clear hm ho hx u0 u1
                  go_wp2
                  go_ret
                  exact ⟨rfl, HE7.out⟩
end Go.Proofs.Ytkgecljoodofeaa
