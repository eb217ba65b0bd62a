/- LockAgain: the walk of the law's Go text. -/
import Derived.Test.YtkgecljoodofeaaLkSm
import Derived.Test.YtkgecljoodofeaaLkQ
set_option linter.unusedSimpArgs false
set_option linter.unusedVariables false
namespace Go.Proofs.Ytkgecljoodofeaa
open Go.ChangeShapes Go.WideShapes Go.ChangeAt Go.RowKit

theorem wpAnyH_callS {P : Program} {ops : Array Oper} {Q : Exit → Act → World → Prop} {S : World → Prop} {i : Nat} {o : Oper} {f : FuncId} {args : Array Value} {fuel : Nat} {listed : Array Bool} {a : Act} {w : World} {R : Ending → World → Prop} (d : Tmp) (ho : ops[i]? = some o) (hr : Region.ready .any ops listed = [i])
    (hd : o.dst = some d) (hw : Region.wanted o (yielded ops a.tmps) = true) (hx : (execOp a.eval o).run P w = .ok (.enter f args) w) (hc : Calls P f args w R)
    (h : ∀ e w', R e w' → ∃ v, e = .returned v ∧ S w' ∧ wpAnyH P .any ops Q S fuel (listed.setIfInBounds i true) (a.put (some d) v) w') : wpAnyH P .any ops Q S (fuel + 1) listed a w :=
  wpAnyH_call ho hr hw hx hc fun e w' he => by
    obtain ⟨v, hv, hs, hn⟩ := h e w' he
    exact ⟨v, hv, S, fun _ h => h, hs, by rw [hd]; exact hn⟩
theorem again_say (S : Say) (t : Td) (m : Int) (k : ByteArray) (hs : Srt (S.has k)) : ansM t m (S.askM t m k) k = ansM t m S k ∧ ((S.askM t m k).askM t m k).has k = (S.askM t m k).has k ∧ ((S.askM t m k).askM t m k).waits k = (S.askM t m k).waits k := by
  by_cases hm : m = 1 ∨ m = 2
  · have h := askL_again t m (S.has k) (S.waits k) hs
    have h1 := askM_has S t m k hm
    have h2 := askM_waits S t m k hm
    refine ⟨?_, ?_, ?_⟩
    · rw [ansM_is t m (S.askM t m k) k hm, ansM_is t m S k hm, h1, h2, h]
    · rw [askM_has (S.askM t m k) t m k hm, h1, h2, h]
    · rw [askM_waits (S.askM t m k) t m k hm, h1, h2, h]
  · have e : ∀ S : Say, S.askM t m k = S := fun S => by unfold Say.askM; rw [if_neg hm]
    rw [e, e]
    exact ⟨rfl, rfl, rfl⟩

set_option maxRecDepth 100000 in
set_option maxHeartbeats 8000000 in
theorem walk_LockAgain (a : Option Addr) (len cap : Nat) (os : List OpL) (o : OpL) (w : World) (_w0 : IsOpsL w a len os) (_w1 : o.Wf) :
    Calls Try.prog 9 #[.slice a len cap, .agg #[.int .i64 o.k, .int .u64 o.num, .int .i64 o.node, .string o.key, .int .i64 o.mode]] w fun e w' => e = .returned (.bool true) ∧ Below w.heap.size w w' := by
  have HOP : Hid (IsOpsL w a len os) := _w0
  have HOW : Hid (o.t.wf ∧ o.key.size ≤ maxLen) := _w1
  have hlm : (len : Int) ≤ 9223372036854775807 := by have := _w0.2.1; unfold maxLen at this; omega
  have hkm : (o.key.size : Int) ≤ 9223372036854775807 := by have := _w1.2; unfold maxLen at this; omega
  clear _w0 _w1
  obtain ⟨w0, hw0⟩ : ∃ w0, w0 = w.alloc (.cells #[.int .i64 o.k, .int .u64 o.num, .int .i64 o.node, .string o.key, .int .i64 o.mode] 31) := ⟨_, rfl⟩
  have HE0 : Hid (Ext w w0) := by rw [hw0]; exact ext_one _
  have HB0 : Hid (Blk w0 w.heap.size #[.int .i64 o.k, .int .u64 o.num, .int .i64 o.node, .string o.key, .int .i64 o.mode] 31) := by rw [hw0]; exact Blk.new _ _ _
  go_enter Try.func9, Try.ntmps9
  go_upto_region 1 with fail
  rw [← hw0]
  clear hw0
  go_wp2_with fail
  refine (head12_any _).mono ?_
  rintro e w1 ⟨rfl, h1⟩
  have HE1 : Hid (Ext w w1) := Ext.trans HE0.out h1
  have HB1 : Hid (Blk w1 w.heap.size #[.int .i64 o.k, .int .u64 o.num, .int .i64 o.node, .string o.key, .int .i64 o.mode] 31) := HB0.out.below_ h1
  clear h1 HE0 HB0
  have c3 : w1.cell? ⟨w.heap.size, 3, none⟩ = some (.string o.key) := HB1.out.cell 3
  by_cases h40 : 40 < o.key.size
  · have d3 : decide ((40 : Int) < (o.key.size : Int)) = true := by simp; omega
    go_wp2
    go_ret
    exact ⟨rfl, HE1.out⟩
  have d3 : decide ((40 : Int) < (o.key.size : Int)) = false := by simp; omega
  go_wp2_with fail
  refine (newT_any w1).mono ?_
  rintro e w2 ⟨g, T0, rfl, hT, hx⟩
  have HL2 : Hid (LS w w2 w1.heap.size g 0 say0 T0 []) := LS.new HE1.out hT hx
  have HB2 : Hid (Blk w2 w.heap.size #[.int .i64 o.k, .int .u64 o.num, .int .i64 o.node, .string o.key, .int .i64 o.mode] 31) := HB1.out.below_ hx
  clear hT hx c3 d3 h40
  go_wp2_with fail
  go_loopw [6] (fun vi wr => ∃ (i : Nat) (L : List ByteArray) (S : Say) (T : Tab), vi = .int .i64 (i : Int) ∧ i ≤ 30 ∧ L.length ≤ i ∧ LS w wr w1.heap.size g (31 * i) S T L ∧ Blk wr w.heap.size #[.int .i64 o.k, .int .u64 o.num, .int .i64 o.node, .string o.key, .int .i64 o.mode] 31) (fun vi _ => 30 - (intOf vi).toNat)
  case atStart => exact ⟨0, [], say0, T0, rfl, Nat.zero_le _, Nat.le_refl _, HL2.out, HB2.out⟩
  case round =>
    obtain ⟨i, L, S, T, rfl, hi, hll, hL, hB⟩ := hrel
    have HL : Hid (LS w wr w1.heap.size g (31 * i) S T L) := hL
    have HLL : Hid (L.length ≤ i) := hll
    have HB : Hid (Blk wr w.heap.size #[.int .i64 o.k, .int .u64 o.num, .int .i64 o.node, .string o.key, .int .i64 o.mode] 31) := hB
    clear hll hL hB
    by_cases hin : i < len ∧ i < 30
    · obtain ⟨hin1, hin2⟩ := hin
      have d1 : decide ((i : Int) < (len : Int)) = true := by simp; omega
      have d2 : decide ((i : Int) < 30) = true := by simp; omega
      have hio : i < os.length := by rw [HOP.out.1]; exact hin1
      obtain ⟨ad, had⟩ : ∃ ad, a = some ad := by
        cases a with
        | none => have := HOP.out.2.2.1 rfl; omega
        | some ad => exact ⟨ad, rfl⟩
      obtain ⟨q, hq⟩ : ∃ q, q = os[i] := ⟨_, rfl⟩
      have HQ : Hid (OpLAt w ad i q) := by rw [hq]; exact HOP.out.2.2.2 ad had i hio
      have HQW : Hid (q.t.wf ∧ q.key.size ≤ maxLen) := HQ.out.wf
      have HQR : Hid (OpLAt wr ad i q) := HQ.out.below HL.out.ext
      have k0 := HQR.out.c0
      have k1 := cell_on (by decide) HQR.out.c1
      have k2 := cell_on (by decide) HQR.out.c2
      have k3 := cell_on (by decide) HQR.out.c3
      have k4 := cell_on (by decide) HQR.out.c4
      have HNF : Hid (¬ FT T none_ (ad.add (i * 5)).block) := fun e => by
        have h1 := cell_lt HQ.out.c0
        have h2 := (HL.out.tt.ge e).1
        have h3 := HL.out.base
        omega
      have hii : (i : Int) + 1 ≤ 20000 := by omega
      have hqm : (q.key.size : Int) ≤ 9223372036854775807 := by have := HQW.out.2; unfold maxLen at this; omega
      subst had
      clear hq
      by_cases h40 : 40 < q.key.size
      · have d3 : decide ((40 : Int) < (q.key.size : Int)) = true := by simp; omega
        go_wp2
        go_roundw
        case rel => exact ⟨i + 1, L, S, T, by go_num, by omega, by have := HLL.out; omega, HL.out.mono (by omega), HB.out⟩
        case measure => simp [intOf]; omega
      · have d3 : decide ((40 : Int) < (q.key.size : Int)) = false := by simp; omega
        by_cases hk1 : q.k = 1
        · rw [hk1] at k0
          clear hk1
          go_wp2_with fail
          refine (freeT_any (c := 31) wr HL.out.tt q.t HQW.out.1 (by omega) HL.out.bsize L (fun x hx => HL.out.inl.at_ hx) (by have := HLL.out; omega)).mono ?_
          rintro e w5 ⟨v, fs, T5, rfl, _, _, _, hT, hs⟩
          have HL5 : Hid (LS w w5 w1.heap.size g (31 * i + 31) (S.free q.t) T5 L) := HL.out.freed hs hT
          have HB5 : Hid (Blk w5 w.heap.size #[.int .i64 o.k, .int .u64 o.num, .int .i64 o.node, .string o.key, .int .i64 o.mode] 31) := HL.out.keepB hs HB.out (by decide) (by decide)
          clear hT hs k0 k1 k2 k3 k4
          go_wp2
          go_roundw
          case rel => exact ⟨i + 1, L, S.free q.t, T5, by go_num, by omega, by have := HLL.out; omega, HL5.out.mono (by omega), HB5.out⟩
          case measure => simp [intOf]; omega
        · have hk1b : (q.k == 1) = false := beq_eq_false_iff_ne.2 hk1
          have HAS : Hid (Calls _ _ _ _ _) := askT_any (HL.out.below (Below.drew (Below.refl _ _))).tt q.t q.mode q.key HQW.out.1 HQW.out.2 (by omega)
          have x1 := cellC (S := FT T none_) (W0 := wr.drew) (show wr.drew.cell? _ = _ from k1) HNF.out
          have x2 := cellC (S := FT T none_) (W0 := wr.drew) (show wr.drew.cell? _ = _ from k2) HNF.out
          have x3 := cellC (S := FT T none_) (W0 := wr.drew) (show wr.drew.cell? _ = _ from k3) HNF.out
          have x4 := cellC (S := FT T none_) (W0 := wr.drew) (show wr.drew.cell? _ = _ from k4) HNF.out
          go_upto_region 12 with fail
          haveI nA : Nonempty (Cls (Chg (FT T none_) wr.drew)) := ⟨⟨wr.drew, Chg.refl _ _⟩⟩
          refine wp_region_seg (Chg (FT T none_) wr.drew) (by kernel_rfl) ?_
          refine wpAnyH_seg (by kernel_rfl) (fun _ _ _ h => h) [0, 1, 2, 3, 4, 5, 6, 7, 8, 9, 10, 11, 12, 13, 14, 15] 1 _ _ _ (Chg.refl _ _) (by kernel_rfl) ?_
          simp only [opsAt, List.getElem?_toArray, List.getElem?_cons_zero, List.getElem?_cons_succ, List.cons_append, List.nil_append]
          repeat (go_big_quiet_step (fail))
          refine wpQuiet_nil ?_
          clear x1 x2 x3 x4
          refine wpAnyH_callS (i := 16) (fuel := 0) 64 rfl (by kernel_rfl) rfl (by kernel_rfl) (f := 12) (args := #[.pointer (some ⟨g, 0, none⟩), .agg #[.int .u64 q.num, .int .i64 q.node], .string q.key, .int .i64 q.mode]) (by kernel_rfl) HAS.out ?_
          rintro e w5 ⟨rfl, T5, hT, hs⟩
          refine ⟨_, rfl, hs.chg, ?_⟩
          have HL5 : Hid (LS w w5 w1.heap.size g (31 * i + 1) (S.askM q.t q.mode q.key) T5 (L ++ [q.key])) := (HL.out.below (Below.drew (Below.refl _ _))).askd hs hT (by simp) (fun x hx => by simp [hx])
          have HB5 : Hid (Blk w5 w.heap.size #[.int .i64 o.k, .int .u64 o.num, .int .i64 o.node, .string o.key, .int .i64 o.mode] 31) := (HL.out.below (Below.drew (Below.refl _ _))).keepB hs HB.out.drew (by decide) (by decide)
          clear hT hs k0 k1 k2 k3 k4 hk1 hk1b HAS nA
          refine wpAnyH_done (by kernel_rfl) (NoPanic.normal ?_) 0
          go_wp2
          go_roundw
          case rel => exact ⟨i + 1, L ++ [q.key], _, T5, by go_num, by omega, by have := HLL.out; simp; omega, HL5.out.mono (by omega), HB5.out⟩
          case measure => simp [intOf]; omega
    · generalize wr = V at HL HB ⊢
      have c1 : V.cell? ⟨w.heap.size, 1, none⟩ = some (.int .u64 o.num) := HB.out.cell 1
      have c2 : V.cell? ⟨w.heap.size, 2, none⟩ = some (.int .i64 o.node) := HB.out.cell 2
      have c3 : V.cell? ⟨w.heap.size, 3, none⟩ = some (.string o.key) := HB.out.cell 3
      have c4 : V.cell? ⟨w.heap.size, 4, none⟩ = some (.int .i64 o.mode) := HB.out.cell 4
      have HN : Hid (31 * i ≤ 1000) := by show _ ≤ _; omega
      by_cases hin1 : i < len
      · have d1 : decide ((i : Int) < (len : Int)) = true := by simp; omega
        have d2 : decide ((i : Int) < 30) = false := by simp; omega
        go_wp2_with fail
        refine (askT_any HL.out.tt o.t o.mode o.key HOW.out.1 HOW.out.2 (by have := HN.out; omega)).mono ?_
        rintro e w5 ⟨rfl, T5, hT, hs⟩
        obtain ⟨A, hA⟩ : ∃ A, A = ansM o.t o.mode S o.key := ⟨_, rfl⟩
        obtain ⟨S1, hS1⟩ : ∃ S1, S1 = S.askM o.t o.mode o.key := ⟨_, rfl⟩
        have HAG : Hid (ansM o.t o.mode S1 o.key = A ∧ (S1.askM o.t o.mode o.key).has o.key = S1.has o.key ∧ (S1.askM o.t o.mode o.key).waits o.key = S1.waits o.key) := by
          rw [hA, hS1]
          exact again_say S o.t o.mode o.key (HL.out.good o.key).srt
        have HL5 : Hid (LS w w5 w1.heap.size g (31 * i + 1) S1 T5 (L ++ [o.key])) := by rw [hS1]; exact HL.out.askd hs hT (by simp) (fun x hx => by simp [hx])
        have HB5 : Hid (Blk w5 w.heap.size #[.int .i64 o.k, .int .u64 o.num, .int .i64 o.node, .string o.key, .int .i64 o.mode] 31) := HL.out.keepB hs HB.out (by decide) (by decide)
        rw [← hA]
        clear hT hs hA hS1 c1 c2 c3 c4
        have c3 : w5.cell? ⟨w.heap.size, 3, none⟩ = some (.string o.key) := HB5.out.cell 3
        go_wp2_with fail
        refine (hasT_any w5 HL5.out.tt o.key HOW.out.2 (by have := HN.out; omega)).mono ?_
        rintro e w6 ⟨v6, rfl, o6, h6⟩
        have HO6 : Hid (OwnW w6 w5.heap.size v6 (S1.has o.key)) := o6
        have HE6 : Hid (Ext w5 w6) := h6
        have HL6 : Hid (LS w w6 w1.heap.size g (31 * i + 1) S1 T5 (L ++ [o.key])) := HL5.out.below h6
        have HB6 : Hid (Blk w6 w.heap.size #[.int .i64 o.k, .int .u64 o.num, .int .i64 o.node, .string o.key, .int .i64 o.mode] 31) := HB5.out.below_ h6
        clear o6 h6 c3
        have c3 : w6.cell? ⟨w.heap.size, 3, none⟩ = some (.string o.key) := HB6.out.cell 3
        go_wp2_with fail
        refine (waitingT_any w6 HL6.out.tt o.key HOW.out.2 (by have := HN.out; omega)).mono ?_
        rintro e w7 ⟨v7, rfl, o7, h7⟩
        have HO7 : Hid (OwnW w7 w6.heap.size v7 (S1.waits o.key)) := o7
        have HO67 : Hid (OwnW w7 w5.heap.size v6 (S1.has o.key)) := HO6.out.below h7
        have HL7 : Hid (LS w w7 w1.heap.size g (31 * i + 1) S1 T5 (L ++ [o.key])) := HL6.out.below h7
        have HB7 : Hid (Blk w7 w.heap.size #[.int .i64 o.k, .int .u64 o.num, .int .i64 o.node, .string o.key, .int .i64 o.mode] 31) := HB6.out.below_ h7
        clear o7 h7 c3
        have c1 : w7.cell? ⟨w.heap.size, 1, none⟩ = some (.int .u64 o.num) := HB7.out.cell 1
        have c2 : w7.cell? ⟨w.heap.size, 2, none⟩ = some (.int .i64 o.node) := HB7.out.cell 2
        have c3 : w7.cell? ⟨w.heap.size, 3, none⟩ = some (.string o.key) := HB7.out.cell 3
        have c4 : w7.cell? ⟨w.heap.size, 4, none⟩ = some (.int .i64 o.mode) := HB7.out.cell 4
        go_wp2_with fail
        refine (askT_any HL7.out.tt o.t o.mode o.key HOW.out.1 HOW.out.2 (by have := HN.out; omega)).mono ?_
        rintro e w8 ⟨rfl, T8, hT, hs⟩
        rw [HAG.out.1]
        obtain ⟨S2, hS2⟩ : ∃ S2, S2 = S1.askM o.t o.mode o.key := ⟨_, rfl⟩
        have HS2 : Hid (S2.has o.key = S1.has o.key ∧ S2.waits o.key = S1.waits o.key) := by rw [hS2]; exact HAG.out.2
        have HL8 : Hid (LS w w8 w1.heap.size g (31 * i + 1 + 1) S2 T8 (L ++ [o.key])) := by rw [hS2]; exact HL7.out.askd hs hT (by simp) (fun x hx => hx)
        have HB8 : Hid (Blk w8 w.heap.size #[.int .i64 o.k, .int .u64 o.num, .int .i64 o.node, .string o.key, .int .i64 o.mode] 31) := HL7.out.keepB hs HB7.out (by decide) (by decide)
        have hnf : ∀ b, w5.heap.size ≤ b → ¬ FT T5 none_ b := fun b hb e => by have := (HL5.out.tt.ge e).2; omega
        have HR8 : Hid (RowW w8 v6 (S1.has o.key) ∧ RowW w8 v7 (S1.waits o.key)) := by
          refine ⟨OwnW.row (HO67.out.kept fun b hb => ?_), OwnW.row (HO7.out.kept fun b hb => ?_)⟩
          · have h1 := World.ownsRow.lt HO67.out b hb
            exact hs.chg.block b h1.2 (hnf b h1.1)
          · have h1 := World.ownsRow.lt HO7.out b hb
            exact hs.chg.block b h1.2 (hnf b (Nat.le_trans HE6.out.size h1.1))
        obtain ⟨a6, n6, d6, e6⟩ : ∃ a n c, v6 = .slice a n c := by obtain ⟨a, c, e, _⟩ := HO6.out.row; exact ⟨a, _, c, e⟩
        obtain ⟨a7, n7, d7, e7⟩ : ∃ a n c, v7 = .slice a n c := by obtain ⟨a, c, e, _⟩ := HO7.out.row; exact ⟨a, _, c, e⟩
        subst e6 e7
        have HLN : Hid ((S1.has o.key).length ≤ 10000 ∧ (S1.waits o.key).length ≤ 10000) := by
          have h1 := HL7.out.tt.inv.len o.key
          have h2 := HL7.out.tt.n
          have h3 := HN.out
          rw [HL7.out.tt.has, HL7.out.tt.waits]
          exact ⟨by omega, by omega⟩
        have hAA : (A == A) = true := beq_self_eq_true A
        clear hT hs hnf hS2 c1 c2 c3 c4 HO6 HO7 HO67
        have c3 : w8.cell? ⟨w.heap.size, 3, none⟩ = some (.string o.key) := HB8.out.cell 3
        go_wp2_with fail
        refine (hasT_any w8 HL8.out.tt o.key HOW.out.2 (by have := HN.out; omega)).mono ?_
        rintro e w9 ⟨v9, rfl, o9, h9⟩
        rw [HS2.out.1] at o9
        have HR9 : Hid (RowW w9 (.slice a6 n6 d6) (S1.has o.key) ∧ RowW w9 (.slice a7 n7 d7) (S1.waits o.key) ∧ RowW w9 v9 (S1.has o.key)) := ⟨HR8.out.1.below h9, HR8.out.2.below h9, o9.row⟩
        have HL9 : Hid (LS w w9 w1.heap.size g (31 * i + 1 + 1) S2 T8 (L ++ [o.key])) := HL8.out.below h9
        have HB9 : Hid (Blk w9 w.heap.size #[.int .i64 o.k, .int .u64 o.num, .int .i64 o.node, .string o.key, .int .i64 o.mode] 31) := HB8.out.below_ h9
        obtain ⟨a9, n9, d9, e9⟩ : ∃ a n c, v9 = .slice a n c := by obtain ⟨a, c, e, _⟩ := o9.row; exact ⟨a, _, c, e⟩
        subst e9
        clear o9 h9 c3
        go_wp2_with fail
        refine (same12_ok (.slice a6 n6 d6) (.slice a9 n9 d9) (S1.has o.key) w9 HR9.out.1 HR9.out.2.2 HLN.out.1).mono ?_
        rintro e w10 ⟨rfl, h10⟩
        have HR10 : Hid (RowW w10 (.slice a7 n7 d7) (S1.waits o.key)) := HR9.out.2.1.below h10
        have HL10 : Hid (LS w w10 w1.heap.size g (31 * i + 1 + 1) S2 T8 (L ++ [o.key])) := HL9.out.below h10
        have HB10 : Hid (Blk w10 w.heap.size #[.int .i64 o.k, .int .u64 o.num, .int .i64 o.node, .string o.key, .int .i64 o.mode] 31) := HB9.out.below_ h10
        clear h10
        have c3 : w10.cell? ⟨w.heap.size, 3, none⟩ = some (.string o.key) := HB10.out.cell 3
        go_wp2_with fail
        refine (waitingT_any w10 HL10.out.tt o.key HOW.out.2 (by have := HN.out; omega)).mono ?_
        rintro e w11 ⟨v11, rfl, o11, h11⟩
        rw [HS2.out.2] at o11
        have HR11 : Hid (RowW w11 (.slice a7 n7 d7) (S1.waits o.key) ∧ RowW w11 v11 (S1.waits o.key)) := ⟨HR10.out.below h11, o11.row⟩
        have HE11 : Hid (Ext w w11) := (HL10.out.below h11).ext
        obtain ⟨a11, n11, d11, e11⟩ : ∃ a n c, v11 = .slice a n c := by obtain ⟨a, c, e, _⟩ := o11.row; exact ⟨a, _, c, e⟩
        subst e11
        clear o11 h11 c3
        go_wp2_with fail
        refine (same12_ok (.slice a7 n7 d7) (.slice a11 n11 d11) (S1.waits o.key) w11 HR11.out.1 HR11.out.2 HLN.out.2).mono ?_
        rintro e w12 ⟨rfl, h12⟩
        have HE12 : Hid (Ext w w12) := Ext.trans HE11.out h12
        clear h12
        go_wp2
        go_ret
        exact ⟨rfl, HE12.out⟩
      · have d1 : decide ((i : Int) < (len : Int)) = false := by simp; omega
        go_wp2_with fail
        refine (askT_any HL.out.tt o.t o.mode o.key HOW.out.1 HOW.out.2 (by have := HN.out; omega)).mono ?_
        rintro e w5 ⟨rfl, T5, hT, hs⟩
        obtain ⟨A, hA⟩ : ∃ A, A = ansM o.t o.mode S o.key := ⟨_, rfl⟩
        obtain ⟨S1, hS1⟩ : ∃ S1, S1 = S.askM o.t o.mode o.key := ⟨_, rfl⟩
        have HAG : Hid (ansM o.t o.mode S1 o.key = A ∧ (S1.askM o.t o.mode o.key).has o.key = S1.has o.key ∧ (S1.askM o.t o.mode o.key).waits o.key = S1.waits o.key) := by
          rw [hA, hS1]
          exact again_say S o.t o.mode o.key (HL.out.good o.key).srt
        have HL5 : Hid (LS w w5 w1.heap.size g (31 * i + 1) S1 T5 (L ++ [o.key])) := by rw [hS1]; exact HL.out.askd hs hT (by simp) (fun x hx => by simp [hx])
        have HB5 : Hid (Blk w5 w.heap.size #[.int .i64 o.k, .int .u64 o.num, .int .i64 o.node, .string o.key, .int .i64 o.mode] 31) := HL.out.keepB hs HB.out (by decide) (by decide)
        rw [← hA]
        clear hT hs hA hS1 c1 c2 c3 c4
        have c3 : w5.cell? ⟨w.heap.size, 3, none⟩ = some (.string o.key) := HB5.out.cell 3
        go_wp2_with fail
        refine (hasT_any w5 HL5.out.tt o.key HOW.out.2 (by have := HN.out; omega)).mono ?_
        rintro e w6 ⟨v6, rfl, o6, h6⟩
        have HO6 : Hid (OwnW w6 w5.heap.size v6 (S1.has o.key)) := o6
        have HE6 : Hid (Ext w5 w6) := h6
        have HL6 : Hid (LS w w6 w1.heap.size g (31 * i + 1) S1 T5 (L ++ [o.key])) := HL5.out.below h6
        have HB6 : Hid (Blk w6 w.heap.size #[.int .i64 o.k, .int .u64 o.num, .int .i64 o.node, .string o.key, .int .i64 o.mode] 31) := HB5.out.below_ h6
        clear o6 h6 c3
        have c3 : w6.cell? ⟨w.heap.size, 3, none⟩ = some (.string o.key) := HB6.out.cell 3
        go_wp2_with fail
        refine (waitingT_any w6 HL6.out.tt o.key HOW.out.2 (by have := HN.out; omega)).mono ?_
        rintro e w7 ⟨v7, rfl, o7, h7⟩
        have HO7 : Hid (OwnW w7 w6.heap.size v7 (S1.waits o.key)) := o7
        have HO67 : Hid (OwnW w7 w5.heap.size v6 (S1.has o.key)) := HO6.out.below h7
        have HL7 : Hid (LS w w7 w1.heap.size g (31 * i + 1) S1 T5 (L ++ [o.key])) := HL6.out.below h7
        have HB7 : Hid (Blk w7 w.heap.size #[.int .i64 o.k, .int .u64 o.num, .int .i64 o.node, .string o.key, .int .i64 o.mode] 31) := HB6.out.below_ h7
        clear o7 h7 c3
        have c1 : w7.cell? ⟨w.heap.size, 1, none⟩ = some (.int .u64 o.num) := HB7.out.cell 1
        have c2 : w7.cell? ⟨w.heap.size, 2, none⟩ = some (.int .i64 o.node) := HB7.out.cell 2
        have c3 : w7.cell? ⟨w.heap.size, 3, none⟩ = some (.string o.key) := HB7.out.cell 3
        have c4 : w7.cell? ⟨w.heap.size, 4, none⟩ = some (.int .i64 o.mode) := HB7.out.cell 4
        go_wp2_with fail
        refine (askT_any HL7.out.tt o.t o.mode o.key HOW.out.1 HOW.out.2 (by have := HN.out; omega)).mono ?_
        rintro e w8 ⟨rfl, T8, hT, hs⟩
        rw [HAG.out.1]
        obtain ⟨S2, hS2⟩ : ∃ S2, S2 = S1.askM o.t o.mode o.key := ⟨_, rfl⟩
        have HS2 : Hid (S2.has o.key = S1.has o.key ∧ S2.waits o.key = S1.waits o.key) := by rw [hS2]; exact HAG.out.2
        have HL8 : Hid (LS w w8 w1.heap.size g (31 * i + 1 + 1) S2 T8 (L ++ [o.key])) := by rw [hS2]; exact HL7.out.askd hs hT (by simp) (fun x hx => hx)
        have HB8 : Hid (Blk w8 w.heap.size #[.int .i64 o.k, .int .u64 o.num, .int .i64 o.node, .string o.key, .int .i64 o.mode] 31) := HL7.out.keepB hs HB7.out (by decide) (by decide)
        have hnf : ∀ b, w5.heap.size ≤ b → ¬ FT T5 none_ b := fun b hb e => by have := (HL5.out.tt.ge e).2; omega
        have HR8 : Hid (RowW w8 v6 (S1.has o.key) ∧ RowW w8 v7 (S1.waits o.key)) := by
          refine ⟨OwnW.row (HO67.out.kept fun b hb => ?_), OwnW.row (HO7.out.kept fun b hb => ?_)⟩
          · have h1 := World.ownsRow.lt HO67.out b hb
            exact hs.chg.block b h1.2 (hnf b h1.1)
          · have h1 := World.ownsRow.lt HO7.out b hb
            exact hs.chg.block b h1.2 (hnf b (Nat.le_trans HE6.out.size h1.1))
        obtain ⟨a6, n6, d6, e6⟩ : ∃ a n c, v6 = .slice a n c := by obtain ⟨a, c, e, _⟩ := HO6.out.row; exact ⟨a, _, c, e⟩
        obtain ⟨a7, n7, d7, e7⟩ : ∃ a n c, v7 = .slice a n c := by obtain ⟨a, c, e, _⟩ := HO7.out.row; exact ⟨a, _, c, e⟩
        subst e6 e7
        have HLN : Hid ((S1.has o.key).length ≤ 10000 ∧ (S1.waits o.key).length ≤ 10000) := by
          have h1 := HL7.out.tt.inv.len o.key
          have h2 := HL7.out.tt.n
          have h3 := HN.out
          rw [HL7.out.tt.has, HL7.out.tt.waits]
          exact ⟨by omega, by omega⟩
        have hAA : (A == A) = true := beq_self_eq_true A
        clear hT hs hnf hS2 c1 c2 c3 c4 HO6 HO7 HO67
        have c3 : w8.cell? ⟨w.heap.size, 3, none⟩ = some (.string o.key) := HB8.out.cell 3
        go_wp2_with fail
        refine (hasT_any w8 HL8.out.tt o.key HOW.out.2 (by have := HN.out; omega)).mono ?_
        rintro e w9 ⟨v9, rfl, o9, h9⟩
        rw [HS2.out.1] at o9
        have HR9 : Hid (RowW w9 (.slice a6 n6 d6) (S1.has o.key) ∧ RowW w9 (.slice a7 n7 d7) (S1.waits o.key) ∧ RowW w9 v9 (S1.has o.key)) := ⟨HR8.out.1.below h9, HR8.out.2.below h9, o9.row⟩
        have HL9 : Hid (LS w w9 w1.heap.size g (31 * i + 1 + 1) S2 T8 (L ++ [o.key])) := HL8.out.below h9
        have HB9 : Hid (Blk w9 w.heap.size #[.int .i64 o.k, .int .u64 o.num, .int .i64 o.node, .string o.key, .int .i64 o.mode] 31) := HB8.out.below_ h9
        obtain ⟨a9, n9, d9, e9⟩ : ∃ a n c, v9 = .slice a n c := by obtain ⟨a, c, e, _⟩ := o9.row; exact ⟨a, _, c, e⟩
        subst e9
        clear o9 h9 c3
        go_wp2_with fail
        refine (same12_ok (.slice a6 n6 d6) (.slice a9 n9 d9) (S1.has o.key) w9 HR9.out.1 HR9.out.2.2 HLN.out.1).mono ?_
        rintro e w10 ⟨rfl, h10⟩
        have HR10 : Hid (RowW w10 (.slice a7 n7 d7) (S1.waits o.key)) := HR9.out.2.1.below h10
        have HL10 : Hid (LS w w10 w1.heap.size g (31 * i + 1 + 1) S2 T8 (L ++ [o.key])) := HL9.out.below h10
        have HB10 : Hid (Blk w10 w.heap.size #[.int .i64 o.k, .int .u64 o.num, .int .i64 o.node, .string o.key, .int .i64 o.mode] 31) := HB9.out.below_ h10
        clear h10
        have c3 : w10.cell? ⟨w.heap.size, 3, none⟩ = some (.string o.key) := HB10.out.cell 3
        go_wp2_with fail
        refine (waitingT_any w10 HL10.out.tt o.key HOW.out.2 (by have := HN.out; omega)).mono ?_
        rintro e w11 ⟨v11, rfl, o11, h11⟩
        rw [HS2.out.2] at o11
        have HR11 : Hid (RowW w11 (.slice a7 n7 d7) (S1.waits o.key) ∧ RowW w11 v11 (S1.waits o.key)) := ⟨HR10.out.below h11, o11.row⟩
        have HE11 : Hid (Ext w w11) := (HL10.out.below h11).ext
        obtain ⟨a11, n11, d11, e11⟩ : ∃ a n c, v11 = .slice a n c := by obtain ⟨a, c, e, _⟩ := o11.row; exact ⟨a, _, c, e⟩
        subst e11
        clear o11 h11 c3
        go_wp2_with fail
        refine (same12_ok (.slice a7 n7 d7) (.slice a11 n11 d11) (S1.waits o.key) w11 HR11.out.1 HR11.out.2 HLN.out.2).mono ?_
        rintro e w12 ⟨rfl, h12⟩
        have HE12 : Hid (Ext w w12) := Ext.trans HE11.out h12
        clear h12
        go_wp2
        go_ret
        exact ⟨rfl, HE12.out⟩
end Go.Proofs.Ytkgecljoodofeaa
