/- lock: the law's right, of lists that are so. Own lemmas, no statement. -/
import Derived.Test.YtkgecljoodofeaaLkH1
set_option linter.unusedSimpArgs false
set_option linter.unusedVariables false
namespace Go.Proofs.Ytkgecljoodofeaa
open Go.ChangeShapes Go.WideShapes Go.ChangeAt Go.RowKit

/-- No two that have a key are against each other; who waits is elder than those for whom it waits. -/
structure RightL (has waits : List Wn) : Prop where
  hh : ∀ i j (hi : i < has.length) (hj : j < has.length), i ≠ j → has[i].mode ≠ 2 ∧ has[j].mode ≠ 2
  wh : ∀ w ∈ waits, ∀ h ∈ has, h.t ≠ w.t → (h.mode = 2 ∨ w.mode = 2) → eldT w.t h.t = true
  ww : ∀ i j (hi : i < waits.length) (hj : j < i), (waits[j].mode = 2 ∨ waits[i].mode = 2) → eldT waits[i].t waits[j].t = true
theorem RowW.cell3 {w : World} {v : Value} {ls : List Wn} (h : RowW w v ls) {ao : Option Addr} {n c : Nat} (hv : v = .slice ao n c) {i : Nat} (hi : i < ls.length) : ∃ ad, ao = some ad ∧ w.cell? (ad.add (i * 3)) = some (.int .u64 ls[i].num) ∧ w.cell? ⟨(ad.add (i * 3)).block, (ad.add (i * 3)).off + 1, none⟩ = some (.int .i64 ls[i].node) ∧ w.cell? ⟨(ad.add (i * 3)).block, (ad.add (i * 3)).off + 2, none⟩ = some (.int .i64 ls[i].mode) := by
  obtain ⟨ao', c', e, _, _, _, hr⟩ := h
  rw [hv] at e
  injection e with e1 e2 e3
  subst e1
  obtain ⟨ad, had⟩ := hr.ad hi
  exact ⟨ad, had, hr.2 ad had i hi⟩

set_option maxRecDepth 100000 in
set_option maxHeartbeats 8000000 in
theorem right12_ok (hv wv : Value) (has waits : List Wn) (w : World) (h1 : RowW w hv has) (h2 : RowW w wv waits) (hr : RightL has waits) (hl1 : has.length ≤ 10000) (hl2 : waits.length ≤ 10000) :
    Calls Try.prog 20 #[hv, wv] w fun e w' => e = .returned (.bool true) ∧ Ext w w' := by
  have H1 : Hid (RowW w hv has) := h1
  have H2 : Hid (RowW w wv waits) := h2
  have HR : Hid (RightL has waits) := hr
  obtain ⟨n, hn⟩ : ∃ n, has.length = n := ⟨_, rfl⟩
  obtain ⟨m, hm⟩ : ∃ m, waits.length = m := ⟨_, rfl⟩
  have HN : Hid (has.length = n ∧ waits.length = m) := ⟨hn, hm⟩
  have hn9 : n ≤ 10000 := by omega
  have hm9 : m ≤ 10000 := by omega
  obtain ⟨ha, hc, eh, _, _, _, _⟩ := h1
  obtain ⟨wa, wc, ew, hwc, hwm, hwz, hwr⟩ := h2
  have HWR : Hid (m ≤ wc ∧ wc ≤ maxLen ∧ (wa = none → wc = 0) ∧ RowAt w wa waits) := ⟨by omega, hwm, hwz, hwr⟩
  rw [hn] at eh
  rw [hm] at ew
  clear hr hl1 hl2 hn hm hwc hwm hwz hwr
  subst eh ew
  go_enter Try.func20, Try.ntmps20
  go_wp2_with fail

  go_loopw [17] (fun vi wr => ∃ i : Nat, vi = .int .i64 (i : Int) ∧ i ≤ n ∧ Ext w wr) (fun vi _ => n - (intOf vi).toNat)
  case atStart => exact ⟨0, rfl, Nat.zero_le _, Ext.refl _⟩
  case round =>
    obtain ⟨i, rfl, hin, hE⟩ := hrel
    generalize wr = V at hE ⊢
    have HE : Hid (Ext w V) := hE
    clear hE
    by_cases hlt : i < n
    · have hil : i < has.length := by rw [HN.out.1]; exact hlt
      obtain ⟨ad, rfl, k0, k1, k2⟩ := (H1.out.below HE.out).cell3 rfl hil
      obtain ⟨x, hx⟩ : ∃ x, x = has[i] := ⟨_, rfl⟩
      have HX : Hid (x = has[i]) := hx
      rw [← hx] at k0 k1 k2
      clear hx
      obtain ⟨V1, hV1⟩ : ∃ V1, V1 = V.alloc (.cells #[.int .u64 x.num, .int .i64 x.node, .int .i64 x.mode] 55) := ⟨_, rfl⟩
      have HE1 : Hid (Ext w V1) := by rw [hV1]; exact Ext.trans HE.out (ext_one _)
      have HB1 : Hid (Blk V1 V.heap.size #[.int .u64 x.num, .int .i64 x.node, .int .i64 x.mode] 55) := by rw [hV1]; exact Blk.new _ _ _
      go_upto_region 4 with fail
      rw [← hV1]
      clear hV1 k0 k1 k2 HE
      go_wp2_with fail
      go_loopw [24] (fun vi wr => ∃ j : Nat, vi = .int .i64 (j : Int) ∧ j ≤ n ∧ Ext V1 wr) (fun vi _ => n - (intOf vi).toNat)
      case atStart => exact ⟨0, rfl, Nat.zero_le _, Ext.refl _⟩
      case round =>
        obtain ⟨j, rfl, hjn, hE⟩ := hrel
        have HEX : Hid (Ext V1 wr) := hE
        have HEW : Hid (Ext w wr) := Ext.trans HE1.out hE
        clear hE
        by_cases hlj : j < n
        · have hjl : j < has.length := by rw [HN.out.1]; exact hlj
          obtain ⟨ad2, e2, k0, k1, k2⟩ := (H1.out.below HEW.out).cell3 rfl hjl
          cases e2
          obtain ⟨y, hy⟩ : ∃ y, y = has[j] := ⟨_, rfl⟩
          have HY : Hid (y = has[j]) := hy
          rw [← hy] at k0 k1 k2
          clear hy
          obtain ⟨W2, hW2⟩ : ∃ W2, W2 = wr.alloc (.cells #[.int .u64 y.num, .int .i64 y.node, .int .i64 y.mode] 55) := ⟨_, rfl⟩
          have HE2 : Hid (Ext wr W2) := by rw [hW2]; exact ext_one _
          have d0 : W2.cell? ⟨V.heap.size, 2, none⟩ = some (.int .i64 x.mode) := ((HB1.out.below_ HEX.out).below_ HE2.out).cell 2
          have d1 : W2.cell? ⟨wr.heap.size, 2, none⟩ = some (.int .i64 y.mode) := by rw [hW2]; exact (Blk.new _ _ _).cell 2
          have hii : (i : Int) + 1 ≤ 20000 := by omega
          have hjj : (j : Int) + 1 ≤ 20000 := by omega
          go_upto_region 7 with fail
          rw [← hW2]
          clear hW2 k0 k1 k2
          by_cases hij : i = j
          · have hijb : ((i : Int) != (j : Int)) = false := by simp [hij]
            have HER : Hid (Ext V1 W2) := Ext.trans HEX.out HE2.out
            clear hij
            go_wp2
            go_roundw
            case rel => exact ⟨j + 1, by go_num, hlj, HER.out⟩
            case measure => simp [intOf]; omega
          · have hijb : ((i : Int) != (j : Int)) = true := by simp; omega
            have hmm := HR.out.hh i j hil hjl hij
            rw [← HX.out, ← HY.out] at hmm
            have m1 : (x.mode == 2) = false := beq_eq_false_iff_ne.2 hmm.1
            have m2 : (y.mode == 2) = false := beq_eq_false_iff_ne.2 hmm.2
            have HER : Hid (Ext V1 W2) := Ext.trans HEX.out HE2.out
            clear hmm hij
            go_wp2
            go_roundw
            case rel => exact ⟨j + 1, by go_num, hlj, HER.out⟩
            case measure => simp [intOf]; omega
        · have hii : (i : Int) + 1 ≤ 20000 := by omega
          go_wp2
          go_roundw
          case rel => exact ⟨i + 1, by go_num, hlt, HEW.out⟩
          case measure => simp [intOf]; omega
    · have HE3 : Hid (Ext w V) := HE.out
      clear HE
      go_wp2_with fail
      go_loopw [46] (fun vi wr => ∃ p : Nat, vi = .int .i64 (p : Int) ∧ p ≤ m ∧ Ext V wr) (fun vi _ => m - (intOf vi).toNat)
      case atStart => exact ⟨0, rfl, Nat.zero_le _, Ext.refl _⟩
      case round =>
        obtain ⟨p, rfl, hpm, hE⟩ := hrel
        generalize wr = U at hE ⊢
        have HE : Hid (Ext w U) := Ext.trans HE3.out hE
        have HEV : Hid (Ext V U) := hE
        clear hE
        by_cases hlp : p < m
        · have hpl : p < waits.length := by rw [HN.out.2]; exact hlp
          obtain ⟨ad, rfl, k0, k1, k2⟩ := (H2.out.below HE.out).cell3 rfl hpl
          obtain ⟨x, hx⟩ : ∃ x, x = waits[p] := ⟨_, rfl⟩
          have HX : Hid (x = waits[p]) := hx
          have HXM : Hid (x ∈ waits) := by rw [hx]; exact List.getElem_mem _
          rw [← hx] at k0 k1 k2
          clear hx
          obtain ⟨U1, hU1⟩ : ∃ U1, U1 = U.alloc (.cells #[.int .u64 x.num, .int .i64 x.node, .int .i64 x.mode] 55) := ⟨_, rfl⟩
          have HE1 : Hid (Ext w U1) := by rw [hU1]; exact Ext.trans HE.out (ext_one _)
          have HEV1 : Hid (Ext V U1) := by rw [hU1]; exact Ext.trans HEV.out (ext_one _)
          have HB1 : Hid (Blk U1 U.heap.size #[.int .u64 x.num, .int .i64 x.node, .int .i64 x.mode] 55) := by rw [hU1]; exact Blk.new _ _ _
          go_upto_region 14 with fail
          rw [← hU1]
          clear hU1 k0 k1 k2 HE HEV
          go_wp2_with fail
          go_loopw [53] (fun vi wr => ∃ j : Nat, vi = .int .i64 (j : Int) ∧ j ≤ n ∧ Ext U1 wr) (fun vi _ => n - (intOf vi).toNat)
          case atStart => exact ⟨0, rfl, Nat.zero_le _, Ext.refl _⟩
          case round =>
            obtain ⟨j, rfl, hjn, hE⟩ := hrel
            have HEX : Hid (Ext U1 wr) := hE
            have HEW : Hid (Ext w wr) := Ext.trans HE1.out hE
            clear hE
            by_cases hlj : j < n
            · have hjl : j < has.length := by rw [HN.out.1]; exact hlj
              obtain ⟨ad2, rfl, k0, k1, k2⟩ := (H1.out.below HEW.out).cell3 rfl hjl
              obtain ⟨y, hy⟩ : ∃ y, y = has[j] := ⟨_, rfl⟩
              have HYM : Hid (y ∈ has) := by rw [hy]; exact List.getElem_mem _
              rw [← hy] at k0 k1 k2
              clear hy
              obtain ⟨W2, hW2⟩ : ∃ W2, W2 = wr.alloc (.cells #[.int .u64 y.num, .int .i64 y.node, .int .i64 y.mode] 55) := ⟨_, rfl⟩
              have HE2 : Hid (Ext wr W2) := by rw [hW2]; exact ext_one _
              have HBX : Hid (Blk W2 U.heap.size #[.int .u64 x.num, .int .i64 x.node, .int .i64 x.mode] 55) := (HB1.out.below_ HEX.out).below_ HE2.out
              have HBY : Hid (Blk W2 wr.heap.size #[.int .u64 y.num, .int .i64 y.node, .int .i64 y.mode] 55) := by rw [hW2]; exact Blk.new _ _ _
              have hjj : (j : Int) + 1 ≤ 20000 := by omega
              have HWH : Hid (y.t ≠ x.t → (y.mode = 2 ∨ x.mode = 2) → eldT x.t y.t = true) := HR.out.wh x HXM.out y HYM.out
              go_upto_region 17 with fail
              rw [← hW2]
              clear hW2 k0 k1 k2
              have x0 : W2.cell? ⟨U.heap.size, 0, none⟩ = some (.int .u64 x.num) := HBX.out.cell 0
              have x1 : W2.cell? ⟨U.heap.size, 1, none⟩ = some (.int .i64 x.node) := HBX.out.cell 1
              have x2 : W2.cell? ⟨U.heap.size, 2, none⟩ = some (.int .i64 x.mode) := HBX.out.cell 2
              have y0 : W2.cell? ⟨wr.heap.size, 0, none⟩ = some (.int .u64 y.num) := HBY.out.cell 0
              have y1 : W2.cell? ⟨wr.heap.size, 1, none⟩ = some (.int .i64 y.node) := HBY.out.cell 1
              have y2 : W2.cell? ⟨wr.heap.size, 2, none⟩ = some (.int .i64 y.mode) := HBY.out.cell 2
              have HER : Hid (Ext U1 W2) := Ext.trans HEX.out HE2.out
              have HFE : Hid (Calls Try.prog 23 #[.agg #[.int .u64 x.num, .int .i64 x.node], .agg #[.int .u64 y.num, .int .i64 y.node]] W2 fun e w' => e = .returned (.bool (eldT x.t y.t)) ∧ Ext W2 w') := elder12_any x.t y.t W2
              have htd : (y.num = x.num ∧ y.node = x.node) ∨ (y.t ≠ x.t ∧ ((y.num = x.num ∧ y.node ≠ x.node) ∨ y.num ≠ x.num)) := by
                by_cases a1 : y.num = x.num
                · by_cases a2 : y.node = x.node
                  · exact .inl ⟨a1, a2⟩
                  · exact .inr ⟨fun e => a2 (congrArg Td.node e), .inl ⟨a1, a2⟩⟩
                · exact .inr ⟨fun e => a1 (congrArg Td.num e), .inr a1⟩
              rcases htd with ⟨a1, a2⟩ | ⟨hne, hcs⟩
              · rw [a1] at y0
                rw [a2] at y1
                clear a1 a2 HFE
                go_wp2
                go_roundw
                case rel => exact ⟨j + 1, by go_num, hlj, HER.out⟩
                case measure => simp [intOf]; omega
              · have HNE : Hid (y.t ≠ x.t) := hne
                clear hne
                by_cases my : y.mode = 2
                · have HEL : Hid (eldT x.t y.t = true) := HWH.out HNE.out (.inl my)
                  rw [my] at y2
                  clear my
                  rcases hcs with ⟨a1, a2⟩ | a1
                  · have b1 : (y.node == x.node) = false := beq_eq_false_iff_ne.2 a2
                    rw [a1] at y0 HFE
                    clear a1 a2
                    go_wp2_with fail
                    refine HFE.out.mono ?_
                    rintro e W3 ⟨rfl, hx⟩
                    rw [HEL.out]
                    have HER : Hid (Ext U1 W3) := Ext.trans HER.out hx
                    clear hx HFE x0 x1 x2 y0 y1 y2
                    go_wp2
                    go_roundw
                    case rel => exact ⟨j + 1, by go_num, hlj, HER.out⟩
                    case measure => simp [intOf]; omega
                  · have b1 : (y.num == x.num) = false := beq_eq_false_iff_ne.2 a1
                    clear a1
                    go_wp2_with fail
                    refine HFE.out.mono ?_
                    rintro e W3 ⟨rfl, hx⟩
                    rw [HEL.out]
                    have HER : Hid (Ext U1 W3) := Ext.trans HER.out hx
                    clear hx HFE x0 x1 x2 y0 y1 y2
                    go_wp2
                    go_roundw
                    case rel => exact ⟨j + 1, by go_num, hlj, HER.out⟩
                    case measure => simp [intOf]; omega
                · have hmy : (y.mode == 2) = false := beq_eq_false_iff_ne.2 my
                  by_cases mx : x.mode = 2
                  · have HEL : Hid (eldT x.t y.t = true) := HWH.out HNE.out (.inr mx)
                    rw [mx] at x2
                    clear my mx
                    rcases hcs with ⟨a1, a2⟩ | a1
                    · have b1 : (y.node == x.node) = false := beq_eq_false_iff_ne.2 a2
                      rw [a1] at y0 HFE
                      clear a1 a2
                      go_wp2_with fail
                      refine HFE.out.mono ?_
                      rintro e W3 ⟨rfl, hx⟩
                      rw [HEL.out]
                      have HER : Hid (Ext U1 W3) := Ext.trans HER.out hx
                      clear hx HFE x0 x1 x2 y0 y1 y2
                      go_wp2
                      go_roundw
                      case rel => exact ⟨j + 1, by go_num, hlj, HER.out⟩
                      case measure => simp [intOf]; omega
                    · have b1 : (y.num == x.num) = false := beq_eq_false_iff_ne.2 a1
                      clear a1
                      go_wp2_with fail
                      refine HFE.out.mono ?_
                      rintro e W3 ⟨rfl, hx⟩
                      rw [HEL.out]
                      have HER : Hid (Ext U1 W3) := Ext.trans HER.out hx
                      clear hx HFE x0 x1 x2 y0 y1 y2
                      go_wp2
                      go_roundw
                      case rel => exact ⟨j + 1, by go_num, hlj, HER.out⟩
                      case measure => simp [intOf]; omega
                  · have hmx : (x.mode == 2) = false := beq_eq_false_iff_ne.2 mx
                    clear my mx HFE
                    rcases hcs with ⟨a1, a2⟩ | a1
                    · have b1 : (y.node == x.node) = false := beq_eq_false_iff_ne.2 a2
                      rw [a1] at y0
                      clear a1 a2
                      go_wp2
                      go_roundw
                      case rel => exact ⟨j + 1, by go_num, hlj, HER.out⟩
                      case measure => simp [intOf]; omega
                    · have b1 : (y.num == x.num) = false := beq_eq_false_iff_ne.2 a1
                      clear a1
                      go_wp2
                      go_roundw
                      case rel => exact ⟨j + 1, by go_num, hlj, HER.out⟩
                      case measure => simp [intOf]; omega
            · have hsl : ∀ Z, (Instr.slice 35 (.slice (some ad) m wc) none (some (.int .i64 (p : Int))) none).run Try.prog Z = .ok (.slice (some ad) p wc) Z := fun Z => sliceW_to (some ad) m wc p hpm HWR.out.1 HWR.out.2.2.1 Z
              generalize wr = Y at HEX HEW ⊢
              go_wp2_with fail
              go_loopw [85] (fun vi wr => ∃ q : Nat, vi = .int .i64 (q : Int) ∧ q ≤ p ∧ Ext Y wr) (fun vi _ => p - (intOf vi).toNat)
              case atStart => exact ⟨0, rfl, Nat.zero_le _, Ext.refl _⟩
              case round =>
                obtain ⟨q, rfl, hqp, hE⟩ := hrel
                have HEZ : Hid (Ext Y wr) := hE
                have HEV2 : Hid (Ext w wr) := Ext.trans HEW.out hE
                clear hE
                by_cases hlq : q < p
                · have hql : q < waits.length := by omega
                  obtain ⟨ad2, e2, k0, k1, k2⟩ := (H2.out.below HEV2.out).cell3 rfl hql
                  cases e2
                  obtain ⟨y, hy⟩ : ∃ y, y = waits[q] := ⟨_, rfl⟩
                  have HWW : Hid ((y.mode = 2 ∨ x.mode = 2) → eldT x.t y.t = true) := by rw [HX.out, hy]; exact HR.out.ww p q hpl hlq
                  rw [← hy] at k0 k1 k2
                  clear hy
                  obtain ⟨W2, hW2⟩ : ∃ W2, W2 = wr.alloc (.cells #[.int .u64 y.num, .int .i64 y.node, .int .i64 y.mode] 55) := ⟨_, rfl⟩
                  have HE2 : Hid (Ext wr W2) := by rw [hW2]; exact ext_one _
                  have HBX : Hid (Blk W2 U.heap.size #[.int .u64 x.num, .int .i64 x.node, .int .i64 x.mode] 55) := ((HB1.out.below_ HEX.out).below_ HEZ.out).below_ HE2.out
                  have HBY : Hid (Blk W2 wr.heap.size #[.int .u64 y.num, .int .i64 y.node, .int .i64 y.mode] 55) := by rw [hW2]; exact Blk.new _ _ _
                  have hjj : (q : Int) + 1 ≤ 20000 := by omega
                  have HER : Hid (Ext Y W2) := Ext.trans HEZ.out HE2.out
                  go_upto_region 23 with fail
                  rw [← hW2]
                  clear hW2 k0 k1 k2
                  have x0 : W2.cell? ⟨U.heap.size, 0, none⟩ = some (.int .u64 x.num) := HBX.out.cell 0
                  have x1 : W2.cell? ⟨U.heap.size, 1, none⟩ = some (.int .i64 x.node) := HBX.out.cell 1
                  have x2 : W2.cell? ⟨U.heap.size, 2, none⟩ = some (.int .i64 x.mode) := HBX.out.cell 2
                  have y0 : W2.cell? ⟨wr.heap.size, 0, none⟩ = some (.int .u64 y.num) := HBY.out.cell 0
                  have y1 : W2.cell? ⟨wr.heap.size, 1, none⟩ = some (.int .i64 y.node) := HBY.out.cell 1
                  have y2 : W2.cell? ⟨wr.heap.size, 2, none⟩ = some (.int .i64 y.mode) := HBY.out.cell 2
                  have HFE : Hid (Calls Try.prog 23 #[.agg #[.int .u64 x.num, .int .i64 x.node], .agg #[.int .u64 y.num, .int .i64 y.node]] W2 fun e w' => e = .returned (.bool (eldT x.t y.t)) ∧ Ext W2 w') := elder12_any x.t y.t W2
                  by_cases my : y.mode = 2
                  · have HEL : Hid (eldT x.t y.t = true) := HWW.out (.inl my)
                    rw [my] at y2
                    clear my
                    go_wp2_with fail
                    refine HFE.out.mono ?_
                    rintro e W3 ⟨rfl, hx⟩
                    rw [HEL.out]
                    have HER : Hid (Ext Y W3) := Ext.trans HER.out hx
                    clear hx HFE x0 x1 x2 y0 y1 y2
                    go_wp2
                    go_roundw
                    case rel => exact ⟨q + 1, by go_num, hlq, HER.out⟩
                    case measure => simp [intOf]; omega
                  · have hmy : (y.mode == 2) = false := beq_eq_false_iff_ne.2 my
                    by_cases mx : x.mode = 2
                    · have HEL : Hid (eldT x.t y.t = true) := HWW.out (.inr mx)
                      rw [mx] at x2
                      clear my mx
                      go_wp2_with fail
                      refine HFE.out.mono ?_
                      rintro e W3 ⟨rfl, hx⟩
                      rw [HEL.out]
                      have HER : Hid (Ext Y W3) := Ext.trans HER.out hx
                      clear hx HFE x0 x1 x2 y0 y1 y2
                      go_wp2
                      go_roundw
                      case rel => exact ⟨q + 1, by go_num, hlq, HER.out⟩
                      case measure => simp [intOf]; omega
                    · have hmx : (x.mode == 2) = false := beq_eq_false_iff_ne.2 mx
                      clear my mx HFE
                      go_wp2
                      go_roundw
                      case rel => exact ⟨q + 1, by go_num, hlq, HER.out⟩
                      case measure => simp [intOf]; omega
                · have hpp : (p : Int) + 1 ≤ 20000 := by omega
                  have HEN : Hid (Ext V wr) := Ext.trans HEV1.out (Ext.trans HEX.out HEZ.out)
                  go_wp2
                  go_roundw
                  case rel => exact ⟨p + 1, by go_num, hlp, HEN.out⟩
                  case measure => simp [intOf]; omega
        · go_wp2
          go_ret
          exact ⟨rfl, HE.out⟩
end Go.Proofs.Ytkgecljoodofeaa
