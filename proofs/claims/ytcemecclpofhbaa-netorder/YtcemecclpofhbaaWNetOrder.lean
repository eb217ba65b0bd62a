/- NetOrder: the walk of the law's Go text. Own lemmas, no statement. -/
import Derived.Test.YtcemecclpofhbaaNet7
import Derived.Test.YtcemecclpofhbaaOpenBs
set_option linter.unusedSimpArgs false
set_option linter.unusedVariables false
namespace Go.Proofs.Ytcemecclpofhbaa
open Go.ChangeShapes Go.WideShapes Go.ChangeAt Go.RowKit

theorem and_leT (a : Int) (m : Nat) (hm : m < 9223372036854775808) : ∃ i : Nat, i ≤ m ∧ bits .and .i64 a (m : Int) = (i : Int) := by
  refine ⟨(BitVec.ofInt 64 a &&& BitVec.ofInt 64 (m : Int)).toNat, ?_, ?_⟩
  · rw [BitVec.toNat_and]
    refine Nat.le_trans Nat.and_le_right ?_
    rw [BitVec.ofInt_natCast, BitVec.toNat_ofNat]
    exact Nat.mod_le _ _
  · have hle : (BitVec.ofInt 64 a &&& BitVec.ofInt 64 (m : Int)).toNat ≤ m := by
      rw [BitVec.toNat_and]
      refine Nat.le_trans Nat.and_le_right ?_
      rw [BitVec.ofInt_natCast, BitVec.toNat_ofNat]
      exact Nat.mod_le _ _
    show IntKind.i64.wrap ((BitVec.ofInt 64 a &&& BitVec.ofInt 64 (m : Int)).toNat : Int) = _
    rw [IntKind.wrap_i64]
    omega
theorem and63 (a : Int) : ∃ i : Nat, i ≤ 63 ∧ bits .and .i64 a 63 = (i : Int) := and_leT a 63 (by omega)
/-- To which node the i-th letter goes. -/
def toAt (zs : List Int) (tn i : Nat) : Int := if i < tn then bits .and .i64 (zs.getD i 0) 63 else 0
theorem toAt_in (zs : List Int) (tn i : Nat) : 0 ≤ toAt zs tn i ∧ toAt zs tn i < 64 := by
  unfold toAt
  split
  · obtain ⟨m, h1, h2⟩ := and63 (zs.getD i 0)
    rw [h2]
    omega
  · omega
/-- The letters from the i-th one on: what they are. -/
def Are (f : Nat → Int) (l : List BsV) (s : Nat) (ls : List LetV) : Prop := s + ls.length ≤ l.length ∧ ∀ j x, ls[j]? = some x → x.dst = f (s + j) ∧ ∃ b, l[s + j]? = some b ∧ x.bs = b.bs
theorem Are.push {f : Nat → Int} {l : List BsV} {ls : List LetV} (h : Are f l 0 ls) {x : LetV} {b : BsV} (hb : l[ls.length]? = some b) (hd : x.dst = f ls.length) (hx : x.bs = b.bs) : Are f l 0 (ls ++ [x]) := by
  have hlt := (List.getElem?_eq_some_iff.1 hb).1
  refine ⟨by rw [List.length_append]; simp; omega, fun j y hy => ?_⟩
  by_cases hj : j < ls.length
  · rw [List.getElem?_append_left hj] at hy
    exact h.2 j y hy
  · have hj2 := (List.getElem?_eq_some_iff.1 hy).1
    rw [List.length_append] at hj2
    simp at hj2
    have e : j = ls.length := by omega
    subst e
    rw [List.getElem?_append_right (Nat.le_refl _)] at hy
    simp at hy
    subst hy
    rw [Nat.zero_add]
    exact ⟨hd, b, hb, hx⟩
theorem Are.tail {f : Nat → Int} {l : List BsV} {s : Nat} {ls : List LetV} (h : Are f l s ls) (hl : 0 < ls.length) : Are f l (s + 1) (ls.eraseIdx 0) := by
  match ls, hl with
  | y :: t, _ =>
    refine ⟨by have := h.1; simp at this ⊢; omega, fun j x hx => ?_⟩
    have := h.2 (j + 1) x (by simpa using hx)
    rw [show s + (j + 1) = s + 1 + j by omega] at this
    exact this
set_option maxRecDepth 100000 in
set_option maxHeartbeats 8000000 in
theorem walk_NetOrder (a : Option Addr) (len cap : Nat) (l : List BsV) (ta : Option Addr) (tn tc : Nat) (zs : List Int) (w : World) (hl : IsBss w a len cap l) (ht : IsRow .i64 w ta tn tc zs) : Calls Try.prog 5 #[.slice a len cap, .slice ta tn tc] w fun e w' => e = .returned (.bool true) ∧ Below w.heap.size w w' := by
  have HL : Hid (IsBss w a len cap l) := hl
  have HT : Hid (IsRow .i64 w ta tn tc zs) := ht
  have h1 : len ≤ 9223372036854775807 := by have := hl.2.1; have := hl.2.2.1; unfold maxLen at *; omega
  have h2 : tn ≤ 9223372036854775807 := by
    rcases ht with ⟨_, h, _⟩ | ⟨x, _, h, h3, _⟩
    · omega
    · unfold maxLen at *; omega
  have HLN : Hid (l.length = len) := hl.1
  clear hl ht
  go_enter Try.func5, Try.ntmps5
  go_wp2_with fail
  refine (head16_any _).mono ?_
  rintro e w1 ⟨rfl, y⟩
  have HY1 : Hid (Below w.heap.size w w1) := y
  clear y
  by_cases g1 : 30 < len
  · go_wp2
    go_ret
    exact ⟨rfl, HY1.out⟩
  by_cases g2 : 30 < tn
  · go_wp2
    go_ret
    exact ⟨rfl, HY1.out⟩
  obtain ⟨w2, hw2⟩ : ∃ w2, w2 = w1.alloc (.cells #[.slice none 0 0] 27) := ⟨_, rfl⟩
  have HNI : Hid (NetI w2 w1.heap.size w1.heap.size (.slice none 0 0) []) := by rw [hw2]; exact NetI.new w1
  have HY2 : Hid (Below w.heap.size w w2) := by rw [hw2]; exact HY1.out.alloc HY1.out.size _
  have HBW : Hid (w.heap.size ≤ w1.heap.size) := HY1.out.size
  have HG : Hid (len ≤ 30 ∧ tn ≤ 30) := by show _ ∧ _; omega
  go_upto_region 6 with fail
  rw [← hw2]
  clear hw2 g1 g2 h1 h2
  generalize w1.heap.size = p at *
  go_wp2
  go_loopw [30] (fun i wr => ∃ (k : Nat) (v : Value) (ls : List LetV), i = .int .i64 k ∧ k ≤ len ∧ ls.length = k ∧ Are (toAt zs tn) l 0 ls ∧ NetI wr p p v ls ∧ Below w.heap.size w wr) (fun i _ => len - (intOf i).toNat)
  case atStart => exact ⟨0, _, [], rfl, Nat.zero_le _, rfl, ⟨Nat.zero_le _, fun j x hx => by simp at hx⟩, HNI.out, HY2.out⟩
  case round =>
    obtain ⟨k, v, ls, rfl, hk, hlk, hA, hNI, hY⟩ := hrel
    clear HNI HY2
    have HNI : Hid (NetI wr p p v ls) := hNI
    have HY : Hid (Below w.heap.size w wr) := hY
    have HLK : Hid (ls.length = k) := hlk
    have HA : Hid (Are (toAt zs tn) l 0 ls) := hA
    clear hNI hY hlk hA
    by_cases hlt : k < len
    · obtain ⟨ad, had⟩ : ∃ ad, a = some ad := by
        cases a with
        | none => have h5 := HL.out.2.2.2.1 rfl; have h6 := HLN.out; rw [h5] at h6; simp at h6; omega
        | some ad => exact ⟨ad, rfl⟩
      subst had
      obtain ⟨x, hx⟩ : ∃ x, l[k]? = some x := ⟨_, List.getElem?_eq_getElem (by have := HLN.out; omega)⟩
      have HXI : Hid (l[k]? = some x) := hx
      have y1 : wr.cell? (ad.add k) = some (.slice x.a x.n x.c) := (HL.out.below HY.out).2.2.2.2.2 ad rfl k x hx
      have HXS : Hid (Src wr (.slice x.a x.n x.c) x.bs) := (HL.out.below HY.out).2.2.2.2.1 x (List.mem_of_getElem? hx)
      have hxn : x.n = x.bs.length := HXS.out.at.1
      have hx63 : x.n ≤ 9223372036854775807 := by have := HXS.out.at; unfold maxLen at this; omega
      have HXN : Hid (x.n = x.bs.length) := hxn
      have hkl : (k : Int) < (len : Int) := by omega
      have h64 : len ≤ 30 := HG.out.1
      clear hx hxn
      by_cases g3 : 200 < x.n
      · go_wp2
        go_ret
        exact ⟨rfl, HY.out⟩
      have HXL : Hid (x.bs.length ≤ 200) := by have := HXN.out; show _ ≤ _; omega
      by_cases g4 : k < tn
      · obtain ⟨tb, htb⟩ : ∃ tb, ta = some tb := by
          rcases HT.out with ⟨_, h, _⟩ | ⟨tb, h, _⟩
          · omega
          · exact ⟨tb, h⟩
        subst htb
        have z1 : wr.cell? (tb.add k) = some (.int .i64 (zs.getD k 0)) := by
          rcases HT.out with ⟨h, _⟩ | ⟨tb', h, hle, hm, hz, hc, _⟩
          · cases h
          · cases h
            have hc1 := hc k (by omega)
            exact (Below.cell HY.out (World.block_lt_of_cell? _ _ hc1)).trans hc1
        have hkt : (k : Int) < (tn : Int) := by omega
        have ht30 : tn ≤ 30 := HG.out.2
        have HTO : Hid (toAt zs tn k = bits .and .i64 (zs.getD k 0) 63) := if_pos g4
        have HTI := toAt_in zs tn k
        rw [HTO.out] at HTI
        have HTJ : Hid (0 ≤ bits .and .i64 (zs.getD k 0) 63 ∧ bits .and .i64 (zs.getD k 0) 63 < 64) := HTI
        clear HTI
        generalize zs.getD k 0 = zk at *
        generalize hbz : bits .and .i64 zk 63 = bz at *
        have HX : Hid (Calls _ _ _ _ _) := send_any p p v ls bz x.a x.n x.c x.bs wr HNI.out HXS.out (by have := HXL.out; omega)
        go_wp2_with fail
        refine HX.out.mono ?_
        rintro e w3 hs
        obtain ⟨rfl, v3, y, hd, hb, hN, hC, hF⟩ := send_ok hs HTJ.out HXL.out (by have := HLK.out; omega)
        have HN3 : Hid (NetI w3 p p v3 (ls ++ [y])) := hN
        have HY3 : Hid (Below w.heap.size w w3) := HY.out.trans ((HNI.out.base_below hC).mono HBW.out)
        have HL3 : Hid ((ls ++ [y]).length = k + 1) := by show _ = _; rw [List.length_append, HLK.out]; rfl
        have HA3 : Hid (Are (toAt zs tn) l 0 (ls ++ [y])) := HA.out.push (b := x) (by rw [HLK.out]; exact HXI.out) (by rw [HLK.out, hd, HTO.out]) hb
        clear hs hd hb hN hC hF HX HNI HY HLK HXS HXL HXN HA HTO HTJ hbz
        go_wp2
        go_roundw
        case rel => exact ⟨k + 1, v3, _, by go_num, by omega, HL3.out, HA3.out, HN3.out, HY3.out⟩
        case measure => simp [intOf]; omega
      · have HTO : Hid (toAt zs tn k = 0) := if_neg g4
        have HX : Hid (Calls _ _ _ _ _) := send_any p p v ls 0 x.a x.n x.c x.bs wr HNI.out HXS.out (by have := HXL.out; omega)
        go_wp2_with fail
        refine HX.out.mono ?_
        rintro e w3 hs
        obtain ⟨rfl, v3, y, hd, hb, hN, hC, hF⟩ := send_ok hs (by decide) HXL.out (by have := HLK.out; omega)
        have HN3 : Hid (NetI w3 p p v3 (ls ++ [y])) := hN
        have HY3 : Hid (Below w.heap.size w w3) := HY.out.trans ((HNI.out.base_below hC).mono HBW.out)
        have HL3 : Hid ((ls ++ [y]).length = k + 1) := by show _ = _; rw [List.length_append, HLK.out]; rfl
        have HA3 : Hid (Are (toAt zs tn) l 0 (ls ++ [y])) := HA.out.push (b := x) (by rw [HLK.out]; exact HXI.out) (by rw [HLK.out, hd, HTO.out]) hb
        clear hs hd hb hN hC hF HX HNI HY HLK HXS HXL HXN HA HTO
        go_wp2
        go_roundw
        case rel => exact ⟨k + 1, v3, _, by go_num, by omega, HL3.out, HA3.out, HN3.out, HY3.out⟩
        case measure => simp [intOf]; omega
    · have HK : Hid (ls.length = len) := by have := HLK.out; show _ = _; omega
      go_wp2
      clear hlt hk HLK
      go_loopw [55] (fun i wq => ∃ (k : Nat) (v : Value) (ls : List LetV), i = .int .i64 k ∧ k ≤ len ∧ ls.length = len - k ∧ Are (toAt zs tn) l k ls ∧ NetI wq p p v ls ∧ Below w.heap.size w wq) (fun i _ => len - (intOf i).toNat)
      case atStart => exact ⟨0, v, ls, rfl, Nat.zero_le _, HK.out, HA.out, HNI.out, HY.out⟩
      case round =>
        obtain ⟨k, v, ls, rfl, hk, hlk, hA, hNI, hY⟩ := hrel
        clear HNI HY HA HK
        have HNI : Hid (NetI wr p p v ls) := hNI
        have HY : Hid (Below w.heap.size w wr) := hY
        have HLK : Hid (ls.length = len - k) := hlk
        have HA : Hid (Are (toAt zs tn) l k ls) := hA
        clear hNI hY hlk hA
        have HX : Hid (Calls _ _ _ _ _) := take_any p p v ls 0 wr HNI.out (by decide)
        by_cases hlt : k < len
        · obtain ⟨ad, had⟩ : ∃ ad, a = some ad := by
            cases a with
            | none => have h5 := HL.out.2.2.2.1 rfl; have h6 := HLN.out; rw [h5] at h6; simp at h6; omega
            | some ad => exact ⟨ad, rfl⟩
          subst had
          obtain ⟨x, hx⟩ : ∃ x, l[k]? = some x := ⟨_, List.getElem?_eq_getElem (by have := HLN.out; omega)⟩
          have HSX : Hid (∀ W, Below w.heap.size w W → Src W (.slice x.a x.n x.c) x.bs) := fun W hW => (HL.out.below hW).2.2.2.2.1 x (List.mem_of_getElem? hx)
          have y1 : wr.cell? (ad.add k) = some (.slice x.a x.n x.c) := (HL.out.below HY.out).2.2.2.2.2 ad rfl k x hx
          have hx63 : x.n ≤ 9223372036854775807 := by have := (HSX.out _ HY.out).at; unfold maxLen at this; omega
          have hkl : (k : Int) < (len : Int) := by omega
          have h64 : len ≤ 30 := HG.out.1
          have hl0 : 0 < ls.length := by have := HLK.out; omega
          obtain ⟨t, ht⟩ : ∃ t, ls[0]? = some t := ⟨_, List.getElem?_eq_getElem hl0⟩
          have HT0 : Hid (t.dst = toAt zs tn k ∧ t.bs = x.bs) := by
            obtain ⟨h1, b, h2, h3⟩ := HA.out.2 0 t ht
            rw [Nat.add_zero] at h1 h2
            rw [hx] at h2
            cases h2
            exact ⟨h1, h3⟩
          have HTT : Hid (ls[0]? = some t) := ht
          have HA3 : Hid (Are (toAt zs tn) l (k + 1) (ls.eraseIdx 0)) := HA.out.tail hl0
          have HL3 : Hid ((ls.eraseIdx 0).length = len - (k + 1)) := by show _ = _; rw [List.length_eraseIdx, if_pos hl0, HLK.out]; omega
          clear hx ht hl0 HA HLK
          go_wp2_with fail
          refine HX.out.mono ?_
          rintro e w3 hs
          obtain ⟨a3, c3, rfl, hO, v3, hN, hC, hF⟩ := take_ok (i := 0) hs HTT.out
          rw [HT0.out.1, HT0.out.2]
          rw [HT0.out.2] at hO
          obtain ⟨w4, hw4⟩ : ∃ w4, w4 = w3.alloc (.cells #[.int .i64 (toAt zs tn k), .slice a3 x.bs.length c3] 34) := ⟨_, rfl⟩
          have HN4 : Hid (NetI w4 p p v3 (ls.eraseIdx 0)) := by rw [hw4]; exact NetI.below hN (below_allocR _)
          have HY3 : Below w.heap.size w w3 := HY.out.trans ((HNI.out.base_below hC).mono HBW.out)
          have HY4 : Hid (Below w.heap.size w w4) := by rw [hw4]; exact HY3.alloc HY3.size _
          have HO4 : Hid (Own w4 wr.heap.size (.slice a3 x.bs.length c3) x.bs) := by rw [hw4]; exact hO.alloc _
          have HB4 : Hid (Blk w4 w3.heap.size #[.int .i64 (toAt zs tn k), .slice a3 x.bs.length c3] 34) := by rw [hw4]; exact Blk.new _ _ _
          have hbl : x.bs.length ≤ 9223372036854775807 := by have := HO4.out.src.at; unfold maxLen at this; omega
          clear hs hO hN hC hF HX HNI HY HY3 HT0 HTT
          go_upto_region 21 with fail
          rw [← hw4]
          clear hw4
          generalize w3.heap.size = q at *
          have t0 : w4.cell? ⟨q, 0, none⟩ = some (.int .i64 (toAt zs tn k)) := HB4.out.cell 0
          have t1 : w4.cell? ⟨q, 1, none⟩ = some (.slice a3 x.bs.length c3) := HB4.out.cell 1
          have hs1 : (convert 28 9 (.slice a3 x.bs.length c3)).run Try.prog w4 = .ok (.string ⟨x.bs.toArray⟩) w4 := HO4.out.src.str
          have hs2 : (convert 28 9 (.slice x.a x.n x.c)).run Try.prog w4 = .ok (.string ⟨x.bs.toArray⟩) w4 := (HSX.out _ HY4.out).str
          obtain ⟨rm, hrm⟩ : ∃ rm, rm = len - (k + 1) := ⟨_, rfl⟩
          have HRM : Hid (rm = len - (k + 1)) := hrm
          rw [← hrm] at HL3
          have HXL : Hid (Calls _ _ _ _ _) := len_any p p v3 (ls.eraseIdx 0) w4 HN4.out
          rw [HL3.out] at HXL
          have hw1 : wrap64 ((len : Int) - 1) = ((len - 1 : Nat) : Int) := by unfold wrap64; omega
          have hw2 : wrap64 (((len - 1 : Nat) : Int) - (k : Int)) = (rm : Int) := by unfold wrap64; omega
          have hw3 : IntKind.i64.wrap ((len : Int) - 1) = ((len - 1 : Nat) : Int) := by rw [IntKind.wrap_i64]; omega
          have hw4 : IntKind.i64.wrap (((len - 1 : Nat) : Int) - (k : Int)) = (rm : Int) := by rw [IntKind.wrap_i64]; omega
          clear hrm HO4 HB4
          by_cases g4 : k < tn
          · obtain ⟨tb, htb⟩ : ∃ tb, ta = some tb := by
              rcases HT.out with ⟨_, h, _⟩ | ⟨tb, h, _⟩
              · omega
              · exact ⟨tb, h⟩
            subst htb
            have z1 : w4.cell? (tb.add k) = some (.int .i64 (zs.getD k 0)) := by
              rcases HT.out with ⟨h, _⟩ | ⟨tb', h, hle, hm, hz, hc, _⟩
              · cases h
              · cases h
                have hc1 := hc k (by omega)
                exact (Below.cell HY4.out (World.block_lt_of_cell? _ _ hc1)).trans hc1
            have hkt : (k : Int) < (tn : Int) := by omega
            have ht30 : tn ≤ 30 := HG.out.2
            have HTO : Hid (toAt zs tn k = bits .and .i64 (zs.getD k 0) 63) := if_pos g4
            rw [HTO.out] at t0
            clear HTO
            generalize zs.getD k 0 = zk at *
            generalize hbz : bits .and .i64 zk 63 = bz at *
            go_wp2_with fail
            refine HXL.out.mono ?_
            rintro e w5 ⟨rfl, hw⟩
            rw [hw]
            clear hw w5 HXL
            go_wp2
            go_roundw
            case rel => exact ⟨k + 1, v3, _, by go_num, by omega, by rw [HL3.out, HRM.out], HA3.out, HN4.out, HY4.out⟩
            case measure => simp [intOf]; omega
          · have HTO : Hid (toAt zs tn k = 0) := if_neg g4
            rw [HTO.out] at t0
            clear HTO
            go_wp2_with fail
            refine HXL.out.mono ?_
            rintro e w5 ⟨rfl, hw⟩
            rw [hw]
            clear hw w5 HXL
            go_wp2
            go_roundw
            case rel => exact ⟨k + 1, v3, _, by go_num, by omega, by rw [HL3.out, HRM.out], HA3.out, HN4.out, HY4.out⟩
            case measure => simp [intOf]; omega
        · have HK : Hid (ls = []) := by
            have h1 := HLK.out
            exact List.length_eq_zero_iff.1 (by omega)
          go_wp2_with fail
          refine HX.out.mono ?_
          rintro e w3 hs
          have hr : e = .returned (.tuple #[.agg #[.int .i64 0, .slice none 0 0], .bool false]) ∧ Below w.heap.size w w3 := by
            rcases hs with ⟨h, he, hb⟩ | ⟨y, k2, a', c', hk, hy, he, ho, hn⟩
            · exact ⟨he, ext_trans HY.out hb⟩
            · rw [HK.out] at hy
              simp at hy
          obtain ⟨rfl, y⟩ := hr
          have HY3 : Hid (Below w.heap.size w w3) := y
          clear y hs
          go_wp2
          go_ret
          exact ⟨rfl, ext_trans HY3.out (below_allocR _)⟩
end Go.Proofs.Ytcemecclpofhbaa
