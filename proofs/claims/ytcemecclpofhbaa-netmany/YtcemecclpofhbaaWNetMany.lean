/- NetMany: the walk of the law's Go text. Own lemmas, no statement. -/
import Derived.Test.YtcemecclpofhbaaNet7
import Derived.Test.YtcemecclpofhbaaBase
set_option linter.unusedSimpArgs false
set_option linter.unusedVariables false
namespace Go.Proofs.Ytcemecclpofhbaa
open Go.ChangeShapes Go.WideShapes Go.ChangeAt Go.RowKit

theorem and_leT (a : Int) (m : Nat) (hm : m < 9223372036854775808) : ∃ i : Nat, i ≤ m ∧ bits .and .i64 a (m : Int) = (i : Int) := by
  refine ⟨(BitVec.ofInt 64 a &&& BitVec.ofInt 64 (m : Int)).toNat, ?_, ?_⟩
  · rw [BitVec.toNat_and]
    refine Nat.le_trans Nat.and_le_right ?_
    rw [BitVec.ofInt_natCast, BitVec.toNat_ofNat]
    exact Nat.mod_le _ _
  · have hle : (BitVec.ofInt 64 a &&& BitVec.ofInt 64 (m : Int)).toNat ≤ m := by
      rw [BitVec.toNat_and]
      refine Nat.le_trans Nat.and_le_right ?_
      rw [BitVec.ofInt_natCast, BitVec.toNat_ofNat]
      exact Nat.mod_le _ _
    show IntKind.i64.wrap ((BitVec.ofInt 64 a &&& BitVec.ofInt 64 (m : Int)).toNat : Int) = _
    rw [IntKind.wrap_i64]
    omega
theorem and63 (a : Int) : ∃ i : Nat, i ≤ 63 ∧ bits .and .i64 a 63 = (i : Int) := and_leT a 63 (by omega)
set_option maxRecDepth 100000 in
set_option maxHeartbeats 8000000 in
theorem walk_NetMany (at_ : Int) (a : Option Addr) (len cap : Nat) (zz : List Int) (w : World) (h0 : (Lit.int .i64 at_).wf = true) (hw : IsRow .u8 w a len cap zz) : Calls Try.prog 4 #[.int .i64 at_, .slice a len cap] w fun e w' => e = .returned (.bool true) ∧ Below w.heap.size w w' := by
  obtain ⟨l, hs, hlen⟩ := isRow_src hw
  clear hw h0
  subst hlen
  have HS : Hid (Src w (.slice a l.length cap) l) := hs
  have hcm : l.length ≤ 9223372036854775807 := by have := hs.at.2.2.1; have := hs.at.2.1; unfold maxLen at *; omega
  clear hs
  obtain ⟨n, hn⟩ : ∃ n, n = l.length := ⟨_, rfl⟩
  have HN : Hid (n = l.length) := hn
  rw [← hn] at HS hcm ⊢
  clear hn
  go_enter Try.func4, Try.ntmps4
  go_wp2_with fail
  refine (head16_any _).mono ?_
  rintro e w1 ⟨rfl, y⟩
  have HY1 : Hid (Below w.heap.size w w1) := y
  clear y
  by_cases hl : 200 < n
  · go_wp2
    go_ret
    exact ⟨rfl, HY1.out⟩
  have HL : Hid (l.length ≤ 200) := by have := HN.out; show _ ≤ _; omega
  obtain ⟨w2, hw2⟩ : ∃ w2, w2 = w1.alloc (.cells #[.slice none 0 0] 27) := ⟨_, rfl⟩
  have HNI : Hid (NetI w2 w1.heap.size w1.heap.size (.slice none 0 0) []) := by rw [hw2]; exact NetI.new w1
  have HY2 : Hid (Below w.heap.size w w2) := by rw [hw2]; exact HY1.out.alloc HY1.out.size _
  have HBW : Hid (w.heap.size ≤ w1.heap.size) := HY1.out.size
  go_upto_region 6 with fail
  rw [← hw2]
  clear hw2 hl
  generalize w1.heap.size = p at *
  go_wp2
  go_loopw [6] (fun i wr => ∃ (k : Nat) (v : Value) (ls : List LetV), i = .int .i64 k ∧ k ≤ 2000 ∧ ls.length = k ∧ NetI wr p p v ls ∧ Below w.heap.size w wr) (fun i _ => 2000 - (intOf i).toNat)
  case atStart => exact ⟨0, _, [], rfl, by omega, rfl, HNI.out, HY2.out⟩
  case round =>
    obtain ⟨k, v, ls, rfl, hk, hlk, hNI, hY⟩ := hrel
    clear HNI HY2
    have HNI : Hid (NetI wr p p v ls) := hNI
    have HY : Hid (Below w.heap.size w wr) := hY
    have HLK : Hid (ls.length = k) := hlk
    clear hNI hY hlk
    by_cases hlt : k < 2000
    · obtain ⟨m, hm, hand⟩ := and63 (k : Int)
      have HM : Hid (m ≤ 63) := hm
      have HX : Hid (Calls _ _ _ _ _) := send_any p p v ls (m : Int) a n cap l wr HNI.out (HS.out.below HY.out) (by have := HL.out; omega)
      clear hm
      go_wp2_with fail
      refine HX.out.mono ?_
      rintro e w3 hs
      obtain ⟨rfl, v3, x, hd, hb, hN, hC, hF⟩ := send_ok hs (by have := HM.out; omega) HL.out (by have := HLK.out; omega)
      have HN3 : Hid (NetI w3 p p v3 (ls ++ [x])) := hN
      have HY3 : Hid (Below w.heap.size w w3) := HY.out.trans ((HNI.out.base_below hC).mono HBW.out)
      have HL3 : Hid ((ls ++ [x]).length = k + 1) := by show _ = _; rw [List.length_append, HLK.out]; rfl
      clear hs hd hb hN hC hF HX HNI HY HLK hand HM
      go_wp2
      go_roundw
      case rel => exact ⟨k + 1, v3, _, by go_num, by omega, HL3.out, HN3.out, HY3.out⟩
      case measure => simp [intOf]; omega
    · have HK : Hid (k = 2000) := by show _ = _; omega
      have hk2 : k = 2000 := HK.out
      subst hk2
      clear hlt hk HK
      go_wp2_with fail
      refine (at_nil at_ wr).mono ?_
      rintro e w4 ⟨rfl, y⟩
      obtain ⟨w5, hw5⟩ : ∃ w5, w5 = w4.alloc (.cells #[.int .i64 0, .slice none 0 0] 34) := ⟨_, rfl⟩
      have HY5 : Hid (Below wr.heap.size wr w5) := by rw [hw5]; exact y.alloc y.size _
      clear y
      go_upto_region 13 with fail
      rw [← hw5]
      clear hw5
      generalize w4.heap.size = q at *
      go_wp2_with fail
      refine (take_nil at_ w5).mono ?_
      rintro e w6 ⟨rfl, y⟩
      obtain ⟨w7, hw7⟩ : ∃ w7, w7 = w6.alloc (.cells #[.int .i64 0, .slice none 0 0] 34) := ⟨_, rfl⟩
      have HY7 : Hid (Below wr.heap.size wr w7) := by rw [hw7]; exact (ext_trans HY5.out y).alloc (ext_trans HY5.out y).size _
      clear y
      go_upto_region 14 with fail
      rw [← hw7]
      clear hw7
      generalize w6.heap.size = q2 at *
      have HN7 : Hid (NetI w7 p p v ls) := HNI.out.below HY7.out
      have HYW : Hid (Below w.heap.size w w7) := ext_trans HY.out HY7.out
      have HX : Hid (Calls _ _ _ _ _) := send_any p p v ls 0 a n cap l w7 HN7.out (HS.out.below HYW.out) (by have := HL.out; omega)
      go_wp2_with fail
      refine HX.out.mono ?_
      rintro e w8 hs
      have hr : e = .returned (.int .i64 3) ∧ w8 = w7 := by
        have h1 := HL.out
        have h2 := HLK.out
        rcases hs with ⟨h, _⟩ | ⟨_, _, h⟩ | ⟨_, h, _⟩
        · omega
        · exact h
        · omega
      obtain ⟨rfl, hw⟩ := hr
      rw [hw]
      clear hs hw HX w8
      have HX : Hid (Calls _ _ _ _ _) := twice_any p p v ls 5 w7 HN7.out
      go_wp2_with fail
      refine HX.out.mono ?_
      rintro e w8 hs
      have hr : e = .returned (.int .i64 3) ∧ Below w7.heap.size w7 w8 := by
        have h2 := HLK.out
        rcases hs with ⟨h, _⟩ | ⟨_, i, hi, hx, h | h⟩
        · exact absurd h (by unfold inB; rw [decide_eq_true (by omega)]; decide)
        · exact h.2
        · omega
      obtain ⟨rfl, y⟩ := hr
      have HN8 : Hid (NetI w8 p p v ls) := HN7.out.below y
      have HY8 : Hid (Below w.heap.size w w8) := ext_trans HYW.out y
      clear hs y HX HN7 HYW HY7 HY5
      have HX : Hid (Calls _ _ _ _ _) := len_any p p v ls w8 HN8.out
      rw [HLK.out] at HX
      go_wp2_with fail
      refine HX.out.mono ?_
      rintro e w9 ⟨rfl, hw⟩
      rw [hw]
      clear hw w9 HX
      go_wp2_with fail
      refine (send_nil 1 a n cap w8).mono ?_
      rintro e w9 ⟨rfl, hw⟩
      rw [hw]
      clear hw w9
      go_wp2_with fail
      refine (len_nil w8).mono ?_
      rintro e w9 ⟨rfl, hw⟩
      rw [hw]
      clear hw w9
      go_wp2_with fail
      refine (twice_nil at_ w8).mono ?_
      rintro e w9 ⟨rfl, y⟩
      have HY9 : Hid (Below w.heap.size w w9) := ext_trans HY8.out y
      clear y
      go_wp2_with fail
      refine (spoil_nil at_ 0 1 w9).mono ?_
      rintro e wa ⟨rfl, hw⟩
      rw [hw]
      clear hw wa
      go_wp2
      go_ret
      exact ⟨rfl, HY9.out⟩
end Go.Proofs.Ytcemecclpofhbaa
