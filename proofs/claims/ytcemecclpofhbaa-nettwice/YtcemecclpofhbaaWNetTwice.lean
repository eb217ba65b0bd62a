/- NetTwice: the walk of the law's Go text. Own lemmas, no statement. -/
import Derived.Test.YtcemecclpofhbaaWNetOrder
set_option linter.unusedSimpArgs false
set_option linter.unusedVariables false
namespace Go.Proofs.Ytcemecclpofhbaa
open Go.ChangeShapes Go.WideShapes Go.ChangeAt Go.RowKit

theorem wf_i64_le {n : Int} (h0 : 0 ≤ n) (h1 : n ≤ 9223372036854775807) : (Lit.int .i64 n).wf = true := by
  simp [Lit.wf, IntKind.min, IntKind.max, IntKind.signed, IntKind.bits]
  omega
theorem NetI.after {W0 W W' : World} {B p : Nat} {v : Value} {ls : List LetV} (h : NetI W0 B p v ls) (hc : Chg (fun i => i = p ∨ v.ownBlock = some i) W W') (g : Nat) (h1 : W0.heap.size ≤ g) (h2 : g < W.heap.size) : W'.heap[g]? = W.heap[g]? :=
  hc.block g h2 (fun e => by
    rcases e with e | e
    · have := h.blk.lt; omega
    · have := (h.own.lt g e).2; omega)
theorem src_cell {W : World} {ao : Option Addr} {n c : Nat} {l : List UInt8} (h : Src W (.slice ao n c) l) {j : Nat} {u : UInt8} (hj : l[j]? = some u) : ∃ ad, ao = some ad ∧ W.cell? (ad.add j) = some (.int .u8 (u.toNat : Int)) := by
  obtain ⟨h1, h2, h3, h4, h5⟩ := h.at
  cases ao with
  | none => obtain ⟨rfl, _⟩ := h4 rfl; simp at hj
  | some ad => exact ⟨ad, rfl, h5 ad rfl j _ (by simp [bv, hj])⟩
/-- What Spoil does to a letter that is there. -/
theorem spoil_in {B p : Nat} {v : Value} {ls : List LetV} {k j : Nat} {x : LetV} {ob bt : UInt8} {w : World} {e : Ending} {w' : World} (h : SpoilP B p v ls (k : Int) (j : Int) bt w e w') (hx : ls[k]? = some x) (hj : x.bs[j]? = some ob) :
    e = .returned (.int .i64 0) ∧ NetI w' B p v (ls.set k { x with bs := x.bs.set j (ob ^^^ bt) }) ∧ Chg (fun b => x.v.ownBlock = some b) w w' := by
  rcases h with ⟨h, _⟩ | ⟨x', k', j', ob', h1, h2, h3, h4, h5, h6, h7⟩
  · exact absurd ⟨x, k, j, rfl, hx, rfl, (List.getElem?_eq_some_iff.1 hj).1⟩ h
  · have e1 : k = k' := by omega
    have e2 : j = j' := by omega
    subst e1
    subst e2
    rw [hx] at h2
    cases h2
    rw [hj] at h4
    cases h4
    exact ⟨h5, h6, h7⟩
theorem spoil_out {B p : Nat} {v : Value} {ls : List LetV} {k : Nat} {i : Int} {x : LetV} {bt : UInt8} {w : World} {e : Ending} {w' : World} (h : SpoilP B p v ls (k : Int) i bt w e w') (hx : ls[k]? = some x) (hi : i < 0 ∨ (x.bs.length : Int) ≤ i) :
    e = .returned (.int .i64 4) ∧ w' = w := by
  rcases h with ⟨_, h⟩ | ⟨x', k', j', ob', h1, h2, h3, h4, _⟩
  · exact h
  · have e1 : k = k' := by omega
    subst e1
    rw [hx] at h2
    cases h2
    have := (List.getElem?_eq_some_iff.1 h4).1
    omega
set_option maxRecDepth 100000 in
set_option maxHeartbeats 8000000 in
theorem walk_NetTwice (a : Option Addr) (len cap : Nat) (l : List BsV) (at_ ii bts : Int) (w : World) (hl : IsBss w a len cap l) (hz1 : (Lit.int .i64 at_).wf = true) (hz2 : (Lit.int .i64 ii).wf = true) (hz3 : (Lit.int .u8 bts).wf = true) : Calls Try.prog 6 #[.slice a len cap, .int .i64 at_, .int .i64 ii, .int .u8 bts] w fun e w' => e = .returned (.bool true) ∧ Below w.heap.size w w' := by
  have hb8 := bounds_u8 hz3
  have hi64 := bounds_i64 hz2
  obtain ⟨bt, hbt⟩ : ∃ b : UInt8, bts = (b.toNat : Int) := ⟨UInt8.ofNat bts.toNat, by rw [UInt8.toNat_ofNat']; omega⟩
  subst hbt
  have HI64 : Hid (-9223372036854775808 ≤ ii ∧ ii ≤ 9223372036854775807) := hi64
  clear hb8 hz3 hz2 hz1 hi64
  have HL : Hid (IsBss w a len cap l) := hl
  have h1 : len ≤ 9223372036854775807 := by have := hl.2.1; have := hl.2.2.1; unfold maxLen at *; omega
  have HLN : Hid (l.length = len) := hl.1
  clear hl
  go_enter Try.func6, Try.ntmps6
  go_wp2_with fail
  refine (head16_any _).mono ?_
  rintro e w1 ⟨rfl, y⟩
  have HY1 : Hid (Below w.heap.size w w1) := y
  clear y
  by_cases g0 : len = 0
  · subst g0
    go_wp2
    go_ret
    exact ⟨rfl, HY1.out⟩
  have g0' : ((len : Int) == 0) = false := by rw [beq_eq_false_iff_ne]; omega
  by_cases g1 : 20 < len
  · have g1' : decide ((20 : Int) < (len : Int)) = true := decide_eq_true (by omega)
    have g2' : (((len : Int) == 0) || decide ((20 : Int) < (len : Int))) = true := by rw [g0', g1']; rfl
    go_wp2
    go_ret
    exact ⟨rfl, HY1.out⟩
  obtain ⟨w2, hw2⟩ : ∃ w2, w2 = w1.alloc (.cells #[.slice none 0 0] 27) := ⟨_, rfl⟩
  have HNI : Hid (NetI w2 w1.heap.size w1.heap.size (.slice none 0 0) []) := by rw [hw2]; exact NetI.new w1
  have HY2 : Hid (Below w.heap.size w w2) := by rw [hw2]; exact HY1.out.alloc HY1.out.size _
  have HBW : Hid (w.heap.size ≤ w1.heap.size) := HY1.out.size
  have HG : Hid (0 < len ∧ len ≤ 20) := by show _ ∧ _; omega
  have g1' : decide ((20 : Int) < (len : Int)) = false := decide_eq_false (by omega)
  have g2' : (((len : Int) == 0) || decide ((20 : Int) < (len : Int))) = false := by rw [g0', g1']; rfl
  go_upto_region 6 with fail
  rw [← hw2]
  clear hw2 g1 g0 g0' g1' g2' h1
  generalize w1.heap.size = p at *
  go_wp2
  go_loopw [32] (fun i wr => ∃ (k : Nat) (v : Value) (ls : List LetV), i = .int .i64 k ∧ k ≤ len ∧ ls.length = k ∧ Are (fun j => (j : Int)) l 0 ls ∧ NetI wr p p v ls ∧ Below w.heap.size w wr) (fun i _ => len - (intOf i).toNat)
  case atStart => exact ⟨0, _, [], rfl, Nat.zero_le _, rfl, ⟨Nat.zero_le _, fun j x hx => by simp at hx⟩, HNI.out, HY2.out⟩
  case round =>
    obtain ⟨k, v, ls, rfl, hk, hlk, hA, hNI, hY⟩ := hrel
    clear HNI HY2
    have HNI : Hid (NetI wr p p v ls) := hNI
    have HY : Hid (Below w.heap.size w wr) := hY
    have HLK : Hid (ls.length = k) := hlk
    have HA : Hid (Are (fun j => (j : Int)) l 0 ls) := hA
    clear hNI hY hlk hA
    by_cases hlt : k < len
    · obtain ⟨ad, had⟩ : ∃ ad, a = some ad := by
        cases a with
        | none => have h5 := HL.out.2.2.2.1 rfl; have h6 := HLN.out; rw [h5] at h6; simp at h6; omega
        | some ad => exact ⟨ad, rfl⟩
      subst had
      obtain ⟨x, hx⟩ : ∃ x, l[k]? = some x := ⟨_, List.getElem?_eq_getElem (by have := HLN.out; omega)⟩
      have HXI : Hid (l[k]? = some x) := hx
      have y1 : wr.cell? (ad.add k) = some (.slice x.a x.n x.c) := (HL.out.below HY.out).2.2.2.2.2 ad rfl k x hx
      have HXS : Hid (Src wr (.slice x.a x.n x.c) x.bs) := (HL.out.below HY.out).2.2.2.2.1 x (List.mem_of_getElem? hx)
      have hxn : x.n = x.bs.length := HXS.out.at.1
      have hx63 : x.n ≤ 9223372036854775807 := by have := HXS.out.at; unfold maxLen at this; omega
      have HXN : Hid (x.n = x.bs.length) := hxn
      have hkl : (k : Int) < (len : Int) := by omega
      have h64 : len ≤ 20 := HG.out.2
      clear hx hxn
      by_cases g3 : 200 < x.n
      · go_wp2
        go_ret
        exact ⟨rfl, HY.out⟩
      have HXL : Hid (x.bs.length ≤ 200) := by have := HXN.out; show _ ≤ _; omega
      have HX : Hid (Calls _ _ _ _ _) := send_any p p v ls (k : Int) x.a x.n x.c x.bs wr HNI.out HXS.out (by have := HXL.out; omega)
      go_wp2_with fail
      refine HX.out.mono ?_
      rintro e w3 hs
      obtain ⟨rfl, v3, y, hd, hb, hN, hC, hF⟩ := send_ok hs (by omega) HXL.out (by have := HLK.out; omega)
      have HN3 : Hid (NetI w3 p p v3 (ls ++ [y])) := hN
      have HY3 : Hid (Below w.heap.size w w3) := HY.out.trans ((HNI.out.base_below hC).mono HBW.out)
      have HL3 : Hid ((ls ++ [y]).length = k + 1) := by show _ = _; rw [List.length_append, HLK.out]; rfl
      have HA3 : Hid (Are (fun j => (j : Int)) l 0 (ls ++ [y])) := HA.out.push (b := x) (by rw [HLK.out]; exact HXI.out) (by rw [HLK.out, hd]) hb
      clear hs hd hb hN hC hF HX HNI HY HLK HXS HXL HXN HA
      go_wp2
      go_roundw
      case rel => exact ⟨k + 1, v3, _, by go_num, by omega, HL3.out, HA3.out, HN3.out, HY3.out⟩
      case measure => simp [intOf]; omega
    · have HK : Hid (ls.length = len) := by have := HLK.out; show _ = _; omega
      have h20 : len ≤ 20 := HG.out.2
      have h00 : 0 < len := HG.out.1
      obtain ⟨m, hm, hand⟩ := and_leT at_ 255 (by omega)
      have hcast : ((255 : Nat) : Int) = 255 := rfl
      rw [hcast] at hand
      obtain ⟨am, ham⟩ : ∃ am, am = m % len := ⟨_, rfl⟩
      have hal : am < len := by rw [ham]; exact Nat.mod_lt _ h00
      have hrem : (m : Int) % (len : Int) = (am : Int) := by rw [ham]; rfl
      have hlz : ¬ ((len : Int) = 0) := by omega
      have HAL : Hid (am < len) := hal
      go_upto_region 15 with fail
      rw [hrem]
      clear hrem hand hm ham hcast
      obtain ⟨ad, had⟩ : ∃ ad, a = some ad := by
        cases a with
        | none => have h5 := HL.out.2.2.2.1 rfl; have h6 := HLN.out; rw [h5] at h6; simp at h6; omega
        | some ad => exact ⟨ad, rfl⟩
      subst had
      obtain ⟨xb, hxb⟩ : ∃ x, l[am]? = some x := ⟨_, List.getElem?_eq_getElem (by have := HLN.out; omega)⟩
      have HSX : Hid (∀ W, Below w.heap.size w W → Src W (.slice xb.a xb.n xb.c) xb.bs) := fun W hW => (HL.out.below hW).2.2.2.2.1 xb (List.mem_of_getElem? hxb)
      have HCX : Hid (∀ W, Below w.heap.size w W → W.cell? (ad.add am) = some (.slice xb.a xb.n xb.c)) := fun W hW => (HL.out.below hW).2.2.2.2.2 ad rfl am xb hxb
      have HXN : Hid (xb.n = xb.bs.length) := (HSX.out _ HY.out).at.1
      obtain ⟨x, hx⟩ : ∃ x, ls[am]? = some x := ⟨_, List.getElem?_eq_getElem (by have := HK.out; omega)⟩
      have HX0 : Hid (ls[am]? = some x) := hx
      have HXD : Hid (x.dst = (am : Int) ∧ x.bs = xb.bs) := by
        obtain ⟨h1, b, h2, h3⟩ := HA.out.2 am x hx
        rw [Nat.zero_add] at h1 h2
        rw [hxb] at h2
        cases h2
        exact ⟨h1, h3⟩
      have HX2 : Hid (x.bs.length ≤ 200) := (HNI.out.el x (List.mem_of_getElem? hx)).2.1
      have hbl : xb.n ≤ 200 := by rw [HXN.out, ← HXD.out.2]; exact HX2.out
      clear hx hxb hlt hk HLK hlz HA
      have HX : Hid (Calls _ _ _ _ _) := twice_any p p v ls (am : Int) wr HNI.out
      go_wp2_with fail
      refine HX.out.mono ?_
      rintro e w3 ht
      have hr : e = .returned (.int .i64 0) ∧ ∃ v3 y, y.dst = x.dst ∧ y.bs = x.bs ∧ NetI w3 p p v3 (ls ++ [y]) ∧ Below p wr w3 := by
        have h1 := HK.out
        have h2 := HG.out.2
        have h3 := HAL.out
        rcases ht with ⟨h, _⟩ | ⟨x', i', hi, hx, h | ⟨_, h, v3, y, hd, hb, hN, hC, _⟩⟩
        · exact absurd h (by unfold inB; rw [decide_eq_true (by omega)]; decide)
        · omega
        · have e1 : am = i' := by omega
          subst e1
          have e2 := HX0.out
          rw [hx] at e2
          cases e2
          exact ⟨h, v3, y, hd, hb, hN, HNI.out.base_below hC⟩
      obtain ⟨rfl, v3, y, hyd, hyb, hN, hB⟩ := hr
      obtain ⟨l2, hl2⟩ : ∃ l2, l2 = ls ++ [y] := ⟨_, rfl⟩
      have HL2 : Hid (l2.length = len + 1) := by show _ = _; rw [hl2, List.length_append, HK.out]; rfl
      have HP2 : Hid (l2[am]? = some x) := by show _ = _; rw [hl2, List.getElem?_append_left (by have := HK.out; omega)]; exact HX0.out
      have HE2 : Hid (l2[len]? = some y) := by show _ = _; rw [hl2, ← HK.out]; simp
      rw [← hl2] at hN
      have HN3 : Hid (NetI w3 p p v3 l2) := hN
      have HY3 : Hid (Below w.heap.size w w3) := HY.out.trans (hB.mono HBW.out)
      have HYD : Hid (y.dst = (am : Int) ∧ y.bs = xb.bs) := ⟨hyd.trans HXD.out.1, hyb.trans HXD.out.2⟩
      clear ht hyd hyb hN hB hl2 HX HNI HY HK HX0
      have HX : Hid (Calls _ _ _ _ _) := len_any p p v3 l2 w3 HN3.out
      rw [HL2.out] at HX
      have hw1 : wrap64 ((len : Int) + 1) = ((len + 1 : Nat) : Int) := by unfold wrap64; omega
      have hw2 : IntKind.i64.wrap ((len : Int) + 1) = ((len + 1 : Nat) : Int) := by rw [IntKind.wrap_i64]; omega
      go_wp2_with fail
      refine HX.out.mono ?_
      rintro e w4 ⟨rfl, hw⟩
      rw [hw]
      clear hw w4 HX
      have HX : Hid (Calls _ _ _ _ _) := spoil_any p p v3 l2 (am : Int) ii bt w3 HN3.out
      go_wp2_with fail
      refine HX.out.mono ?_
      rintro e w4 hs
      have HS : Hid (SpoilP p p v3 l2 (am : Int) ii bt w3 e w4) := hs
      clear hs HX hw1 hw2
      by_cases hin : 0 ≤ ii ∧ ii < (xb.n : Int)
      · obtain ⟨j, hj⟩ : ∃ j : Nat, ii = (j : Int) := ⟨ii.toNat, by omega⟩
        subst hj
        have hjn : j < xb.n := by omega
        obtain ⟨ob, hob⟩ : ∃ ob, xb.bs[j]? = some ob := ⟨_, List.getElem?_eq_getElem (by have := HXN.out; omega)⟩
        have HOB : Hid (xb.bs[j]? = some ob) := hob
        obtain ⟨rfl, hN, hC⟩ := spoil_in HS.out HP2.out (by rw [HXD.out.2]; exact hob)
        obtain ⟨b3, hb3⟩ : ∃ b3, b3 = x.bs.set j (ob ^^^ bt) := ⟨_, rfl⟩
        rw [← hb3] at hN
        have HB3 : Hid (b3.length = xb.n ∧ b3[j]? = some (ob ^^^ bt)) := by
          rw [hb3, HXD.out.2]
          refine ⟨by rw [List.length_set]; exact HXN.out.symm, ?_⟩
          rw [List.getElem?_set_self (by have := HXN.out; omega)]
        have HY4 : Hid (Below w.heap.size w w4) := HY3.out.trans (Below.mono (Chg.below hC (by have := HN3.out.blk.lt; omega) (fun i hi => (World.ownsRow.lt (HN3.out.el x (List.mem_of_getElem? HP2.out)).1 i hi).1)) HBW.out)
        obtain ⟨x3, hx3⟩ : ∃ x3 : LetV, x3 = { x with bs := b3 } := ⟨_, rfl⟩
        rw [← hx3] at hN
        have HXE : Hid (x3.dst = (am : Int) ∧ x3.bs = b3) := by rw [hx3]; exact ⟨HXD.out.1, rfl⟩
        obtain ⟨l3, hl3⟩ : ∃ l3, l3 = l2.set am x3 := ⟨_, rfl⟩
        rw [← hl3] at hN
        have HN4 : Hid (NetI w4 p p v3 l3) := hN
        have HP3 : Hid (l3[am]? = some x3) := by show _ = _; rw [hl3, List.getElem?_set_self (by have := HL2.out; omega)]
        have HE3 : Hid (l3[len]? = some y) := by show _ = _; rw [hl3, List.getElem?_set_ne (by omega)]; exact HE2.out
        have hx3' : x3.bs = b3 := HXE.out.2
        clear hN hC hb3 hl3 hx3 hob
        have ha1 : decide ((0 : Int) ≤ (j : Int)) = true := decide_eq_true (by omega)
        have ha2 : decide ((j : Int) < (xb.n : Int)) = true := decide_eq_true (by omega)
        have ha3 : (j : Int) < (xb.n : Int) := by omega
        have ha4 : (0 : Int) ≤ (j : Int) := by omega
        clear HS HN3 HY3 HP2 HE2 HL2 HXD HX2
        have c1 : w4.cell? (ad.add am) = some (.slice xb.a xb.n xb.c) := HCX.out _ HY4.out
        have hal2 : (am : Int) < (len : Int) := by omega
        have HX : Hid (Calls _ _ _ _ _) := at_any p p v3 l3 (am : Int) w4 HN4.out
        go_wp2_with fail
        refine HX.out.mono ?_
        rintro e w5 ht
        obtain ⟨a5, c5, rfl, hO, hb⟩ := at_ok (i := am) ht HP3.out
        rw [HXE.out.1, HXE.out.2, HB3.out.1]
        rw [HXE.out.2, HB3.out.1] at hO
        obtain ⟨w6, hw6⟩ : ∃ w6, w6 = w5.alloc (.cells #[.int .i64 am, .slice a5 xb.n c5] 34) := ⟨_, rfl⟩
        have HE6 : Hid (Below w4.heap.size w4 w6) := by rw [hw6]; exact hb.alloc hb.size _
        have HN6 : Hid (NetI w6 p p v3 l3) := HN4.out.below HE6.out
        have HY6 : Hid (Below w.heap.size w w6) := ext_trans HY4.out HE6.out
        have HO6 : Hid (Own w6 w4.heap.size (.slice a5 xb.n c5) b3) := by rw [hw6]; exact hO.alloc _
        have HB6 : Hid (Blk w6 w5.heap.size #[.int .i64 am, .slice a5 xb.n c5] 34) := by rw [hw6]; exact Blk.new _ _ _
        have HQ : Hid (w4.heap.size ≤ w5.heap.size) := hb.size
        clear ht hO hb HX c1
        go_upto_region 20 with fail
        rw [← hw6]
        clear hw6
        generalize w5.heap.size = q at *
        have HX : Hid (Calls _ _ _ _ _) := take_any p p v3 l3 (len : Int) w6 HN6.out (wf_i64_le (by omega) (by omega))
        go_wp2_with fail
        refine HX.out.mono ?_
        rintro e w7 ht
        obtain ⟨a7, c7, rfl, hO, v7, hN, hC, hF⟩ := take_ok (i := len) ht HE3.out
        rw [HYD.out.1, HYD.out.2, ← HXN.out]
        rw [HYD.out.2, ← HXN.out] at hO
        have HA := NetI.after HN4.out hC
        have HO7 : Hid (Own w7 w4.heap.size (.slice a5 xb.n c5) b3) := owns_kept HO6.out fun g hg => HA g (World.ownsRow.lt HO6.out g hg).1 (World.ownsRow.lt HO6.out g hg).2
        have HB7 : Hid (Blk w7 q #[.int .i64 am, .slice a5 xb.n c5] 34) := HB6.out.of (HA q HQ.out HB6.out.lt)
        have HY7 : Hid (Below w.heap.size w w7) := HY6.out.trans ((HN6.out.base_below hC).mono HBW.out)
        obtain ⟨w8, hw8⟩ : ∃ w8, w8 = w7.alloc (.cells #[.int .i64 am, .slice a7 xb.n c7] 34) := ⟨_, rfl⟩
        have HY8 : Hid (Below w.heap.size w w8) := by rw [hw8]; exact HY7.out.alloc HY7.out.size _
        have HO8 : Hid (Own w8 w4.heap.size (.slice a5 xb.n c5) b3) := by rw [hw8]; exact HO7.out.alloc _
        have HP8 : Hid (Own w8 w6.heap.size (.slice a7 xb.n c7) xb.bs) := by rw [hw8]; exact hO.alloc _
        have HB8 : Hid (Blk w8 q #[.int .i64 am, .slice a5 xb.n c5] 34) := by rw [hw8]; exact HB7.out.alloc _
        have HC8 : Hid (Blk w8 w7.heap.size #[.int .i64 am, .slice a7 xb.n c7] 34) := by rw [hw8]; exact Blk.new _ _ _
        clear ht hO hN hC hF HA HX HO6 HB6 HY6 HN6 HE6 HN4 HP3 HE3 HO7 HB7 HY7 HQ HYD HXE
        go_upto_region 21 with fail
        rw [← hw8]
        clear hw8
        generalize w7.heap.size = r at *
        refine wp_region_ext (by kernel_rfl) ?_
        haveI nA := cls_ext w8.drew
        have HYD : Hid (Below w.heap.size w w8.drew) := Below.drew HY8.out
        have z0 := cellX (W0 := w8.drew) (show w8.drew.cell? ⟨q, 0, none⟩ = some _ from HB8.out.cell 0)
        have z1 := cellX (W0 := w8.drew) (show w8.drew.cell? ⟨q, 1, none⟩ = some _ from HB8.out.cell 1)
        have y0 := cellX (W0 := w8.drew) (show w8.drew.cell? ⟨r, 0, none⟩ = some _ from HC8.out.cell 0)
        have y1 := cellX (W0 := w8.drew) (show w8.drew.cell? ⟨r, 1, none⟩ = some _ from HC8.out.cell 1)
        have c1 := cellX (W0 := w8.drew) (HCX.out _ HYD.out)
        have u1 := Src.strE (W0 := w8.drew) (HP8.out.src.below (Below.drew (Below.refl _ _)))
        have u2 := Src.strE (W0 := w8.drew) (HSX.out _ HYD.out)
        refine wpAnyH_seg (by kernel_rfl) (fun _ _ _ h => h) [0, 1, 2, 3, 4, 5, 6, 7, 8, 9, 10, 11, 12, 13, 14, 15, 16, 17, 18, 19, 20, 21, 22, 23, 24, 25, 26, 27, 28, 29, 30, 31, 32, 33, 34] 0 _ _ _ (Ext.refl _) (by kernel_rfl) ?_
        simp only [opsAt, List.getElem?_toArray, List.getElem?_cons_zero, List.getElem?_cons_succ, List.cons_append, List.nil_append]
        repeat (go_big_quiet_step (fail))
        refine wpQuiet_nil ?_
        clear nA z0 z1 y0 y1 c1 u1 u2
        refine wpAnyH_done (by kernel_rfl) (NoPanic.normal ?_) 0
        have HO9 : Hid (Own w8.drew w4.heap.size (.slice a5 xb.n c5) b3) := HO8.out.below (Below.drew (Below.refl _ _))
        have HB9 : Hid (Blk w8.drew q #[.int .i64 am, .slice a5 xb.n c5] 34) := HB8.out
        clear HO8 HP8 HB8 HC8 HY8
        generalize w8.drew = w9 at *
        go_upto_region 25 with fail
        refine wp_region_ext (by kernel_rfl) ?_
        haveI nA := cls_ext w9.drew
        have HYE : Hid (Below w.heap.size w w9.drew) := Below.drew HYD.out
        have z0 := cellX (W0 := w9.drew) (show w9.drew.cell? ⟨q, 0, none⟩ = some _ from HB9.out.cell 0)
        have z1 := cellX (W0 := w9.drew) (show w9.drew.cell? ⟨q, 1, none⟩ = some _ from HB9.out.cell 1)
        have c1 := cellX (W0 := w9.drew) (HCX.out _ HYE.out)
        obtain ⟨ad5, had5, hc5⟩ := src_cell (HO9.out.src.below (Below.drew (Below.refl _ _))) HB3.out.2
        obtain ⟨adx, hadx, hcx⟩ := src_cell (HSX.out _ HYE.out) HOB.out
        rw [had5] at z1
        rw [hadx] at c1
        have k5 := cellX (W0 := w9.drew) hc5
        have kx := cellX (W0 := w9.drew) hcx
        have hx8 : bits .xor .u8 (ob.toNat : Int) (bt.toNat : Int) = ((ob ^^^ bt).toNat : Int) := xor_u8 ob bt
        refine wpAnyH_seg (by kernel_rfl) (fun _ _ _ h => h) [0, 1, 2, 3, 4, 5, 6, 7, 8, 9, 10, 11, 12, 13, 14, 15, 16, 17, 18, 19, 20, 21, 22, 23, 24, 25, 26] 0 _ _ _ (Ext.refl _) (by kernel_rfl) ?_
        simp only [opsAt, List.getElem?_toArray, List.getElem?_cons_zero, List.getElem?_cons_succ, List.cons_append, List.nil_append]
        repeat (go_big_quiet_step (fail))
        refine wpQuiet_nil ?_
        clear nA z0 z1 c1 k5 kx hx8
        refine wpAnyH_done (by kernel_rfl) (NoPanic.normal ?_) 0
        go_wp2
        go_ret
        exact ⟨rfl, HYE.out⟩
      · by_cases hneg : ii < 0
        · have ha1 : decide ((0 : Int) ≤ ii) = false := decide_eq_false (by omega)
          have ha4 : ¬ (0 : Int) ≤ ii := by omega
          obtain ⟨rfl, hw⟩ := spoil_out HS.out HP2.out (by rw [HXD.out.2, ← HXN.out]; omega)
          subst hw
          obtain ⟨b3, hb3⟩ : ∃ b3, b3 = xb.bs := ⟨_, rfl⟩
          have HB3 : Hid (b3.length = xb.n) := by show _ = _; rw [hb3]; exact HXN.out.symm
          have HBB : Hid (b3 = xb.bs) := hb3
          have HY4 : Hid (Below w.heap.size w w4) := HY3.out
          obtain ⟨x3, hx3⟩ : ∃ x3 : LetV, x3 = x := ⟨_, rfl⟩
          have HXE : Hid (x3.dst = (am : Int) ∧ x3.bs = b3) := by rw [hx3, hb3]; exact ⟨HXD.out.1, HXD.out.2⟩
          obtain ⟨l3, hl3⟩ : ∃ l3, l3 = l2 := ⟨_, rfl⟩
          have HN4 : Hid (NetI w4 p p v3 l3) := by rw [hl3]; exact HN3.out
          have HP3 : Hid (l3[am]? = some x3) := by show _ = _; rw [hl3, hx3]; exact HP2.out
          have HE3 : Hid (l3[len]? = some y) := by show _ = _; rw [hl3]; exact HE2.out
          clear hb3 hl3 hx3
          clear HS HN3 HY3 HP2 HE2 HL2 HXD HX2
          have c1 : w4.cell? (ad.add am) = some (.slice xb.a xb.n xb.c) := HCX.out _ HY4.out
          have hal2 : (am : Int) < (len : Int) := by omega
          have HX : Hid (Calls _ _ _ _ _) := at_any p p v3 l3 (am : Int) w4 HN4.out
          go_wp2_with fail
          refine HX.out.mono ?_
          rintro e w5 ht
          obtain ⟨a5, c5, rfl, hO, hb⟩ := at_ok (i := am) ht HP3.out
          rw [HXE.out.1, HXE.out.2, HB3.out]
          rw [HXE.out.2, HB3.out] at hO
          obtain ⟨w6, hw6⟩ : ∃ w6, w6 = w5.alloc (.cells #[.int .i64 am, .slice a5 xb.n c5] 34) := ⟨_, rfl⟩
          have HE6 : Hid (Below w4.heap.size w4 w6) := by rw [hw6]; exact hb.alloc hb.size _
          have HN6 : Hid (NetI w6 p p v3 l3) := HN4.out.below HE6.out
          have HY6 : Hid (Below w.heap.size w w6) := ext_trans HY4.out HE6.out
          have HO6 : Hid (Own w6 w4.heap.size (.slice a5 xb.n c5) b3) := by rw [hw6]; exact hO.alloc _
          have HB6 : Hid (Blk w6 w5.heap.size #[.int .i64 am, .slice a5 xb.n c5] 34) := by rw [hw6]; exact Blk.new _ _ _
          have HQ : Hid (w4.heap.size ≤ w5.heap.size) := hb.size
          clear ht hO hb HX c1
          go_upto_region 20 with fail
          rw [← hw6]
          clear hw6
          generalize w5.heap.size = q at *
          have HX : Hid (Calls _ _ _ _ _) := take_any p p v3 l3 (len : Int) w6 HN6.out (wf_i64_le (by omega) (by omega))
          go_wp2_with fail
          refine HX.out.mono ?_
          rintro e w7 ht
          obtain ⟨a7, c7, rfl, hO, v7, hN, hC, hF⟩ := take_ok (i := len) ht HE3.out
          rw [HYD.out.1, HYD.out.2, ← HXN.out]
          rw [HYD.out.2, ← HXN.out] at hO
          have HA := NetI.after HN4.out hC
          have HO7 : Hid (Own w7 w4.heap.size (.slice a5 xb.n c5) b3) := owns_kept HO6.out fun g hg => HA g (World.ownsRow.lt HO6.out g hg).1 (World.ownsRow.lt HO6.out g hg).2
          have HB7 : Hid (Blk w7 q #[.int .i64 am, .slice a5 xb.n c5] 34) := HB6.out.of (HA q HQ.out HB6.out.lt)
          have HY7 : Hid (Below w.heap.size w w7) := HY6.out.trans ((HN6.out.base_below hC).mono HBW.out)
          obtain ⟨w8, hw8⟩ : ∃ w8, w8 = w7.alloc (.cells #[.int .i64 am, .slice a7 xb.n c7] 34) := ⟨_, rfl⟩
          have HY8 : Hid (Below w.heap.size w w8) := by rw [hw8]; exact HY7.out.alloc HY7.out.size _
          have HO8 : Hid (Own w8 w4.heap.size (.slice a5 xb.n c5) b3) := by rw [hw8]; exact HO7.out.alloc _
          have HP8 : Hid (Own w8 w6.heap.size (.slice a7 xb.n c7) xb.bs) := by rw [hw8]; exact hO.alloc _
          have HB8 : Hid (Blk w8 q #[.int .i64 am, .slice a5 xb.n c5] 34) := by rw [hw8]; exact HB7.out.alloc _
          have HC8 : Hid (Blk w8 w7.heap.size #[.int .i64 am, .slice a7 xb.n c7] 34) := by rw [hw8]; exact Blk.new _ _ _
          clear ht hO hN hC hF HA HX HO6 HB6 HY6 HN6 HE6 HN4 HP3 HE3 HO7 HB7 HY7 HQ HYD HXE
          go_upto_region 21 with fail
          rw [← hw8]
          clear hw8
          generalize w7.heap.size = r at *
          refine wp_region_ext (by kernel_rfl) ?_
          haveI nA := cls_ext w8.drew
          have HYD : Hid (Below w.heap.size w w8.drew) := Below.drew HY8.out
          have z0 := cellX (W0 := w8.drew) (show w8.drew.cell? ⟨q, 0, none⟩ = some _ from HB8.out.cell 0)
          have z1 := cellX (W0 := w8.drew) (show w8.drew.cell? ⟨q, 1, none⟩ = some _ from HB8.out.cell 1)
          have y0 := cellX (W0 := w8.drew) (show w8.drew.cell? ⟨r, 0, none⟩ = some _ from HC8.out.cell 0)
          have y1 := cellX (W0 := w8.drew) (show w8.drew.cell? ⟨r, 1, none⟩ = some _ from HC8.out.cell 1)
          have c1 := cellX (W0 := w8.drew) (HCX.out _ HYD.out)
          have u1 := Src.strE (W0 := w8.drew) (HP8.out.src.below (Below.drew (Below.refl _ _)))
          have u2 := Src.strE (W0 := w8.drew) (HSX.out _ HYD.out)
          refine wpAnyH_seg (by kernel_rfl) (fun _ _ _ h => h) [0, 1, 2, 3, 4, 5, 6, 7, 8, 9, 10, 11, 12, 13, 14, 15, 16, 17, 18, 19, 20, 21, 22, 23, 24, 25, 26, 27, 28, 29, 30, 31, 32, 33, 34] 0 _ _ _ (Ext.refl _) (by kernel_rfl) ?_
          simp only [opsAt, List.getElem?_toArray, List.getElem?_cons_zero, List.getElem?_cons_succ, List.cons_append, List.nil_append]
          repeat (go_big_quiet_step (fail))
          refine wpQuiet_nil ?_
          clear nA z0 z1 y0 y1 c1 u1 u2
          refine wpAnyH_done (by kernel_rfl) (NoPanic.normal ?_) 0
          have HO9 : Hid (Own w8.drew w4.heap.size (.slice a5 xb.n c5) b3) := HO8.out.below (Below.drew (Below.refl _ _))
          have HB9 : Hid (Blk w8.drew q #[.int .i64 am, .slice a5 xb.n c5] 34) := HB8.out
          clear HO8 HP8 HB8 HC8 HY8
          generalize w8.drew = w9 at *
          go_upto_region 24 with fail
          refine wp_region_ext (by kernel_rfl) ?_
          haveI nA := cls_ext w9.drew
          have HYE : Hid (Below w.heap.size w w9.drew) := Below.drew HYD.out
          have z0 := cellX (W0 := w9.drew) (show w9.drew.cell? ⟨q, 0, none⟩ = some _ from HB9.out.cell 0)
          have z1 := cellX (W0 := w9.drew) (show w9.drew.cell? ⟨q, 1, none⟩ = some _ from HB9.out.cell 1)
          have c1 := cellX (W0 := w9.drew) (HCX.out _ HYE.out)
          have u1 := Src.strE (W0 := w9.drew) (HO9.out.src.below (Below.drew (Below.refl _ _)))
          have u2 := Src.strE (W0 := w9.drew) (HSX.out _ HYE.out)
          rw [HBB.out] at u1
          refine wpAnyH_seg (by kernel_rfl) (fun _ _ _ h => h) [0, 1, 2, 3, 4, 5, 6, 7, 8, 9] 0 _ _ _ (Ext.refl _) (by kernel_rfl) ?_
          simp only [opsAt, List.getElem?_toArray, List.getElem?_cons_zero, List.getElem?_cons_succ, List.cons_append, List.nil_append]
          repeat (go_big_quiet_step (fail))
          refine wpQuiet_nil ?_
          clear nA z0 z1 c1 u1 u2
          refine wpAnyH_done (by kernel_rfl) (NoPanic.normal ?_) 0
          go_wp2
          go_ret
          exact ⟨rfl, HYE.out⟩
        · have ha1 : decide ((0 : Int) ≤ ii) = true := decide_eq_true (by omega)
          have ha2 : decide (ii < (xb.n : Int)) = false := decide_eq_false (by omega)
          have ha3 : ¬ ii < (xb.n : Int) := by omega
          have ha4 : (0 : Int) ≤ ii := by omega
          obtain ⟨rfl, hw⟩ := spoil_out HS.out HP2.out (by rw [HXD.out.2, ← HXN.out]; omega)
          subst hw
          obtain ⟨b3, hb3⟩ : ∃ b3, b3 = xb.bs := ⟨_, rfl⟩
          have HB3 : Hid (b3.length = xb.n) := by show _ = _; rw [hb3]; exact HXN.out.symm
          have HBB : Hid (b3 = xb.bs) := hb3
          have HY4 : Hid (Below w.heap.size w w4) := HY3.out
          obtain ⟨x3, hx3⟩ : ∃ x3 : LetV, x3 = x := ⟨_, rfl⟩
          have HXE : Hid (x3.dst = (am : Int) ∧ x3.bs = b3) := by rw [hx3, hb3]; exact ⟨HXD.out.1, HXD.out.2⟩
          obtain ⟨l3, hl3⟩ : ∃ l3, l3 = l2 := ⟨_, rfl⟩
          have HN4 : Hid (NetI w4 p p v3 l3) := by rw [hl3]; exact HN3.out
          have HP3 : Hid (l3[am]? = some x3) := by show _ = _; rw [hl3, hx3]; exact HP2.out
          have HE3 : Hid (l3[len]? = some y) := by show _ = _; rw [hl3]; exact HE2.out
          clear hb3 hl3 hx3
          clear HS HN3 HY3 HP2 HE2 HL2 HXD HX2
          have c1 : w4.cell? (ad.add am) = some (.slice xb.a xb.n xb.c) := HCX.out _ HY4.out
          have hal2 : (am : Int) < (len : Int) := by omega
          have HX : Hid (Calls _ _ _ _ _) := at_any p p v3 l3 (am : Int) w4 HN4.out
          go_wp2_with fail
          refine HX.out.mono ?_
          rintro e w5 ht
          obtain ⟨a5, c5, rfl, hO, hb⟩ := at_ok (i := am) ht HP3.out
          rw [HXE.out.1, HXE.out.2, HB3.out]
          rw [HXE.out.2, HB3.out] at hO
          obtain ⟨w6, hw6⟩ : ∃ w6, w6 = w5.alloc (.cells #[.int .i64 am, .slice a5 xb.n c5] 34) := ⟨_, rfl⟩
          have HE6 : Hid (Below w4.heap.size w4 w6) := by rw [hw6]; exact hb.alloc hb.size _
          have HN6 : Hid (NetI w6 p p v3 l3) := HN4.out.below HE6.out
          have HY6 : Hid (Below w.heap.size w w6) := ext_trans HY4.out HE6.out
          have HO6 : Hid (Own w6 w4.heap.size (.slice a5 xb.n c5) b3) := by rw [hw6]; exact hO.alloc _
          have HB6 : Hid (Blk w6 w5.heap.size #[.int .i64 am, .slice a5 xb.n c5] 34) := by rw [hw6]; exact Blk.new _ _ _
          have HQ : Hid (w4.heap.size ≤ w5.heap.size) := hb.size
          clear ht hO hb HX c1
          go_upto_region 20 with fail
          rw [← hw6]
          clear hw6
          generalize w5.heap.size = q at *
          have HX : Hid (Calls _ _ _ _ _) := take_any p p v3 l3 (len : Int) w6 HN6.out (wf_i64_le (by omega) (by omega))
          go_wp2_with fail
          refine HX.out.mono ?_
          rintro e w7 ht
          obtain ⟨a7, c7, rfl, hO, v7, hN, hC, hF⟩ := take_ok (i := len) ht HE3.out
          rw [HYD.out.1, HYD.out.2, ← HXN.out]
          rw [HYD.out.2, ← HXN.out] at hO
          have HA := NetI.after HN4.out hC
          have HO7 : Hid (Own w7 w4.heap.size (.slice a5 xb.n c5) b3) := owns_kept HO6.out fun g hg => HA g (World.ownsRow.lt HO6.out g hg).1 (World.ownsRow.lt HO6.out g hg).2
          have HB7 : Hid (Blk w7 q #[.int .i64 am, .slice a5 xb.n c5] 34) := HB6.out.of (HA q HQ.out HB6.out.lt)
          have HY7 : Hid (Below w.heap.size w w7) := HY6.out.trans ((HN6.out.base_below hC).mono HBW.out)
          obtain ⟨w8, hw8⟩ : ∃ w8, w8 = w7.alloc (.cells #[.int .i64 am, .slice a7 xb.n c7] 34) := ⟨_, rfl⟩
          have HY8 : Hid (Below w.heap.size w w8) := by rw [hw8]; exact HY7.out.alloc HY7.out.size _
          have HO8 : Hid (Own w8 w4.heap.size (.slice a5 xb.n c5) b3) := by rw [hw8]; exact HO7.out.alloc _
          have HP8 : Hid (Own w8 w6.heap.size (.slice a7 xb.n c7) xb.bs) := by rw [hw8]; exact hO.alloc _
          have HB8 : Hid (Blk w8 q #[.int .i64 am, .slice a5 xb.n c5] 34) := by rw [hw8]; exact HB7.out.alloc _
          have HC8 : Hid (Blk w8 w7.heap.size #[.int .i64 am, .slice a7 xb.n c7] 34) := by rw [hw8]; exact Blk.new _ _ _
          clear ht hO hN hC hF HA HX HO6 HB6 HY6 HN6 HE6 HN4 HP3 HE3 HO7 HB7 HY7 HQ HYD HXE
          go_upto_region 21 with fail
          rw [← hw8]
          clear hw8
          generalize w7.heap.size = r at *
          refine wp_region_ext (by kernel_rfl) ?_
          haveI nA := cls_ext w8.drew
          have HYD : Hid (Below w.heap.size w w8.drew) := Below.drew HY8.out
          have z0 := cellX (W0 := w8.drew) (show w8.drew.cell? ⟨q, 0, none⟩ = some _ from HB8.out.cell 0)
          have z1 := cellX (W0 := w8.drew) (show w8.drew.cell? ⟨q, 1, none⟩ = some _ from HB8.out.cell 1)
          have y0 := cellX (W0 := w8.drew) (show w8.drew.cell? ⟨r, 0, none⟩ = some _ from HC8.out.cell 0)
          have y1 := cellX (W0 := w8.drew) (show w8.drew.cell? ⟨r, 1, none⟩ = some _ from HC8.out.cell 1)
          have c1 := cellX (W0 := w8.drew) (HCX.out _ HYD.out)
          have u1 := Src.strE (W0 := w8.drew) (HP8.out.src.below (Below.drew (Below.refl _ _)))
          have u2 := Src.strE (W0 := w8.drew) (HSX.out _ HYD.out)
          refine wpAnyH_seg (by kernel_rfl) (fun _ _ _ h => h) [0, 1, 2, 3, 4, 5, 6, 7, 8, 9, 10, 11, 12, 13, 14, 15, 16, 17, 18, 19, 20, 21, 22, 23, 24, 25, 26, 27, 28, 29, 30, 31, 32, 33, 34] 0 _ _ _ (Ext.refl _) (by kernel_rfl) ?_
          simp only [opsAt, List.getElem?_toArray, List.getElem?_cons_zero, List.getElem?_cons_succ, List.cons_append, List.nil_append]
          repeat (go_big_quiet_step (fail))
          refine wpQuiet_nil ?_
          clear nA z0 z1 y0 y1 c1 u1 u2
          refine wpAnyH_done (by kernel_rfl) (NoPanic.normal ?_) 0
          have HO9 : Hid (Own w8.drew w4.heap.size (.slice a5 xb.n c5) b3) := HO8.out.below (Below.drew (Below.refl _ _))
          have HB9 : Hid (Blk w8.drew q #[.int .i64 am, .slice a5 xb.n c5] 34) := HB8.out
          clear HO8 HP8 HB8 HC8 HY8
          generalize w8.drew = w9 at *
          go_upto_region 24 with fail
          refine wp_region_ext (by kernel_rfl) ?_
          haveI nA := cls_ext w9.drew
          have HYE : Hid (Below w.heap.size w w9.drew) := Below.drew HYD.out
          have z0 := cellX (W0 := w9.drew) (show w9.drew.cell? ⟨q, 0, none⟩ = some _ from HB9.out.cell 0)
          have z1 := cellX (W0 := w9.drew) (show w9.drew.cell? ⟨q, 1, none⟩ = some _ from HB9.out.cell 1)
          have c1 := cellX (W0 := w9.drew) (HCX.out _ HYE.out)
          have u1 := Src.strE (W0 := w9.drew) (HO9.out.src.below (Below.drew (Below.refl _ _)))
          have u2 := Src.strE (W0 := w9.drew) (HSX.out _ HYE.out)
          rw [HBB.out] at u1
          refine wpAnyH_seg (by kernel_rfl) (fun _ _ _ h => h) [0, 1, 2, 3, 4, 5, 6, 7, 8, 9] 0 _ _ _ (Ext.refl _) (by kernel_rfl) ?_
          simp only [opsAt, List.getElem?_toArray, List.getElem?_cons_zero, List.getElem?_cons_succ, List.cons_append, List.nil_append]
          repeat (go_big_quiet_step (fail))
          refine wpQuiet_nil ?_
          clear nA z0 z1 c1 u1 u2
          refine wpAnyH_done (by kernel_rfl) (NoPanic.normal ?_) 0
          go_wp2
          go_ret
          exact ⟨rfl, HYE.out⟩
end Go.Proofs.Ytcemecclpofhbaa
