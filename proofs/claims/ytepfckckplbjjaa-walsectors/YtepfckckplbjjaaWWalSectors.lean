/- WalSectors: an entry's sectors, byte by byte, and the master's. Own walk, no statement. -/
import Derived.Test.YtepfckckplbjjaaWalE
namespace Go.Proofs.Ytepfckckplbjjaa
open Go.ChangeShapes Go.WideShapes Go.ChangeAt Go.RowKit

def baseN (ka kb t : Nat) : Nat := if t = 0 then 0 else if t = 1 then ka else ka + kb
/-- The log behind its two entries, and the row of both. -/
structure SeW (w : World) (r : Nat) (wr : World) (g : Nat) (f : Foot) (nx : Nat) (st : DSt) (a0 : Option Addr) (l0 c0 : Nat) (a1 : Option Addr) (l1 c1 : Nat) : Prop where
  ws : WS w w.heap.size wr g f ⟨0, 18, 1, 1, 0, 1, nx, 0⟩ st
  blk : Blk wr r #[.slice a0 l0 c0, .slice a1 l1 c1] 41
theorem SeW.below {w wr wr' : World} {r g : Nat} {f : Foot} {nx : Nat} {st : DSt} {a0 : Option Addr} {l0 c0 : Nat} {a1 : Option Addr} {l1 c1 : Nat} (h : SeW w r wr g f nx st a0 l0 c0 a1 l1 c1) (hb : Below wr.heap.size wr wr') : SeW w r wr' g f nx st a0 l0 c0 a1 l1 c1 :=
  ⟨h.ws.below hb, h.blk.of (hb.block _ h.blk.lt)⟩
def entryV (a0 : Option Addr) (l0 c0 : Nat) (a1 : Option Addr) (l1 c1 t : Nat) : Value := if t = 0 then .slice a0 l0 c0 else .slice a1 l1 c1
theorem entry_cell {wr : World} {r : Nat} {a0 : Option Addr} {l0 c0 : Nat} {a1 : Option Addr} {l1 c1 t : Nat} (h : Blk wr r #[.slice a0 l0 c0, .slice a1 l1 c1] 41) (ht : t < 2) : wr.cell? ⟨r, t, none⟩ = some (entryV a0 l0 c0 a1 l1 c1 t) := by
  rcases (show t = 0 ∨ t = 1 by omega) with rfl | rfl
  · exact h.cell 0
  · exact h.cell 1
/-- One of both entries: its row, its bytes, and its sectors. -/
def Entry (w : World) (a0 : Option Addr) (l0 c0 : Nat) (a1 : Option Addr) (l1 c1 : Nat) (now : List Sec) (ka kb t : Nat) : Prop :=
  ∃ ad lt ct L kL, entryV a0 l0 c0 a1 l1 c1 t = .slice ad lt ct ∧ Src w (.slice ad lt ct) L ∧ L.length = lt ∧ needN lt = kL ∧ baseN ka kb t + kL = baseN ka kb (t + 1) ∧ kL ≤ 5 ∧
    ∀ j, j < kL → now[2 + (baseN ka kb t + j)]? = some (pad (pcBytes (baseN ka kb t + j) 1 (decide (j + 1 = kL)) (chunkL L j)), false)
theorem last_is {m j lt kL : Nat} (hm : m + 480 * j = lt) (h : m ≤ 480) (hj : j < kL) (hk : needN lt = kL) : j + 1 = kL := by
  unfold needN at hk
  split at hk <;> omega
theorem more_is {m j lt kL : Nat} (hm : m + 480 * j = lt) (h : ¬ m ≤ 480) (hk : needN lt = kL) : j + 1 < kL := by
  unfold needN at hk
  split at hk <;> omega
theorem sec_read {w wr : World} {r g gd : Nat} {f : Foot} {nx q : Nat} {st : DSt} {a0 : Option Addr} {l0 c0 : Nat} {a1 : Option Addr} {l1 c1 : Nat} {b : List UInt8} (h : SeW w r wr g f nx st a0 l0 c0 a1 l1 c1) (hc : st.calm) (hg : f.g = gd) (hi : st.now[2 + q]? = some (b, false)) :
    Calls Try.prog 34 #[.pointer (some ⟨gd, 0, none⟩), .int .i64 (2 + (q : Int))] wr fun e w' => e = .returned (.tuple #[.slice (some ⟨wr.heap.size, 0, none⟩) 512 512, .int .i64 0]) ∧ Blk w' wr.heap.size (bv b).toArray 5 ∧ Below wr.heap.size wr w' := by
  obtain ⟨h1, h2⟩ := List.getElem?_eq_some_iff.1 hi
  have := read_ok f st (2 + q) wr h.ws.wl.d h1 hc.2 (by rw [h2])
  rw [hg, h2, show ((2 + q : Nat) : Int) = 2 + (q : Int) by omega] at this
  exact this.mono fun e w' ⟨x1, x2, x3, _⟩ => ⟨x1, x2, x3⟩
theorem mas_read {w wr : World} {r g gd : Nat} {f : Foot} {nx : Nat} {st : DSt} {a0 : Option Addr} {l0 c0 : Nat} {a1 : Option Addr} {l1 c1 : Nat} (h : SeW w r wr g f nx st a0 l0 c0 a1 l1 c1) (hc : st.calm) (hg : f.g = gd) (hi : st.now[1]? = some (pad (mBytes ⟨1, 1, 0, 1⟩), false)) :
    Calls Try.prog 34 #[.pointer (some ⟨gd, 0, none⟩), .int .i64 1] wr fun e w' => e = .returned (.tuple #[.slice (some ⟨wr.heap.size, 0, none⟩) 512 512, .int .i64 0]) ∧ Src w' (.slice (some ⟨wr.heap.size, 0, none⟩) 9 512) [4, 100, 111, 99, 107, 1, 1, 0, 1] ∧ Below wr.heap.size wr w' := by
  obtain ⟨h1, h2⟩ := List.getElem?_eq_some_iff.1 hi
  have := read_ok f st 1 wr h.ws.wl.d h1 hc.2 (by rw [h2])
  rw [hg, h2] at this
  refine this.mono fun e w' ⟨x1, x2, x3, _⟩ => ⟨x1, ?_, x3⟩
  have hl : (pad (mBytes ⟨1, 1, 0, 1⟩)).length = 512 := pad_length (by decide)
  have h0 : Src w' (.slice (some ⟨wr.heap.size, 0, none⟩) 512 512) (pad (mBytes ⟨1, 1, 0, 1⟩)) := by
    have := Blk.src (k := 512) (c := 512) (l := pad (mBytes ⟨1, 1, 0, 1⟩)) x2 (by omega) (Nat.le_refl _) (by unfold maxLen; omega)
    rw [List.take_of_length_le (by omega)] at this
    exact this
  have := h0.upto 9 (by omega)
  rw [mBytes_nine] at this
  exact this
theorem entries {w : World} {a0 : Option Addr} {l0 c0 : Nat} {a1 : Option Addr} {l1 c1 : Nat} {now : List Sec} {ka kb : Nat} {la lb : List UInt8} (hA : Src w (.slice a0 l0 c0) la ∧ la.length = l0) (hB : Src w (.slice a1 l1 c1) lb ∧ lb.length = l1) (hk : needN l0 = ka ∧ needN l1 = kb) (h5 : ka ≤ 5 ∧ kb ≤ 5)
    (hs : ∀ n, n < ka + kb → now[2 + n]? = some (pad (secL la lb ka kb n), false)) : ∀ t, t < 2 → Entry w a0 l0 c0 a1 l1 c1 now ka kb t := by
  intro t ht
  rcases (show t = 0 ∨ t = 1 by omega) with rfl | rfl
  · refine ⟨a0, l0, c0, la, ka, rfl, hA.1, hA.2, hk.1, by simp [baseN], h5.1, fun j hj => ?_⟩
    have := hs j (by omega)
    unfold secL at this
    rw [if_pos hj, if_pos hj] at this
    simpa [baseN] using this
  · refine ⟨a1, l1, c1, lb, kb, rfl, hB.1, hB.2, hk.2, by simp [baseN], h5.2, fun j hj => ?_⟩
    have := hs (ka + j) (by omega)
    unfold secL at this
    rw [if_neg (by omega), if_neg (by omega), show ka + j - ka = j by omega] at this
    simpa [baseN] using this

set_option maxRecDepth 100000 in
set_option maxHeartbeats 8000000 in
theorem walk_WalSectors (a0 : Option Addr) (l0 c0 : Nat) (z0 : List Int) (a1 : Option Addr) (l1 c1 : Nat) (z1 : List Int) (w : World) (h0 : IsRow .u8 w a0 l0 c0 z0) (h1 : IsRow .u8 w a1 l1 c1 z1) :
    Calls Try.prog 5 #[.slice a0 l0 c0, .slice a1 l1 c1] w fun e w' => e = .returned (.bool true) ∧ Below w.heap.size w w' := by
  obtain ⟨la, hsa, hla⟩ := isRow_src h0
  obtain ⟨lb, hsb, hlb⟩ := isRow_src h1
  clear h0 h1
  have hca := hsa.at.2.2.1
  have hcb := hsb.at.2.2.1
  have hma := hsa.at.2.1
  have hmb := hsb.at.2.1
  unfold maxLen at hca hcb
  by_cases hbig : 2000 < l0 ∨ 2000 < l1
  · rcases (show 2000 < l0 ∨ (l0 ≤ 2000 ∧ 2000 < l1) by omega) with h | ⟨h, h'⟩
    all_goals
      go_enter Try.func5, Try.ntmps5
      go_wp2_with fail
      refine (head5_any w).mono ?_
      rintro e w1 ⟨rfl, hb1⟩
      have HB : Hid (Below w.heap.size w w1) := hb1
      clear hb1
      go_wp2_with fail
      go_ret
      exact ⟨rfl, HB.out⟩
  · have hl0 : l0 ≤ 2000 := by omega
    have hl1 : l1 ≤ 2000 := by omega
    have HSA : Hid (Src w (.slice a0 l0 c0) la ∧ la.length = l0) := ⟨hsa, hla⟩
    have HSB : Hid (Src w (.slice a1 l1 c1) lb ∧ lb.length = l1) := ⟨hsb, hlb⟩
    clear hsa hsb hla hlb hbig
    go_enter Try.func5, Try.ntmps5
    go_wp2_with fail
    refine (head5_any w).mono ?_
    rintro e w1 ⟨rfl, hb1⟩
    have HN : Hid (Calls Try.prog 15 #[.int .i64 20] w1 _) := new_new 20 20 (nSec_of (n := 20) (by omega)) w w.heap.size w1 hb1 (Nat.le_refl _)
    clear hb1
    go_wp2_with fail
    refine Calls.mono HN.out ?_
    rintro e w2 ⟨gd, f2, rfl, hD2, -, -⟩
    have HOP : Hid (Calls Try.prog 16 #[dptr gd, .int .i64 0, .int .i64 20] w2 _) := ws_fresh (from_ := 0) (room := 18) hD2 (by omega) (by omega) (by omega)
    clear hD2 HN
    unfold dptr at *
    go_wp2_with fail
    refine Calls.mono HOP.out ?_
    rintro e w3 ⟨g, f3, st3, lf3, rfl, -, hW3, hg3, hF3⟩
    obtain rfl : (1 : Nat) = lf3 := hF3.l.ch.2
    have hst3 : st3.steps = 2 := hF3.steps
    have hwt3 : st3.waits.length = 0 := by rw [hF3.waits]; rfl
    have hna : la.length = l0 := HSA.out.2
    have hnb : lb.length = l1 := HSB.out.2
    have hka := needN_2000 hl0
    have hka0 := needN_pos l0
    have hkb := needN_2000 hl1
    have hap := ws_append (n1 := w3.heap.size) hW3 hF3.l (HSA.out.1.below hW3.bel) ⟨hW3.wl.lt.2, hW3.wl.lt.1⟩ (fun ad e h0 => .inl (HSA.out.1.low e h0)) (by omega) (by rw [hna]; show needN l0 ≤ 18 - (0 - 0); omega) (by show (0 : Nat) < _; omega) (by show (1 : Nat) ≤ _; omega) (by omega) (by omega)
    have hL4 := (hF3.l.append la (by rw [hna]; show needN l0 ≤ 18 - (0 - 0); omega) (by show (0 : Nat) + 100000 < _; omega) (by show (1 : Nat) ≤ _; omega)).2
    obtain ⟨-, q2, q3⟩ := apTo_len (s10 0 18) la (needN la.length) st3 (needN la.length)
    have hsec := two_secs (st := st3) (la := la) (lb := lb) (ka := needN l0) (kb := needN l1) (w := 1) (r := 18) hF3.l.calm (by omega) hka0 (by have := hF3.len; omega)
    have hlen := hF3.len
    rw [hna] at hap hL4 q2 q3
    generalize (apTo (s10 0 18) la (needN l0) st3 (needN l0)).2 = st4 at *
    generalize hkae : needN l0 = ka at *
    have HAP : Hid (Calls _ _ _ _ _) := hap
    have HL4 : Hid (LW ⟨0, 18, 1, 1, 0, 1, 0 + ka, 0⟩ st4 [(0, la)] 1) := hL4
    have HG3 : Hid (f3.g = gd) := hg3
    clear hW3 hg3 hF3 HOP hap hL4 hna
    unfold lptr at *
    go_wp2_with fail
    refine Calls.mono HAP.out ?_
    rintro e w4 ⟨f4, rfl, hW4, hg4⟩
    have hW4' : WS w w.heap.size w4 g f4 ⟨0, 18, 1, 1, 0, 1, 0 + ka, 0⟩ st4 := hW4
    have hap := ws_append (n1 := w4.heap.size) hW4' HL4.out (HSB.out.1.below hW4.bel) ⟨hW4.wl.lt.2, hW4.wl.lt.1⟩ (fun ad e h0 => .inl (HSB.out.1.low e h0)) (by omega) (by rw [hnb]; show needN l1 ≤ 18 - (0 + ka - 0); omega) (by show 0 + ka < _; omega) (by show (1 : Nat) ≤ _; omega) (by omega) (by omega)
    have hL5 := (HL4.out.append lb (by rw [hnb]; show needN l1 ≤ 18 - (0 + ka - 0); omega) (by show 0 + ka + 100000 < _; omega) (by show (1 : Nat) ≤ _; omega)).2
    rw [hnb] at hap hL5
    generalize (apTo ⟨0, 18, 1, 1, 0, 1, 0 + ka, 0⟩ lb (needN l1) st4 (needN l1)).2 = st5 at *
    generalize hkbe : needN l1 = kb at *
    have HAP2 : Hid (Calls _ _ _ _ _) := hap
    have HL5 : Hid (Masters 0 st5.now ⟨1, 1, 0, 1⟩ ∧ st5.calm) := ⟨hL5.mst, hL5.calm⟩
    have HSEC : Hid (∀ n, n < ka + kb → st5.now[2 + n]? = some (pad (secL la lb ka kb n), false)) := hsec.2
    have HG4 : Hid (f4.g = gd) := hg4.trans HG3.out
    have HKA : Hid (needN l0 = ka ∧ needN l1 = kb) := ⟨hkae, hkbe⟩
    clear hW4 hW4' hg4 HAP hap HL4 hsec hL5 HG3 hst3 hwt3 hlen q2 q3 hnb hkae hkbe
    unfold lptr at HAP2
    go_wp2_with fail
    refine Calls.mono HAP2.out ?_
    rintro e w5 ⟨f5, rfl, hW5, hg5⟩
    have HW5 : Hid (WS w w.heap.size w5 g f5 ⟨0, 18, 1, 1, 0, 1, 0 + ka + kb, 0⟩ st5) := hW5
    have HG5 : Hid (f5.g = gd) := hg5.trans HG4.out
    have hnd := lawNeed_any l0 (by omega) w5
    rw [HKA.out.1] at hnd
    have HND : Hid (Calls _ _ _ _ _) := hnd
    have HKB : Hid (0 < ka ∧ ka ≤ 5 ∧ kb ≤ 5) := ⟨by omega, by omega, by omega⟩
    have hw7 : IntKind.u64.wrap (ka : Int) = (ka : Int) := by rw [IntKind.wrap_u64]; omega
    clear hW5 hg5 HAP2 HG4 hnd
    go_wp2_with fail
    refine Calls.mono HND.out ?_
    rintro e w' ⟨rfl, hw⟩; rw [hw]; clear hw w'
    go_wp2_with fail
    have HSE0 : Hid (SeW w w5.heap.size (w5.alloc (.cells #[.slice a0 l0 c0, .slice a1 l1 c1] 41)) g f5 (0 + ka + kb) st5 a0 l0 c0 a1 l1 c1) := ⟨HW5.out.below ((Below.refl _ _).alloc (Nat.le_refl _) _), Blk.new _ _ _⟩
    have HPK : Hid (∀ t, t < 2 → Entry w a0 l0 c0 a1 l1 c1 st5.now ka kb t) := entries HSA.out HSB.out HKA.out HKB.out.2 HSEC.out
    clear HW5 HND HSA HSB HSEC HKA hw7
    go_loopw [71, 11] (fun vi vn wr => ∃ t : Nat, vi = .int .i64 (t : Int) ∧ t ≤ 2 ∧ vn = .int .u64 (baseN ka kb t : Int) ∧ SeW w w5.heap.size wr g f5 (0 + ka + kb) st5 a0 l0 c0 a1 l1 c1) (fun vi _ _ => 2 - (intOf vi).toNat)
    case atStart => exact ⟨0, rfl, by omega, rfl, HSE0.out⟩
    case round =>
      clear HSE0
      obtain ⟨t, rfl, ht, rfl, hS⟩ := hrel
      have HS : Hid (SeW w w5.heap.size wr g f5 (0 + ka + kb) st5 a0 l0 c0 a1 l1 c1) := hS
      by_cases ht2 : t < 2
      · obtain ⟨ad, lt, ct, L, kL, hcell, hsL, hlL, hkL, hb, hbs, hsec⟩ := HPK.out t ht2
        have ct1 : wr.cell? ⟨w5.heap.size, t, none⟩ = some (.slice ad lt ct) := by rw [← hcell]; exact entry_cell hS.blk ht2
        have HSL : Hid (Src w (.slice ad lt ct) L ∧ L.length = lt ∧ needN lt = kL) := ⟨hsL, hlL, hkL⟩
        have HSX : Hid (∀ j, j < kL → st5.now[2 + (baseN ka kb t + j)]? = some (pad (pcBytes (baseN ka kb t + j) 1 (decide (j + 1 = kL)) (chunkL L j)), false)) := hsec
        clear hS hsL hsec
        have HBA : Hid (baseN ka kb t + kL = baseN ka kb (t + 1) ∧ baseN ka kb (t + 1) ≤ 10) := ⟨hb, by have := HKB.out; unfold baseN; split <;> (try split) <;> omega⟩
        have hbs10 : baseN ka kb t ≤ 10 := by have := HBA.out; omega
        go_wp2_with fail
        clear ct1 hcell hb
        obtain ⟨wo, rfl⟩ : ∃ x, x = wr := ⟨_, rfl⟩
        generalize baseN ka kb t = bs at *
        have hkL0 : 0 < kL := by rw [← hkL]; exact needN_pos lt
        have HI0 : Hid (Src w (.slice ad lt ct) (L.drop (480 * 0))) := by show Src _ _ _; rw [Nat.mul_zero, List.drop_zero]; exact HSL.out.1
        have hdt : decide ((t : Int) < 2) = true := decide_eq_true (by omega)
        rw [hdt]
        clear hdt
        go_loopw [13, 11] (fun vb vn wr => ∃ (j m cj : Nat) (aj : Option Addr), vb = .slice aj m cj ∧ m + 480 * j = lt ∧ j < kL ∧ Src w (.slice aj m cj) (L.drop (480 * j)) ∧ vn = .int .u64 ((bs + j : Nat) : Int) ∧ SeW w w5.heap.size wr g f5 (0 + ka + kb) st5 a0 l0 c0 a1 l1 c1) (fun _ vn _ => bs + kL - (intOf vn).toNat)
        case atStart => exact ⟨0, lt, ct, ad, rfl, by omega, hkL0, HI0.out, rfl, HS.out⟩
        case round =>
          clear HS HI0
          obtain ⟨j, m, cj, aj, rfl, hm, hj, hsj, rfl, hS⟩ := hrel
          have HS : Hid (SeW w w5.heap.size wr g f5 (0 + ka + kb) st5 a0 l0 c0 a1 l1 c1) := hS
          have HSJ : Hid (Src wr (.slice aj m cj) (L.drop (480 * j))) := hsj.below hS.ws.bel
          have HSW : Hid (Src w (.slice aj m cj) (L.drop (480 * j))) := hsj
          obtain ⟨q, hq⟩ : ∃ q, bs + j = q := ⟨_, rfl⟩
          rw [hq]
          have hsx := HSX.out j hj
          rw [hq] at hsx
          have HXJ : Hid (bs + j = q ∧ st5.now[2 + q]? = some (pad (pcBytes q 1 (decide (j + 1 = kL)) (chunkL L j)), false)) := ⟨hq, hsx⟩
          have hq15 : q ≤ 15 := by omega
          have H1 : Hid (Calls _ _ _ _ _) := put_any none 0 0 [] (q + 1) wr (Src.nil _) (by omega) (by simp)
          clear hS hsj hq hsx
          by_cases hlast : m ≤ 480
          · have hmin : min (m : Int) 480 = (m : Int) := by omega
            go_wp2_with fail
            refine Calls.mono H1.out ?_
            rintro e w6 ⟨g6, c6, rfl, ho6, hb6⟩
            have hle6 := enc_length (q + 1)
            have HS6 : Hid (SeW w w5.heap.size w6 g f5 (0 + ka + kb) st5 a0 l0 c0 a1 l1 c1) := HS.out.below hb6
            have H2 : Hid (Calls _ _ _ _ _) := put_any _ _ _ _ 1 w6 ho6.src (by omega) (by rw [join_length]; simp; omega)
            have HB6 : Hid (Below wr.heap.size wr w6) := hb6
            clear ho6 hb6 H1 HS
            go_wp2_with fail
            refine Calls.mono H2.out ?_
            rintro e w7 ⟨g7, c7, rfl, ho7, hb7⟩
            have HB7 : Hid (Below w6.heap.size w6 w7) := hb7
            have HO7 : Hid (Own w7 w6.heap.size (.slice (some ⟨g7, 0, none⟩) (join (join [] (enc (q + 1))) (enc 1)).length c7) (join (join [] (enc (q + 1))) (enc 1))) := ho7
            have HZ7 : Hid (w6.heap.size ≤ w7.heap.size) := hb7.size
            have hle7 := enc_length 1
            have hlp : (join (join [] (enc (q + 1))) (enc 1)).length < 1099511627776 := by simp only [join_length, List.length_nil]; omega
            clear ho7 hb7 H2
            go_wp2_with (first | (at_builtin; refine wpList_push _ rfl _ _ rfl w6.heap.size _ _ (1 : UInt8) _ ?_ HO7.out rfl rfl hlp HZ7.out ?_))
            · rfl
            intro v8 w8 ho8 hb8 _
            obtain ⟨g8, c8, rfl, _⟩ := Own.form ho8 (by unfold snoc; simp)
            have hln8 : (snoc (join (join [] (enc (q + 1))) (enc 1)) 1).length < 100 := by unfold snoc; simp only [List.length_append, join_length, List.length_nil, List.length_singleton]; omega
            have HS8 : Hid (SeW w w5.heap.size w8 g f5 (0 + ka + kb) st5 a0 l0 c0 a1 l1 c1) := HS6.out.below (HB7.out.trans hb8)
            have hst := HSW.out.below HS8.out.ws.bel
            have htk := hst.upto m (by omega)
            have hcv := htk.str
            have hat := hst.at
            have hmL := hat.1
            rw [List.length_drop] at hmL
            have hmc := hat.2.1
            have hmm := hat.2.2.1
            unfold maxLen at hmm
            obtain ⟨Sx, hSx⟩ : ∃ Sx : ByteArray, (⟨((L.drop (480 * j)).take m).toArray⟩ : ByteArray) = Sx := ⟨_, rfl⟩
            have hxl : Sx.data.toList = (L.drop (480 * j)).take m := by rw [← hSx]
            have hxs : Sx.size = m := by
              rw [← hSx]
              show (List.toArray _).size = m
              rw [List.size_toArray, List.length_take, ← hat.1]
              omega
            rw [hSx] at hcv
            have H3 : Hid (Calls _ _ _ _ _) := text_any _ _ _ _ Sx w8 ho8.src (by rw [hxs]; omega)
            have hck := chunk_of L j m (by omega)
            have HXL : Hid (Sx.data.toList = chunkL L j ∧ Sx.size = m) := ⟨hxl.trans hck, hxs⟩
            have hsl := fun W => slice8_to aj m cj m (by omega) (by omega) (fun e => (hat.2.2.2.1 e).2) W
            clear hmL ho8 hb8 hst htk hat hSx hxl hxs hck HS6 HB7 HO7 HZ7
            go_wp2_with fail
            refine Calls.mono H3.out ?_
            rintro e w9 ⟨g9, c9, rfl, ho9, hb9⟩
            have hpc : join (join (snoc (join (join [] (enc (q + 1))) (enc 1)) 1) (enc Sx.size)) Sx.data.toList = pcBytes q 1 true (chunkL L j) := by
              rw [show Sx.size = Sx.data.toList.length from rfl, HXL.out.1]
              exact pcBytes_law q (chunkL L j) true
            rw [hpc]
            rw [hpc] at ho9
            have hchl : (chunkL L j).length ≤ 480 := by unfold chunkL; rw [List.length_take]; omega
            have hpl := pcBytes_length q 1 true (chunkL L j)
            have hPL : (pcBytes q 1 true (chunkL L j)).length ≤ 512 := pcBytes_512 (by omega) hchl
            have hsec := HXJ.out.2
            rw [show decide (j + 1 = kL) = true by rw [decide_eq_true_eq]; exact last_is hm hlast hj HSL.out.2.2] at hsec
            have HS9 : Hid (SeW w w5.heap.size w9 g f5 (0 + ka + kb) st5 a0 l0 c0 a1 l1 c1) := HS8.out.below hb9
            have hrd := sec_read HS9.out HL5.out.2 HG5.out hsec
            generalize hPB : pcBytes q 1 true (chunkL L j) = PB at *
            obtain ⟨Sp, hSp⟩ : ∃ Sp : ByteArray, (⟨PB.toArray⟩ : ByteArray) = Sp := ⟨_, rfl⟩
            have H4 : Hid (Calls _ _ _ _ _) := hrd
            have HO9 : Hid (Src w9 (.slice (some ⟨g9, 0, none⟩) PB.length c9) PB) := ho9.src
            clear hpc ho9 hb9 hsec hrd H3 HS8 hPB hpl hchl
            go_wp2_with fail
            refine Calls.mono H4.out ?_
            rintro e w10 ⟨rfl, hbl, hb10⟩
            have hg1 := fun d => ((read_first hbl hPL).below (w' := w10.drewN d) ⟨rfl, rfl, rfl, Nat.le_refl _, fun _ _ => rfl⟩).str
            have hg2 := fun d => ((HO9.out.below hb10).below (w' := w10.drewN d) ⟨rfl, rfl, rfl, Nat.le_refl _, fun _ _ => rfl⟩).str
            rw [hSp] at hg1 hg2
            have HS10 : Hid (SeW w w5.heap.size w10 g f5 (0 + ka + kb) st5 a0 l0 c0 a1 l1 c1) := HS9.out.below hb10
            have HB10 : Hid (Below w9.heap.size w9 w10) := hb10
            have hsl2 := fun W => slice8_to (some ⟨w9.heap.size, 0, none⟩) 512 512 PB.length hPL (Nat.le_refl _) (fun e => by cases e) W
            have HPL : Hid (PB.length ≤ 512) := hPL
            clear hbl hb10 H4 HS9 hSp
            go_wp2_with fail
            go_quiet (fail)
            go_wp2_with fail
            have hjl := last_is hm hlast hj HSL.out.2.2
            exact ⟨⟨t + 1, by go_num, by omega, by rw [← HBA.out.1, ← hjl, ← HXJ.out.1]; go_num, HS10.out.below ⟨rfl, rfl, rfl, Nat.le_refl _, fun _ _ => rfl⟩⟩, by simp [intOf]; omega⟩
          · have hmin : min (m : Int) 480 = 480 := by omega
            obtain ⟨aj, rfl⟩ : ∃ x, aj = some x := by
              cases aj with
              | some x => exact ⟨x, rfl⟩
              | none =>
                have hat := HSW.out.at
                have h1 := (hat.2.2.2.1 rfl).1
                have h2 := hat.1
                rw [h1] at h2
                simp at h2
                omega
            go_wp2_with fail
            refine Calls.mono H1.out ?_
            rintro e w6 ⟨g6, c6, rfl, ho6, hb6⟩
            have hle6 := enc_length (q + 1)
            have HS6 : Hid (SeW w w5.heap.size w6 g f5 (0 + ka + kb) st5 a0 l0 c0 a1 l1 c1) := HS.out.below hb6
            have H2 : Hid (Calls _ _ _ _ _) := put_any _ _ _ _ 1 w6 ho6.src (by omega) (by rw [join_length]; simp; omega)
            have HB6 : Hid (Below wr.heap.size wr w6) := hb6
            clear ho6 hb6 H1 HS
            go_wp2_with fail
            refine Calls.mono H2.out ?_
            rintro e w7 ⟨g7, c7, rfl, ho7, hb7⟩
            have HB7 : Hid (Below w6.heap.size w6 w7) := hb7
            have HO7 : Hid (Own w7 w6.heap.size (.slice (some ⟨g7, 0, none⟩) (join (join [] (enc (q + 1))) (enc 1)).length c7) (join (join [] (enc (q + 1))) (enc 1))) := ho7
            have HZ7 : Hid (w6.heap.size ≤ w7.heap.size) := hb7.size
            have hle7 := enc_length 1
            have hlp : (join (join [] (enc (q + 1))) (enc 1)).length < 1099511627776 := by simp only [join_length, List.length_nil]; omega
            clear ho7 hb7 H2
            go_wp2_with (first | (at_builtin; refine wpList_push _ rfl _ _ rfl w6.heap.size _ _ (0 : UInt8) _ ?_ HO7.out rfl rfl hlp HZ7.out ?_))
            · rfl
            intro v8 w8 ho8 hb8 _
            obtain ⟨g8, c8, rfl, _⟩ := Own.form ho8 (by unfold snoc; simp)
            have hln8 : (snoc (join (join [] (enc (q + 1))) (enc 1)) 0).length < 100 := by unfold snoc; simp only [List.length_append, join_length, List.length_nil, List.length_singleton]; omega
            have HS8 : Hid (SeW w w5.heap.size w8 g f5 (0 + ka + kb) st5 a0 l0 c0 a1 l1 c1) := HS6.out.below (HB7.out.trans hb8)
            have hst := HSW.out.below HS8.out.ws.bel
            have htk := hst.upto 480 (by omega)
            have hcv := htk.str
            have hat := hst.at
            have hmL := hat.1
            rw [List.length_drop] at hmL
            have hmc := hat.2.1
            have hmm := hat.2.2.1
            unfold maxLen at hmm
            obtain ⟨Sx, hSx⟩ : ∃ Sx : ByteArray, (⟨((L.drop (480 * j)).take 480).toArray⟩ : ByteArray) = Sx := ⟨_, rfl⟩
            have hxl : Sx.data.toList = (L.drop (480 * j)).take 480 := by rw [← hSx]
            have hxs : Sx.size = 480 := by
              rw [← hSx]
              show (List.toArray _).size = 480
              rw [List.size_toArray, List.length_take, ← hat.1]
              omega
            rw [hSx] at hcv
            have H3 : Hid (Calls _ _ _ _ _) := text_any _ _ _ _ Sx w8 ho8.src (by rw [hxs]; omega)
            have hck := chunk_of L j 480 (by omega)
            have HXL : Hid (Sx.data.toList = chunkL L j ∧ Sx.size = 480) := ⟨hxl.trans hck, hxs⟩
            have hsl : ∀ W : World, (Instr.slice 41 (.slice (some aj) m cj) none (some (.int .i64 480)) none).run Try.prog W = .ok (.slice (some aj) 480 cj) W := fun W => slice8_to (some aj) m cj 480 (by omega) (by omega) (fun e => by cases e) W
            have hsf : ∀ W : World, (Instr.slice 41 (.slice (some aj) m cj) (some (.int .i64 480)) none none).run Try.prog W = .ok (.slice (some (aj.add 480)) (m - 480) (cj - 480)) W := fun W => by
              have := slice8_from (some aj) m cj 480 (by omega) (by omega) (fun e => by cases e) W
              rw [if_neg (by omega)] at this
              exact this
            clear hmL ho8 hb8 hst htk hat hSx hxl hxs hck HS6 HB7 HO7 HZ7
            go_wp2_with fail
            refine Calls.mono H3.out ?_
            rintro e w9 ⟨g9, c9, rfl, ho9, hb9⟩
            have hpc : join (join (snoc (join (join [] (enc (q + 1))) (enc 1)) 0) (enc Sx.size)) Sx.data.toList = pcBytes q 1 false (chunkL L j) := by
              rw [show Sx.size = Sx.data.toList.length from rfl, HXL.out.1]
              exact pcBytes_law q (chunkL L j) false
            rw [hpc]
            rw [hpc] at ho9
            have hchl : (chunkL L j).length ≤ 480 := by unfold chunkL; rw [List.length_take]; omega
            have hpl := pcBytes_length q 1 false (chunkL L j)
            have hPL : (pcBytes q 1 false (chunkL L j)).length ≤ 512 := pcBytes_512 (by omega) hchl
            have hsec := HXJ.out.2
            rw [show decide (j + 1 = kL) = false by have := more_is hm hlast HSL.out.2.2; exact decide_eq_false (by omega)] at hsec
            have HS9 : Hid (SeW w w5.heap.size w9 g f5 (0 + ka + kb) st5 a0 l0 c0 a1 l1 c1) := HS8.out.below hb9
            have hrd := sec_read HS9.out HL5.out.2 HG5.out hsec
            generalize hPB : pcBytes q 1 false (chunkL L j) = PB at *
            obtain ⟨Sp, hSp⟩ : ∃ Sp : ByteArray, (⟨PB.toArray⟩ : ByteArray) = Sp := ⟨_, rfl⟩
            have H4 : Hid (Calls _ _ _ _ _) := hrd
            have HO9 : Hid (Src w9 (.slice (some ⟨g9, 0, none⟩) PB.length c9) PB) := ho9.src
            clear hpc ho9 hb9 hsec hrd H3 HS8 hPB hpl hchl
            go_wp2_with fail
            refine Calls.mono H4.out ?_
            rintro e w10 ⟨rfl, hbl, hb10⟩
            have hg1 := fun d => ((read_first hbl hPL).below (w' := w10.drewN d) ⟨rfl, rfl, rfl, Nat.le_refl _, fun _ _ => rfl⟩).str
            have hg2 := fun d => ((HO9.out.below hb10).below (w' := w10.drewN d) ⟨rfl, rfl, rfl, Nat.le_refl _, fun _ _ => rfl⟩).str
            rw [hSp] at hg1 hg2
            have HS10 : Hid (SeW w w5.heap.size w10 g f5 (0 + ka + kb) st5 a0 l0 c0 a1 l1 c1) := HS9.out.below hb10
            have HB10 : Hid (Below w9.heap.size w9 w10) := hb10
            have hsl2 := fun W => slice8_to (some ⟨w9.heap.size, 0, none⟩) 512 512 PB.length hPL (Nat.le_refl _) (fun e => by cases e) W
            have HPL : Hid (PB.length ≤ 512) := hPL
            clear hbl hb10 H4 HS9 hSp
            go_wp2_with fail
            go_quiet (fail)
            go_wp2_with fail
            go_roundw
            case rel =>
              refine ⟨j + 1, m - 480, cj - 480, some (aj.add 480), by go_num, by omega, more_is hm hlast HSL.out.2.2, ?_, by rw [← HXJ.out.1]; go_num, HS10.out.below ⟨rfl, rfl, rfl, Nat.le_refl _, fun _ _ => rfl⟩⟩
              have hat := HSW.out.at
              have := HSW.out.cut 480 m (by omega) (by omega)
              rw [if_neg (by omega), List.drop_drop, List.take_of_length_le (by rw [List.length_drop, hat.1, List.length_drop]; omega)] at this
              rw [show 480 * (j + 1) = 480 * j + 480 by omega]
              exact this
            case measure => rw [← HXJ.out.1]; simp [intOf]; omega
      · obtain rfl : t = 2 := by omega
        have hrd := mas_read hS HL5.out.2 HG5.out HL5.out.1.2.1
        have HRD : Hid (Calls _ _ _ _ _) := hrd
        clear hrd hS HPK HL5
        go_wp2_with fail
        refine Calls.mono HRD.out ?_
        rintro e w10 ⟨rfl, hsr, hb10⟩
        have hcv := hsr.str
        have hsl : ∀ W : World, (Instr.slice 41 (.slice (some ⟨wr.heap.size, 0, none⟩) 512 512) none (some (.int .i64 9)) none).run Try.prog W = .ok (.slice (some ⟨wr.heap.size, 0, none⟩) 9 512) W := fun W => slice8_to (some ⟨wr.heap.size, 0, none⟩) 512 512 9 (by omega) (Nat.le_refl _) (fun e => by cases e) W
        have HBE : Hid (Below w.heap.size w w10) := HS.out.ws.bel.trans (hb10.mono HS.out.ws.bel.size)
        clear hsr hb10 HRD HS
        go_wp2_with fail
        go_ret
        exact ⟨rfl, HBE.out⟩
end Go.Proofs.Ytepfckckplbjjaa
