/- WalRounds: round and round. Own walk, no statement. -/
import Derived.Test.YtepfckckplbjjaaWalC
import Derived.Test.YtepfckckplbjjaaWalB
import Derived.Test.YtepfckckplbjjaaWWalNeeds
import Derived.Lib.ConvBytes
namespace Go.Proofs.Ytepfckckplbjjaa
open Go.ChangeShapes Go.WideShapes Go.ChangeAt Go.RowKit

theorem bytesW_below (w : World) (e : TypeId) (s : ByteArray) : Below w.heap.size w (Lib.bytesWorld w e s) :=
  ⟨rfl, rfl, rfl, by rw [Lib.bytesWorld_size]; omega, fun k hk => Lib.bytesWorld_at_old w e s k hk⟩
theorem bytesW_src (w : World) (s : ByteArray) (hs : s.size ≤ 100000) : Src (Lib.bytesWorld w 5 s) (.slice (some ⟨w.heap.size, 0, none⟩) s.size (grownCap w s.size 0 5)) s.data.toList := by
  have hl : s.data.toList.length = s.size := rfl
  refine ⟨some ⟨w.heap.size, 0, none⟩, grownCap w s.size 0 5, by rw [hl], by rw [hl]; exact grownCap_ge _ _ _ _, grownCap_le_maxLen _ _ _ _ (by unfold maxLen; omega), fun e => (by cases e), fun ad had j u hu => ?_⟩
  cases had
  have hj : j < s.data.toList.length := by
    have := (List.getElem?_eq_some_iff.1 hu).1
    simpa [bv] using this
  rw [show (⟨w.heap.size, 0, none⟩ : Addr).add j = ⟨w.heap.size, j, none⟩ by by_cases h0 : j = 0 <;> simp [Addr.add, h0], Lib.bytesWorld_cell _ _ _ _ (by omega), ← hu]
  have hj2 : j < s.data.size := by simpa using hj
  simp [bv, List.getD, Array.getElem?_eq_getElem hj2]
theorem and_leW (a : Int) (m : Nat) (hm : m < 9223372036854775808) : ∃ i : Nat, i ≤ m ∧ bits .and .i64 a (m : Int) = (i : Int) := by
  refine ⟨(BitVec.ofInt 64 a &&& BitVec.ofInt 64 (m : Int)).toNat, ?_, ?_⟩
  · rw [BitVec.toNat_and]
    refine Nat.le_trans Nat.and_le_right ?_
    rw [BitVec.ofInt_natCast, BitVec.toNat_ofNat]
    exact Nat.mod_le _ _
  · have hle : (BitVec.ofInt 64 a &&& BitVec.ofInt 64 (m : Int)).toNat ≤ m := by
      rw [BitVec.toNat_and]
      refine Nat.le_trans Nat.and_le_right ?_
      rw [BitVec.ofInt_natCast, BitVec.toNat_ofNat]
      exact Nat.mod_le _ _
    show IntKind.i64.wrap ((BitVec.ofInt 64 a &&& BitVec.ofInt 64 (m : Int)).toNat : Int) = _
    rw [IntKind.wrap_i64]
    omega

/-- While one goes round. -/
structure RdS (w wr : World) (g gd : Nat) (f : Foot) (room : Nat) (s : LSt) (st : DSt) (lf i : Nat) : Prop where
  ws : WS w w.heap.size wr g f s st
  fg : f.g = gd
  lw : LW s st [] lf
  fr : s.from_ = 0
  rm : s.room = room
  lif : s.life = 1
  eq : s.next = s.first
  wri : s.writing ≤ i + 1
  nx : s.next ≤ 2 * i
  stp : st.steps ≤ 2 + i * 20
  wts : st.waits = []
theorem ownsRow_form {W : World} {B : Nat} {T : TypeId} {k n : Nat} {v : Value} {us : List Value} (h : W.ownsRow B T k v n us) : ∃ a c, v = .slice a n c := by
  rcases h.2 with ⟨rfl, rfl⟩ | ⟨g, cap, cur, rfl, _⟩
  · exact ⟨none, 0, rfl⟩
  · exact ⟨_, _, rfl⟩
theorem needN_511 {n : Nat} (h : n ≤ 511) : needN n ≤ 2 := by
  unfold needN
  split <;> omega

set_option maxRecDepth 100000 in
set_option maxHeartbeats 4000000 in
theorem walk_WalRounds (ring n size : Int) (w : World) (_h1 : (Lit.int .i64 ring).wf = true) (_h2 : (Lit.int .i64 n).wf = true) (_h3 : (Lit.int .i64 size).wf = true) :
    Calls Try.prog 8 #[.int .i64 ring, .int .i64 n, .int .i64 size] w fun e w' => e = .returned (.bool true) ∧ Below w.heap.size w w' := by
  obtain ⟨r, hr15, ha1⟩ := and_leW ring 15 (by omega)
  obtain ⟨m, hm127, ha2⟩ := and_leW n 127 (by omega)
  obtain ⟨z, hz511, ha3⟩ := and_leW size 511 (by omega)
  have ha1' : bits BinOp.and IntKind.i64 ring 15 = (r : Int) := ha1
  have ha2' : bits BinOp.and IntKind.i64 n 127 = (m : Int) := ha2
  have ha3' : bits BinOp.and IntKind.i64 size 511 = (z : Int) := ha3
  clear ha1 ha2 ha3
  have kc : ∀ (w : World) (Sv : ByteArray), (convert 9 41 (.string Sv)).run Try.prog w = .ok (.slice (some ⟨w.heap.size, 0, none⟩) Sv.size (grownCap w Sv.size 0 5)) (Lib.bytesWorld w 5 Sv) := fun w Sv => Lib.run_convert_string_bytes (P := Try.prog) w 9 41 5 Sv Try.underlying9 Try.underlying41 Try.underlying5
  go_enter Try.func8, Try.ntmps8
  go_wp2_with fail
  refine (head5_any w).mono ?_
  rintro e w1 ⟨rfl, hb1⟩
  have HN : Hid (Calls Try.prog 15 #[.int .i64 (2 + (r : Int) + 2)] w1 _) := new_new (2 + (r : Int) + 2) (r + 4) (by have := nSec_of (n := r + 4) (by omega); rw [← this]; congr 1; omega) w w.heap.size w1 hb1 (Nat.le_refl _)
  clear hb1
  go_wp2_with fail
  refine Calls.mono HN.out ?_
  rintro e w2 ⟨gd, f2, rfl, hD2, -, -⟩
  have hop := ws_fresh (from_ := 0) (room := r + 2) hD2 (by omega) (by omega) (by omega)
  rw [show ((r + 2 : Nat) : Int) + 2 = 2 + (r : Int) + 2 by omega] at hop
  have HOP : Hid (Calls _ _ _ _ _) := hop
  clear hop
  clear hD2 HN
  unfold dptr at *
  go_wp2_with fail
  refine Calls.mono HOP.out ?_
  rintro e w3 ⟨g, f3, st3, lf3, rfl, -, hW3, hg3, hF3⟩
  have HS3 : Hid (RdS w w3 g gd f3 (r + 2) (s10 0 (r + 2)) st3 lf3 0) := ⟨hW3, hg3, hF3.l, rfl, rfl, rfl, rfl, Nat.le_refl _, Nat.le_refl _, by rw [hF3.steps]; omega, hF3.waits⟩
  clear hW3 hg3 hF3 HOP
  unfold lptr
  go_wp2_with fail
  go_loopw [10] (fun v wr => ∃ (i : Nat) (f : Foot) (s : LSt) (st : DSt) (lf : Nat), v = .int .i64 (i : Int) ∧ i ≤ m ∧ RdS w wr g gd f (r + 2) s st lf i) (fun v _ => m - (intOf v).toNat)
  case atStart => exact ⟨0, f3, _, st3, lf3, rfl, Nat.zero_le _, HS3.out⟩
  case round =>
    clear HS3
    obtain ⟨i, f, ⟨sf, sr, sw, sl, sfi, sle, sn, ss⟩, st, lf, rfl, hi, hS⟩ := hrel
    obtain rfl : sf = 0 := hS.fr
    obtain rfl : sr = r + 2 := hS.rm
    obtain rfl : sl = 1 := hS.lif
    obtain rfl : sn = sfi := hS.eq
    have hwri : sw ≤ i + 1 := hS.wri
    have hnx : sn ≤ 2 * i := hS.nx
    have hstp := hS.stp
    have hwts : st.waits.length = 0 := by rw [hS.wts]; rfl
    have HS : Hid (RdS w wr g gd f (r + 2) ⟨0, r + 2, sw, 1, sn, sle, sn, ss⟩ st lf i) := hS
    clear hS
    by_cases hlt : i < m
    · have hby := bytes5_any z i (by omega) (by omega) wr
      have hbl := bytesL_length z i
      generalize bytesL z i = L at *
      obtain ⟨Sv, hSv⟩ : ∃ Sv : ByteArray, (⟨L.toArray⟩ : ByteArray) = Sv := ⟨_, rfl⟩
      have hSL : Sv.data.toList = L := by rw [← hSv]
      have hSz : Sv.size = z := by rw [← hSv]; show L.toArray.size = z; rw [List.size_toArray]; exact hbl
      rw [hSv] at hby
      have HBY : Hid (Calls _ _ _ _ _) := hby
      have HLV : Hid (Sv.data.toList = L ∧ (⟨L.toArray⟩ : ByteArray) = Sv ∧ Sv.size = z ∧ L.length = z) := ⟨hSL, hSv, hSz, hbl⟩
      clear hby hSL hSv hSz hbl
      go_wp2_with fail
      refine Calls.mono HBY.out ?_
      rintro e w4 ⟨rfl, hb4⟩
      have hS4 : WS w w.heap.size w4 g f ⟨0, r + 2, sw, 1, sn, sle, sn, ss⟩ st := HS.out.ws.below hb4
      have hS5 := hS4.below (bytesW_below w4 5 Sv)
      obtain ⟨-, -, hSz, hbl⟩ := HLV.out
      have hsrc := bytesW_src w4 Sv (by omega)
      rw [HLV.out.1] at hsrc
      have hkz : needN L.length = needN z := by rw [hbl]
      have hk1 := needN_511 hz511
      have hk0 := needN_pos z
      have happ := ws_append (n1 := w4.heap.size) hS5 HS.out.lw hsrc ⟨hS4.wl.lt.2, hS4.wl.lt.1⟩ (fun ad e _ => by cases e; exact .inr (Nat.le_refl _)) (by omega) (by rw [hkz]; show needN z ≤ r + 2 - (sn - sn); omega) (by show sn < _; omega) (by show (1 : Nat) ≤ _; omega) (by omega) (by omega)
      have hL6 := (HS.out.lw.append L (by rw [hkz]; show needN z ≤ r + 2 - (sn - sn); omega) (by show sn + 100000 < _; omega) (by show (1 : Nat) ≤ _; omega)).2
      obtain ⟨-, q2, q3⟩ := apTo_len ⟨0, r + 2, sw, 1, sn, sle, sn, ss⟩ L (needN L.length) st (needN L.length)
      rw [hkz] at happ hL6 q2 q3
      generalize (apTo ⟨0, r + 2, sw, 1, sn, sle, sn, ss⟩ L (needN z) st (needN z)).2 = st6 at *
      generalize needN z = k at *
      have HAP : Hid (Calls _ _ _ _ _) := happ
      have HL6 : Hid (LW ⟨0, r + 2, sw, 1, sn, sle, sn + k, ss⟩ st6 [(sn, L)] 1) := hL6
      have HFG : Hid (f.g = gd) := HS.out.fg
      clear hb4 HBY hS4 hS5 hsrc happ hL6 HS hSz hbl hkz
      unfold lptr at HAP
      go_wp2_with fail
      refine Calls.mono HAP.out ?_
      rintro e w6 ⟨f6, rfl, hW6, hg6⟩
      have HW6 : Hid (WS w w.heap.size w6 g f6 ⟨0, r + 2, sw, 1, sn, sle, sn + k, ss⟩ st6) := hW6
      have HG6 : Hid (f6.g = gd) := hg6.trans HFG.out
      have HFD : Hid (Calls _ _ _ _ _) := ws_found HW6.out HL6.out (by show sn + k < _; omega) (by show (1 : Nat) ≤ _; omega)
      clear hW6 hg6 HAP HFG
      unfold lptr at HFD
      go_wp2_with fail
      refine Calls.mono HFD.out ?_
      rintro e w7 ⟨vo, va, rfl, ho, ha, hb7⟩
      obtain ⟨go, co, rfl⟩ := ownsRow_succ ho
      have z1 : w7.cell? ⟨go, 0, none⟩ = some (.string Sv) := by
        have := World.ownsRow.cells ho rfl 0 (.string ⟨L.toArray⟩) rfl
        rw [HLV.out.2.1] at this
        simpa [Addr.add] using this
      have HW7 : Hid (WS w w.heap.size w7 g f6 ⟨0, r + 2, sw, 1, sn, sle, sn + k, ss⟩ st6) := HW6.out.below hb7
      have HC1 : Hid (Calls _ _ _ _ _) := ws_cut_here HW7.out HL6.out (by show sw + 1 < _; omega) (by show (1 : Nat) ≤ _; omega) (by show sn + k ≤ _; omega) (by omega) (by omega)
      clear ho ha hb7 HW6 HFD
      unfold lptr at HC1
      go_wp2_with fail
      refine Calls.mono HC1.out ?_
      rintro e w8 ⟨f8, st8, rfl, hW8, hg8, hL8, hst8, hwt8⟩
      have HW8 : Hid (WS w w.heap.size w8 g f8 ⟨0, r + 2, sw, 1, sn, sle, sn + k, sn + k⟩ st8) := hW8
      have HG8 : Hid (f8.g = gd) := hg8.trans HG6.out
      have HNX : Hid (Calls Try.prog 25 #[lptr g] w8 fun e w' => e = .returned (.int .u64 ((sn + k : Nat) : Int)) ∧ w' = w8) := next_any HW8.out.wl.l
      have HC2 : Hid (Calls _ _ _ _ _) := ws_cut_end HW8.out hL8 (by show sn + k ≠ sn; omega) (by show sw + 1 < _; omega) (by show (1 : Nat) ≤ _; omega) (by show sn + k ≤ _; omega) (by omega) (by omega)
      clear hW8 hg8 hL8 HW7 HC1 HL6 HG6 z1
      unfold lptr at HNX HC2
      go_wp2_with fail
      refine Calls.mono HNX.out ?_
      rintro e w' ⟨rfl, hw⟩; rw [hw]; clear hw w'
      go_wp2_with fail
      refine Calls.mono HC2.out ?_
      rintro e w9 ⟨f9, st9, rfl, hW9, hg9, hL9, hst9, hwt9, -⟩
      have HW9 : Hid (WS w w.heap.size w9 g f9 ⟨0, r + 2, sw + 1, 1, sn + k, 1, sn + k, sn + k⟩ st9) := hW9
      have HL9 : Hid (LW ⟨0, r + 2, sw + 1, 1, sn + k, 1, sn + k, sn + k⟩ st9 [] 1) := hL9
      have HG9 : Hid (f9.g = gd) := hg9.trans HG8.out
      have HWT : Hid (st9.waits = []) := hwt9
      have HFD : Hid (Calls _ _ _ _ _) := ws_found HW9.out HL9.out (by show sn + k < _; omega) (by show (1 : Nat) ≤ _; omega)
      clear hW9 hg9 hL9 hwt9 HW8 HC2 HNX HG8
      unfold lptr at HFD
      go_wp2_with fail
      refine Calls.mono HFD.out ?_
      rintro e w10 ⟨vo, va, rfl, ho, ha, hb10⟩
      obtain ⟨ao, co0, rfl⟩ := ownsRow_form ho
      have HW10 : Hid (WS w w.heap.size w10 g f9 ⟨0, r + 2, sw + 1, 1, sn + k, 1, sn + k, sn + k⟩ st9) := HW9.out.below hb10
      have hfr := free_any HW10.out.wl.l (Nat.le_refl _) (by show sn + k ≤ sn + k + _; omega) (by show r + 2 < _; omega)
      rw [show ((⟨0, r + 2, sw + 1, 1, sn + k, 1, sn + k, sn + k⟩ : LSt).room - ((⟨0, r + 2, sw + 1, 1, sn + k, 1, sn + k, sn + k⟩ : LSt).next - (⟨0, r + 2, sw + 1, 1, sn + k, 1, sn + k, sn + k⟩ : LSt).first) : Nat) = r + 2 by show r + 2 - (sn + k - (sn + k)) = r + 2; omega, show ((r + 2 : Nat) : Int) = 2 + (r : Int) by omega] at hfr
      have HFR : Hid (Calls _ _ _ _ _) := hfr
      clear ho ha hb10 HW9 HFD hfr
      unfold lptr at HFR
      go_wp2_with fail
      refine Calls.mono HFR.out ?_
      rintro e w' ⟨rfl, hw⟩; rw [hw]; clear hw w'
      go_wp2_with fail
      go_roundw
      case rel => exact ⟨i + 1, f9, ⟨0, r + 2, sw + 1, 1, sn + k, 1, sn + k, sn + k⟩, st9, 1, by go_num, by omega, HW10.out, HG9.out, HL9.out, rfl, rfl, rfl, rfl, by show sw + 1 ≤ _; omega, by show sn + k ≤ _; omega, by omega, HWT.out⟩
      case measure => simp [intOf]; omega
    · obtain rfl : i = m := by omega
      have hws := HS.out.ws
      have hfg := HS.out.fg
      have hF := HS.out.lw.finds HS.out.lw.calm rfl (by show sw + 1 < _; omega) (by show (1 : Nat) < _; omega)
      have hop := ws_open hws.disk hF (by omega) (by omega)
      rw [hfg, show (((⟨0, r + 2, sw, 1, sn, sle, sn, ss⟩ : LSt).room : Nat) : Int) + 2 = 2 + (r : Int) + 2 by show ((r + 2 : Nat) : Int) + 2 = _; omega] at hop
      have HOP : Hid (Calls _ _ _ _ _) := hop
      have HLT : Hid (g < wr.heap.size ∧ ¬ f.has g ∧ LogAt wr g f.g ⟨0, r + 2, sw, 1, sn, sle, sn, ss⟩) := ⟨hws.wl.lt.1, hws.wl.ap, hws.wl.l⟩
      clear hws hfg hF hop HS
      unfold dptr at HOP
      go_wp2_with fail
      refine Calls.mono HOP.out ?_
      rintro e w4 ⟨gm, f4, rfl, -, hW4, hT4⟩
      have hl4 : LogAt w4 g f.g ⟨0, r + 2, sw, 1, sn, sle, sn, ss⟩ := Blk.chg HLT.out.2.2 hT4.chg HLT.out.2.1
      have HBE : Hid (Below w.heap.size w w4) := hW4.bel
      have HLI : Hid (Calls Try.prog 28 #[lptr gm] w4 fun e w' => e = .returned (.int .u64 2) ∧ w' = w4) := life_any hW4.wl.l
      have HM1 : Hid (Calls Try.prog 24 #[lptr gm] w4 fun e w' => e = .returned (.int .u64 (sn : Int)) ∧ w' = w4) := start_any hW4.wl.l
      have HM2 : Hid (Calls Try.prog 25 #[lptr gm] w4 fun e w' => e = .returned (.int .u64 (sn : Int)) ∧ w' = w4) := next_any hW4.wl.l
      have HO1 : Hid (Calls Try.prog 24 #[lptr g] w4 fun e w' => e = .returned (.int .u64 (sn : Int)) ∧ w' = w4) := start_any hl4
      have HO2 : Hid (Calls Try.prog 25 #[lptr g] w4 fun e w' => e = .returned (.int .u64 (sn : Int)) ∧ w' = w4) := next_any hl4
      clear hW4 hT4 hl4 HOP HLT
      unfold lptr at *
      go_wp2_with fail
      refine Calls.mono HLI.out ?_
      rintro e w' ⟨rfl, hw⟩; rw [hw]; clear hw w'
      go_wp2_with fail
      refine Calls.mono HM1.out ?_
      rintro e w' ⟨rfl, hw⟩; rw [hw]; clear hw w'
      go_wp2_with fail
      refine Calls.mono HO1.out ?_
      rintro e w' ⟨rfl, hw⟩; rw [hw]; clear hw w'
      go_wp2_with fail
      refine Calls.mono HM2.out ?_
      rintro e w' ⟨rfl, hw⟩; rw [hw]; clear hw w'
      go_wp2_with fail
      refine Calls.mono HO2.out ?_
      rintro e w' ⟨rfl, hw⟩; rw [hw]; clear hw w'
      go_wp2_with fail
      go_ret
      exact ⟨rfl, HBE.out⟩
end Go.Proofs.Ytepfckckplbjjaa
