/- WalBehind: an entry that was lost with the one ahead of it does not come back. Own walk, no statement. -/
import Derived.Test.YtepfckckplbjjaaWalV
import Derived.Test.YtepfckckplbjjaaWWalRounds
namespace Go.Proofs.Ytepfckckplbjjaa
open Go.ChangeShapes Go.WideShapes Go.ChangeAt Go.RowKit

theorem ws_onK {w0 w : World} {B g : Nat} {f : Foot} {s : LSt} {st : DSt} {ko : Option Addr} {kn kc : Nat} {keep : List Bool} {tear : Int} (h : WS w0 B w g f s st) (hkp : Bools w ko kn keep) (hkf : ∀ ad, ko = some ad → 0 < kn → ¬ f.has ad.block) (hkm : kn ≤ maxLen) :
    Calls Try.prog 30 #[dptr f.g, .slice ko kn kc, .int .i64 tear] w fun e w' => e = .returned (.tuple #[]) ∧ NewAt w0 B w' f.g f (st.on keep tear) := by
  refine (on_any f st ko kn kc keep tear w h.wl.d hkp hkf hkm).mono ?_
  rintro e w' ⟨rfl, k1, k2⟩
  exact ⟨rfl, h.disk.turn k2 k1⟩
/-- While the log is opened again and again. -/
structure BhS (w wr : World) (g gd : Nat) (f : Foot) (kc : Nat) (s : LSt) (st : DSt) (lf i : Nat) : Prop where
  ws : WS w w.heap.size wr g f s st
  fg : f.g = gd
  lw : LW s st [] lf
  fr : s.from_ = 0
  rm : s.room = 38
  nx : s.next = kc
  fi : s.first = s.next
  wri : s.writing ≤ i + 3
  lif : s.life ≤ i + 2
  stp : st.steps ≤ 100 + i * 10
  wts : st.waits = []
  sf : st.safe = st.now
theorem infoBool : (Try.prog.info? 4).map (fun i => (i.zero, i.size, i.bytes)) = some (some (.bool false), 1, 1) := by kernel_rfl
theorem ownsRow_one (w : World) (T : TypeId) (v : Value) (B : Nat) (hB : B ≤ w.heap.size) : (w.alloc (.cells #[v] T)).ownsRow B T 1 (.slice (some ⟨w.heap.size, 0, none⟩) 1 1) 1 [v] := by
  refine ⟨by simp, .inr ⟨w.heap.size, 1, #[v], rfl, hB, (Blk.new w #[v] T : _), ?_⟩⟩
  simp [maxLen]
theorem own_bools {W : World} {B n : Nat} {a : Option Addr} {c : Nat} {l : List Bool} (hl : l.length = n) (h0 : 0 < n) (h : W.ownsRow B 4 1 (.slice a n c) n (l.map Value.bool)) : Bools W a n l ∧ (∀ ad, a = some ad → B ≤ ad.block) ∧ n ≤ maxLen := by
  rcases h.2 with ⟨e, h1⟩ | ⟨g, cap, cur, e, hB, hg, hn, hm, _⟩
  · omega
  · have hf := h
    cases e
    refine ⟨⟨hl, fun e => (by cases e), fun ad had j b hb => ?_⟩, fun ad had => by cases had; exact hB, Nat.le_trans hn hm⟩
    cases had
    exact World.ownsRow.cells hf rfl j (.bool b) (by rw [List.getElem?_map, hb]; rfl)
theorem needN_1000 {n : Nat} (h : n ≤ 1000) : needN n ≤ 3 := by
  unfold needN
  split <;> omega

set_option maxRecDepth 100000 in
set_option maxHeartbeats 8000000 in
theorem walk_WalBehind (a0 : Option Addr) (l0 c0 : Nat) (z0 : List Int) (a1 : Option Addr) (l1 c1 : Nat) (z1 : List Int) (a2 : Option Addr) (l2 c2 : Nat) (z2 : List Int) (opens : Int) (force : Bool) (w : World) (h0 : IsRow .u8 w a0 l0 c0 z0) (h1 : IsRow .u8 w a1 l1 c1 z1) (h2 : IsRow .u8 w a2 l2 c2 z2) (_h3 : (Lit.int .i64 opens).wf = true) :
    Calls Try.prog 11 #[.slice a0 l0 c0, .slice a1 l1 c1, .slice a2 l2 c2, .int .i64 opens, .bool force] w fun e w' => e = .returned (.bool true) ∧ Below w.heap.size w w' := by
  obtain ⟨la, hsa, hla⟩ := isRow_src h0
  obtain ⟨lb, hsb, hlb⟩ := isRow_src h1
  obtain ⟨lc, hsc, hlc⟩ := isRow_src h2
  clear h0 h1 h2
  obtain ⟨m, hm3, ha3⟩ := and_leW opens 3 (by omega)
  have ha3' : bits BinOp.and IntKind.i64 opens 3 = (m : Int) := ha3
  clear ha3
  have hca := hsa.at.2.2.1
  have hcb := hsb.at.2.2.1
  have hcc := hsc.at.2.2.1
  have hma := hsa.at.2.1
  have hmb := hsb.at.2.1
  have hmc := hsc.at.2.1
  unfold maxLen at hca hcb hcc
  by_cases hbig : 1000 < l0 ∨ 1000 < l1 ∨ 1000 < l2
  · rcases (show 1000 < l0 ∨ (l0 ≤ 1000 ∧ 1000 < l1) ∨ (l0 ≤ 1000 ∧ l1 ≤ 1000 ∧ 1000 < l2) by omega) with h | ⟨h, h'⟩ | ⟨h, h', h''⟩
    all_goals
      go_enter Try.func11, Try.ntmps11
      go_wp2_with fail
      refine (head5_any w).mono ?_
      rintro e w1 ⟨rfl, hb1⟩
      have HB : Hid (Below w.heap.size w w1) := hb1
      clear hb1
      go_wp2_with fail
      go_ret
      exact ⟨rfl, HB.out⟩
  · have hl0 : l0 ≤ 1000 := by omega
    have hl1 : l1 ≤ 1000 := by omega
    have hl2 : l2 ≤ 1000 := by omega
    have HSA : Hid (Src w (.slice a0 l0 c0) la ∧ la.length = l0) := ⟨hsa, hla⟩
    have HSB : Hid (Src w (.slice a1 l1 c1) lb ∧ lb.length = l1) := ⟨hsb, hlb⟩
    have HSC : Hid (Src w (.slice a2 l2 c2) lc ∧ lc.length = l2) := ⟨hsc, hlc⟩
    clear hsa hsb hsc hla hlb hlc hbig hca hcb hcc hma hmb hmc
    go_enter Try.func11, Try.ntmps11
    go_wp2_with fail
    refine (head5_any w).mono ?_
    rintro e w1 ⟨rfl, hb1⟩
    have HN : Hid (Calls Try.prog 15 #[.int .i64 40] w1 _) := new_new 40 40 (nSec_of (n := 40) (by omega)) w w.heap.size w1 hb1 (Nat.le_refl _)
    clear hb1
    go_wp2_with fail
    refine Calls.mono HN.out ?_
    rintro e w2 ⟨gd, f2, rfl, hD2, -, -⟩
    have HOP : Hid (Calls Try.prog 16 #[dptr gd, .int .i64 0, .int .i64 40] w2 _) := ws_fresh (from_ := 0) (room := 38) hD2 (by omega) (by omega) (by omega)
    clear hD2 HN
    unfold dptr at *
    go_wp2_with fail
    refine Calls.mono HOP.out ?_
    rintro e w3 ⟨g, f3, st3, lf3, rfl, -, hW3, hg3, hF3⟩
    obtain rfl : (1 : Nat) = lf3 := hF3.l.ch.2
    have HF3 : Hid (Fresh1 0 38 40 st3 1) := hF3
    have HG3 : Hid (f3.g = gd) := hg3
    have hst3 : st3.steps = 2 := hF3.steps
    have hwt3 : st3.waits.length = 0 := by rw [hF3.waits]; rfl
    have hna : la.length = l0 := HSA.out.2
    have hka := needN_1000 hl0
    have hka0 := needN_pos l0
    have hap := ws_append (n1 := w3.heap.size) hW3 hF3.l (HSA.out.1.below hW3.bel) ⟨hW3.wl.lt.2, hW3.wl.lt.1⟩ (fun ad e h0 => .inl (HSA.out.1.low e h0)) (by omega) (by rw [hna]; show needN l0 ≤ 38 - (0 - 0); omega) (by show (0 : Nat) < _; omega) (by show (1 : Nat) ≤ _; omega) (by omega) (by omega)
    have hL4 := (hF3.l.append la (by rw [hna]; show needN l0 ≤ 38 - (0 - 0); omega) (by show (0 : Nat) + 100000 < _; omega) (by show (1 : Nat) ≤ _; omega)).2
    obtain ⟨-, -, q3, -, -, -, q7, q8⟩ := apTo_calm (s := s10 0 38) (l := la) hF3.l.calm (by show 0 < 38; omega) (need := needN la.length) (by rw [hna]; show needN l0 ≤ 38; omega) hF3.l.fit (needN la.length) (Nat.le_refl _)
    rw [hF3.waits, List.nil_append] at q7
    rw [hna] at hap hL4 q3 q7 q8
    generalize (apTo (s10 0 38) la (needN l0) st3 (needN l0)).2 = st4 at *
    generalize hkae : needN l0 = ka at *
    have HAP : Hid (Calls _ _ _ _ _) := hap
    have HL4 : Hid (LW ⟨0, 38, 1, 1, 0, 1, 0 + ka, 0⟩ st4 [(0, la)] 1) := hL4
    have HQ4 : Hid (st4.safe = st3.safe ∧ st4.waits = (List.range ka).map fun i => ((s10 0 38).place ((s10 0 38).next + i), pad (pcBytes ((s10 0 38).next + i) (s10 0 38).life (decide (i + 1 = ka)) (chunkL la i)))) := ⟨q3, q7⟩
    have hst4 : st4.steps = 2 + ka := by omega
    have hwt4 : st4.waits.length = ka := by rw [q7]; simp
    clear hW3 hg3 hF3 HOP hap hL4 q3 q7 q8 hna hkae
    unfold lptr at *
    go_wp2_with fail
    refine Calls.mono HAP.out ?_
    rintro e w4 ⟨f4, rfl, hW4, hg4⟩
    have HG4 : Hid (f4.g = gd) := hg4.trans HG3.out
    have hnb : lb.length = l1 := HSB.out.2
    have hkb := needN_1000 hl1
    have hkb0 := needN_pos l1
    have hW4' : WS w w.heap.size w4 g f4 ⟨0, 38, 1, 1, 0, 1, 0 + ka, 0⟩ st4 := hW4
    have hap := ws_append (n1 := w4.heap.size) hW4' HL4.out (HSB.out.1.below hW4.bel) ⟨hW4.wl.lt.2, hW4.wl.lt.1⟩ (fun ad e h0 => .inl (HSB.out.1.low e h0)) (by omega) (by rw [hnb]; show needN l1 ≤ 38 - (0 + ka - 0); omega) (by show 0 + ka < _; omega) (by show (1 : Nat) ≤ _; omega) (by omega) (by omega)
    obtain ⟨-, -, q3, -, -, -, q7, q8⟩ := apTo_calm (s := ⟨0, 38, 1, 1, 0, 1, 0 + ka, 0⟩) (l := lb) HL4.out.calm (by show 0 < 38; omega) (need := needN lb.length) (by rw [hnb]; show needN l1 ≤ 38; omega) HL4.out.fit (needN lb.length) (Nat.le_refl _)
    rw [hnb] at hap q3 q7 q8
    generalize (apTo ⟨0, 38, 1, 1, 0, 1, 0 + ka, 0⟩ lb (needN l1) st4 (needN l1)).2 = st5 at *
    generalize hkbe : needN l1 = kb at *
    have HAP2 : Hid (Calls _ _ _ _ _) := hap
    have hw5 : st5.waits = (List.range (ka + kb)).map fun i => ((s10 0 38).place ((s10 0 38).next + i), pad (pcBytes ((s10 0 38).next + i) (s10 0 38).life (if i < ka then decide (i + 1 = ka) else decide (i - ka + 1 = kb)) (if i < ka then chunkL la i else chunkL lb (i - ka)))) := by
      rw [q7, HQ4.out.2]
      exact two_waits (s10 0 38) la lb ka kb
    have HQ5 : Hid (st5.safe = st3.now ∧ st5.waits = _) := ⟨q3.trans (HQ4.out.1.trans HF3.out.safe), hw5⟩
    have hst5 : st5.steps = 2 + ka + kb := by omega
    clear hW4 hW4' hg4 HAP hap q3 q7 q8 hnb hkbe hw5 HQ4 HL4 HG3 hst4 hwt4
    unfold lptr at HAP2
    go_wp2_with fail
    refine Calls.mono HAP2.out ?_
    rintro e w5 ⟨f5, rfl, hW5, hg5⟩
    have HW5 : Hid (WS w w.heap.size w5 g f5 _ st5) := hW5
    have HG5 : Hid (f5.g = gd) := hg5.trans HG4.out
    have HR5 : Hid ((w5.alloc (.cells #[.bool false] 4)).ownsRow w5.heap.size 4 1 (.slice (some ⟨w5.heap.size, 0, none⟩) 1 1) 1 [.bool false]) := ownsRow_one w5 4 (.bool false) w5.heap.size (Nat.le_refl _)
    have HB5 : Hid (Below w5.heap.size w5 (w5.alloc (.cells #[.bool false] 4))) := (Below.refl _ _).alloc (Nat.le_refl _) _
    obtain ⟨ib, j1, j2, j3, j4⟩ := info_parts infoBool
    clear hW5 hg5 HAP2 HG4
    go_wp2_with fail
    go_loopw [18, 19] (fun vk v wr => ∃ (i : Nat) (a : Option Addr) (c : Nat), vk = .slice a (i + 1) c ∧ v = .int .i64 (i : Int) ∧ i ≤ 10 ∧ wr.ownsRow w5.heap.size 4 1 (.slice a (i + 1) c) (i + 1) ((false :: List.replicate i true).map Value.bool) ∧ Below w5.heap.size w5 wr) (fun _ v _ => 10 - (intOf v).toNat)
    case atStart => exact ⟨0, _, _, rfl, rfl, by omega, HR5.out, HB5.out⟩
    case round =>
      clear HR5 HB5
      obtain ⟨i, ak, ck, rfl, rfl, hi, hown, hbw⟩ := hrel
      have HOW : Hid (wr.ownsRow w5.heap.size 4 1 (.slice ak (i + 1) ck) (i + 1) ((false :: List.replicate i true).map Value.bool)) := hown
      have HBW : Hid (Below w5.heap.size w5 wr) := hbw
      clear hown hbw
      by_cases hlt : i < 10
      · go_wp2_with (at_builtin; refine wpList_append_own_at _ rfl _ _ 35 rfl w5.heap.size 4 ib (.bool false) 1 1 Try.underlying35 j1 j2 j3 j4 rfl (by decide) _ (i + 1) ((false :: List.replicate i true).map Value.bool) rfl (World.ownsRow.alloc HOW.out _) ⟨wr.heap.size, 0, none⟩ 1 1 [.bool true] rfl rfl (cell_one_new _ _ _) (by intro u hu; simp at hu; subst hu; rfl) (by unfold maxLen; omega) (by omega) (by have := HBW.out.size; simp; omega) ?_)
        intro v' w6 ho hg _ _
        obtain ⟨g6, c6, rfl⟩ := ownsRow_succ ho
        have HO6 : Hid (w6.ownsRow w5.heap.size 4 1 (.slice (some ⟨g6, 0, none⟩) (i + 1 + 1) c6) (i + 1 + 1) ((false :: List.replicate (i + 1) true).map Value.bool)) := by
          have e : (false :: List.replicate (i + 1) true).map Value.bool = Value.bool false :: (List.replicate i (Value.bool true) ++ [Value.bool true]) := by simp [List.replicate_succ']
          have h := ho
          rw [← e] at h
          exact (show Hid _ from h)
        have HB6 : Hid (Below w5.heap.size w5 w6) := (HBW.out.alloc (Nat.le_trans (Nat.le_refl _) HBW.out.size) (.cells #[.bool true] 4)).grown hg (by simp; have := HBW.out.size; omega) (fun k e => by
          rcases HOW.out.2 with ⟨e', _⟩ | ⟨gx, cx, cur, e', hx, _⟩
          · rw [e'] at e; cases e
          · rw [e'] at e; cases e; exact hx)
        clear ho hg HOW HBW
        go_wp2_with fail
        go_roundw
        case rel => exact ⟨i + 1, some ⟨g6, 0, none⟩, c6, rfl, by go_num, by omega, HO6.out, HB6.out⟩
        case measure => simp [intOf]; omega
      · obtain rfl : i = 10 := by omega
        obtain ⟨hbo, hbb, hbm⟩ := own_bools (l := false :: List.replicate 10 true) (by simp) (by omega) HOW.out
        have hW6 := HW5.out.below HBW.out
        have hon := ws_onK (kc := ck) (tear := -1) hW6 hbo (fun ad e _ hf => by have := HW5.out.wl.lt.2 _ hf; have := hbb ad e; omega) hbm
        rw [HG5.out] at hon
        have hF := LW.lost (s := s10 0 38) (st0 := st3) (st := st5) (keep := false :: List.replicate 10 true) (T := ka + kb) (la := fun i => if i < ka then decide (i + 1 = ka) else decide (i - ka + 1 = kb)) (tx := fun i => if i < ka then chunkL la i else chunkL lb (i - ka)) HF3.out.l HQ5.out.1 HQ5.out.2
          (by show ka + kb ≤ 38 - (0 - 0); omega) (fun i => by show (if i < ka then chunkL la i else chunkL lb (i - ka)).length ≤ 480; split <;> (unfold chunkL; rw [List.length_take]; omega)) rfl (by show 1 + 1 < _; omega) (by show 1 < _; omega) (by show 0 + 100000 < _; omega)
        have hon5 : (st5.on (false :: List.replicate 10 true) (-1)).steps = st5.steps := rfl
        have hon6 : (st5.on (false :: List.replicate 10 true) (-1)).waits = [] := rfl
        generalize st5.on (false :: List.replicate 10 true) (-1) = st6 at *
        have HON : Hid (Calls _ _ _ _ _) := hon
        have HF6 : Hid (Finds 0 38 st6 ⟨1, 1, 0, 1⟩ [] 0 1) := hF
        clear hbo hbb hbm hW6 hon hF HW5 HBW HOW HQ5 HF3
        go_wp2_with fail
        refine Calls.mono HON.out ?_
        rintro e w6 ⟨rfl, hN6⟩
        have HOP : Hid (Calls Try.prog 16 #[dptr gd, .int .i64 0, .int .i64 40] w6 _) := ws_open (from_ := 0) (room := 38) hN6 HF6.out (by omega) (by rw [hon6]; show (0 : Nat) < _; omega)
        obtain ⟨lf7, hL7⟩ := HF6.out.well
        have hst7 : (opD 0 ⟨1, 1, 0, 1⟩ 0 st6).steps = st6.steps + 2 := rfl
        have hwt7 : (opD 0 ⟨1, 1, 0, 1⟩ 0 st6).waits.length = 0 := rfl
        generalize opD 0 ⟨1, 1, 0, 1⟩ 0 st6 = st7 at *
        have HL7 : Hid (LW ⟨0, 38, 2, 2, 0, 2, 0, 0⟩ st7 [] lf7) := hL7
        clear hN6 HON HF6 hL7
        unfold dptr at HOP
        go_wp2_with fail
        refine Calls.mono HOP.out ?_
        rintro e w7 ⟨g2, f7, rfl, -, hW7, hT7⟩
        have HW7 : Hid (WS w w.heap.size w7 g2 f7 ⟨0, 38, 2, 2, 0, 2, 0, 0⟩ st7) := hW7
        have HG7 : Hid (f7.g = gd) := hT7.g.trans HG5.out
        have HNX0 : Hid (Calls Try.prog 25 #[lptr g2] w7 fun e w' => e = .returned (.int .u64 0) ∧ w' = w7) := next_any hW7.wl.l
        have hnc : lc.length = l2 := HSC.out.2
        have hkc := needN_1000 hl2
        have hkc0 := needN_pos l2
        have hap := ws_append (n1 := w7.heap.size) HW7.out HL7.out (HSC.out.1.below hW7.bel) ⟨hW7.wl.lt.2, hW7.wl.lt.1⟩ (fun ad e h0 => .inl (HSC.out.1.low e h0)) (by omega) (by rw [hnc]; show needN l2 ≤ 38 - (0 - 0); omega) (by show (0 : Nat) < _; omega) (by show (2 : Nat) ≤ _; omega) (by omega) (by omega)
        have hL8 := (HL7.out.append lc (by rw [hnc]; show needN l2 ≤ 38 - (0 - 0); omega) (by show (0 : Nat) + 100000 < _; omega) (by show (2 : Nat) ≤ _; omega)).2
        obtain ⟨-, q2, q3⟩ := apTo_len ⟨0, 38, 2, 2, 0, 2, 0, 0⟩ lc (needN lc.length) st7 (needN lc.length)
        rw [hnc] at hap hL8 q2 q3
        generalize (apTo ⟨0, 38, 2, 2, 0, 2, 0, 0⟩ lc (needN l2) st7 (needN l2)).2 = st8 at *
        generalize hkce : needN l2 = kc at *
        have HAP3 : Hid (Calls _ _ _ _ _) := hap
        have HL8 : Hid (LW ⟨0, 38, 2, 2, 0, 2, kc, 0⟩ st8 [(0, lc)] 2) := by
          have h : LW ⟨0, 38, 2, 2, 0, 2, 0 + kc, 0⟩ st8 [(0, lc)] 2 := hL8
          rw [show (0 : Nat) + kc = kc by omega] at h
          exact h
        clear hW7 hT7 HOP hap hL8 hnc hkce HL7
        unfold lptr at *
        go_wp2_with fail
        refine Calls.mono HNX0.out ?_
        rintro e w' ⟨rfl, hw⟩; rw [hw]; clear hw w'
        go_wp2_with fail
        refine Calls.mono HAP3.out ?_
        rintro e w8 ⟨f8, rfl, hW8, hg8⟩
        have HW8 : Hid (WS w w.heap.size w8 g2 f8 ⟨0, 38, 2, 2, 0, 2, kc, 0⟩ st8) := by
          have h : WS w w.heap.size w8 g2 f8 ⟨0, 38, 2, 2, 0, 2, 0 + kc, 0⟩ st8 := hW8
          rw [show (0 : Nat) + kc = kc by omega] at h
          exact h
        have HG8 : Hid (f8.g = gd) := hg8.trans HG7.out
        clear hW8 hg8 HAP3 HNX0 HW7 HG7
        cases force with
        | false =>
          have HNX : Hid (Calls Try.prog 25 #[lptr g2] w8 fun e w' => e = .returned (.int .u64 ((kc : Nat) : Int)) ∧ w' = w8) := next_any HW8.out.wl.l
          have HCU : Hid (Calls _ _ _ _ _) := ws_cut_end HW8.out HL8.out (by show kc ≠ 0; omega) (by show 2 + 1 < _; omega) (by show (2 : Nat) ≤ _; omega) (by show kc ≤ _; omega) (by omega) (by omega)
          unfold lptr at HNX HCU
          go_wp2_with fail
          refine Calls.mono HNX.out ?_
          rintro e w' ⟨rfl, hw⟩; rw [hw]; clear hw w'
          go_wp2_with fail
          refine Calls.mono HCU.out ?_
          rintro e w9 ⟨f9, st9, rfl, hW9, hg9, hL9, hst9, hwt9, hsf9⟩
          have HS9 : Hid (BhS w w9 g2 gd f9 kc ⟨0, 38, 3, 2, kc, 2, kc, kc⟩ st9 2 0) := ⟨hW9, hg9.trans HG8.out, hL9, rfl, rfl, rfl, rfl, Nat.le_refl _, Nat.le_refl _, by omega, hwt9, hsf9⟩
          clear hW9 hg9 hL9 hst9 hwt9 hsf9 HNX HCU HW8 HL8 HG8
          go_wp2_with fail
          go_loopw [12, 23] (fun vl v wr => ∃ (i g : Nat) (f : Foot) (s : LSt) (st : DSt) (lf : Nat), vl = .pointer (some ⟨g, 0, none⟩) ∧ v = .int .i64 (i : Int) ∧ i ≤ m + 1 ∧ BhS w wr g gd f kc s st lf i) (fun _ v _ => m + 1 - (intOf v).toNat)
          case atStart => exact ⟨0, g2, f9, _, st9, 2, rfl, rfl, Nat.zero_le _, HS9.out⟩
          case round =>
            clear HS9
            obtain ⟨i, g, f, ⟨sf, sr, sw, sl, sfi, sle, sn, ss⟩, st, lf, rfl, rfl, hi, hS⟩ := hrel
            obtain rfl : sf = 0 := hS.fr
            obtain rfl : sr = 38 := hS.rm
            obtain rfl : sn = kc := hS.nx
            obtain rfl : sfi = sn := hS.fi
            have hwri : sw ≤ i + 3 := hS.wri
            have hlif : sl ≤ i + 2 := hS.lif
            have hstp := hS.stp
            by_cases hlt : i < m + 1
            · have hon := ws_on hS.ws
              rw [hS.fg] at hon
              have hF := hS.lw.finds (st' := ⟨st.safe, st.safe, [], 0, false, st.steps⟩) ⟨rfl, rfl⟩ hS.sf (by show sw + 1 < _; omega) (by show sl < _; omega)
              have HFG : Hid (f.g = gd) := hS.fg
              have HON : Hid (Calls _ _ _ _ _) := hon
              have HF : Hid (Finds 0 38 ⟨st.safe, st.safe, [], 0, false, st.steps⟩ ⟨sw, sl, sfi, sle⟩ [] sfi lf) := hF
              clear hon hF hS
              unfold dptr at HON
              go_wp2_with fail
              refine Calls.mono HON.out ?_
              rintro e w4 ⟨rfl, hN4⟩
              have HOP : Hid (Calls Try.prog 16 #[dptr gd, .int .i64 0, .int .i64 40] w4 _) := ws_open (from_ := 0) (room := 38) hN4 HF.out (by show st.steps < _; omega) (by show (0 : Nat) < _; omega)
              obtain ⟨lf5, hL5⟩ := HF.out.well
              have HL5 : Hid (LW (opS 0 38 ⟨sw, sl, sfi, sle⟩ sfi) (opD 0 ⟨sw, sl, sfi, sle⟩ sfi ⟨st.safe, st.safe, [], 0, false, st.steps⟩) [] lf5) := hL5
              clear hN4 HON HF hL5
              unfold dptr at HOP
              go_wp2_with fail
              refine Calls.mono HOP.out ?_
              rintro e w5 ⟨g5, f5, rfl, -, hW5, hT5⟩
              have HW5 : Hid (WS w w.heap.size w5 g5 f5 (opS 0 38 ⟨sw, sl, sfi, sle⟩ sfi) (opD 0 ⟨sw, sl, sfi, sle⟩ sfi ⟨st.safe, st.safe, [], 0, false, st.steps⟩)) := hW5
              have HG5 : Hid (f5.g = gd) := hT5.g.trans HFG.out
              have HM1 : Hid (Calls Try.prog 24 #[lptr g5] w5 fun e w' => e = .returned (.int .u64 (sfi : Int)) ∧ w' = w5) := start_any hW5.wl.l
              have HM2 : Hid (Calls Try.prog 25 #[lptr g5] w5 fun e w' => e = .returned (.int .u64 (sfi : Int)) ∧ w' = w5) := next_any hW5.wl.l
              have HFD : Hid (Calls _ _ _ _ _) := ws_found hW5 HL5.out (by show sfi < _; omega) (by show sl + 1 ≤ _; omega)
              clear hW5 hT5 HOP
              unfold lptr at *
              go_wp2_with fail
              refine Calls.mono HM1.out ?_
              rintro e w' ⟨rfl, hw⟩; rw [hw]; clear hw w'
              go_wp2_with fail
              refine Calls.mono HM2.out ?_
              rintro e w' ⟨rfl, hw⟩; rw [hw]; clear hw w'
              go_wp2_with fail
              refine Calls.mono HFD.out ?_
              rintro e w6 ⟨vo, va, rfl, ho, -, hb6⟩
              obtain ⟨ao, co0, rfl⟩ := ownsRow_form ho
              have HS6 : Hid (BhS w w6 g5 gd f5 sfi (opS 0 38 ⟨sw, sl, sfi, sle⟩ sfi) (opD 0 ⟨sw, sl, sfi, sle⟩ sfi ⟨st.safe, st.safe, [], 0, false, st.steps⟩) lf5 (i + 1)) := ⟨HW5.out.below hb6, HG5.out, HL5.out, rfl, rfl, rfl, rfl, by show sw + 1 ≤ _; omega, by show sl + 1 ≤ _; omega, by show st.steps + 2 ≤ _; omega, rfl, rfl⟩
              clear ho hb6 HW5 HG5 HL5 HM1 HM2 HFD
              go_wp2_with fail
              go_roundw
              case rel => exact ⟨i + 1, g5, f5, _, _, lf5, rfl, by go_num, by omega, HS6.out⟩
              case measure => simp [intOf]; omega
            · have HB : Hid (Below w.heap.size w wr) := hS.ws.bel
              clear hS
              go_wp2_with fail
              go_ret
              exact ⟨rfl, HB.out⟩
        | true =>
          have hfo := ws_force HW8.out HL8.out (by omega)
          obtain ⟨-, h2, h3, -, -, h6⟩ := HL8.out.force
          have h7 := (forceS_facts ⟨0, 38, 2, 2, 0, 2, kc, 0⟩ st8).2.2.2
          rw [h2] at h3
          generalize (forceS ⟨0, 38, 2, 2, 0, 2, kc, 0⟩ st8).2.2 = stq at *
          have HFO : Hid (Calls _ _ _ _ _) := hfo
          have HLQ : Hid (LW ⟨0, 38, 2, 2, 0, 2, kc, kc⟩ stq [(0, lc)] 2) := h3
          clear hfo h2 h3
          unfold lptr at HFO
          go_wp2_with fail
          refine Calls.mono HFO.out ?_
          rintro e wq ⟨fq, rfl, hWq, hgq⟩
          have HWQ : Hid (WS w w.heap.size wq g2 fq ⟨0, 38, 2, 2, 0, 2, kc, kc⟩ stq) := hWq
          have HGQ : Hid (fq.g = gd) := hgq.trans HG8.out
          clear hWq hgq HFO HW8 HG8 HL8
          have HNX : Hid (Calls Try.prog 25 #[lptr g2] wq fun e w' => e = .returned (.int .u64 ((kc : Nat) : Int)) ∧ w' = wq) := next_any HWQ.out.wl.l
          have HCU : Hid (Calls _ _ _ _ _) := ws_cut_end HWQ.out HLQ.out (by show kc ≠ 0; omega) (by show 2 + 1 < _; omega) (by show (2 : Nat) ≤ _; omega) (by show kc ≤ _; omega) (by omega) (by omega)
          unfold lptr at HNX HCU
          go_wp2_with fail
          refine Calls.mono HNX.out ?_
          rintro e w' ⟨rfl, hw⟩; rw [hw]; clear hw w'
          go_wp2_with fail
          refine Calls.mono HCU.out ?_
          rintro e w9 ⟨f9, st9, rfl, hW9, hg9, hL9, hst9, hwt9, hsf9⟩
          have HS9 : Hid (BhS w w9 g2 gd f9 kc ⟨0, 38, 3, 2, kc, 2, kc, kc⟩ st9 2 0) := ⟨hW9, hg9.trans HGQ.out, hL9, rfl, rfl, rfl, rfl, Nat.le_refl _, Nat.le_refl _, by omega, hwt9, hsf9⟩
          clear hW9 hg9 hL9 hst9 hwt9 hsf9 HNX HCU HWQ HLQ HGQ
          go_wp2_with fail
          go_loopw [12, 23] (fun vl v wr => ∃ (i g : Nat) (f : Foot) (s : LSt) (st : DSt) (lf : Nat), vl = .pointer (some ⟨g, 0, none⟩) ∧ v = .int .i64 (i : Int) ∧ i ≤ m + 1 ∧ BhS w wr g gd f kc s st lf i) (fun _ v _ => m + 1 - (intOf v).toNat)
          case atStart => exact ⟨0, g2, f9, _, st9, 2, rfl, rfl, Nat.zero_le _, HS9.out⟩
          case round =>
            clear HS9
            obtain ⟨i, g, f, ⟨sf, sr, sw, sl, sfi, sle, sn, ss⟩, st, lf, rfl, rfl, hi, hS⟩ := hrel
            obtain rfl : sf = 0 := hS.fr
            obtain rfl : sr = 38 := hS.rm
            obtain rfl : sn = kc := hS.nx
            obtain rfl : sfi = sn := hS.fi
            have hwri : sw ≤ i + 3 := hS.wri
            have hlif : sl ≤ i + 2 := hS.lif
            have hstp := hS.stp
            by_cases hlt : i < m + 1
            · have hon := ws_on hS.ws
              rw [hS.fg] at hon
              have hF := hS.lw.finds (st' := ⟨st.safe, st.safe, [], 0, false, st.steps⟩) ⟨rfl, rfl⟩ hS.sf (by show sw + 1 < _; omega) (by show sl < _; omega)
              have HFG : Hid (f.g = gd) := hS.fg
              have HON : Hid (Calls _ _ _ _ _) := hon
              have HF : Hid (Finds 0 38 ⟨st.safe, st.safe, [], 0, false, st.steps⟩ ⟨sw, sl, sfi, sle⟩ [] sfi lf) := hF
              clear hon hF hS
              unfold dptr at HON
              go_wp2_with fail
              refine Calls.mono HON.out ?_
              rintro e w4 ⟨rfl, hN4⟩
              have HOP : Hid (Calls Try.prog 16 #[dptr gd, .int .i64 0, .int .i64 40] w4 _) := ws_open (from_ := 0) (room := 38) hN4 HF.out (by show st.steps < _; omega) (by show (0 : Nat) < _; omega)
              obtain ⟨lf5, hL5⟩ := HF.out.well
              have HL5 : Hid (LW (opS 0 38 ⟨sw, sl, sfi, sle⟩ sfi) (opD 0 ⟨sw, sl, sfi, sle⟩ sfi ⟨st.safe, st.safe, [], 0, false, st.steps⟩) [] lf5) := hL5
              clear hN4 HON HF hL5
              unfold dptr at HOP
              go_wp2_with fail
              refine Calls.mono HOP.out ?_
              rintro e w5 ⟨g5, f5, rfl, -, hW5, hT5⟩
              have HW5 : Hid (WS w w.heap.size w5 g5 f5 (opS 0 38 ⟨sw, sl, sfi, sle⟩ sfi) (opD 0 ⟨sw, sl, sfi, sle⟩ sfi ⟨st.safe, st.safe, [], 0, false, st.steps⟩)) := hW5
              have HG5 : Hid (f5.g = gd) := hT5.g.trans HFG.out
              have HM1 : Hid (Calls Try.prog 24 #[lptr g5] w5 fun e w' => e = .returned (.int .u64 (sfi : Int)) ∧ w' = w5) := start_any hW5.wl.l
              have HM2 : Hid (Calls Try.prog 25 #[lptr g5] w5 fun e w' => e = .returned (.int .u64 (sfi : Int)) ∧ w' = w5) := next_any hW5.wl.l
              have HFD : Hid (Calls _ _ _ _ _) := ws_found hW5 HL5.out (by show sfi < _; omega) (by show sl + 1 ≤ _; omega)
              clear hW5 hT5 HOP
              unfold lptr at *
              go_wp2_with fail
              refine Calls.mono HM1.out ?_
              rintro e w' ⟨rfl, hw⟩; rw [hw]; clear hw w'
              go_wp2_with fail
              refine Calls.mono HM2.out ?_
              rintro e w' ⟨rfl, hw⟩; rw [hw]; clear hw w'
              go_wp2_with fail
              refine Calls.mono HFD.out ?_
              rintro e w6 ⟨vo, va, rfl, ho, -, hb6⟩
              obtain ⟨ao, co0, rfl⟩ := ownsRow_form ho
              have HS6 : Hid (BhS w w6 g5 gd f5 sfi (opS 0 38 ⟨sw, sl, sfi, sle⟩ sfi) (opD 0 ⟨sw, sl, sfi, sle⟩ sfi ⟨st.safe, st.safe, [], 0, false, st.steps⟩) lf5 (i + 1)) := ⟨HW5.out.below hb6, HG5.out, HL5.out, rfl, rfl, rfl, rfl, by show sw + 1 ≤ _; omega, by show sl + 1 ≤ _; omega, by show st.steps + 2 ≤ _; omega, rfl, rfl⟩
              clear ho hb6 HW5 HG5 HL5 HM1 HM2 HFD
              go_wp2_with fail
              go_roundw
              case rel => exact ⟨i + 1, g5, f5, _, _, lf5, rfl, by go_num, by omega, HS6.out⟩
              case measure => simp [intOf]; omega
            · have HB : Hid (Below w.heap.size w wr) := hS.ws.bel
              clear hS
              go_wp2_with fail
              go_ret
              exact ⟨rfl, HB.out⟩
end Go.Proofs.Ytepfckckplbjjaa
