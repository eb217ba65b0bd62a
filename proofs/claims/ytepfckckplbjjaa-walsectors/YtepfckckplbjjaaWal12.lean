/- The log: opened. Own lemmas, no statement. -/
import Derived.Test.YtepfckckplbjjaaWal11
namespace Go.Proofs.Ytepfckckplbjjaa
open Go.ChangeShapes Go.WideShapes Go.ChangeAt Go.RowKit

/-- A log that nothing is known of yet. -/
def s00 (from_ room : Nat) : LSt := ⟨from_, room, 0, 0, 0, 0, 0, 0⟩
/-- What the opening comes to ahead of the master's writing: the log, and the master. -/
def openL (from_ room : Nat) (st : DSt) : Except Nat (LSt × Mst) := match latTo (s00 from_ room) st 2 with
  | .error c => .error c
  | .ok m =>
    if 1099511627776 ≤ max (max m.life m.least) (endAt (s00 from_ room) st m.first m.least).2 then .error 3
    else .ok (⟨from_, room, m.writing, m.life, m.first, m.least, (endAt (s00 from_ room) st m.first m.least).1, 0⟩,
      reb ⟨from_, room, m.writing, m.life, m.first, m.least, (endAt (s00 from_ room) st m.first m.least).1, 0⟩ (max (max m.life m.least) (endAt (s00 from_ room) st m.first m.least).2 + 1))
/-- What Open answers. -/
def OpenP (w : World) (f : Foot) (st : DSt) (r : Except Nat (LSt × Mst)) (e : Ending) (w' : World) : Prop := match r with
  | .error c => e = .returned (.tuple #[.pointer none, .int .i64 (c : Int)]) ∧ Below w.heap.size w w'
  | .ok (s, m) => ∃ g f', e = .returned (.tuple #[lptr g, .int .i64 ((leadS s st m).1 : Int)]) ∧ w.heap.size ≤ g ∧ WL w' g f' (leadS s st m).2.1 (leadS s st m).2.2 ∧ Turned f w f' w'

theorem got_err {st : DSt} {i c : Nat} (h : st.got i = .error c) : c = 1 ∨ c = 8 ∨ c = 9 := by
  unfold DSt.got at h
  split at h
  · cases h; exact .inl rfl
  · split at h
    · cases h; exact .inr (.inl rfl)
    · split at h
      · cases h; exact .inr (.inr rfl)
      · cases h
theorem latStep_err {s : LSt} {st : DSt} {k c : Nat} {cur : Mst} (h : latStep s st k cur = .error c) : c = 1 ∨ c = 8 := by
  unfold latStep at h
  split at h
  · rename_i d hd
    split at h
    · cases h
    · cases h
      rcases got_err hd with e | e | e
      · exact .inl e
      · exact .inr e
      · exact absurd e (by assumption)
  · split at h
    · cases h
    · split at h <;> cases h
theorem latTo_err {s : LSt} {st : DSt} : ∀ {k c : Nat}, latTo s st k = .error c → c = 1 ∨ c = 8
  | 0, c, h => by cases h
  | k + 1, c, h => by
    have e : latTo s st (k + 1) = match latTo s st k with | .error c => .error c | .ok m => latStep s st k m := rfl
    rw [e] at h
    cases hk : latTo s st k with
    | error d => rw [hk] at h; cases h; exact latTo_err hk
    | ok m => rw [hk] at h; exact latStep_err h
theorem latTo_wf {s : LSt} {st : DSt} : ∀ {k : Nat} {m : Mst}, latTo s st k = .ok m → m.wf
  | 0, m, h => by cases h; unfold Mst.wf m0; decide
  | k + 1, m, h => by
    have e : latTo s st (k + 1) = match latTo s st k with | .error c => .error c | .ok m => latStep s st k m := rfl
    rw [e] at h
    cases hk : latTo s st k with
    | error d => rw [hk] at h; cases h
    | ok m' => rw [hk] at h; exact latStep_wf h (latTo_wf hk)

theorem reb_bounds {from_ room nx L : Nat} {m : Mst} (h1 : m.writing + 1 < 18446744073709551616) (h : m.wf) (hL : L < 1099511627776) :
    (reb ⟨from_, room, m.writing, m.life, m.first, m.least, nx, 0⟩ (L + 1)).writing + 1 < 18446744073709551616 ∧ (reb ⟨from_, room, m.writing, m.life, m.first, m.least, nx, 0⟩ (L + 1)).life < 18446744073709551616 ∧ (reb ⟨from_, room, m.writing, m.life, m.first, m.least, nx, 0⟩ (L + 1)).first < 18446744073709551616 ∧ (reb ⟨from_, room, m.writing, m.life, m.first, m.least, nx, 0⟩ (L + 1)).least < 18446744073709551616 := by
  obtain ⟨k1, k2, k3, k4⟩ := h
  unfold reb
  refine ⟨h1, by show L + 1 < _; omega, by show m.first < _; omega, ?_⟩
  show (if nx = m.first then L + 1 else m.least) < _
  split <;> omega

theorem open_arg {w : World} {f : Foot} {st : DSt} (h : DiskAt w f st) (i n : Int) (hb : n ≤ 2 ∨ i < 0 ∨ (st.now.length : Int) - n < i) (hn : n < 9223372036854775808) :
    Calls Try.prog 16 #[dptr f.g, .int .i64 i, .int .i64 n] w fun e w' => e = .returned (.tuple #[.pointer none, .int .i64 1]) ∧ w' = w := by
  have hlen := h.len
  have H1 : Hid (Calls _ _ _ _ _) := len_any f st w h
  clear h
  unfold dptr at *
  by_cases h1 : n ≤ 2
  · go_enter Try.func16, Try.ntmps16
    go_wp2_with fail
    go_ret2
    exact ⟨rfl, rfl⟩
  · by_cases h2 : i < 0
    · go_enter Try.func16, Try.ntmps16
      go_wp2_with fail
      go_ret2
      exact ⟨rfl, rfl⟩
    · have h3 : (st.now.length : Int) - n < i := by omega
      go_enter Try.func16, Try.ntmps16
      go_wp2_with fail
      refine Calls.mono H1.out ?_
      rintro e w' ⟨rfl, hw⟩; rw [hw]; clear hw w'
      go_wp2_with fail
      go_ret2
      exact ⟨rfl, rfl⟩

set_option maxRecDepth 10000 in
set_option maxHeartbeats 4000000 in
theorem open_any {w : World} {f : Foot} {st : DSt} (h : DiskAt w f st) (from_ room : Nat) (hr : 0 < room) (hfit : from_ + 2 + room ≤ st.now.length) (hst : st.steps < 4611686018427387000) (hwl : st.waits.length < 1099511627000)
    (hm : Hid (∀ m, latTo (s00 from_ room) st 2 = .ok m → m.writing + 1 < 18446744073709551616)) :
    Calls Try.prog 16 #[dptr f.g, .int .i64 (from_ : Int), .int .i64 (room + 2 : Int)] w (OpenP w f st (openL from_ room st)) := by
  have hlen := h.len
  have H1 : Hid (Calls _ _ _ _ _) := len_any f st w h
  have hb1 : Below w.heap.size w (w.alloc (.cells (lC f.g (s00 from_ room)) 74)) := (Below.refl _ _).alloc (Nat.le_refl _) _
  have HW1 : Hid (WL (w.alloc (.cells (lC f.g (s00 from_ room)) 74)) w.heap.size f (s00 from_ room) st) := ⟨Blk.new _ _ _, h.below hb1, fun e => by have := h.hasLt _ e; omega, hr, hfit⟩
  have H2 : Hid (Calls _ _ _ _ _) := latest_any HW1.out
  have HB1 : Hid (Below w.heap.size w (w.alloc (.cells (lC f.g (s00 from_ room)) 74))) := hb1
  have HLT : Hid (∀ i, f.has i → i < w.heap.size) := h.hasLt
  have HST : Hid (st.steps < 4611686018427387000 ∧ st.waits.length < 1099511627000) := ⟨hst, hwl⟩
  clear hb1 h hst hwl
  unfold dptr lptr at *
  have HOP : Hid (openL from_ room st = match latTo (s00 from_ room) st 2 with
    | .error c => .error c
    | .ok m =>
      if 1099511627776 ≤ max (max m.life m.least) (endAt (s00 from_ room) st m.first m.least).2 then .error 3
      else .ok (⟨from_, room, m.writing, m.life, m.first, m.least, (endAt (s00 from_ room) st m.first m.least).1, 0⟩,
        reb ⟨from_, room, m.writing, m.life, m.first, m.least, (endAt (s00 from_ room) st m.first m.least).1, 0⟩ (max (max m.life m.least) (endAt (s00 from_ room) st m.first m.least).2 + 1))) := rfl
  go_enter Try.func16, Try.ntmps16
  go_wp2_with fail
  refine Calls.mono H1.out ?_
  rintro e w' ⟨rfl, hw⟩; rw [hw]; clear hw w'
  go_wp2_with fail
  refine Calls.mono H2.out ?_
  rintro e w2 ⟨hb2, hres⟩
  have HW2 : Hid (WL w2 w.heap.size f (s00 from_ room) st) := HW1.out.below hb2
  have HB2 : Hid (Below w.heap.size w w2) := HB1.out.trans (hb2.mono HB1.out.size)
  clear hb2
  cases hlat : latTo (s00 from_ room) st 2 with
  | error c =>
    rw [hlat] at hres
    simp only at hres
    subst hres
    have hc := latTo_err hlat
    have hne : ((c : Int) != 0) = true := by simp; omega
    have HO : Hid (openL from_ room st = .error c) := by have := HOP.out; rw [hlat] at this; exact this
    have HB3 : Hid (Below w.heap.size w (w2.alloc (.cells mZ 72))) := HB2.out.alloc HB2.out.size _
    clear hlat HOP hc
    unfold mZ at *
    go_wp2_with fail
    go_ret2
    rw [HO.out]
    exact ⟨rfl, HB3.out⟩
  | ok m =>
    rw [hlat] at hres
    simp only at hres
    subst hres
    have hwf := latTo_wf hlat
    have hm1 := hm.out m hlat
    have hbA : Below w2.heap.size w2 (w2.alloc (.cells m.cs 72)) := (Below.refl _ _).alloc (Nat.le_refl _) _
    have HW3 : Hid (WL (w2.alloc (.cells m.cs 72)) w.heap.size f (s00 from_ room) st) := HW2.out.below hbA
    have HB3 : Hid (Below w.heap.size w (w2.alloc (.cells m.cs 72))) := HB2.out.trans (hbA.mono HB2.out.size)
    have HM3 : Hid (Blk (w2.alloc (.cells m.cs 72)) w2.heap.size m.cs 72) := Blk.new _ _ _
    have H3 : Hid (Calls _ _ _ _ _) := end_any HW3.out m.writing m.life m.first m.least (by have := hwf.2.2.1; omega) hwf.2.2.2
    have HO : Hid (openL from_ room st = _) := HOP.out
    rw [hlat] at HO
    simp only at HO
    obtain ⟨nx, hnx⟩ : ∃ nx, (endAt (s00 from_ room) st m.first m.least).1 = nx := ⟨_, rfl⟩
    obtain ⟨lf, hlf⟩ : ∃ lf, (endAt (s00 from_ room) st m.first m.least).2 = lf := ⟨_, rfl⟩
    rw [hnx, hlf] at HO H3
    obtain ⟨L, hL⟩ : ∃ L, max (max m.life m.least) lf = L := ⟨_, rfl⟩
    rw [hL] at HO
    have hLi : max (max (m.life : Int) (m.least : Int)) (lf : Int) = (L : Int) := by omega
    have HLT2 : Hid (w.heap.size < w2.heap.size) := HW2.out.lt.1
    clear hlat HOP hbA H1 H2 HW1 HB1 hnx hlf hL
    unfold Mst.cs mV at *
    unfold lptr at H3
    go_wp2_with fail
    refine Calls.mono H3.out ?_
    rintro e w4 ⟨rfl, hb4⟩
    have HW4 : Hid (WL w4 w.heap.size f (s00 from_ room) st) := HW3.out.below hb4
    have HB4 : Hid (Below w.heap.size w w4) := HB3.out.trans (hb4.mono HB3.out.size)
    have HM4 : Hid (Blk w4 w2.heap.size _ 72) := HM3.out.of (hb4.block _ HM3.out.lt)
    clear hb4 H3 HW3 HB3 HM3 HW2 HB2
    have y0 : w4.cell? ⟨w2.heap.size, 0, none⟩ = some (.int .u64 (m.writing : Int)) := HM4.out.cell 0
    have y1 : w4.cell? ⟨w2.heap.size, 1, none⟩ = some (.int .u64 (m.life : Int)) := HM4.out.cell 1
    have y2 : w4.cell? ⟨w2.heap.size, 2, none⟩ = some (.int .u64 (m.first : Int)) := HM4.out.cell 2
    have y3 : w4.cell? ⟨w2.heap.size, 3, none⟩ = some (.int .u64 (m.least : Int)) := HM4.out.cell 3
    by_cases hbig : 1099511627776 ≤ L
    · rw [if_pos hbig] at HO
      go_wp2_with fail
      all_goals
        go_ret2
        rw [HO.out]
        exact ⟨rfl, HB4.out⟩
    · rw [if_neg hbig] at HO
      have hlog : Blk w4 w.heap.size (lC f.g (s00 from_ room)) 74 := HW4.out.l
      have c3 : w4.cell? ⟨w.heap.size, 3, none⟩ = some (.int .u64 0) := hlog.cell 3
      have c4 : w4.cell? ⟨w.heap.size, 4, none⟩ = some (.int .u64 0) := hlog.cell 4
      have c5 : w4.cell? ⟨w.heap.size, 5, none⟩ = some (.int .u64 0) := hlog.cell 5
      have c6 : w4.cell? ⟨w.heap.size, 6, none⟩ = some (.int .u64 0) := hlog.cell 6
      have c7 : w4.cell? ⟨w.heap.size, 7, none⟩ = some (.int .u64 0) := hlog.cell 7
      have f3 := hlog.frozen 3
      have f4 := hlog.frozen 4
      have f5 := hlog.frozen 5
      have f6 := hlog.frozen 6
      have f7 := hlog.frozen 7
      have hch : Chg (fun k => k = w.heap.size) w4 (((((w4.setCell ⟨w.heap.size, 3, none⟩ (.int .u64 (m.writing : Int))).setCell ⟨w.heap.size, 4, none⟩ (.int .u64 (m.life : Int))).setCell ⟨w.heap.size, 5, none⟩ (.int .u64 (m.first : Int))).setCell ⟨w.heap.size, 6, none⟩ (.int .u64 (m.least : Int))).setCell ⟨w.heap.size, 7, none⟩ (.int .u64 (nx : Int))) :=
        chgG (chgG (chgG (chgG (chgG (Chg.refl (fun k => k = w.heap.size) w4) _ _) _ _) _ _) _ _) _ _
      have hL5 := ((((hlog.set 3 (.int .u64 (m.writing : Int))).set 4 (.int .u64 (m.life : Int))).set 5 (.int .u64 (m.first : Int))).set 6 (.int .u64 (m.least : Int))).set 7 (.int .u64 (nx : Int))
      have hW5 : WL (((((w4.setCell ⟨w.heap.size, 3, none⟩ (.int .u64 (m.writing : Int))).setCell ⟨w.heap.size, 4, none⟩ (.int .u64 (m.life : Int))).setCell ⟨w.heap.size, 5, none⟩ (.int .u64 (m.first : Int))).setCell ⟨w.heap.size, 6, none⟩ (.int .u64 (m.least : Int))).setCell ⟨w.heap.size, 7, none⟩ (.int .u64 (nx : Int))) w.heap.size f ⟨from_, room, m.writing, m.life, m.first, m.least, nx, 0⟩ st :=
        ⟨hL5, HW4.out.d.keep hch (fun i hi e => by subst e; exact HW4.out.ap hi), HW4.out.ap, hr, hfit⟩
      have HW5 : Hid (WL _ w.heap.size f ⟨from_, room, m.writing, m.life, m.first, m.least, nx, 0⟩ st) := hW5
      have HB5 : Hid (Below w.heap.size w _) := HB4.out.trans (hch.below HB4.out.size (fun k e => by rw [e]; exact Nat.le_refl _))
      have H5 : Hid (Calls _ _ _ _ _) := reborn_any HW5.out.l (L + 1)
      clear hlog hch hL5 hW5 HW4 HB4
      unfold lptr at H5
      go_wp2_with fail
      all_goals
        first
        | rw [show (lf : Int) + 1 = (L : Int) + 1 by omega]
        | rw [show (m.least : Int) + 1 = (L : Int) + 1 by omega]
        | rw [show (m.life : Int) + 1 = (L : Int) + 1 by omega]
        refine Calls.mono H5.out ?_
        rintro e w6 ⟨rfl, hb6⟩
        have hW6 := HW5.out.below hb6
        have HB6 : Hid (Below w.heap.size w w6) := HB5.out.trans (hb6.mono HB5.out.size)
        have H6 : Hid (Calls _ _ _ _ _) := lead_any hW6 (reb ⟨from_, room, m.writing, m.life, m.first, m.least, nx, 0⟩ (L + 1)) (reb_bounds hm1 hwf (by omega)) HST.out.1 HST.out.2
        clear hW6 hb6
        unfold lptr at H6
        go_wp2_with fail
        refine Calls.mono H6.out ?_
        rintro e w7 ⟨rfl, f7, hW7, hT7⟩
        have HW7 : Hid (WL w7 w.heap.size f7 _ _) := hW7
        have HT7 : Hid (Turned f w f7 w7) := ⟨hT7.same, fun k hk => by
          rcases hT7.new k hk with h' | h'
          · exact .inl h'
          · exact .inr (Nat.le_trans HB6.out.size h'), (Chg.of_below HB6.out (fun i hi e => by omega)).trans hT7.chg (fun i hi e => by
          rcases e with e | e
          · omega
          · exact e)⟩
        clear hW7 hT7
        go_wp2_with fail
        go_ret2
        rw [HO.out]
        exact ⟨w.heap.size, f7, rfl, Nat.le_refl _, HW7.out, HT7.out⟩
end Go.Proofs.Ytepfckckplbjjaa
