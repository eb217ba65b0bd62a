/- The log, plainly: cut. Own lemmas, no statement. -/
import Derived.Test.YtepfckckplbjjaaWalS
namespace Go.Proofs.Ytepfckckplbjjaa
open Go.ChangeShapes Go.WideShapes Go.ChangeAt Go.RowKit

theorem Masters.lead {f : Nat} {now : List Sec} {m m' : Mst} (h : Masters f now m) (hg : m'.good) (hw : m'.writing = m.writing + 1) (hl : f + 2 ≤ now.length) : Masters f (now.set (f + m'.writing % 2) (pad (mBytes m'), false)) m' := by
  refine ⟨hg, List.getElem?_set_self (by omega), pad (mBytes m), false, ?_, .inr (.inr ⟨m, readM_laid m h.1 _ (by omega), by omega⟩)⟩
  rw [List.getElem?_set_ne (by omega), show (m'.writing + 1) % 2 = m.writing % 2 by omega]
  exact h.2.1
/-- A log, cut at its end. -/
def ctS (s : LSt) : LSt := ⟨s.from_, s.room, s.writing + 1, s.life, s.next, s.life, s.next, s.next⟩
theorem LW.cut_end {s : LSt} {st : DSt} {es : List (Nat × List UInt8)} {lf : Nat} (h : LW s st es lf) (hne : s.next ≠ s.first) (hw : s.writing + 1 < 18446744073709551616) (hlf : s.life ≤ 1099511627776) (hnx : s.next ≤ 4611686018427387903) :
    (cutS s st s.next).1 = 0 ∧ (cutS s st s.next).2.1 = ctS s ∧ LW (ctS s) (cutS s st s.next).2.2 [] s.life ∧ (cutS s st s.next).2.2.steps ≤ st.steps + 3 ∧ (cutS s st s.next).2.2.waits = [] ∧ (cutS s st s.next).2.2.safe = (cutS s st s.next).2.2.now := by
  obtain ⟨e1, e2, e3, -, e5, e6⟩ := h.force
  have hc : cutS s st s.next = leadS (forceS s st).2.1 (forceS s st).2.2 ⟨(forceS s st).2.1.writing, (forceS s st).2.1.life, s.next, lifeL (forceS s st).2.1 (forceS s st).2.2 s.next⟩ := by
    unfold cutS
    rw [if_neg (by omega), if_neg (by rw [e2]; exact hne)]
  have hll : lifeL (forceS s st).2.1 (forceS s st).2.2 s.next = s.life := by
    unfold lifeL
    rw [e2, if_neg (by show ¬ s.next < s.next; omega)]
  rw [hc, hll, e2, leadS_calm e3.calm]
  have hs : ctS s = ⟨s.from_, s.room, s.writing + 1, s.life, s.next, s.life, s.next, s.next⟩ := rfl
  refine ⟨rfl, rfl, ?_, by show _ + 2 ≤ _; omega, rfl, rfl⟩
  have hM : Masters s.from_ (forceS s st).2.2.now ⟨s.writing, s.life, s.first, s.least⟩ := by have := e3.mst; rw [e2] at this; exact this
  have hML := hM.lead (m' := ⟨s.writing + 1, s.life, s.next, s.life⟩) ⟨by show 0 < s.writing + 1; omega, hw, hlf, hnx, hlf⟩ rfl (by rw [e5]; have := h.fit; omega)
  have hlk : ∀ k st', st'.down = st.down → st'.now = (forceS s st).2.2.now.set (s.from_ + (s.writing + 1) % 2) (pad (mBytes ⟨s.writing + 1, s.life, s.next, s.life⟩), false) → look (ctS s) st' k = look s st k := fun k st' h1 h2 => by
    refine look_now rfl rfl h1 ?_
    rw [h2, e5]
    refine List.getElem?_set_ne fun e => ?_
    have e' : s.from_ + (s.writing + 1) % 2 = s.from_ + 2 + k % s.room := e
    omega
  refine ⟨⟨rfl, rfl⟩, hML, ⟨rfl, rfl⟩, Nat.le_refl _, Nat.le_refl _, Nat.le_refl _, by show s.next ≤ s.next + s.room; omega, h.r0, h.r1, by show _ ≤ (List.set _ _ _).length; rw [List.length_set, e5]; exact h.fit, fun k p hp => h.all k p ?_, fun k p hk hp => h.new k p hk ?_, entAt_none fun p hp => h.new s.next p (Nat.le_refl _) ?_⟩
  · rw [hlk k _ h.calm.2.symm rfl] at hp
    exact hp
  · rw [hlk k _ h.calm.2.symm rfl] at hp
    exact hp
  · rw [hlk _ _ h.calm.2.symm rfl] at hp
    exact hp
theorem LW.cut_here {s : LSt} {st : DSt} {es : List (Nat × List UInt8)} {lf : Nat} (h : LW s st es lf) : cutS s st s.first = forceS s st := by
  obtain ⟨e1, e2, -⟩ := h.force
  unfold cutS
  rw [if_neg (by omega), if_pos (by rw [e2])]
section
variable {w0 w w' : World} {B g : Nat} {f f' : Foot} {s s' : LSt} {st st' : DSt}
theorem ws_cut_end {es : List (Nat × List UInt8)} {lf : Nat} (h : WS w0 B w g f s st) (hL : LW s st es lf) (hne : s.next ≠ s.first) (hw : s.writing + 1 < 18446744073709551616) (hlf : s.life ≤ 1099511627776) (hnx : s.next ≤ 4611686018427387903) (hst : st.steps < 4611686018427386000) (hwl : st.waits.length < 1099511627000) :
    Calls Try.prog 20 #[lptr g, .int .u64 (s.next : Int)] w fun e w' => ∃ f' st', e = .returned (.int .i64 0) ∧ WS w0 B w' g f' (ctS s) st' ∧ f'.g = f.g ∧ LW (ctS s) st' [] s.life ∧ st'.steps ≤ st.steps + 3 ∧ st'.waits = [] ∧ st'.safe = st'.now := by
  obtain ⟨e1, e2, e3, e4, e5⟩ := hL.cut_end hne hw hlf hnx
  refine (cut_any h.wl s.next hL.le1 (Nat.le_refl _) (by omega) hw (by omega) hst hwl).mono ?_
  rintro e w' ⟨rfl, f', k1, k2⟩
  rw [e2] at k1
  rw [e1]
  exact ⟨f', _, rfl, h.turn k1 k2, k2.same, e3, e4, e5⟩
theorem ws_cut_here {es : List (Nat × List UInt8)} {lf : Nat} (h : WS w0 B w g f s st) (hL : LW s st es lf) (hw : s.writing + 1 < 18446744073709551616) (hlf : s.life ≤ 1099511627776) (hnx : s.next ≤ 4611686018427387903) (hst : st.steps < 4611686018427386000) (hwl : st.waits.length < 1099511627000) :
    Calls Try.prog 20 #[lptr g, .int .u64 (s.first : Int)] w fun e w' => ∃ f' st', e = .returned (.int .i64 0) ∧ WS w0 B w' g f' { s with safe := s.next } st' ∧ f'.g = f.g ∧ LW { s with safe := s.next } st' es lf ∧ st'.steps ≤ st.steps + 1 ∧ st'.waits.length ≤ st.waits.length := by
  obtain ⟨e1, e2, e3, -, -, e6⟩ := hL.force
  have e7 := (forceS_facts s st).2.2.2
  have e8 := hL.cut_here
  refine (cut_any h.wl s.first (Nat.le_refl _) hL.le1 (by omega) hw (by omega) hst hwl).mono ?_
  rintro e w' ⟨rfl, f', k1, k2⟩
  rw [e8] at k1 ⊢
  rw [e2] at k1 e3
  rw [e1]
  exact ⟨f', _, rfl, h.turn k1 k2, k2.same, e3, e6, e7⟩
end
end Go.Proofs.Ytepfckckplbjjaa
