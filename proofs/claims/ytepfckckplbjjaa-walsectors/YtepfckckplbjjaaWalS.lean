/- The log, at the laws: what its calls come to. Own lemmas, no statement. -/
import Derived.Test.YtepfckckplbjjaaWalR
import Derived.Test.YtepfckckplbjjaaWal16
import Derived.Test.YtepfckckplbjjaaDisk8
namespace Go.Proofs.Ytepfckckplbjjaa
open Go.ChangeShapes Go.WideShapes Go.ChangeAt Go.RowKit

/-- A log and its disk that lie in memory made since w0, from B on. -/
structure WS (w0 : World) (B : Nat) (w : World) (g : Nat) (f : Foot) (s : LSt) (st : DSt) : Prop where
  wl : WL w g f s st
  own : ∀ k, f.has k → B ≤ k
  gB : B ≤ g
  bel : Below B w0 w
  le : B ≤ w0.heap.size
section
variable {w0 w w' : World} {B g : Nat} {f f' : Foot} {s s' : LSt} {st st' : DSt}
theorem WS.sz (h : WS w0 B w g f s st) : B ≤ w.heap.size := Nat.le_trans h.le h.bel.size
theorem WS.below (h : WS w0 B w g f s st) (hb : Below w.heap.size w w') : WS w0 B w' g f s st := ⟨h.wl.below hb, h.own, h.gB, h.bel.trans (hb.mono h.sz), h.le⟩
theorem WS.turn (h : WS w0 B w g f s st) (hw : WL w' g f' s' st') (hT : LTurn g f w f' w') : WS w0 B w' g f' s' st' :=
  ⟨hw, fun k hk => by
    rcases hT.new k hk with e | e
    · exact h.own k e
    · exact Nat.le_trans h.sz e, h.gB, h.bel.trans (hT.chg.below h.sz fun k e => by
    rcases e with rfl | e
    · exact h.gB
    · exact h.own k e), h.le⟩
theorem WS.disk (h : WS w0 B w g f s st) : NewAt w0 B w f.g f st := ⟨h.wl.d, h.own, h.bel, h.le, rfl⟩
theorem ws_open {from_ room : Nat} {m : Mst} {es : List (Nat × List UInt8)} {nx lf : Nat} (h : NewAt w0 B w g f st) (hF : Finds from_ room st m es nx lf) (hst : st.steps < 4611686018427387000) (hwl : st.waits.length < 1099511627000) :
    Calls Try.prog 16 #[dptr g, .int .i64 (from_ : Int), .int .i64 (room + 2 : Int)] w fun e w' => ∃ gl f', e = .returned (.tuple #[lptr gl, .int .i64 0]) ∧ w.heap.size ≤ gl ∧ WS w0 B w' gl f' (opS from_ room m nx) (opD from_ m nx st) ∧ Turned f w f' w' := by
  obtain ⟨s1, m1, h1, h2⟩ := hF.open
  have hg := h.ptr
  subst hg
  have hsz : B ≤ w.heap.size := Nat.le_trans h.le h.bel.size
  refine (open_any h.at_ from_ room hF.r0 hF.fit hst hwl (fun m' hm' => by rw [hF.lat] at hm'; cases hm'; exact hF.b1)).mono ?_
  rintro e w' hp
  rw [h1] at hp
  obtain ⟨gl, f', rfl, k1, k2, k3⟩ := hp
  rw [h2] at k2 ⊢
  obtain ⟨k4, k5⟩ := k3.below hsz h.own
  exact ⟨gl, f', rfl, k1, ⟨k2, k5, Nat.le_trans hsz k1, h.bel.trans k4, h.le⟩, k3⟩
/-- A log on a new disk. -/
def s10 (from_ room : Nat) : LSt := ⟨from_, room, 1, 1, 0, 1, 0, 0⟩
structure Fresh1 (from_ room N : Nat) (st : DSt) (lf : Nat) : Prop where
  l : LW (s10 from_ room) st [] lf
  steps : st.steps = 2
  waits : st.waits = []
  safe : st.safe = st.now
  len : st.now.length = N
theorem ws_fresh {N from_ room : Nat} (h : NewAt w0 B w g f ⟨List.replicate N (zeros, false), List.replicate N (zeros, false), [], 0, false, 0⟩) (hr : 0 < room) (hr1 : room < 65536) (hfit : from_ + 2 + room ≤ N) :
    Calls Try.prog 16 #[dptr g, .int .i64 (from_ : Int), .int .i64 (room + 2 : Int)] w fun e w' => ∃ gl f' st' lf, e = .returned (.tuple #[lptr gl, .int .i64 0]) ∧ w.heap.size ≤ gl ∧ WS w0 B w' gl f' (s10 from_ room) st' ∧ f'.g = g ∧ Fresh1 from_ room N st' lf := by
  have hF := finds_fresh N from_ room hr hr1 hfit
  obtain ⟨lf, hL⟩ := hF.well
  refine (ws_open h hF (by show (0 : Nat) < _; omega) (by show (0 : Nat) < _; omega)).mono ?_
  rintro e w' ⟨gl, f', rfl, k1, k2, k3⟩
  exact ⟨gl, f', _, lf, rfl, k1, k2, k3.g.trans h.ptr, hL, rfl, rfl, rfl, by show (List.set _ _ _).length = _; rw [List.length_set]; exact List.length_replicate⟩
/-- Bytes that lie ahead of the log, or were made behind n1. -/
theorem ws_append {ao : Option Addr} {n c n1 : Nat} {l : List UInt8} {es : List (Nat × List UInt8)} {lf : Nat} (h : WS w0 B w g f s st) (hL : LW s st es lf) (hb : Src w (.slice ao n c) l) (hn1 : (∀ k, f.has k → k < n1) ∧ g < n1) (hap : ∀ ad, ao = some ad → 0 < l.length → ad.block < B ∨ n1 ≤ ad.block)
    (hn : l.length ≤ 16384) (hr : needN l.length ≤ s.room - (s.next - s.first)) (hnx : s.next < 4611686018427387904 + 1000000) (hlf : s.life ≤ 1099511627776) (hst : st.steps < 4611686018427387000) (hwl : st.waits.length < 1099511627000) :
    Calls Try.prog 18 #[lptr g, .slice ao n c] w fun e w' => ∃ f', e = .returned (.tuple #[.int .u64 (s.next : Int), .int .i64 0]) ∧ WS w0 B w' g f' { s with next := s.next + needN l.length } (apTo s l (needN l.length) st (needN l.length)).2 ∧ f'.g = f.g := by
  obtain ⟨e0, _⟩ := hL.append l hr (by omega) hlf
  refine (append_any h.wl ao n c l hb (fun ad e h0 => ⟨fun hk => ?_, fun hk => ?_⟩) hn hL.le1 hL.le2 hr hnx hlf hst hwl).mono ?_
  · have := h.own _ hk
    have := hn1.1 _ hk
    rcases hap ad e h0 with x | x <;> omega
  · have := h.gB
    have := hn1.2
    rcases hap ad e h0 with x | x <;> omega
  · rintro e w' ⟨f', rfl, k1, k2⟩
    rw [e0] at k1 ⊢
    exact ⟨f', rfl, h.turn k1 k2, k2.same⟩
theorem ws_force {es : List (Nat × List UInt8)} {lf : Nat} (h : WS w0 B w g f s st) (hL : LW s st es lf) (hst : st.steps < 4611686018427387000) :
    Calls Try.prog 19 #[lptr g] w fun e w' => ∃ f', e = .returned (.int .i64 0) ∧ WS w0 B w' g f' { s with safe := s.next } (forceS s st).2.2 ∧ f'.g = f.g := by
  obtain ⟨e1, e2, _⟩ := hL.force
  refine (force_any h.wl hst).mono ?_
  rintro e w' ⟨rfl, f', k1, k2⟩
  rw [e1]
  rw [e2] at k1
  exact ⟨f', rfl, h.turn k1 k2, k2.same⟩
theorem ws_found {es : List (Nat × List UInt8)} {lf : Nat} (h : WS w0 B w g f s st) (hL : LW s st es lf) (hnx : s.next < 4611686018427387904 + 1000000) (hlf : s.life ≤ 1099511627776) :
    Calls Try.prog 23 #[lptr g] w (FoundP w es) :=
  found_any h.wl hL.ch (by omega) (by have := hL.lsl; omega) (by have := hL.ch.len; have := hL.le2; have := hL.r1; omega)
theorem ws_on (h : WS w0 B w g f s st) : Calls Try.prog 30 #[dptr f.g, .slice none 0 0, .int .i64 (-1)] w fun e w' => e = .returned (.tuple #[]) ∧ NewAt w0 B w' f.g f ⟨st.safe, st.safe, [], 0, false, st.steps⟩ := by
  refine (on_any f st none 0 0 [] (-1) w h.wl.d (Bools.nil w) (fun ad e => by cases e) (Nat.zero_le _)).mono ?_
  rintro e w' ⟨rfl, k1, k2⟩
  rw [on_none] at k1
  exact ⟨rfl, h.disk.turn k2 k1⟩
end
theorem nSec_of {n : Nat} (h : n ≤ 65536) : nSec (n : Int) = n := by
  unfold nSec
  split
  · omega
  · split <;> omega
end Go.Proofs.Ytepfckckplbjjaa
