/- The log: a disk's Write and Sync; a new life's master; masters written. Own lemmas, no statement. -/
import Derived.Test.YtepfckckplbjjaaWal8
import Derived.RegionTactic
namespace Go.Proofs.Ytepfckckplbjjaa
open Go.ChangeShapes Go.WideShapes Go.ChangeAt Go.RowKit

/-- What a Write does, and answers. -/
def DSt.wr (st : DSt) (i : Nat) (b : List UInt8) : Nat × DSt := if st.down then (8, st) else (if st.fuse = 1 then 8 else 0, (st.written i (pad b)).stepped)
def DSt.sy (st : DSt) : Nat × DSt := if st.down then (8, st) else if st.fuse = 1 then (8, st.stepped) else (0, st.stepped.synced)
theorem stepped_now (st : DSt) : st.stepped.now = st.now := by unfold DSt.stepped; split <;> rfl
theorem wr_len (st : DSt) (i : Nat) (b : List UInt8) : (st.wr i b).2.now.length = st.now.length := by
  unfold DSt.wr
  split
  · rfl
  · simp only [stepped_now, DSt.written, List.length_set]
theorem sy_len (st : DSt) : st.sy.2.now.length = st.now.length := by
  unfold DSt.sy
  split
  · rfl
  · split
    · simp only [stepped_now]
    · simp only [DSt.synced, stepped_now]
theorem write_gen (f : Foot) (st : DSt) (i : Nat) (ao : Option Addr) (n c : Nat) (l : List UInt8) (w : World) (h : DiskAt w f st) (hi : i < st.now.length) (hs : Src w (.slice ao n c) l) (hl : l.length ≤ 512) (hst : st.steps < 4611686018427387904) (hwl : st.waits.length < 1099511627776) :
    Calls Try.prog 35 #[dptr f.g, .int .i64 (i : Int), .slice ao n c] w fun e w' => e = .returned (.int .i64 ((st.wr i l).1 : Int)) ∧ ∃ f', DiskAt w' f' (st.wr i l).2 ∧ Turned f w f' w' := by
  cases hd : st.down with
  | true =>
    obtain ⟨hn, _⟩ := hs.at
    refine (write_down f st i ao n c w h hi (by omega) hd).mono ?_
    rintro e w' ⟨rfl, rfl⟩
    unfold DSt.wr
    rw [hd]
    exact ⟨rfl, f, h, Turned.refl _ _⟩
  | false =>
    refine (write_ok f st i ao n c l w h hi hs hl hd hst hwl).mono ?_
    rintro e w' ⟨rfl, f', h1, h2⟩
    unfold DSt.wr
    rw [hd]
    refine ⟨?_, f', h1, h2⟩
    unfold DSt.stepErr
    simp only [Bool.false_eq_true, if_false]
    split <;> rfl
theorem sync_gen (f : Foot) (st : DSt) (w : World) (h : DiskAt w f st) (hst : st.steps < 4611686018427387904) :
    Calls Try.prog 45 #[dptr f.g] w fun e w' => e = .returned (.int .i64 (st.sy.1 : Int)) ∧ DiskAt w' f st.sy.2 ∧ Turned f w f w' := by
  cases hd : st.down with
  | true =>
    refine (sync_down f st w h hd).mono ?_
    rintro e w' ⟨rfl, rfl⟩
    unfold DSt.sy
    rw [hd]
    exact ⟨rfl, h, Turned.refl _ _⟩
  | false =>
    by_cases hf : st.fuse = 1
    · refine (sync_fuse f st w h hd hst hf).mono ?_
      rintro e w' ⟨rfl, h1, h2⟩
      unfold DSt.sy
      rw [hd, if_neg (by simp), if_pos hf]
      exact ⟨rfl, h1, h2⟩
    · refine (sync_ok f st w h hd hst hf).mono ?_
      rintro e w' ⟨rfl, h1, h2⟩
      unfold DSt.sy
      rw [hd, if_neg (by simp), if_neg hf]
      exact ⟨rfl, h1, h2⟩
theorem WL.turn {w w' : World} {g : Nat} {f f' : Foot} {s : LSt} {st st' : DSt} (h : WL w g f s st) (hT : Turned f w f' w') (hD : DiskAt w' f' st') (hl : st'.now.length = st.now.length) : WL w' g f' s st' := by
  refine ⟨?_, hD, hT.not h.lt.1 h.ap, h.r0, by rw [hl]; exact h.fit⟩
  unfold LogAt
  rw [hT.g]
  exact Blk.chg h.l hT.chg h.ap

def reb (s : LSt) (life : Nat) : Mst := ⟨s.writing, life, s.first, if s.next = s.first then life else s.least⟩
end Go.Proofs.Ytepfckckplbjjaa
