/- DiskRuns: the law's state beside the disk's. Own lemmas, no statement. -/
import Derived.Test.YtpojpmkflgmgkaaRuns1
namespace Go.Proofs.Ytpojpmkflgmgkaa
open Go.ChangeShapes Go.WideShapes Go.ChangeAt Go.RowKit

def Mine1 (B : Nat) (f : Foot) (k : Nat) : Prop := B ≤ k ∧ ¬ f.has k
def opv (o : OpV) : List Value := [.int .i64 o.k, .int .i64 o.at_, .slice o.bo o.bn o.bc, .slice o.ko o.kn o.kc, .int .i64 o.tear]
def ov (os : List OpV) : List Value := os.flatMap opv
theorem ov_append (a b : List OpV) : ov (a ++ b) = ov a ++ ov b := by simp [ov]
theorem ov_length (os : List OpV) : (ov os).length = os.length * 5 := by
  induction os with
  | nil => rfl
  | cons p t ih => simp [ov, opv] at ih ⊢; omega
theorem ov_one (os : List OpV) : ∀ u ∈ ov os, u.oneCell' = true := by
  intro u hu
  simp only [ov, List.mem_flatMap] at hu
  obtain ⟨p, _, hp⟩ := hu
  simp [opv] at hp
  rcases hp with rfl | rfl | rfl | rfl | rfl <;> rfl
theorem ov_at (os : List OpV) : ∀ (i : Nat) (o : OpV) (t : Nat) (u : Value), os[i]? = some o → (opv o)[t]? = some u → (ov os)[i * 5 + t]? = some u := by
  induction os with
  | nil => intro i o t u h; simp at h
  | cons q r ih =>
    intro i o t u h hu
    have ht : t < 5 := (List.getElem?_eq_some_iff.1 hu).1
    cases i with
    | zero =>
      simp at h; subst h
      show (opv q ++ ov r)[0 * 5 + t]? = _
      rw [List.getElem?_append_left (by simp [opv]; omega)]
      simpa using hu
    | succ i =>
      show (opv q ++ ov r)[(i + 1) * 5 + t]? = _
      rw [List.getElem?_append_right (by simp [opv]; omega)]
      have := ih i o t u (by simpa using h) hu
      rw [← this]
      congr 1
      simp [opv]
      omega

/-- A list of operations that can be read, in a block that M says. -/
structure LOps (w : World) (M : Nat → Prop) (ao : Option Addr) (n c : Nat) (os : List OpV) : Prop where
  len : os.length = n
  le : n ≤ c
  cm : c ≤ maxLen
  nil : ao = none → os = [] ∧ c = 0
  cells : ∀ a, ao = some a → ∃ b, a = ⟨b, 0, none⟩ ∧ M b ∧ ∃ cur, Blk w b cur 30 ∧ ∀ (j : Nat) (u : Value), (ov os)[j]? = some u → cur[j]? = some u
section
variable {w w' : World} {M M' S : Nat → Prop} {ao : Option Addr} {n c : Nat} {os : List OpV}
theorem LOps.empty (w : World) (M : Nat → Prop) : LOps w M none 0 0 [] := ⟨rfl, Nat.le_refl _, Nat.zero_le _, fun _ => ⟨rfl, rfl⟩, fun a e => by cases e⟩
theorem LOps.chg (h : LOps w M ao n c os) (k : Chg S w w') (hS : ∀ b, M b → ¬ S b) : LOps w' M ao n c os :=
  ⟨h.len, h.le, h.cm, h.nil, fun a e => by obtain ⟨b, e1, m, cur, hB, hc⟩ := h.cells a e; exact ⟨b, e1, m, cur, hB.chg k (hS b m), hc⟩⟩
theorem LOps.below (h : LOps w M ao n c os) (k : Below w.heap.size w w') : LOps w' M ao n c os :=
  ⟨h.len, h.le, h.cm, h.nil, fun a e => by obtain ⟨b, e1, m, cur, hB, hc⟩ := h.cells a e; exact ⟨b, e1, m, cur, hB.of (k.block _ hB.lt), hc⟩⟩
theorem LOps.mono (h : LOps w M ao n c os) (hM : ∀ b, b < w.heap.size → M b → M' b) : LOps w M' ao n c os :=
  ⟨h.len, h.le, h.cm, h.nil, fun a e => by obtain ⟨b, e1, m, cur, hB, hc⟩ := h.cells a e; exact ⟨b, e1, hM b hB.lt m, cur, hB, hc⟩⟩
/-- The i-th operation. -/
theorem LOps.get (h : LOps w M ao n c os) {i : Nat} {o : OpV} (hi : os[i]? = some o) : ∃ b, ao = some ⟨b, 0, none⟩ ∧ w.cell? ⟨b, i * 5, none⟩ = some (.int .i64 o.k) ∧ w.cell? ⟨b, i * 5 + 1, none⟩ = some (.int .i64 o.at_) ∧ w.cell? ⟨b, i * 5 + 2, none⟩ = some (.slice o.bo o.bn o.bc) ∧ w.cell? ⟨b, i * 5 + 3, none⟩ = some (.slice o.ko o.kn o.kc) ∧ w.cell? ⟨b, i * 5 + 4, none⟩ = some (.int .i64 o.tear) := by
  cases ao with
  | none => have := (h.nil rfl).1; subst this; simp at hi
  | some a =>
    obtain ⟨b, rfl, m, cur, hB, hc⟩ := h.cells a rfl
    refine ⟨b, rfl, ?_, ?_, ?_, ?_, ?_⟩
    · exact (hB.cell _).trans (hc _ _ (ov_at os i o 0 _ hi rfl))
    · exact (hB.cell _).trans (hc _ _ (ov_at os i o 1 _ hi rfl))
    · exact (hB.cell _).trans (hc _ _ (ov_at os i o 2 _ hi rfl))
    · exact (hB.cell _).trans (hc _ _ (ov_at os i o 3 _ hi rfl))
    · exact (hB.cell _).trans (hc _ _ (ov_at os i o 4 _ hi rfl))
end

structure LSt where
  now : List LSec
  safe : List LSec
  waits : List OpV
  fuse : Nat
  down : Bool
  steps : Nat

def SecRel (s : LSec) (p : Sec) : Prop := s.2 = p.2 ∧ s.1.size ≤ 512 ∧ (s.2 = false → pad s.1.data.toList = p.1)
def RowRel (xs : List LSec) (ps : List Sec) : Prop := xs.length = ps.length ∧ ∀ (i : Nat) (s : LSec) (p : Sec), xs[i]? = some s → ps[i]? = some p → SecRel s p
theorem RowRel.set {xs : List LSec} {ps : List Sec} (h : RowRel xs ps) (i : Nat) (s : LSec) (p : Sec) (hr : SecRel s p) : RowRel (xs.set i s) (ps.set i p) := by
  refine ⟨by simp [h.1], fun j q r hq hr' => ?_⟩
  rw [List.getElem?_set] at hq hr'
  by_cases hij : i = j
  · subst hij
    rw [if_pos rfl] at hq hr'
    split at hq
    · cases hq
      rw [if_pos (by rw [← h.1]; assumption)] at hr'
      cases hr'; exact hr
    · cases hq
  · rw [if_neg hij] at hq hr'
    exact h.2 j q r hq hr'
def WRel (os : List OpV) (ps : List (Nat × List UInt8)) : Prop := os.length = ps.length ∧ ∀ (i : Nat) (o : OpV) (p : Nat × List UInt8), os[i]? = some o → ps[i]? = some p → o.at_ = (p.1 : Int) ∧ o.bl.length ≤ 512 ∧ pad o.bl = p.2
theorem WRel.nil : WRel [] [] := ⟨rfl, fun i o p h => by simp at h⟩
theorem WRel.push {os : List OpV} {ps : List (Nat × List UInt8)} (h : WRel os ps) (o : OpV) (p : Nat × List UInt8) (hr : o.at_ = (p.1 : Int) ∧ o.bl.length ≤ 512 ∧ pad o.bl = p.2) : WRel (os ++ [o]) (ps ++ [p]) := by
  refine ⟨by simp [h.1], fun i q r hq hr' => ?_⟩
  rcases (show i < os.length ∨ i = os.length ∨ os.length < i by omega) with hi | rfl | hi
  · rw [List.getElem?_append_left hi] at hq
    rw [List.getElem?_append_left (by rw [← h.1]; exact hi)] at hr'
    exact h.2 i q r hq hr'
  · simp at hq
    rw [h.1] at hr'
    simp at hr'
    subst hq hr'
    exact hr
  · rw [List.getElem?_eq_none (by simp; omega)] at hq; cases hq

/-- The law's state beside the disk's. -/
structure Sim (n : Nat) (L : LSt) (st : DSt) : Prop where
  len : L.now.length = n
  lens : L.safe.length = n
  nows : RowRel L.now st.now
  safes : RowRel L.safe st.safe
  ws : WRel L.waits st.waits
  down : L.down = st.down
  steps : L.steps = st.steps
  fuse : st.down = false → L.fuse = st.fuse
  fb : L.fuse < 9223372036854775808

/-- What the law has in memory. -/
structure Mem (w0 wr : World) (g n b6 c6 b7 c7 : Nat) (a8 : Option Addr) (n8 c8 : Nat) (L : LSt) (f : Foot) (st : DSt) : Prop where
  dk : NewAt w0 w0.heap.size wr g f st
  nw : LSecs wr (Mine1 w0.heap.size f) b6 n c6 L.now
  sf : LSecs wr (Mine1 w0.heap.size f) b7 n c7 L.safe
  wt : LOps wr (Mine1 w0.heap.size f) a8 n8 c8 L.waits
  src : ∀ o ∈ L.waits, Src w0 (.slice o.bo o.bn o.bc) o.bl
section
variable {w0 wr w' : World} {g n b6 c6 b7 c7 n8 c8 : Nat} {a8 : Option Addr} {L : LSt} {f f' : Foot} {st st' : DSt} {S : Nat → Prop}
theorem Mem.turn (h : Mem w0 wr g n b6 c6 b7 c7 a8 n8 c8 L f st) (hT : Turned f wr f' w') (hD : DiskAt w' f' st') : Mem w0 w' g n b6 c6 b7 c7 a8 n8 c8 L f' st' :=
  ⟨h.dk.turn hT hD, (h.nw.chg hT.chg h.nw.mine.2).mono ⟨h.nw.mine.1, hT.not h.nw.lt h.nw.mine.2⟩, (h.sf.chg hT.chg h.sf.mine.2).mono ⟨h.sf.mine.1, hT.not h.sf.lt h.sf.mine.2⟩,
    ⟨h.wt.len, h.wt.le, h.wt.cm, h.wt.nil, fun a e => by obtain ⟨b, e1, m, cur, hB, hc⟩ := h.wt.cells a e; exact ⟨b, e1, ⟨m.1, hT.not hB.lt m.2⟩, cur, hB.chg hT.chg m.2, hc⟩⟩, h.src⟩
theorem Mem.below (h : Mem w0 wr g n b6 c6 b7 c7 a8 n8 c8 L f st) (hb : Below wr.heap.size wr w') : Mem w0 w' g n b6 c6 b7 c7 a8 n8 c8 L f st :=
  ⟨h.dk.below hb, h.nw.below hb, h.sf.below hb, h.wt.below hb, h.src⟩
/-- A block of bytes of the law's own may be written. -/
theorem Mem.flip (h : Mem w0 wr g n b6 c6 b7 c7 a8 n8 c8 L f st) {m : Nat} {c : Array Value} (hB : Blk wr m c 5) (hm : Mine1 w0.heap.size f m) (k : Chg (fun i => i = m) wr w') : Mem w0 w' g n b6 c6 b7 c7 a8 n8 c8 L f st := by
  refine ⟨h.dk.chg k (fun i hi e => by subst e; exact hm.2 hi) (fun i e => by subst e; exact hm.1), h.nw.chg k ?_, h.sf.chg k ?_, ?_, h.src⟩
  · obtain ⟨cur, hb, _⟩ := h.nw.cells; exact hb.ne hB (by decide)
  · obtain ⟨cur, hb, _⟩ := h.sf.cells; exact hb.ne hB (by decide)
  · exact ⟨h.wt.len, h.wt.le, h.wt.cm, h.wt.nil, fun a e => by obtain ⟨b, e1, m', cur, hb, hc⟩ := h.wt.cells a e; exact ⟨b, e1, m', cur, hb.chg k (hb.ne hB (by decide)), hc⟩⟩
theorem Mem.new (h : Mem w0 wr g n b6 c6 b7 c7 a8 n8 c8 L f st) {k : Nat} (hk : wr.heap.size ≤ k) : Mine1 w0.heap.size f k := ⟨Nat.le_trans h.dk.lt hk, fun e => by have := h.dk.at_.hasLt k e; omega⟩
end

section
variable {w0 w : World} {B g : Nat} {f : Foot} {st : DSt}
theorem down_is (h : NewAt w0 B w g f st) (b : Bool) (hb : st.down = b) : Calls Try.prog 18 #[dptr g] w fun e w' => e = .returned (.bool b) ∧ w' = w := by
  have hp := h.ptr; subst hp; subst hb; exact down_any f st w h.at_
theorem steps_is (h : NewAt w0 B w g f st) (b : Nat) (hb : st.steps = b) : Calls Try.prog 19 #[dptr g] w fun e w' => e = .returned (.int .i64 (b : Int)) ∧ w' = w := by
  have hp := h.ptr; subst hp; subst hb; exact steps_any f st w h.at_
theorem waits_is (h : NewAt w0 B w g f st) (b : Nat) (hb : st.waits.length = b) : Calls Try.prog 20 #[dptr g] w fun e w' => e = .returned (.int .i64 (b : Int)) ∧ w' = w := by
  have hp := h.ptr; subst hp; subst hb; exact waits_any f st w h.at_
theorem len_is (h : NewAt w0 B w g f st) (b : Nat) (hb : st.now.length = b) : Calls Try.prog 21 #[dptr g] w fun e w' => e = .returned (.int .i64 (b : Int)) ∧ w' = w := by
  have hp := h.ptr; subst hp; subst hb; exact len_any f st w h.at_
theorem off_is (h : NewAt w0 B w g f st) : Calls Try.prog 17 #[dptr g] w fun e w' => e = .returned (.tuple #[]) ∧ DiskAt w' f { st with down := true } ∧ Turned f w f w' := by
  have hp := h.ptr; subst hp; exact (off_any f st w h.at_).mono fun e w' ⟨a, b, c⟩ => ⟨a, b, Turned.of_chg c⟩
theorem fuse_up_is (h : NewAt w0 B w g f st) (i : Int) (q : Nat) (hq : i.toNat = q) (hd : st.down = false) (hi : i < 9223372036854775808) : Calls Try.prog 15 #[dptr g, .int .i64 i] w fun e w' => e = .returned (.tuple #[]) ∧ DiskAt w' f { st with fuse := q } ∧ Turned f w f w' := by
  have hp := h.ptr; subst hp; subst hq; exact (fuse_up f st i w h.at_ hd hi).mono fun e w' ⟨a, b, c⟩ => ⟨a, b, Turned.of_chg c⟩
theorem fuse_down_is (h : NewAt w0 B w g f st) (i : Int) (hd : st.down = true) : Calls Try.prog 15 #[dptr g, .int .i64 i] w fun e w' => e = .returned (.tuple #[]) ∧ w' = w := by
  have hp := h.ptr; subst hp; exact fuse_down f st i w h.at_ hd
theorem on_is (h : NewAt w0 B w g f st) (ko : Option Addr) (kn kc : Nat) (keep : List Bool) (tear : Int) (hkp : Bools w ko kn keep) (hkf : ∀ ad, ko = some ad → 0 < kn → ¬ f.has ad.block) (hkm : kn ≤ maxLen) :
    Calls Try.prog 16 #[dptr g, .slice ko kn kc, .int .i64 tear] w fun e w' => e = .returned (.tuple #[]) ∧ DiskAt w' f (st.on keep tear) ∧ Turned f w f w' := by
  have hp := h.ptr; subst hp; exact on_any f st ko kn kc keep tear w h.at_ hkp hkf hkm
theorem sync_is (h : NewAt w0 B w g f st) (hdn : st.down = false) (hst : st.steps < 4611686018427387904) (hf1 : ¬ st.fuse = 1) : Calls Try.prog 14 #[dptr g] w fun e w' => e = .returned (.int .i64 0) ∧ DiskAt w' f st.stepped.synced ∧ Turned f w f w' := by
  have hp := h.ptr; subst hp; exact sync_ok f st w h.at_ hdn hst hf1
theorem sync_fuse_is (h : NewAt w0 B w g f st) (hdn : st.down = false) (hst : st.steps < 4611686018427387904) (hf1 : st.fuse = 1) : Calls Try.prog 14 #[dptr g] w fun e w' => e = .returned (.int .i64 8) ∧ DiskAt w' f st.stepped ∧ Turned f w f w' := by
  have hp := h.ptr; subst hp; exact sync_fuse f st w h.at_ hdn hst hf1
theorem sync_down_is (h : NewAt w0 B w g f st) (hdn : st.down = true) : Calls Try.prog 14 #[dptr g] w fun e w' => e = .returned (.int .i64 8) ∧ w' = w := by
  have hp := h.ptr; subst hp; exact sync_down f st w h.at_ hdn
theorem write_arg_is (h : NewAt w0 B w g f st) (i : Int) (ao : Option Addr) (n c : Nat) (hn : badW st i n) (hm : n ≤ maxLen) : Calls Try.prog 12 #[dptr g, .int .i64 i, .slice ao n c] w fun e w' => e = .returned (.int .i64 1) ∧ w' = w := by
  have hp := h.ptr; subst hp; exact write_arg f st i ao n c w h.at_ hn hm
theorem write_down_is (h : NewAt w0 B w g f st) (i : Nat) (ao : Option Addr) (n c : Nat) (hi : i < st.now.length) (hn : n ≤ 512) (hdn : st.down = true) : Calls Try.prog 12 #[dptr g, .int .i64 (i : Int), .slice ao n c] w fun e w' => e = .returned (.int .i64 8) ∧ w' = w := by
  have hp := h.ptr; subst hp; exact write_down f st i ao n c w h.at_ hi hn hdn
theorem write_is (h : NewAt w0 B w g f st) (i : Nat) (ao : Option Addr) (n c : Nat) (l : List UInt8) (hi : i < st.now.length) (hs : Src w (.slice ao n c) l) (hl : l.length ≤ 512) (hdn : st.down = false) (hst : st.steps < 4611686018427387904) (hwl : st.waits.length < 1099511627776) (er : Int) (her : st.stepErr = er) :
    Calls Try.prog 12 #[dptr g, .int .i64 (i : Int), .slice ao n c] w fun e w' => e = .returned (.int .i64 er) ∧ ∃ f', DiskAt w' f' (st.written i (pad l)).stepped ∧ Turned f w f' w' := by
  have hp := h.ptr; subst hp; subst her; exact write_ok f st i ao n c l w h.at_ hi hs hl hdn hst hwl
theorem read_arg_is (h : NewAt w0 B w g f st) (i : Int) (hn : ¬ (0 ≤ i ∧ i < (st.now.length : Int))) : Calls Try.prog 13 #[dptr g, .int .i64 i] w fun e w' => e = .returned (.tuple #[.slice none 0 0, .int .i64 1]) ∧ w' = w := by
  have hp := h.ptr; subst hp; exact read_arg f st i w h.at_ hn
theorem read_down_is (h : NewAt w0 B w g f st) (i : Nat) (hi : i < st.now.length) (hdn : st.down = true) : Calls Try.prog 13 #[dptr g, .int .i64 (i : Int)] w fun e w' => e = .returned (.tuple #[.slice none 0 0, .int .i64 8]) ∧ w' = w := by
  have hp := h.ptr; subst hp; exact read_down f st i w h.at_ hi hdn
theorem read_torn_is (h : NewAt w0 B w g f st) (i : Nat) (b : List UInt8) (hi : st.now[i]? = some (b, true)) (hdn : st.down = false) : Calls Try.prog 13 #[dptr g, .int .i64 (i : Int)] w fun e w' => e = .returned (.tuple #[.slice none 0 0, .int .i64 9]) ∧ w' = w := by
  have hp := h.ptr; subst hp
  obtain ⟨h1, h2⟩ := List.getElem?_eq_some_iff.1 hi
  exact read_torn f st i w h.at_ h1 hdn (by rw [h2])
theorem read_is (h : NewAt w0 B w g f st) (i : Nat) (b : List UInt8) (hi : st.now[i]? = some (b, false)) (hdn : st.down = false) : Calls Try.prog 13 #[dptr g, .int .i64 (i : Int)] w fun e w' => e = .returned (.tuple #[.slice (some ⟨w.heap.size, 0, none⟩) 512 512, .int .i64 0]) ∧ Blk w' w.heap.size (bv b).toArray 5 ∧ Below w.heap.size w w' := by
  have hp := h.ptr; subst hp
  obtain ⟨h1, h2⟩ := List.getElem?_eq_some_iff.1 hi
  refine (read_ok f st i w h.at_ h1 hdn (by rw [h2])).mono ?_
  rintro e w' ⟨rfl, hB, hb, _⟩
  have h2' : st.now[i].1 = b := by rw [h2]
  rw [← h2']
  exact ⟨rfl, hB, hb⟩
end
end Go.Proofs.Ytpojpmkflgmgkaa
