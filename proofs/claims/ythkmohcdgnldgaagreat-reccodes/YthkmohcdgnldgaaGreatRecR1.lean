/- rec: how a Reader's calls are said; flags, texts, numbers. Own lemmas, no statement. -/
import Derived.Test.YthkmohcdgnldgaaGreatRecQ
import Derived.Test.YthkmohcdgnldgaaGreatRecI
import Derived.Test.YthkmohcdgnldgaaGreatDec5
set_option linter.unusedSimpArgs false
set_option linter.unusedVariables false
namespace Go.Proofs.YthkmohcdgnldgaaGreat
open Go.ChangeShapes Go.WideShapes Go.ChangeAt Go.RowKit

/-- A row of cells, stored from the i-th on. -/
def putL (w : World) (b : Nat) : Nat → List Value → World
  | _, [] => w
  | i, u :: t => putL (w.setCell ⟨b, i, none⟩ u) b (i + 1) t
theorem putL_other (b g : Nat) (hg : g ≠ b) : ∀ (us : List Value) (i : Nat) (w : World), (putL w b i us).heap[g]? = w.heap[g]?
  | [], _, _ => rfl
  | u :: t, i, w => by
    unfold putL
    rw [putL_other b g hg t (i + 1) _]
    exact Below.heap_setCell _ _ _ _ (by exact hg)
theorem putL_size (b : Nat) : ∀ (us : List Value) (i : Nat) (w : World), w.heap.size ≤ (putL w b i us).heap.size
  | [], _, _ => Nat.le_refl _
  | u :: t, i, w => by
    unfold putL
    exact Nat.le_trans (by simp) (putL_size b t (i + 1) _)
theorem putL_below {B b : Nat} (hb : B ≤ b) {a : World} : ∀ (us : List Value) (i : Nat) (w : World), Below B a w → Below B a (putL w b i us)
  | [], _, _, h => h
  | u :: t, i, w, h => by
    unfold putL
    exact putL_below hb t (i + 1) _ (h.setCell hb _)
theorem putL_blk {b : Nat} {T : TypeId} : ∀ (us : List Value) (pre rest : List Value) (w : World), Blk w b (pre ++ rest).toArray T → rest.length = us.length → Blk (putL w b pre.length us) b (pre ++ us).toArray T
  | [], pre, rest, w, h, hl => by
    have : rest = [] := List.eq_nil_of_length_eq_zero hl
    subst this
    exact h
  | u :: t, pre, rest, w, h, hl => by
    match rest, hl with
    | r :: rt, hl =>
      have h1 := h.set pre.length u
      have e : (pre ++ r :: rt).toArray.setIfInBounds pre.length u = ((pre ++ [u]) ++ rt).toArray := by simp
      rw [e] at h1
      have := putL_blk t (pre ++ [u]) rt _ h1 (by simpa using hl)
      unfold putL
      simpa using this
theorem putL_all {w : World} {b : Nat} {T : TypeId} {c : Array Value} (us : List Value) (h : Blk w b c T) (hl : c.size = us.length) : Blk (putL w b 0 us) b us.toArray T := by
  have := putL_blk us [] c.toList w (by simpa using h) (by simpa using hl)
  simpa using this
/-- What a Reader's call hands back, and leaves: only the Reader's own block has turned. -/
def ReadP {α : Type} (f : RF α) (g b : Nat) (l : List UInt8) (err : Nat) (val : Nat → World → Value → α → Prop) (w : World) (e : Ending) (w' : World) : Prop :=
  ∃ v, e = .returned v ∧ val w.heap.size w' v (f l err).1 ∧ Rdr w' g b (f l err).2.1 (f l err).2.2 ∧ w.grownBy w' (some g)
def vInt : Nat → World → Value → Int → Prop := fun _ _ v x => v = .int .i64 x
def vU64 : Nat → World → Value → Int → Prop := fun _ _ v x => v = .int .u64 x
def vBool : Nat → World → Value → Bool → Prop := fun _ _ v x => v = .bool x
def vStr : Nat → World → Value → ByteArray → Prop := fun _ _ v x => v = .string x
def vTid : Nat → World → Value → Int × Int → Prop := fun _ _ v x => v = .agg #[.int .u64 x.1, .int .i64 x.2]
def vStrs : Nat → World → Value → List ByteArray → Prop := fun B W v x => ∃ n a c, v = .slice a n c ∧ StaI B W.heap.size W fun W => Rd W v (sv x)
def vInts : Nat → World → Value → List Int → Prop := fun B W v x => ∃ n a c, v = .slice a n c ∧ StaI B W.heap.size W fun W => Rd W v (iv x)
def vOpen : Nat → World → Value → OpenQ → Prop := fun B W v x => ∃ y : OpenV, v = .agg y.c.toArray ∧ y.q = x ∧ StaI B W.heap.size W fun W => y.At W
def vDone : Nat → World → Value → DoneQ → Prop := fun B W v x => ∃ y : DoneV, v = .agg y.c.toArray ∧ y.q = x ∧ StaI B W.heap.size W fun W => y.At W
def vChg : Nat → World → Value → ChgQ → Prop := fun B W v x => ∃ y : ChgV, v = .agg y.c.toArray ∧ y.q = x ∧ StaI B W.heap.size W fun W => y.At W
def vRows {α β : Type} (k : Nat) (cs : α → List Value) (At : World → α → Prop) (q : α → β) : Nat → World → Value → List β → Prop :=
  fun B W v l => ∃ xs : List α, xs.map q = l ∧ (∃ n a c, v = .slice a n c) ∧ StaI B W.heap.size W fun W => RowsN W k cs v xs ∧ ∀ x ∈ xs, At W x
theorem grown_of_below {w w' : World} {r : Option Nat} (h : Below w.heap.size w w') : w.grownBy w' r := ⟨h.os, h.tape, h.output, h.size, fun i hi _ => h.block i hi⟩
theorem grown_push {w W W' : World} {g : Nat} {o : Obj} {r : Option Nat} (h : w.grownBy W (some g)) (hg : (W.alloc o).grownBy W' r) (hr : ∀ k, r = some k → w.heap.size ≤ k) : w.grownBy W' (some g) := by
  have hs := hg.size
  simp at hs
  refine ⟨hg.os.trans h.os, hg.tape.trans h.tape, hg.output.trans h.output, by have := h.size; omega, fun i hi hn => ?_⟩
  have h1 := h.size
  rw [hg.block i (by simp; omega) (fun e => by have := hr i e.symm; omega), Below.heap_alloc _ _ _ (by omega)]
  exact h.block i hi hn
theorem rdr_push {W W' : World} {g b : Nat} {l : List UInt8} {err : Nat} {o : Obj} {r : Option Nat} (h : Rdr W g b l err) (hg : (W.alloc o).grownBy W' r) (hr : ∀ k, r = some k → g ≠ k ∧ b ≠ k) : Rdr W' g b l err := by
  have hs := hg.size
  simp at hs
  have h1 := h.lt
  have h2 := h.2.1
  refine h.kept (by omega) ?_ ?_
  · rw [hg.block g (by simp; omega) (fun e => (hr g e.symm).1 rfl), Below.heap_alloc _ _ _ (by omega)]
  · rw [hg.block b (by simp; omega) (fun e => (hr b e.symm).2 rfl), Below.heap_alloc _ _ _ (by omega)]
theorem wf_i64_of {n : Int} (h0 : 0 ≤ n) (h1 : n ≤ 9223372036854775807) : (Lit.int .i64 n).wf = true := by
  simp [Lit.wf, IntKind.min, IntKind.max, IntKind.signed, IntKind.bits]
  omega
theorem rint_read (M : Nat) (g b : Nat) (l : List UInt8) (err : Nat) (w : World) (h : Rdr w g b l err) : Calls Tryz.prog 34 #[.pointer (some ⟨g, 0, none⟩), .int .u64 (M : Int)] w (ReadP (rint M) g b l err vU64 w) := by
  refine (num_any g b l err M w h).mono ?_
  rintro e w' ⟨rfl, h1, h2⟩
  exact ⟨_, rfl, rfl, h1, h2⟩
theorem rtid_read (g b : Nat) (l : List UInt8) (err : Nat) (w : World) (h : Rdr w g b l err) : Calls Tryz.prog 35 #[.pointer (some ⟨g, 0, none⟩)] w (ReadP rtidI g b l err vTid w) := by
  refine (tid_read g b l err w h).mono ?_
  rintro e w' ⟨rfl, h1, h2⟩
  exact ⟨_, rfl, rfl, h1, h2⟩
theorem rstr_read (M : Nat) (hM : M < 1000000) (g b : Nat) (l : List UInt8) (err : Nat) (w : World) (h : Rdr w g b l err) : Calls Tryz.prog 80 #[.pointer (some ⟨g, 0, none⟩), .int .i64 (M : Int)] w (ReadP (rstr M) g b l err vStr w) := by
  refine (text_read g b l err (M : Int) w h (wf_i64_of (by omega) (by omega))).mono ?_
  rintro e w' ⟨rfl, h1, h2⟩
  exact ⟨_, rfl, rfl, h1, h2⟩
set_option maxHeartbeats 1000000 in
theorem rflag_read (g b : Nat) (l : List UInt8) (err : Nat) (w : World) (h : Rdr w g b l err) : Calls Tryz.prog 81 #[.pointer (some ⟨g, 0, none⟩)] w (ReadP rflag g b l err vBool w) := by
  have HP : Hid (ReadP rflag g b l err vBool w = ReadP (fun _ _ => (((rnum l err 1).1 : Int) == 1, (rnum l err 1).2)) g b l err vBool w) := rfl
  rw [HP.out]
  have HC : Hid (Calls _ _ _ _ _) := num_any g b l err 1 w h
  clear h HP
  generalize rnum l err 1 = R at *
  obtain ⟨N, L2, E2⟩ := R
  go_enter Tryz.func81, Tryz.ntmps81
  go_wp2_with fail
  refine HC.out.mono ?_
  rintro e w' ⟨rfl, h1, h2⟩
  have H1 : Hid (Rdr w' g b L2 E2) := h1
  have H2 : Hid (w.grownBy w' (some g)) := h2
  clear h1 h2 HC
  obtain ⟨B, hB⟩ : ∃ B : Bool, ((N : Int) == 1) = B := ⟨_, rfl⟩
  have HB : Hid (((N : Int) == 1) = B) := hB
  go_wp2
  go_ret
  exact ⟨_, rfl, HB.out.symm ▸ rfl, H1.out, H2.out⟩
set_option maxHeartbeats 1000000 in
theorem rkey_read (g b : Nat) (l : List UInt8) (err : Nat) (w : World) (h : Rdr w g b l err) : Calls Tryz.prog 105 #[.pointer (some ⟨g, 0, none⟩)] w (ReadP (rstr 24) g b l err vStr w) := by
  have HC : Hid (Calls _ _ _ _ _) := rstr_read 24 (by omega) g b l err w h
  clear h
  go_enter Tryz.func105, Tryz.ntmps105
  go_wp2_with fail
  refine HC.out.mono ?_
  rintro e w' ⟨v, rfl, hv, h1, h2⟩
  have H : Hid (ReadP (rstr 24) g b l err vStr w (.returned v) w') := ⟨v, rfl, hv, h1, h2⟩
  have hv2 : v = .string (rstr 24 l err).1 := hv
  subst hv2
  clear hv h1 h2 HC
  generalize (rstr 24 l err).1 = S at *
  go_wp2
  go_ret
  exact H.out
set_option maxHeartbeats 1000000 in
theorem rnode_read (g b : Nat) (l : List UInt8) (err : Nat) (w : World) (h : Rdr w g b l err) : Calls Tryz.prog 107 #[.pointer (some ⟨g, 0, none⟩)] w (ReadP (rint 63) g b l err vInt w) := by
  have HC : Hid (Calls _ _ _ _ _) := num_any g b l err 63 w h
  have HP : Hid (ReadP (rint 63) g b l err vInt w = ReadP (fun _ _ => (((rnum l err 63).1 : Int), (rnum l err 63).2)) g b l err vInt w) := rfl
  rw [HP.out]
  have hle : (rnum l err 63).1 ≤ 63 := rnum_le _ _ _
  clear h HP
  generalize rnum l err 63 = R at *
  obtain ⟨N, L2, E2⟩ := R
  simp only at hle
  go_enter Tryz.func107, Tryz.ntmps107
  go_wp2_with fail
  refine HC.out.mono ?_
  rintro e w' ⟨rfl, h1, h2⟩
  have H1 : Hid (Rdr w' g b L2 E2) := h1
  have H2 : Hid (w.grownBy w' (some g)) := h2
  clear h1 h2 HC
  go_wp2
  go_ret
  exact ⟨_, rfl, rfl, H1.out, H2.out⟩
end Go.Proofs.YthkmohcdgnldgaaGreat
