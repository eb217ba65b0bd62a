/- Disks in memory; the Go texts of disk's small calls. Own lemmas, no statement. -/
import Derived.Test.YtepfckckplbjjaaBlk
import Derived.Test.YtepfckckplbjjaaDPlain
import Derived.Test.YtepfckckplbjjaaSrc
import Derived.Outline
namespace Go.Proofs.Ytepfckckplbjjaa
open Go.ChangeShapes Go.WideShapes Go.ChangeAt Go.RowKit

/-- The blocks of a disk: its own, its sectors, its safe ones, its writes, its bytes. -/
structure Foot where
  g : Nat
  n : Nat
  s : Nat
  w : Option Nat
  bs : Nat → Prop
def Foot.wr (f : Foot) (k : Nat) : Prop := k = f.g ∨ k = f.n ∨ k = f.s ∨ f.w = some k
def Foot.has (f : Foot) (k : Nat) : Prop := f.wr k ∨ f.bs k

/-- A sector's bytes: none for noughts, or a row of 512. -/
def Byt (w : World) (bs : Nat → Prop) (v : Value) (l : List UInt8) : Prop :=
  l.length = 512 ∧ ((v = .slice none 0 0 ∧ l = zeros) ∨ ∃ b, bs b ∧ v = .slice (some ⟨b, 0, none⟩) 512 512 ∧ Blk w b (bv l).toArray 5)
def SecsAt (w : World) (bs : Nat → Prop) (b : Nat) (xs : List Sec) : Prop :=
  ∃ c, Blk w b c 90 ∧ c.size = xs.length * 2 ∧ ∀ i p, xs[i]? = some p → ∃ u, c[i * 2]? = some u ∧ c[i * 2 + 1]? = some (.bool p.2) ∧ Byt w bs u p.1
def WaitsAt (w : World) (bs : Nat → Prop) (v : Value) (ws : List (Nat × List UInt8)) : Prop :=
  ∃ xs, w.ownsRow 0 88 2 v ws.length xs ∧ ∀ i p, ws[i]? = some p → xs[i * 2]? = some (.int .i64 (p.1 : Int)) ∧ ∃ u, xs[i * 2 + 1]? = some u ∧ Byt w bs u p.2
def hd (n s len : Nat) (wv : Value) (fuse : Nat) (down : Bool) (steps : Nat) : Array Value :=
  #[.slice (some ⟨n, 0, none⟩) len len, .slice (some ⟨s, 0, none⟩) len len, wv, .int .i64 (fuse : Int), .bool down, .int .i64 (steps : Int)]

structure DiskAt (w : World) (f : Foot) (st : DSt) : Prop where
  head : ∃ wv, Blk w f.g (hd f.n f.s st.now.length wv st.fuse st.down st.steps) 70 ∧ wv.ownBlock = f.w ∧ WaitsAt w f.bs wv st.waits
  now : SecsAt w f.bs f.n st.now
  safe : SecsAt w f.bs f.s st.safe
  ne : f.n ≠ f.s
  inv : st.Inv
  len : st.now.length ≤ 65536
  fuse : st.fuse < 9223372036854775808
  lt : ∀ k, f.bs k → k < w.heap.size
  ty : ∀ k, f.bs k → ∃ c, Blk w k c 5

section
variable {w w' : World} {f f' : Foot} {st : DSt} {S : Nat → Prop} {bs bs' : Nat → Prop}
theorem Byt.chg {v : Value} {l : List UInt8} (h : Byt w bs v l) (k : Chg S w w') (hS : ∀ i, bs i → ¬ S i) (hb : ∀ i, bs i → bs' i) : Byt w' bs' v l := by
  obtain ⟨h1, h2⟩ := h
  refine ⟨h1, ?_⟩
  rcases h2 with h2 | ⟨b, hb1, hv, hB⟩
  · exact .inl h2
  · exact .inr ⟨b, hb b hb1, hv, hB.chg k (hS b hb1)⟩
theorem SecsAt.chg {b : Nat} {xs : List Sec} (h : SecsAt w bs b xs) (k : Chg S w w') (hb : ¬ S b) (hS : ∀ i, bs i → ¬ S i) (hbb : ∀ i, bs i → bs' i) : SecsAt w' bs' b xs := by
  obtain ⟨c, h1, h2, h3⟩ := h
  refine ⟨c, h1.chg k hb, h2, fun i p hp => ?_⟩
  obtain ⟨u, a1, a2, a3⟩ := h3 i p hp
  exact ⟨u, a1, a2, a3.chg k hS hbb⟩
theorem WaitsAt.chg {v : Value} {ws : List (Nat × List UInt8)} (h : WaitsAt w bs v ws) (k : Chg S w w') (hb : ∀ b, v.ownBlock = some b → ¬ S b) (hS : ∀ i, bs i → ¬ S i) (hbb : ∀ i, bs i → bs' i) : WaitsAt w' bs' v ws := by
  obtain ⟨xs, h1, h2⟩ := h
  refine ⟨xs, ?_, fun i p hp => ?_⟩
  · refine ⟨h1.1, ?_⟩
    rcases h1.2 with h | ⟨g, cap, cur, rfl, hB, hg, r⟩
    · exact .inl h
    · exact .inr ⟨g, cap, cur, rfl, hB, by rw [k.block g (Array.getElem?_eq_some_iff.1 hg).1 (hb g rfl)]; exact hg, r⟩
  · obtain ⟨a1, u, a2, a3⟩ := h2 i p hp
    exact ⟨a1, u, a2, a3.chg k hS hbb⟩
theorem WaitsAt.blk {v : Value} {ws : List (Nat × List UInt8)} {b : Nat} (h : WaitsAt w bs v ws) (hb : v.ownBlock = some b) : ∃ c, Blk w b c 88 := by
  obtain ⟨xs, h1, _⟩ := h
  rcases h1.2 with ⟨rfl, _⟩ | ⟨g, cap, cur, rfl, hB, hg, r⟩
  · simp [Value.ownBlock] at hb
  · simp [Value.ownBlock] at hb
    subst hb
    exact ⟨cur, hg⟩

/-- What a disk has is there still where others turned. -/
theorem DiskAt.keep (h : DiskAt w f st) (k : Chg S w w') (hS : ∀ i, f.has i → ¬ S i) : DiskAt w' f st := by
  have hb : ∀ i, f.bs i → ¬ S i := fun i hi => hS i (.inr hi)
  obtain ⟨wv, h1, h2, h3⟩ := h.head
  exact ⟨⟨wv, h1.chg k (hS _ (.inl (.inl rfl))), h2, h3.chg k (fun b e => hS b (.inl (.inr (.inr (.inr (by rw [← h2]; exact e)))))) hb (fun _ e => e)⟩,
    h.now.chg k (hS _ (.inl (.inr (.inl rfl)))) hb (fun _ e => e), h.safe.chg k (hS _ (.inl (.inr (.inr (.inl rfl))))) hb (fun _ e => e), h.ne, h.inv, h.len, h.fuse,
    fun i hi => Nat.lt_of_lt_of_le (h.lt i hi) k.size, fun i hi => by obtain ⟨c, hc⟩ := h.ty i hi; exact ⟨c, hc.chg k (hb i hi)⟩⟩
theorem DiskAt.below (h : DiskAt w f st) (k : Below w.heap.size w w') : DiskAt w' f st := by
  have hlt : ∀ i, f.has i → i < w.heap.size := by
    obtain ⟨wv, h1, h2, h3⟩ := h.head
    intro i hi
    rcases hi with (rfl | rfl | rfl | hw) | hi
    · exact h1.lt
    · obtain ⟨c, hc, _⟩ := h.now; exact hc.lt
    · obtain ⟨c, hc, _⟩ := h.safe; exact hc.lt
    · obtain ⟨c, hc⟩ := h3.blk (by rw [h2]; exact hw); exact hc.lt
    · exact h.lt i hi
  exact h.keep (S := fun i => w.heap.size ≤ i) (Chg.of_below k (fun i _ e => e)) (fun i hi e => by have := hlt i hi; omega)
theorem DiskAt.hasLt (h : DiskAt w f st) : ∀ i, f.has i → i < w.heap.size := by
  obtain ⟨wv, h1, h2, h3⟩ := h.head
  intro i hi
  rcases hi with (rfl | rfl | rfl | hw) | hi
  · exact h1.lt
  · obtain ⟨c, hc, _⟩ := h.now; exact hc.lt
  · obtain ⟨c, hc, _⟩ := h.safe; exact hc.lt
  · obtain ⟨c, hc⟩ := h3.blk (by rw [h2]; exact hw); exact hc.lt
  · exact h.lt i hi
/-- The disk's own block is none of the others. -/
theorem DiskAt.gNe (h : DiskAt w f st) : f.n ≠ f.g ∧ f.s ≠ f.g ∧ f.w ≠ some f.g ∧ ¬ f.bs f.g := by
  obtain ⟨wv, h1, h2, h3⟩ := h.head
  obtain ⟨c1, k1, _⟩ := h.now
  obtain ⟨c2, k2, _⟩ := h.safe
  refine ⟨k1.ne h1 (by decide), k2.ne h1 (by decide), fun e => ?_, fun e => ?_⟩
  · obtain ⟨c, hc⟩ := h3.blk (by rw [h2]; exact e)
    exact hc.ne h1 (by decide) rfl
  · obtain ⟨c, hc⟩ := h.ty _ e
    exact hc.ne h1 (by decide) rfl

/-- Fuse, power and steps alone turn. -/
theorem DiskAt.headed (h : DiskAt w f st) (k : Chg (fun i => i = f.g) w w') {fu : Nat} {dn : Bool} {sp : Nat} (hfu : fu < 9223372036854775808)
    (hb : ∀ wv, Blk w f.g (hd f.n f.s st.now.length wv st.fuse st.down st.steps) 70 → Blk w' f.g (hd f.n f.s st.now.length wv fu dn sp) 70) : DiskAt w' f { st with fuse := fu, down := dn, steps := sp } := by
  obtain ⟨n1, n2, n3, n4⟩ := h.gNe
  obtain ⟨wv, h1, h2, h3⟩ := h.head
  have hbs : ∀ i, f.bs i → ¬ (i = f.g) := fun i hi e => by subst e; exact n4 hi
  exact ⟨⟨wv, hb wv h1, h2, h3.chg k (fun b e hh => n3 (by rw [← h2, e, hh])) hbs (fun _ e => e)⟩, h.now.chg k n1 hbs (fun _ e => e), h.safe.chg k n2 hbs (fun _ e => e), h.ne,
    ⟨h.inv.len, h.inv.ats, h.inv.rest, h.inv.nows, h.inv.safes, h.inv.wlen⟩, h.len, hfu, fun i hi => Nat.lt_of_lt_of_le (h.lt i hi) k.size, fun i hi => by obtain ⟨c, hc⟩ := h.ty i hi; exact ⟨c, hc.chg k (hbs i hi)⟩⟩

/-- What a call on a disk may do: new blocks, and to its own. -/
structure Turned (f : Foot) (w : World) (f' : Foot) (w' : World) : Prop where
  g : f'.g = f.g
  new : ∀ k, f'.has k → f.has k ∨ w.heap.size ≤ k
  chg : Chg f.has w w'
theorem Turned.refl (f : Foot) (w : World) : Turned f w f w := ⟨rfl, fun _ h => .inl h, Chg.refl _ _⟩
theorem Turned.trans {f'' : Foot} {w'' : World} (h : Turned f w f' w') (k : Turned f' w' f'' w'') : Turned f w f'' w'' :=
  ⟨k.g.trans h.g, fun i hi => by
    rcases k.new i hi with h' | h'
    · exact h.new i h'
    · exact .inr (Nat.le_trans h.chg.size h'), h.chg.trans k.chg (fun i hi e => by
      rcases h.new i e with h' | h'
      · exact h'
      · omega)⟩
theorem Turned.not {m : Nat} (h : Turned f w f' w') (hm : m < w.heap.size) (hn : ¬ f.has m) : ¬ f'.has m := fun e => by
  rcases h.new m e with h' | h'
  · exact hn h'
  · omega
theorem Turned.of_chg (k : Chg (fun i => i = f.g) w w') : Turned f w f w' := ⟨rfl, fun _ h => .inl h, k.mono (fun _ _ e => .inl (.inl e))⟩
theorem Turned.of_below (k : Below w.heap.size w w') : Turned f w f w' := ⟨rfl, fun _ h => .inl h, Chg.of_below k (fun _ h e => by omega)⟩
end

/-- A disk in memory, by its pointer. -/
abbrev dptr (g : Nat) : Value := .pointer (some ⟨g, 0, none⟩)

section
variable {w : World} {f : Foot} {st : DSt}
theorem DiskAt.cells (h : DiskAt w f st) : ∃ wv, w.cell? ⟨f.g, 0, none⟩ = some (.slice (some ⟨f.n, 0, none⟩) st.now.length st.now.length) ∧ w.cell? ⟨f.g, 1, none⟩ = some (.slice (some ⟨f.s, 0, none⟩) st.now.length st.now.length) ∧ w.cell? ⟨f.g, 2, none⟩ = some wv ∧
    w.cell? ⟨f.g, 3, none⟩ = some (.int .i64 (st.fuse : Int)) ∧ w.cell? ⟨f.g, 4, none⟩ = some (.bool st.down) ∧ w.cell? ⟨f.g, 5, none⟩ = some (.int .i64 (st.steps : Int)) ∧ WaitsAt w f.bs wv st.waits ∧ wv.ownBlock = f.w ∧ (∀ i, w.frozen? ⟨f.g, i, none⟩ = false) ∧ Blk w f.g (hd f.n f.s st.now.length wv st.fuse st.down st.steps) 70 := by
  obtain ⟨wv, h1, h2, h3⟩ := h.head
  exact ⟨wv, h1.cell 0, h1.cell 1, h1.cell 2, h1.cell 3, h1.cell 4, h1.cell 5, h3, h2, h1.frozen, h1⟩
end

set_option maxHeartbeats 400000 in
theorem len_any (f : Foot) (st : DSt) (w : World) (h : DiskAt w f st) : Calls Try.prog 37 #[dptr f.g] w fun e w' => e = .returned (.int .i64 (st.now.length : Int)) ∧ w' = w := by
  obtain ⟨wv, c0, c1, c2, c3, c4, c5, hw, ho, hf, hB⟩ := h.cells
  clear c1 c2 c3 c4 c5 hw ho hf hB h
  generalize st.now.length = n at *
  generalize f.g = g at *
  go_enter Try.func37, Try.ntmps37
  go_wp2
  go_ret
  exact ⟨rfl, rfl⟩

theorem chgG {g : Nat} {w w' : World} (h : Chg (fun i => i = g) w w') (j : Nat) (v : Value) : Chg (fun i => i = g) w (w'.setCell ⟨g, j, none⟩ v) := h.setCell ⟨g, j, none⟩ (fun _ => rfl) v

set_option maxHeartbeats 400000 in
theorem step_any (f : Foot) (st : DSt) (w : World) (h : DiskAt w f st) (hs : st.steps < 4611686018427387904) :
    Calls Try.prog 52 #[dptr f.g] w fun e w' => e = .returned (.int .i64 st.stepErr) ∧ DiskAt w' f st.stepped ∧ Chg (fun i => i = f.g) w w' := by
  have HD : Hid (DiskAt w f st) := h
  have hfz := h.fuse
  obtain ⟨wv, c0, c1, c2, c3, c4, c5, hw, ho, hf, hB⟩ := h.cells
  clear c0 c1 c2 hw ho hB h
  by_cases h1 : st.fuse = 1
  · have HR : Hid (st.stepErr = 8 ∧ st.stepped = { st with fuse := st.fuse, down := true, steps := st.steps }) := by unfold DSt.stepErr DSt.stepped; rw [if_pos h1, if_pos h1]; exact ⟨rfl, rfl⟩
    rw [h1] at c3
    clear h1
    go_enter Try.func52, Try.ntmps52
    go_wp2
    go_ret
    obtain ⟨r1, r2⟩ := HR.out
    have hch := chgG (Chg.refl (fun i => i = f.g) w) 4 (.bool true)
    exact ⟨by rw [r1]; rfl, by rw [r2]; exact HD.out.headed hch hfz (fun wv hb => hb.set 4 _), hch⟩
  · have hb1 : ((st.fuse : Int) == 1) = false := beq_eq_false_iff_ne.2 (by omega)
    rcases (show st.fuse = 0 ∨ ∃ q, st.fuse = q + 2 from by rcases hq : st.fuse with _ | _ | q; exact .inl rfl; exact absurd hq h1; exact .inr ⟨q, rfl⟩) with hz | ⟨q, hz⟩
    · have HR : Hid (st.stepErr = 0 ∧ st.stepped = { st with fuse := 0, down := st.down, steps := st.steps + 1 }) := by unfold DSt.stepErr DSt.stepped; rw [if_neg h1, if_neg h1, hz]; exact ⟨rfl, rfl⟩
      rw [hz] at c3 hb1
      clear h1 hz
      go_enter Try.func52, Try.ntmps52
      go_wp2
      go_ret
      obtain ⟨r1, r2⟩ := HR.out
      have hch := chgG (chgG (Chg.refl (fun i => i = f.g) w) 3 (.int .i64 0)) 5 (.int .i64 ((st.steps : Int) + 1))
      exact ⟨by rw [r1]; rfl, by rw [r2]; exact HD.out.headed hch (by omega) (fun wv hb => (hb.set 3 _).set 5 _), hch⟩
    · have HR : Hid (st.stepErr = 0 ∧ st.stepped = { st with fuse := q + 1, down := st.down, steps := st.steps + 1 }) := by unfold DSt.stepErr DSt.stepped; rw [if_neg h1, if_neg h1, hz]; exact ⟨rfl, rfl⟩
      have e2 : ((q + 2 : Nat) : Int) = (q : Int) + 2 := by omega
      rw [hz] at c3 hb1 hfz
      rw [e2] at c3 hb1
      clear h1 hz e2
      go_enter Try.func52, Try.ntmps52
      go_wp2
      go_ret
      obtain ⟨r1, r2⟩ := HR.out
      have e3 : ((q : Int) + 2 - 1) = ((q + 1 : Nat) : Int) := by omega
      have e4 : ((st.steps : Int) + 1) = ((st.steps + 1 : Nat) : Int) := by omega
      rw [e3, e4]
      have hch := chgG (chgG (Chg.refl (fun i => i = f.g) w) 3 (.int .i64 ((q + 1 : Nat) : Int))) 5 (.int .i64 ((st.steps + 1 : Nat) : Int))
      exact ⟨by rw [r1]; rfl, by rw [r2]; exact HD.out.headed hch (by omega) (fun wv hb => (hb.set 3 _).set 5 _), hch⟩

set_option maxHeartbeats 400000 in
theorem has_any (f : Foot) (st : DSt) (i : Int) (w : World) (h : DiskAt w f st) : Calls Try.prog 50 #[dptr f.g, .int .i64 i] w fun e w' => e = .returned (.bool (decide (0 ≤ i ∧ i < (st.now.length : Int)))) ∧ w' = w := by
  by_cases h0 : 0 ≤ i
  · have hd : decide (0 ≤ i ∧ i < (st.now.length : Int)) = decide (i < (st.now.length : Int)) := by simp [h0]
    rw [hd]
    have h0' : decide (0 ≤ i) = true := decide_eq_true h0
    clear hd
    go_enter Try.func50, Try.ntmps50
    go_wp2_with fail
    refine (len_any f st w h).mono ?_
    rintro e w' ⟨rfl, hw⟩; rw [hw]; clear hw w'
    go_wp2
    go_ret
    exact ⟨rfl, rfl⟩
  · have hd : decide (0 ≤ i ∧ i < (st.now.length : Int)) = false := by simp [h0]
    rw [hd]
    have h0' : decide (0 ≤ i) = false := decide_eq_false h0
    clear hd
    go_enter Try.func50, Try.ntmps50
    go_wp2
    go_ret
    exact ⟨rfl, rfl⟩

set_option maxHeartbeats 400000 in
theorem down_any (f : Foot) (st : DSt) (w : World) (h : DiskAt w f st) : Calls Try.prog 22 #[dptr f.g] w fun e w' => e = .returned (.bool st.down) ∧ w' = w := by
  obtain ⟨wv, c0, c1, c2, c3, c4, c5, hw, ho, hf, hB⟩ := h.cells
  clear c0 c1 c2 c3 c5 hw ho hf hB h
  go_enter Try.func22, Try.ntmps22
  go_wp2
  go_ret
  exact ⟨rfl, rfl⟩

theorem WaitsAt.form {w : World} {bs : Nat → Prop} {v : Value} {ws : List (Nat × List UInt8)} (h : WaitsAt w bs v ws) : ∃ ao cap, v = .slice ao ws.length cap ∧ (ao = none → ws = [] ∧ cap = 0) ∧ (∀ a, ao = some a → a = ⟨a.block, 0, none⟩) ∧ ws.length ≤ cap ∧ cap ≤ maxLen := by
  obtain ⟨xs, h1, _⟩ := h
  rcases h1.2 with ⟨rfl, hn⟩ | ⟨g, cap, cur, rfl, hB, hg, h3, h4, r⟩
  · have : ws = [] := List.eq_nil_of_length_eq_zero hn
    subst this
    exact ⟨none, 0, rfl, fun _ => ⟨rfl, rfl⟩, fun a e => (by cases e), Nat.le_refl _, Nat.zero_le _⟩
  · exact ⟨_, cap, rfl, fun e => (by cases e), fun a e => (by cases e; rfl), h3, h4⟩

set_option maxHeartbeats 400000 in
theorem off_any (f : Foot) (st : DSt) (w : World) (h : DiskAt w f st) : Calls Try.prog 29 #[dptr f.g] w fun e w' => e = .returned (.tuple #[]) ∧ DiskAt w' f { st with down := true } ∧ Chg (fun i => i = f.g) w w' := by
  have HD : Hid (DiskAt w f st) := h
  have hfz := h.fuse
  obtain ⟨wv, c0, c1, c2, c3, c4, c5, hw, ho, hf, hB⟩ := h.cells
  clear c0 c1 c2 c3 c5 hw ho hB h
  go_enter Try.func29, Try.ntmps29
  go_wp2
  go_end0
  have hch := chgG (Chg.refl (fun i => i = f.g) w) 4 (.bool true)
  exact ⟨rfl, HD.out.headed hch hfz (fun wv hb => hb.set 4 _), hch⟩

set_option maxHeartbeats 400000 in
theorem fuse_up (f : Foot) (st : DSt) (i : Int) (w : World) (h : DiskAt w f st) (hd : st.down = false) (hi : i < 9223372036854775808) : Calls Try.prog 21 #[dptr f.g, .int .i64 i] w fun e w' => e = .returned (.tuple #[]) ∧ DiskAt w' f { st with fuse := i.toNat } ∧ Chg (fun i => i = f.g) w w' := by
  have HD : Hid (DiskAt w f st) := h
  obtain ⟨wv, c0, c1, c2, c3, c4, c5, hw, ho, hf, hB⟩ := h.cells
  rw [hd] at c4
  clear c0 c1 c2 c5 hw ho hB h hd
  rcases (show i < 0 ∨ 0 ≤ i by omega) with h0 | h0
  · have HT : Hid (i.toNat = 0) := by show i.toNat = 0; omega
    have h0' : ¬ 0 ≤ i := by omega
    go_enter Try.func21, Try.ntmps21
    go_wp2
    go_end0
    have hch := chgG (Chg.refl (fun i => i = f.g) w) 3 (.int .i64 0)
    exact ⟨rfl, by rw [HT.out]; exact HD.out.headed hch (by omega) (fun wv hb => hb.set 3 _), hch⟩
  · obtain ⟨q, rfl⟩ := Int.eq_ofNat_of_zero_le h0
    rw [Int.toNat_natCast]
    have h0' : ¬ (q : Int) < 0 := by omega
    go_enter Try.func21, Try.ntmps21
    go_wp2
    go_end0
    have hch := chgG (Chg.refl (fun i => i = f.g) w) 3 (.int .i64 (q : Int))
    exact ⟨rfl, HD.out.headed hch (by omega) (fun wv hb => hb.set 3 _), hch⟩

set_option maxHeartbeats 400000 in
theorem fuse_down (f : Foot) (st : DSt) (i : Int) (w : World) (h : DiskAt w f st) (hd : st.down = true) : Calls Try.prog 21 #[dptr f.g, .int .i64 i] w fun e w' => e = .returned (.tuple #[]) ∧ w' = w := by
  obtain ⟨wv, c0, c1, c2, c3, c4, c5, hw, ho, hf, hB⟩ := h.cells
  rw [hd] at c4
  clear c0 c1 c2 c3 c5 hw ho hB h hd
  go_enter Try.func21, Try.ntmps21
  go_wp2
  refine bodyPost_ret (results_none rfl _ _ _) rfl ?_
  exact ⟨rfl, rfl⟩

/-! A nil disk. -/
set_option maxHeartbeats 400000 in
theorem len_nil (w : World) : Calls Try.prog 37 #[.pointer none] w fun e w' => e = .returned (.int .i64 0) ∧ w' = w := by
  go_enter Try.func37, Try.ntmps37
  go_wp2
  go_ret
  exact ⟨rfl, rfl⟩
set_option maxHeartbeats 400000 in
theorem has_nil (i : Int) (w : World) : Calls Try.prog 50 #[.pointer none, .int .i64 i] w fun e w' => e = .returned (.bool false) ∧ w' = w := by
  by_cases h0 : 0 ≤ i
  · have h0' : decide (0 ≤ i) = true := decide_eq_true h0
    have h1 : decide (i < 0) = false := decide_eq_false (by omega)
    go_enter Try.func50, Try.ntmps50
    go_wp2_with fail
    refine (len_nil w).mono ?_
    rintro e w' ⟨rfl, hw⟩; rw [hw]; clear hw w'
    go_wp2
    go_ret
    exact ⟨rfl, rfl⟩
  · have h0' : decide (0 ≤ i) = false := decide_eq_false h0
    go_enter Try.func50, Try.ntmps50
    go_wp2
    go_ret
    exact ⟨rfl, rfl⟩
end Go.Proofs.Ytepfckckplbjjaa
