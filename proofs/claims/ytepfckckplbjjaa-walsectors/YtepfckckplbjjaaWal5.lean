/- The log: an entry, read. Own lemmas, no statement. -/
import Derived.Test.YtepfckckplbjjaaWal4
namespace Go.Proofs.Ytepfckckplbjjaa
open Go.ChangeShapes Go.WideShapes Go.ChangeAt Go.RowKit

/-- An entry from a number on: its bytes, its life, the number behind it. -/
def entW (lk : Nat → Option Pc) (n0 least : Nat) : Nat → Nat → List UInt8 → Nat → Option (List UInt8 × Nat × Nat)
  | 0, _, _, _ => none
  | fuel + 1, k, acc, life => match lk k with
    | none => none
    | some p => if p.life < least ∨ (n0 < k ∧ p.life ≠ life) then none else if p.last then some (join acc p.text, p.life, k + 1) else entW lk n0 least fuel (k + 1) (join acc p.text) p.life

theorem readPc_num {b : List UInt8} {n : Nat} {p : Pc} (h : readPc b n = some p) : (pc1 b).1 = n + 1 := by
  unfold readPc at h
  split at h
  · rename_i hc; exact hc.2.1
  · cases h
theorem rtext_len (l : List UInt8) (err M : Nat) : (rtext l err M).1.length ≤ M := by
  have hf := rnum_facts l err M
  unfold rtext
  split
  · simp
  · rename_i h0
    split
    · simp
    · have := hf.2.1 (by omega)
      show ((rnum l err M).2.1.take _).length ≤ M
      rw [List.length_take]
      omega
theorem readPc_len {b : List UInt8} {n : Nat} {p : Pc} (h : readPc b n = some p) : p.text.length ≤ 480 ∧ p.life < 18446744073709551616 := by
  unfold readPc at h
  split at h
  · cases h
    exact ⟨rtext_len _ _ _, (rnum_facts _ _ _).1⟩
  · cases h
theorem look_some {s : LSt} {st : DSt} {n : Nat} {p : Pc} (h : look s st n = some p) : ∃ b, st.got (s.place n) = .ok b ∧ readPc b n = some p := by
  unfold look at h
  split at h
  · rename_i b hb; exact ⟨b, hb, h⟩
  · cases h
/-- Once round, the numbers aren't theirs any more. -/
theorem look_round {s : LSt} {st : DSt} {n : Nat} {p : Pc} (h : look s st n = some p) (hr : 0 < s.room) : look s st (n + s.room) = none := by
  obtain ⟨b, h1, h2⟩ := look_some h
  have hp : s.place (n + s.room) = s.place n := by unfold LSt.place; rw [Nat.add_mod_right]
  unfold look
  rw [hp, h1]
  show readPc b (n + s.room) = none
  cases hq : readPc b (n + s.room) with
  | none => rfl
  | some q =>
    have e1 := readPc_num h2
    have e2 := readPc_num hq
    omega

/-- While an entry is read. -/
structure EntS (w wr : World) (g : Nat) (f : Foot) (s : LSt) (st : DSt) (v : Value) (acc : List UInt8) (life k : Nat) : Prop where
  e : Blk wr (w.heap.size + 1) #[v, .int .u64 (life : Int), .int .u64 (k : Int)] 95
  z : Blk wr w.heap.size #[.slice none 0 0, .int .u64 0, .int .u64 0] 95
  o : Own wr (w.heap.size + 2) v acc
  l : WL wr g f s st
  bel : Below w.heap.size w wr
theorem EntS.below {w wr wx : World} {g : Nat} {f : Foot} {s : LSt} {st : DSt} {v : Value} {acc : List UInt8} {life k : Nat} (h : EntS w wr g f s st v acc life k) (hb : Below wr.heap.size wr wx) : EntS w wx g f s st v acc life k :=
  ⟨h.e.of (hb.block _ h.e.lt), h.z.of (hb.block _ h.z.lt), h.o.below hb, h.l.below hb, h.bel.trans (hb.mono h.bel.size)⟩
theorem Own.low {w : World} {B : Nat} {v : Value} {l : List UInt8} (h : Own w B v l) {k : Nat} (hk : v.ownBlock = some k) : B ≤ k ∧ ∃ cs, Blk w k cs 5 := by
  rcases h.2 with ⟨rfl, _⟩ | ⟨g, cap, cur, rfl, hb, hg, _⟩
  · cases hk
  · simp only [Value.ownBlock, Option.some.injEq] at hk
    subst hk
    exact ⟨hb, cur, hg⟩
theorem Own.chg {S : Nat → Prop} {w w' : World} {B : Nat} {v : Value} {l : List UInt8} (h : Own w B v l) (k : Chg S w w') (hn : ∀ b, v.ownBlock = some b → ¬ S b) : Own w' B v l := by
  refine ⟨h.1, ?_⟩
  rcases h.2 with hh | ⟨g, cap, cur, rfl, hb, hg, r⟩
  · exact .inl hh
  · exact .inr ⟨g, cap, cur, rfl, hb, (k.block g (Blk.lt hg) (hn g rfl)).trans hg, r⟩
theorem WL.chg {S : Nat → Prop} {w w' : World} {g : Nat} {f : Foot} {s : LSt} {st : DSt} (h : WL w g f s st) (k : Chg S w w') (hg : ¬ S g) (hf : ∀ i, f.has i → ¬ S i) : WL w' g f s st := ⟨Blk.chg h.l k hg, h.d.keep k hf, h.ap, h.r0, h.fit⟩
theorem WL.lt {w : World} {g : Nat} {f : Foot} {s : LSt} {st : DSt} (h : WL w g f s st) : g < w.heap.size ∧ ∀ i, f.has i → i < w.heap.size := ⟨Blk.lt h.l, h.d.hasLt⟩

/-- The sector's text is laid behind. -/
theorem EntS.turn {w w2 w3 : World} {g : Nat} {f : Foot} {s : LSt} {st : DSt} {v v' : Value} {acc acc' : List UInt8} {life k life' : Nat} (hL : ∀ i, (i = g ∨ f.has i) → i < w.heap.size) (h : EntS w w2 g f s st v acc life k) (ho : Own w3 (w.heap.size + 2) v' acc') (hg : w2.grownBy w3 v.ownBlock) :
    EntS w (((w3.setCell ⟨w.heap.size + 1, 0, none⟩ v').setCell ⟨w.heap.size + 1, 1, none⟩ (.int .u64 (life' : Int))).setCell ⟨w.heap.size + 1, 2, none⟩ (.int .u64 ((k : Int) + 1))) g f s st v' acc' life' (k + 1) ∧ Blk w3 (w.heap.size + 1) #[v, .int .u64 (life : Int), .int .u64 (k : Int)] 95 ∧ Blk w3 w.heap.size #[.slice none 0 0, .int .u64 0, .int .u64 0] 95 := by
  have hc : Chg (fun j => w.heap.size + 2 ≤ j) w2 w3 := (Chg.refl _ _).grown hg (fun j e _ => (h.o.low e).1)
  have he3 := h.e.chg hc (by omega)
  have hz3 := h.z.chg hc (by omega)
  have hl3 := h.l.chg hc (fun e => by have := hL g (.inl rfl); omega) (fun i hi e => by have := hL i (.inr hi); omega)
  have hb3 := h.bel.trans (hc.below h.bel.size (fun j e => by omega))
  have he4 := ((he3.set 0 v').set 1 (.int .u64 (life' : Int))).set 2 (.int .u64 ((k : Int) + 1))
  have hc4 : Chg (fun j => j = w.heap.size + 1) w3 (((w3.setCell ⟨w.heap.size + 1, 0, none⟩ v').setCell ⟨w.heap.size + 1, 1, none⟩ (.int .u64 (life' : Int))).setCell ⟨w.heap.size + 1, 2, none⟩ (.int .u64 ((k : Int) + 1))) :=
    (((Chg.refl (fun j => j = w.heap.size + 1) w3).setCell ⟨w.heap.size + 1, 0, none⟩ (fun _ => rfl) _).setCell ⟨w.heap.size + 1, 1, none⟩ (fun _ => rfl) _).setCell ⟨w.heap.size + 1, 2, none⟩ (fun _ => rfl) _
  refine ⟨⟨by simpa using he4, hz3.chg hc4 (by omega), ho.chg hc4 (fun b e x => by have := (ho.low e).1; have : b = w.heap.size + 1 := x; omega), hl3.chg hc4 (fun e => by have := hL g (.inl rfl); have : g = w.heap.size + 1 := e; omega) (fun i hi e => by have := hL i (.inr hi); have : i = w.heap.size + 1 := e; omega), hb3.trans (hc4.below hb3.size (fun j e => by have : j = w.heap.size + 1 := e; omega))⟩, he3, hz3⟩
theorem entW_none {lk : Nat → Option Pc} {n0 least m k life : Nat} {acc : List UInt8} (hm : 0 < m) (h : lk k = none) : entW lk n0 least m k acc life = none := by
  obtain ⟨m, rfl⟩ : ∃ j, m = j + 1 := ⟨m - 1, by omega⟩
  unfold entW
  rw [h]
theorem entW_bad {lk : Nat → Option Pc} {n0 least m k life : Nat} {acc : List UInt8} {p : Pc} (hm : 0 < m) (h : lk k = some p) (hb : p.life < least ∨ (n0 < k ∧ p.life ≠ life)) : entW lk n0 least m k acc life = none := by
  obtain ⟨m, rfl⟩ : ∃ j, m = j + 1 := ⟨m - 1, by omega⟩
  unfold entW
  rw [h]
  simp only
  rw [if_pos hb]
theorem entW_last {lk : Nat → Option Pc} {n0 least m k life : Nat} {acc : List UInt8} {p : Pc} (hm : 0 < m) (h : lk k = some p) (hb : ¬ (p.life < least ∨ (n0 < k ∧ p.life ≠ life))) (hl : p.last = true) : entW lk n0 least m k acc life = some (join acc p.text, p.life, k + 1) := by
  obtain ⟨m, rfl⟩ : ∃ j, m = j + 1 := ⟨m - 1, by omega⟩
  unfold entW
  rw [h]
  simp only
  rw [if_neg hb, if_pos hl]
theorem entW_more {lk : Nat → Option Pc} {n0 least m k life : Nat} {acc : List UInt8} {p : Pc} (hm : 0 < m) (h : lk k = some p) (hb : ¬ (p.life < least ∨ (n0 < k ∧ p.life ≠ life))) (hl : p.last = false) : entW lk n0 least m k acc life = entW lk n0 least (m - 1) (k + 1) (join acc p.text) p.life := by
  obtain ⟨m, rfl⟩ : ∃ j, m = j + 1 := ⟨m - 1, by omega⟩
  conv => lhs; unfold entW
  rw [h]
  simp only
  rw [if_neg hb, hl]
  rfl

def entV (v : Value) (life next : Nat) : Value := .agg #[v, .int .u64 (life : Int), .int .u64 (next : Int)]
/-- What the reading of an entry comes to. -/
def EntP (w : World) (r : Option (List UInt8 × Nat × Nat)) (e : Ending) (w' : World) : Prop :=
  Below w.heap.size w w' ∧ match r with
    | none => e = .returned (.tuple #[.agg #[.slice none 0 0, .int .u64 0, .int .u64 0], .bool false])
    | some (t, life, next) => ∃ v, e = .returned (.tuple #[.agg #[v, .int .u64 (life : Int), .int .u64 (next : Int)], .bool true]) ∧ Own w' (w.heap.size + 2) v t
/-- How far a reading may go still. -/
def entMu (b top : Nat) (wr : World) : Nat := match wr.cell? ⟨b, 2, none⟩ with
  | some (.int _ k) => top - k.toNat
  | _ => 0

set_option maxRecDepth 10000 in
set_option maxHeartbeats 4000000 in
theorem entry_any {w : World} {g : Nat} {f : Foot} {s : LSt} {st : DSt} (h : WL w g f s st) (n least : Nat) (hn : n < 9223372036854000000) :
    Calls Try.prog 54 #[lptr g, .int .u64 (n : Int), .int .u64 (least : Int)] w (EntP w (entW (look s st) n least (s.room + 1) n [] 0)) := by
  have hb0 : Below w.heap.size w ((w.alloc (.cells #[.slice none 0 0, .int .u64 0, .int .u64 0] 95)).alloc (.cells #[.slice none 0 0, .int .u64 0, .int .u64 (n : Int)] 95)) := ((Below.refl _ _).alloc (Nat.le_refl _) _).alloc (by simp) _
  have k1 := Blk.new (w.alloc (.cells #[.slice none 0 0, .int .u64 0, .int .u64 0] 95)) #[.slice none 0 0, .int .u64 0, .int .u64 (n : Int)] 95
  rw [show (w.alloc (.cells #[.slice none 0 0, .int .u64 0, .int .u64 0] 95)).heap.size = w.heap.size + 1 by simp] at k1
  have HS0 : Hid (EntS w ((w.alloc (.cells #[.slice none 0 0, .int .u64 0, .int .u64 0] 95)).alloc (.cells #[.slice none 0 0, .int .u64 0, .int .u64 (n : Int)] 95)) g f s st (.slice none 0 0) [] 0 n) :=
    ⟨k1, (Blk.new w _ _).alloc _, Own.nil _ _, h.below hb0, hb0⟩
  have HL : Hid (∀ i, (i = g ∨ f.has i) → i < w.heap.size) := fun i hi => by
    rcases hi with rfl | hi
    · exact h.lt.1
    · exact h.lt.2 i hi
  have HR0 : Hid (0 < s.room ∧ s.room < 65536) := ⟨h.r0, h.bounds.1⟩
  clear hb0 k1 h
  unfold lptr
  go_enter Try.func54, Try.ntmps54
  go_wp2_with fail
  go_loopw [] (fun wr => ∃ (k life : Nat) (acc : List UInt8) (v : Value), EntS w wr g f s st v acc life k ∧ n ≤ k ∧ k ≤ n + s.room ∧ acc.length ≤ 480 * (k - n) ∧ (n < k → ∃ p, look s st n = some p) ∧ entW (look s st) n least (n + s.room + 1 - k) k acc life = entW (look s st) n least (s.room + 1) n [] 0) (fun wr => entMu (w.heap.size + 1) (n + s.room + 1) wr)
  case atStart => exact ⟨n, 0, [], _, HS0.out, Nat.le_refl _, by omega, by simp, fun h => by omega, by rw [show n + s.room + 1 - n = s.room + 1 by omega]⟩
  case round =>
    clear HS0
    obtain ⟨k, life, acc, v, hS, hk1, hk2, hal, hfst, hW⟩ := hrel
    have HS : Hid (EntS w wr g f s st v acc life k) := hS
    have HW : Hid (entW (look s st) n least (n + s.room + 1 - k) k acc life = entW (look s st) n least (s.room + 1) n [] 0) := hW
    have HF : Hid (n < k → ∃ p, look s st n = some p) := hfst
    have c2 : wr.cell? ⟨w.heap.size + 1, 2, none⟩ = some (.int .u64 (k : Int)) := hS.e.cell 2
    have H1 : Hid (Calls _ _ _ _ _) := piece_any hS.l k (by have := HR0.out; omega)
    have hr := HR0.out.2
    clear hS hW hfst
    unfold lptr at H1
    go_wp2_with fail
    refine Calls.mono H1.out ?_
    rintro e w1 ⟨rfl, hb1⟩
    have HS1 : Hid (EntS w w1 g f s st v acc life k) := HS.out.below hb1
    clear hb1 H1 c2
    cases hlk : look s st k with
    | none =>
      have HN : Hid (entW (look s st) n least (n + s.room + 1 - k) k acc life = none) := entW_none (by omega) hlk
      unfold pcO pcZ
      rw [Option.isSome_none]
      have hbA : Below w1.heap.size w1 (w1.alloc (.cells #[.int .u64 0, .int .u64 0, .bool false, .string ⟨#[]⟩] 83)) := (Below.refl _ _).alloc (Nat.le_refl _) _
      have hS2 := HS1.out.below hbA
      have HZ2 : Hid (Blk (w1.alloc (.cells #[.int .u64 0, .int .u64 0, .bool false, .string ⟨#[]⟩] 83)) w.heap.size #[.slice none 0 0, .int .u64 0, .int .u64 0] 95) := hS2.z
      have HE2 : Hid (Below w.heap.size w (w1.alloc (.cells #[.int .u64 0, .int .u64 0, .bool false, .string ⟨#[]⟩] 83))) := hS2.bel
      have z0 : (w1.alloc (.cells #[.int .u64 0, .int .u64 0, .bool false, .string ⟨#[]⟩] 83)).cell? ⟨w.heap.size, 0, none⟩ = some (.slice none 0 0) := HZ2.out.cell 0
      have z1 : (w1.alloc (.cells #[.int .u64 0, .int .u64 0, .bool false, .string ⟨#[]⟩] 83)).cell? ⟨w.heap.size, 1, none⟩ = some (.int .u64 0) := HZ2.out.cell 1
      have z2 : (w1.alloc (.cells #[.int .u64 0, .int .u64 0, .bool false, .string ⟨#[]⟩] 83)).cell? ⟨w.heap.size, 2, none⟩ = some (.int .u64 0) := HZ2.out.cell 2
      have f0 := HZ2.out.frozen 0
      have f1 := HZ2.out.frozen 1
      have f2 := HZ2.out.frozen 2
      clear hlk hbA hS2
      go_wp2_with fail
      have hb4 := ((HZ2.out.set 0 (.slice none 0 0)).set 1 (.int .u64 0)).set 2 (.int .u64 0)
      refine bodyPost_ret (results_pair (ty := 95) rfl _ _ w.heap.size 95 #[.slice none 0 0, .int .u64 0, .int .u64 0] (.bool false) _ rfl rfl (by simpa using hb4) Try.underlying95 rfl (by kernel_rfl)) rfl ?_
      rw [← HW.out, HN.out]
      exact ⟨((HE2.out.setCell (Nat.le_refl _) _).setCell (Nat.le_refl _) _).setCell (Nat.le_refl _) _, rfl⟩
    | some p =>
      obtain ⟨bb, hgot, hrd⟩ := look_some hlk
      have hpl := readPc_len hrd
      unfold pcO pcV
      rw [Option.isSome_some]
      have hbA : Below w1.heap.size w1 (w1.alloc (.cells #[.int .u64 (k : Int), .int .u64 (p.life : Int), .bool p.last, .string ⟨p.text.toArray⟩] 83)) := (Below.refl _ _).alloc (Nat.le_refl _) _
      have HS2 : Hid (EntS w (w1.alloc (.cells #[.int .u64 (k : Int), .int .u64 (p.life : Int), .bool p.last, .string ⟨p.text.toArray⟩] 83)) g f s st v acc life k) := HS1.out.below hbA
      have HP2 : Hid (Blk (w1.alloc (.cells #[.int .u64 (k : Int), .int .u64 (p.life : Int), .bool p.last, .string ⟨p.text.toArray⟩] 83)) w1.heap.size #[.int .u64 (k : Int), .int .u64 (p.life : Int), .bool p.last, .string ⟨p.text.toArray⟩] 83) := Blk.new _ _ _
      have hne1 : w1.heap.size ≠ w.heap.size + 1 := by have := HS1.out.e.lt; omega
      generalize hW2 : w1.alloc (.cells #[.int .u64 (k : Int), .int .u64 (p.life : Int), .bool p.last, .string ⟨p.text.toArray⟩] 83) = W2 at *
      have HZ2 : Hid (Blk W2 w.heap.size #[.slice none 0 0, .int .u64 0, .int .u64 0] 95) := HS2.out.z
      have HE2 : Hid (Below w.heap.size w W2) := HS2.out.bel
      have p1 : W2.cell? ⟨w1.heap.size, 1, none⟩ = some (.int .u64 (p.life : Int)) := HP2.out.cell 1
      have p2 : W2.cell? ⟨w1.heap.size, 2, none⟩ = some (.bool p.last) := HP2.out.cell 2
      have p3 : W2.cell? ⟨w1.heap.size, 3, none⟩ = some (.string ⟨p.text.toArray⟩) := HP2.out.cell 3
      have e0 : W2.cell? ⟨w.heap.size + 1, 0, none⟩ = some v := HS2.out.e.cell 0
      have e1 : W2.cell? ⟨w.heap.size + 1, 1, none⟩ = some (.int .u64 (life : Int)) := HS2.out.e.cell 1
      have e2 : W2.cell? ⟨w.heap.size + 1, 2, none⟩ = some (.int .u64 (k : Int)) := HS2.out.e.cell 2
      have HLK : Hid (look s st k = some p) := hlk
      clear hgot hrd hbA hlk
      by_cases hbad : p.life < least ∨ (n < k ∧ p.life ≠ life)
      · have HN : Hid (entW (look s st) n least (n + s.room + 1 - k) k acc life = none) := entW_bad (by omega) HLK.out hbad
        have z0 : W2.cell? ⟨w.heap.size, 0, none⟩ = some (.slice none 0 0) := HZ2.out.cell 0
        have z1 : W2.cell? ⟨w.heap.size, 1, none⟩ = some (.int .u64 0) := HZ2.out.cell 1
        have z2 : W2.cell? ⟨w.heap.size, 2, none⟩ = some (.int .u64 0) := HZ2.out.cell 2
        have f0 := HZ2.out.frozen 0
        have f1 := HZ2.out.frozen 1
        have f2 := HZ2.out.frozen 2
        by_cases hl1 : p.life < least
        · have d1 : decide ((p.life : Int) < (least : Int)) = true := decide_eq_true (by omega)
          clear hbad
          go_wp2_with fail
          have hb4 := ((HZ2.out.set 0 (.slice none 0 0)).set 1 (.int .u64 0)).set 2 (.int .u64 0)
          refine bodyPost_ret (results_pair (ty := 95) rfl _ _ w.heap.size 95 #[.slice none 0 0, .int .u64 0, .int .u64 0] (.bool false) _ rfl rfl (by simpa using hb4) Try.underlying95 rfl (by kernel_rfl)) rfl ?_
          rw [← HW.out, HN.out]
          exact ⟨((HE2.out.setCell (Nat.le_refl _) _).setCell (Nat.le_refl _) _).setCell (Nat.le_refl _) _, rfl⟩
        · have d1 : decide ((p.life : Int) < (least : Int)) = false := decide_eq_false (by omega)
          have hb2 : n < k ∧ p.life ≠ life := by
            rcases hbad with h | h
            · exact absurd h hl1
            · exact h
          have d2 : decide ((n : Int) < (k : Int)) = true := decide_eq_true (by omega)
          have d3 : ((p.life : Int) != (life : Int)) = true := by simp; omega
          have hnk : n < k := hb2.1
          have hpe : ¬ p.life = life := hb2.2
          clear hbad hb2
          go_wp2_with fail
          have hb4 := ((HZ2.out.set 0 (.slice none 0 0)).set 1 (.int .u64 0)).set 2 (.int .u64 0)
          refine bodyPost_ret (results_pair (ty := 95) rfl _ _ w.heap.size 95 #[.slice none 0 0, .int .u64 0, .int .u64 0] (.bool false) _ rfl rfl (by simpa using hb4) Try.underlying95 rfl (by kernel_rfl)) rfl ?_
          rw [← HW.out, HN.out]
          exact ⟨((HE2.out.setCell (Nat.le_refl _) _).setCell (Nat.le_refl _) _).setCell (Nat.le_refl _) _, rfl⟩
      · have d1 : decide ((p.life : Int) < (least : Int)) = false := decide_eq_false (by omega)
        by_cases hnk : n < k
        · have d2 : decide ((n : Int) < (k : Int)) = true := decide_eq_true (by omega)
          have d3 : ((p.life : Int) != (life : Int)) = false := by simp; omega
          have hpe : p.life = life := by omega
          have hl1 : ¬ p.life < least := by omega
          have HPE : Hid (p.life = life) := hpe
          clear hpe
          go_wp2_with (first | (at_builtin; refine wpList_text _ rfl _ _ rfl (w.heap.size + 2) v acc ⟨p.text.toArray⟩ HS2.out.o rfl rfl ?_ ?_ ?_))
          · have h0 : (⟨p.text.toArray⟩ : ByteArray).size = p.text.length := by show p.text.toArray.size = _; simp
            omega
          · have := HP2.out.lt
            have := HS1.out.e.lt
            omega
          intro v3 w3 ho3 hg3
          have hj : join acc (⟨p.text.toArray⟩ : ByteArray).data.toList = join acc p.text := by simp
          rw [hj] at ho3
          obtain ⟨hS4, hE3, hZ3⟩ := HS2.out.turn (life' := p.life) HL.out ho3 hg3
          have hP3 : Blk w3 w1.heap.size #[.int .u64 (k : Int), .int .u64 (p.life : Int), .bool p.last, .string ⟨p.text.toArray⟩] 83 := HP2.out.chg ((Chg.refl (fun j => v.ownBlock = some j) W2).grown hg3 (fun j e _ => e)) (fun e => by obtain ⟨_, cs, hcs⟩ := HS2.out.o.low e; exact HP2.out.ne hcs (by decide) rfl)
          obtain ⟨ao3, n3, c3, rfl⟩ : ∃ ao3 n3 c3, v3 = .slice ao3 n3 c3 := by
            rcases ho3.2 with ⟨rfl, _⟩ | ⟨g', cap', cur', rfl, _⟩
            · exact ⟨_, _, _, rfl⟩
            · exact ⟨_, _, _, rfl⟩
          have x0 : w3.cell? ⟨w.heap.size + 1, 0, none⟩ = some v := hE3.cell 0
          have g0 := hE3.frozen 0
          have hEA := hE3.set 0 (.slice ao3 n3 c3)
          have hPA := hP3.setOther (b' := w.heap.size + 1) 0 (.slice ao3 n3 c3) hne1
          have a1 : (w3.setCell ⟨w.heap.size + 1, 0, none⟩ (.slice ao3 n3 c3)).cell? ⟨w1.heap.size, 1, none⟩ = some (.int .u64 (p.life : Int)) := hPA.cell 1
          have a2 : (w3.setCell ⟨w.heap.size + 1, 0, none⟩ (.slice ao3 n3 c3)).cell? ⟨w.heap.size + 1, 1, none⟩ = some (.int .u64 (life : Int)) := by rw [hEA.cell]; rfl
          have a3 := hEA.frozen 1
          have hEB := hEA.set 1 (.int .u64 (p.life : Int))
          have hPB := hPA.setOther (b' := w.heap.size + 1) 1 (.int .u64 (p.life : Int)) hne1
          have b2 : ((w3.setCell ⟨w.heap.size + 1, 0, none⟩ (.slice ao3 n3 c3)).setCell ⟨w.heap.size + 1, 1, none⟩ (.int .u64 (p.life : Int))).cell? ⟨w.heap.size + 1, 2, none⟩ = some (.int .u64 (k : Int)) := by rw [hEB.cell]; rfl
          have b3 := hEB.frozen 2
          have hPC := hPB.setOther (b' := w.heap.size + 1) 2 (.int .u64 ((k : Int) + 1)) hne1
          have HS4 : Hid (EntS w _ g f s st (.slice ao3 n3 c3) (join acc p.text) p.life (k + 1)) := hS4
          have q2 : (((w3.setCell ⟨w.heap.size + 1, 0, none⟩ (.slice ao3 n3 c3)).setCell ⟨w.heap.size + 1, 1, none⟩ (.int .u64 (p.life : Int))).setCell ⟨w.heap.size + 1, 2, none⟩ (.int .u64 ((k : Int) + 1))).cell? ⟨w1.heap.size, 2, none⟩ = some (.bool p.last) := hPC.cell 2
          clear hEA hPA hEB hPB hPC hS4 hE3 hZ3 hP3 ho3 hg3 hj e0 e1 e2 p1 p2 p3
          have hk63 : (k : Int) + 1 < 18446744073709551616 := by have := HR0.out.2; omega
          cases hlast : p.last with
          | true =>
            rw [hlast] at q2
            have HN : Hid (entW (look s st) n least (n + s.room + 1 - k) k acc life = some (join acc p.text, p.life, k + 1)) := entW_last (by omega) HLK.out hbad hlast
            generalize hW4 : (((w3.setCell ⟨w.heap.size + 1, 0, none⟩ (.slice ao3 n3 c3)).setCell ⟨w.heap.size + 1, 1, none⟩ (.int .u64 (p.life : Int))).setCell ⟨w.heap.size + 1, 2, none⟩ (.int .u64 ((k : Int) + 1))) = W4 at *
            have y0 : W4.cell? ⟨w.heap.size + 1, 0, none⟩ = some (.slice ao3 n3 c3) := HS4.out.e.cell 0
            have y1 : W4.cell? ⟨w.heap.size + 1, 1, none⟩ = some (.int .u64 (p.life : Int)) := HS4.out.e.cell 1
            have y2 : W4.cell? ⟨w.heap.size + 1, 2, none⟩ = some (.int .u64 ((k : Int) + 1)) := HS4.out.e.cell 2
            have z0 : W4.cell? ⟨w.heap.size, 0, none⟩ = some (.slice none 0 0) := HS4.out.z.cell 0
            have z1 : W4.cell? ⟨w.heap.size, 1, none⟩ = some (.int .u64 0) := HS4.out.z.cell 1
            have z2 : W4.cell? ⟨w.heap.size, 2, none⟩ = some (.int .u64 0) := HS4.out.z.cell 2
            have f0 := HS4.out.z.frozen 0
            have f1 := HS4.out.z.frozen 1
            have f2 := HS4.out.z.frozen 2
            go_wp2_with fail
            have hb4 := ((HS4.out.z.set 0 (.slice ao3 n3 c3)).set 1 (.int .u64 (p.life : Int))).set 2 (.int .u64 ((k : Int) + 1))
            have hc5 : Chg (fun j => j = w.heap.size) W4 (((W4.setCell ⟨w.heap.size, 0, none⟩ (.slice ao3 n3 c3)).setCell ⟨w.heap.size, 1, none⟩ (.int .u64 (p.life : Int))).setCell ⟨w.heap.size, 2, none⟩ (.int .u64 ((k : Int) + 1))) :=
              (((Chg.refl (fun j => j = w.heap.size) W4).setCell ⟨w.heap.size, 0, none⟩ (fun _ => rfl) _).setCell ⟨w.heap.size, 1, none⟩ (fun _ => rfl) _).setCell ⟨w.heap.size, 2, none⟩ (fun _ => rfl) _
            refine bodyPost_ret (results_pair (ty := 95) rfl _ _ w.heap.size 95 #[.slice ao3 n3 c3, .int .u64 (p.life : Int), .int .u64 ((k : Int) + 1)] (.bool true) _ rfl rfl (by simpa using hb4) Try.underlying95 rfl (by kernel_rfl)) rfl ?_
            rw [← HW.out, HN.out]
            exact ⟨((HS4.out.bel.setCell (Nat.le_refl _) _).setCell (Nat.le_refl _) _).setCell (Nat.le_refl _) _, _, rfl, HS4.out.o.chg hc5 (fun b e x => by have := (HS4.out.o.low e).1; have : b = w.heap.size := x; omega)⟩
          | false =>
            rw [hlast] at q2
            have HN : Hid (entW (look s st) n least (n + s.room + 1 - k) k acc life = entW (look s st) n least (n + s.room + 1 - k - 1) (k + 1) (join acc p.text) p.life) := entW_more (by omega) HLK.out hbad hlast
            have hkr : k < n + s.room := by
              rcases Nat.lt_or_ge k (n + s.room) with h | h
              · exact h
              · have hkk : k = n + s.room := by omega
                obtain ⟨p', hp'⟩ := HF.out (by have := HR0.out.1; omega)
                have := look_round hp' HR0.out.1
                rw [← hkk, HLK.out] at this
                cases this
            have HFK : Hid (∃ p, look s st n = some p) := by
              rcases Nat.lt_or_ge n k with h | h
              · exact HF.out h
              · obtain rfl : n = k := by omega
                exact ⟨p, HLK.out⟩
            go_wp2_with fail
            go_roundw
            case rel =>
              refine ⟨k + 1, p.life, join acc p.text, _, HS4.out, by omega, by omega, by rw [join_length]; omega, fun _ => HFK.out, ?_⟩
              rw [← HW.out, HN.out, show n + s.room + 1 - (k + 1) = n + s.room + 1 - k - 1 by omega]
            case measure =>
              have m1 := HS4.out.e.cell 2
              have m2 := HS.out.e.cell 2
              unfold entMu
              rw [m1, m2]
              simp
              omega
        · have d2 : decide ((n : Int) < (k : Int)) = false := decide_eq_false (by omega)
          have hl1 : ¬ p.life < least := by omega
          go_wp2_with (first | (at_builtin; refine wpList_text _ rfl _ _ rfl (w.heap.size + 2) v acc ⟨p.text.toArray⟩ HS2.out.o rfl rfl ?_ ?_ ?_))
          · have h0 : (⟨p.text.toArray⟩ : ByteArray).size = p.text.length := by show p.text.toArray.size = _; simp
            omega
          · have := HP2.out.lt
            have := HS1.out.e.lt
            omega
          intro v3 w3 ho3 hg3
          have hj : join acc (⟨p.text.toArray⟩ : ByteArray).data.toList = join acc p.text := by simp
          rw [hj] at ho3
          obtain ⟨hS4, hE3, hZ3⟩ := HS2.out.turn (life' := p.life) HL.out ho3 hg3
          have hP3 : Blk w3 w1.heap.size #[.int .u64 (k : Int), .int .u64 (p.life : Int), .bool p.last, .string ⟨p.text.toArray⟩] 83 := HP2.out.chg ((Chg.refl (fun j => v.ownBlock = some j) W2).grown hg3 (fun j e _ => e)) (fun e => by obtain ⟨_, cs, hcs⟩ := HS2.out.o.low e; exact HP2.out.ne hcs (by decide) rfl)
          obtain ⟨ao3, n3, c3, rfl⟩ : ∃ ao3 n3 c3, v3 = .slice ao3 n3 c3 := by
            rcases ho3.2 with ⟨rfl, _⟩ | ⟨g', cap', cur', rfl, _⟩
            · exact ⟨_, _, _, rfl⟩
            · exact ⟨_, _, _, rfl⟩
          have x0 : w3.cell? ⟨w.heap.size + 1, 0, none⟩ = some v := hE3.cell 0
          have g0 := hE3.frozen 0
          have hEA := hE3.set 0 (.slice ao3 n3 c3)
          have hPA := hP3.setOther (b' := w.heap.size + 1) 0 (.slice ao3 n3 c3) hne1
          have a1 : (w3.setCell ⟨w.heap.size + 1, 0, none⟩ (.slice ao3 n3 c3)).cell? ⟨w1.heap.size, 1, none⟩ = some (.int .u64 (p.life : Int)) := hPA.cell 1
          have a2 : (w3.setCell ⟨w.heap.size + 1, 0, none⟩ (.slice ao3 n3 c3)).cell? ⟨w.heap.size + 1, 1, none⟩ = some (.int .u64 (life : Int)) := by rw [hEA.cell]; rfl
          have a3 := hEA.frozen 1
          have hEB := hEA.set 1 (.int .u64 (p.life : Int))
          have hPB := hPA.setOther (b' := w.heap.size + 1) 1 (.int .u64 (p.life : Int)) hne1
          have b2 : ((w3.setCell ⟨w.heap.size + 1, 0, none⟩ (.slice ao3 n3 c3)).setCell ⟨w.heap.size + 1, 1, none⟩ (.int .u64 (p.life : Int))).cell? ⟨w.heap.size + 1, 2, none⟩ = some (.int .u64 (k : Int)) := by rw [hEB.cell]; rfl
          have b3 := hEB.frozen 2
          have hPC := hPB.setOther (b' := w.heap.size + 1) 2 (.int .u64 ((k : Int) + 1)) hne1
          have HS4 : Hid (EntS w _ g f s st (.slice ao3 n3 c3) (join acc p.text) p.life (k + 1)) := hS4
          have q2 : (((w3.setCell ⟨w.heap.size + 1, 0, none⟩ (.slice ao3 n3 c3)).setCell ⟨w.heap.size + 1, 1, none⟩ (.int .u64 (p.life : Int))).setCell ⟨w.heap.size + 1, 2, none⟩ (.int .u64 ((k : Int) + 1))).cell? ⟨w1.heap.size, 2, none⟩ = some (.bool p.last) := hPC.cell 2
          clear hEA hPA hEB hPB hPC hS4 hE3 hZ3 hP3 ho3 hg3 hj e0 e1 e2 p1 p2 p3
          have hk63 : (k : Int) + 1 < 18446744073709551616 := by have := HR0.out.2; omega
          cases hlast : p.last with
          | true =>
            rw [hlast] at q2
            have HN : Hid (entW (look s st) n least (n + s.room + 1 - k) k acc life = some (join acc p.text, p.life, k + 1)) := entW_last (by omega) HLK.out hbad hlast
            generalize hW4 : (((w3.setCell ⟨w.heap.size + 1, 0, none⟩ (.slice ao3 n3 c3)).setCell ⟨w.heap.size + 1, 1, none⟩ (.int .u64 (p.life : Int))).setCell ⟨w.heap.size + 1, 2, none⟩ (.int .u64 ((k : Int) + 1))) = W4 at *
            have y0 : W4.cell? ⟨w.heap.size + 1, 0, none⟩ = some (.slice ao3 n3 c3) := HS4.out.e.cell 0
            have y1 : W4.cell? ⟨w.heap.size + 1, 1, none⟩ = some (.int .u64 (p.life : Int)) := HS4.out.e.cell 1
            have y2 : W4.cell? ⟨w.heap.size + 1, 2, none⟩ = some (.int .u64 ((k : Int) + 1)) := HS4.out.e.cell 2
            have z0 : W4.cell? ⟨w.heap.size, 0, none⟩ = some (.slice none 0 0) := HS4.out.z.cell 0
            have z1 : W4.cell? ⟨w.heap.size, 1, none⟩ = some (.int .u64 0) := HS4.out.z.cell 1
            have z2 : W4.cell? ⟨w.heap.size, 2, none⟩ = some (.int .u64 0) := HS4.out.z.cell 2
            have f0 := HS4.out.z.frozen 0
            have f1 := HS4.out.z.frozen 1
            have f2 := HS4.out.z.frozen 2
            go_wp2_with fail
            have hb4 := ((HS4.out.z.set 0 (.slice ao3 n3 c3)).set 1 (.int .u64 (p.life : Int))).set 2 (.int .u64 ((k : Int) + 1))
            have hc5 : Chg (fun j => j = w.heap.size) W4 (((W4.setCell ⟨w.heap.size, 0, none⟩ (.slice ao3 n3 c3)).setCell ⟨w.heap.size, 1, none⟩ (.int .u64 (p.life : Int))).setCell ⟨w.heap.size, 2, none⟩ (.int .u64 ((k : Int) + 1))) :=
              (((Chg.refl (fun j => j = w.heap.size) W4).setCell ⟨w.heap.size, 0, none⟩ (fun _ => rfl) _).setCell ⟨w.heap.size, 1, none⟩ (fun _ => rfl) _).setCell ⟨w.heap.size, 2, none⟩ (fun _ => rfl) _
            refine bodyPost_ret (results_pair (ty := 95) rfl _ _ w.heap.size 95 #[.slice ao3 n3 c3, .int .u64 (p.life : Int), .int .u64 ((k : Int) + 1)] (.bool true) _ rfl rfl (by simpa using hb4) Try.underlying95 rfl (by kernel_rfl)) rfl ?_
            rw [← HW.out, HN.out]
            exact ⟨((HS4.out.bel.setCell (Nat.le_refl _) _).setCell (Nat.le_refl _) _).setCell (Nat.le_refl _) _, _, rfl, HS4.out.o.chg hc5 (fun b e x => by have := (HS4.out.o.low e).1; have : b = w.heap.size := x; omega)⟩
          | false =>
            rw [hlast] at q2
            have HN : Hid (entW (look s st) n least (n + s.room + 1 - k) k acc life = entW (look s st) n least (n + s.room + 1 - k - 1) (k + 1) (join acc p.text) p.life) := entW_more (by omega) HLK.out hbad hlast
            have hkr : k < n + s.room := by
              rcases Nat.lt_or_ge k (n + s.room) with h | h
              · exact h
              · have hkk : k = n + s.room := by omega
                obtain ⟨p', hp'⟩ := HF.out (by have := HR0.out.1; omega)
                have := look_round hp' HR0.out.1
                rw [← hkk, HLK.out] at this
                cases this
            have HFK : Hid (∃ p, look s st n = some p) := by
              rcases Nat.lt_or_ge n k with h | h
              · exact HF.out h
              · obtain rfl : n = k := by omega
                exact ⟨p, HLK.out⟩
            go_wp2_with fail
            go_roundw
            case rel =>
              refine ⟨k + 1, p.life, join acc p.text, _, HS4.out, by omega, by omega, by rw [join_length]; omega, fun _ => HFK.out, ?_⟩
              rw [← HW.out, HN.out, show n + s.room + 1 - (k + 1) = n + s.room + 1 - k - 1 by omega]
            case measure =>
              have m1 := HS4.out.e.cell 2
              have m2 := HS.out.e.cell 2
              unfold entMu
              rw [m1, m2]
              simp
              omega
end Go.Proofs.Ytepfckckplbjjaa
