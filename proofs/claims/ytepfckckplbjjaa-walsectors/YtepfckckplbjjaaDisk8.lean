/- Disks whose blocks are all new: the calls on them, where no power goes; the document's example of a disk. Own lemmas, no statement. -/
import Derived.Test.YtepfckckplbjjaaDisk7
import Derived.Lib.SlBytesConst
namespace Go.Proofs.Ytepfckckplbjjaa
open Go.ChangeShapes Go.WideShapes Go.ChangeAt Go.RowKit

/-- One byte that was just laid as a constant text. -/
theorem Src.one (w : World) (c : UInt8) : Src (w.alloc (.cells #[.int .u8 (c.toNat : Int)] 5 (1, 2))) (.slice (some ⟨w.heap.size, 0, none⟩) 1 1) [c] :=
  ⟨some ⟨w.heap.size, 0, none⟩, 1, rfl, Nat.le_refl _, by unfold maxLen; omega, fun e => (by cases e), fun ad e j u hu => by
    cases e
    have hh : (w.alloc (.cells #[.int .u8 (c.toNat : Int)] 5 (1, 2))).heap[w.heap.size]? = some (.cells #[.int .u8 (c.toNat : Int)] 5 (1, 2)) := heap_alloc_new w _
    rw [Addr.add_mid, Nat.zero_add]
    simp only [World.cell?, hh]
    rw [if_neg (by simp)]
    rw [← List.getElem?_toArray] at hu
    exact hu⟩

theorem Turned.below {f f' : Foot} {w w' : World} {B : Nat} (h : Turned f w f' w') (hB : B ≤ w.heap.size) (hf : ∀ k, f.has k → B ≤ k) : Below B w w' ∧ (∀ k, f'.has k → B ≤ k) :=
  ⟨h.chg.below hB hf, fun k hk => by rcases h.new k hk with h' | h'; exact hf k h'; omega⟩

/-- A disk at g of which all blocks are new since B, in a world that goes on from w0. -/
structure NewAt (w0 : World) (B : Nat) (w : World) (g : Nat) (f : Foot) (st : DSt) : Prop where
  at_ : DiskAt w f st
  own : ∀ k, f.has k → B ≤ k
  bel : Below B w0 w
  le : B ≤ w0.heap.size
  ptr : f.g = g
theorem NewAt.turn {w0 w w' : World} {B g : Nat} {f f' : Foot} {st st' : DSt} (h : NewAt w0 B w g f st) (hT : Turned f w f' w') (hD : DiskAt w' f' st') : NewAt w0 B w' g f' st' := by
  have hB : B ≤ w.heap.size := Nat.le_trans h.le h.bel.size
  obtain ⟨a, b⟩ := hT.below hB h.own
  exact ⟨hD, b, h.bel.trans a, h.le, hT.g.trans h.ptr⟩
theorem NewAt.below {w0 w w' : World} {B g : Nat} {f : Foot} {st : DSt} (h : NewAt w0 B w g f st) (hb : Below w.heap.size w w') : NewAt w0 B w' g f st :=
  h.turn (Turned.of_below hb) (h.at_.below hb)
theorem NewAt.lt {w0 w : World} {B g : Nat} {f : Foot} {st : DSt} (h : NewAt w0 B w g f st) : B ≤ w.heap.size := Nat.le_trans h.le h.bel.size

section
variable {w0 w : World} {B g : Nat} {f : Foot} {now safe : List Sec} {waits : List (Nat × List UInt8)} {steps : Nat} {dn : Bool}
theorem new_new (i : Int) (n : Nat) (hn : nSec i = n) (w0 : World) (B : Nat) (w : World) (hb : Below B w0 w) (hB : B ≤ w0.heap.size) : Calls Try.prog 15 #[.int .i64 i] w fun e w' => ∃ g f, e = .returned (dptr g) ∧ NewAt w0 B w' g f ⟨List.replicate n (zeros, false), List.replicate n (zeros, false), [], 0, false, 0⟩ ∧ (∀ k, f.has k → w.heap.size ≤ k) ∧ Below w.heap.size w w' := by
  refine (new_any i w).mono ?_
  rintro e w' ⟨f, rfl, hD, hf, hb'⟩
  rw [hn] at hD
  have hle : B ≤ w.heap.size := Nat.le_trans hB hb.size
  exact ⟨f.g, f, rfl, ⟨hD, fun k hk => Nat.le_trans hle (hf k hk), hb.trans (hb'.mono hle), hB, rfl⟩, hf, hb'⟩
theorem write_new (i : Nat) (ao : Option Addr) (n c : Nat) (l : List UInt8) (h : NewAt w0 B w g f ⟨now, safe, waits, 0, false, steps⟩) (hi : i < now.length) (hs : Src w (.slice ao n c) l) (hl : l.length ≤ 512) (hst : steps < 4611686018427387904) (hwl : waits.length < 1099511627776) :
    Calls Try.prog 35 #[dptr g, .int .i64 (i : Int), .slice ao n c] w fun e w' => e = .returned (.int .i64 0) ∧ ∃ f', NewAt w0 B w' g f' ⟨now.set i (pad l, false), safe, waits ++ [(i, pad l)], 0, false, steps + 1⟩ ∧ Turned f w f' w' := by
  have hp := h.ptr
  subst hp
  refine (write_ok f _ i ao n c l w h.at_ hi hs hl rfl hst hwl).mono ?_
  rintro e w' ⟨rfl, f', hD, hT⟩
  exact ⟨rfl, f', h.turn hT hD, hT⟩
theorem sync_new (h : NewAt w0 B w g f ⟨now, safe, waits, 0, false, steps⟩) (hst : steps < 4611686018427387904) :
    Calls Try.prog 45 #[dptr g] w fun e w' => e = .returned (.int .i64 0) ∧ NewAt w0 B w' g f ⟨now, now, [], 0, false, steps + 1⟩ ∧ Turned f w f w' := by
  have hp := h.ptr
  subst hp
  refine (sync_ok f _ w h.at_ rfl hst (show ¬ (0 : Nat) = 1 by decide)).mono ?_
  rintro e w' ⟨rfl, hD, hT⟩
  exact ⟨rfl, h.turn hT hD, hT⟩
theorem on_new (ko : Option Addr) (kn kc : Nat) (keep : List Bool) (tear : Int) (h : NewAt w0 B w g f ⟨now, safe, waits, 0, dn, steps⟩) (hkp : Bools w ko kn keep) (hkf : ∀ ad, ko = some ad → 0 < kn → ¬ f.has ad.block) (hkm : kn ≤ maxLen) (S : List Sec) (hS : staysTo keep tear safe waits waits.length = S) :
    Calls Try.prog 30 #[dptr g, .slice ko kn kc, .int .i64 tear] w fun e w' => e = .returned (.tuple #[]) ∧ NewAt w0 B w' g f ⟨S, S, [], 0, false, steps⟩ ∧ Turned f w f w' := by
  have hp := h.ptr
  subst hp
  refine (on_any f _ ko kn kc keep tear w h.at_ hkp hkf hkm).mono ?_
  rintro e w' ⟨rfl, hD, hT⟩
  refine ⟨rfl, h.turn hT ?_, hT⟩
  rw [← hS]
  exact hD
theorem read_new_torn (i : Nat) (h : NewAt w0 B w g f ⟨now, safe, waits, 0, false, steps⟩) (b : List UInt8) (hi : now[i]? = some (b, true)) :
    Calls Try.prog 34 #[dptr g, .int .i64 (i : Int)] w fun e w' => e = .returned (.tuple #[.slice none 0 0, .int .i64 9]) ∧ w' = w := by
  have hp := h.ptr
  subst hp
  obtain ⟨h1, h2⟩ := List.getElem?_eq_some_iff.1 hi
  exact read_torn f _ i w h.at_ h1 rfl (by show now[i].2 = true; rw [h2])
theorem read_new (i : Nat) (h : NewAt w0 B w g f ⟨now, safe, waits, 0, false, steps⟩) (b : List UInt8) (hi : now[i]? = some (b, false)) :
    Calls Try.prog 34 #[dptr g, .int .i64 (i : Int)] w fun e w' => e = .returned (.tuple #[.slice (some ⟨w.heap.size, 0, none⟩) 512 512, .int .i64 0]) ∧ NewAt w0 B w' g f ⟨now, safe, waits, 0, false, steps⟩ ∧ Blk w' w.heap.size (bv b).toArray 5 ∧ ¬ f.has w.heap.size ∧ Below w.heap.size w w' ∧ w'.heap.size = w.heap.size + 1 := by
  have hp := h.ptr
  subst hp
  obtain ⟨h1, h2⟩ := List.getElem?_eq_some_iff.1 hi
  refine (read_ok f _ i w h.at_ h1 rfl (by show now[i].2 = false; rw [h2])).mono ?_
  rintro e w' ⟨rfl, hB, hb, hz⟩
  refine ⟨rfl, h.below hb, ?_, fun e => by have := h.at_.hasLt _ e; omega, hb, hz⟩
  have h2' : now[i].1 = b := by rw [h2]
  rw [← h2']
  exact hB
theorem off_new (h : NewAt w0 B w g f ⟨now, safe, waits, 0, dn, steps⟩) :
    Calls Try.prog 29 #[dptr g] w fun e w' => e = .returned (.tuple #[]) ∧ NewAt w0 B w' g f ⟨now, safe, waits, 0, true, steps⟩ ∧ Turned f w f w' := by
  have hp := h.ptr
  subst hp
  refine (off_any f _ w h.at_).mono ?_
  rintro e w' ⟨rfl, hD, hch⟩
  exact ⟨rfl, h.turn (Turned.of_chg hch) hD, Turned.of_chg hch⟩
end

theorem Bools.nil (w : World) : Bools w none 0 [] := ⟨rfl, fun _ => rfl, fun ad e => by cases e⟩
theorem Bools.new (w : World) (l : List Bool) : Bools (w.alloc (.cells (l.map Value.bool).toArray 4)) (some ⟨w.heap.size, 0, none⟩) l.length l :=
  ⟨rfl, fun e => (by cases e), fun ad e j b hb => by
    cases e
    rw [Addr.add_mid, Nat.zero_add, (Blk.new w _ _).cell, List.getElem?_toArray, List.getElem?_map, hb]
    rfl⟩
theorem pad_in {l : List UInt8} {i : Nat} (hi : i < l.length) : (pad l)[i]? = some l[i] := by unfold pad; rw [List.getElem?_append_left hi, List.getElem?_eq_getElem hi]
theorem pad_out {l : List UInt8} {i : Nat} (hi : l.length ≤ i) (h2 : i < 512) : (pad l)[i]? = some 0 := by unfold pad; rw [List.getElem?_append_right hi, List.getElem?_replicate, if_pos (by omega)]
theorem bv_at {l : List UInt8} {i : Nat} {c : UInt8} (h : l[i]? = some c) : (bv l).toArray[i]? = some (.int .u8 (c.toNat : Int)) := by rw [List.getElem?_toArray]; unfold bv; rw [List.getElem?_map, h]; rfl
theorem nSec3 : nSec 3 = 3 := by decide
theorem staysHead (p q : List UInt8) (a b c : Sec) (S : List Sec) (hS : S = [a, b, c]) : staysTo [false, true] 0 S [(0, p), (1, q)] 2 = [(zeros, true), (q, false), c] := by subst hS; simp [staysTo]

end Go.Proofs.Ytepfckckplbjjaa
