/- The Go text of disk's New. Own lemmas, no statement. -/
import Derived.Test.YtepfckckplbjjaaDisk6
namespace Go.Proofs.Ytepfckckplbjjaa
open Go.ChangeShapes Go.WideShapes Go.ChangeAt Go.RowKit

theorem infoS : (Try.prog.info? 90).map (fun i => (i.zero, i.size, i.bytes)) = some (some (.agg #[.slice none 0 0, .bool false]), 2, 32) := by kernel_rfl
def blanks (n : Nat) : Array Value := madeCells #[.slice none 0 0, .bool false] (n * 2)
theorem blanks_size (n : Nat) : (blanks n).size = n * 2 := size_madeCells _ _
theorem blanks_at (n i : Nat) (h : i < n) : (blanks n)[i * 2]? = some (.slice none 0 0) ∧ (blanks n)[i * 2 + 1]? = some (.bool false) := by
  unfold blanks madeCells
  refine ⟨?_, ?_⟩
  · rw [Array.getElem?_map, Array.getElem?_range, if_pos (by omega)]
    simp only [Option.map_some]
    rw [show i * 2 % (#[(.slice none 0 0), (.bool false)] : Array Value).size = 0 by simp]
    rfl
  · rw [Array.getElem?_map, Array.getElem?_range, if_pos (by omega)]
    simp only [Option.map_some]
    rw [show (i * 2 + 1) % (#[(.slice none 0 0), (.bool false)] : Array Value).size = 1 by simp]
    rfl
theorem run_makeSecs (n : Nat) (hn : n ≤ 65536) (w : World) : (Instr.makeSlice 67 (.int .i64 (n : Int)) (.int .i64 (n : Int))).run Try.prog w = .ok (.slice (some ⟨w.heap.size, 0, none⟩) n n) (w.alloc (.cells (blanks n) 90)) := by
  obtain ⟨i0, hi, hz0, hz1, hz2⟩ := info_parts infoS
  have := run_make (P := Try.prog) w 67 90 i0 (.agg #[.slice none 0 0, .bool false]) Try.underlying67 hi hz0 .i64 .i64 n n (by omega) (by omega) (by rw [hz2]; omega) (by omega)
  rw [this, hz1]
  rfl
theorem blanks_secs {w : World} {b n : Nat} (h : Blk w b (blanks n) 90) : SecsAt w (fun _ => False) b (List.replicate n (zeros, false)) := by
  refine ⟨_, h, by rw [blanks_size, List.length_replicate], fun i p hp => ?_⟩
  have hi : i < n := by have := (List.getElem?_eq_some_iff.1 hp).1; simpa using this
  rw [List.getElem?_replicate, if_pos hi] at hp
  cases hp
  obtain ⟨a, b⟩ := blanks_at n i hi
  exact ⟨_, a, b, zeros_length, .inl ⟨rfl, rfl⟩⟩

/-- A new disk, at memory of its own. -/
def NewDisk (w : World) (n : Nat) (e : Ending) (w' : World) : Prop := ∃ f, e = .returned (dptr f.g) ∧ DiskAt w' f (DSt.fresh n) ∧ (∀ k, f.has k → w.heap.size ≤ k) ∧ Below w.heap.size w w'

theorem newDisk_of (w : World) (n a b : Nat) (hn : n ≤ 65536) (hab : a = w.heap.size ∧ b = w.heap.size + 1 ∨ b = w.heap.size ∧ a = w.heap.size + 1) (W : World)
    (hW : W = (((w.alloc (.cells (blanks n) 90)).alloc (.cells (blanks n) 90)).alloc (.cells #[.slice (some ⟨a, 0, none⟩) n n, .slice (some ⟨b, 0, none⟩) n n, .slice none 0 0, .int .i64 0, .bool false, .int .i64 0] 70)).drew) :
    NewDisk w n (.returned (dptr (w.heap.size + 2))) W := by
  have hB1 : Blk W w.heap.size (blanks n) 90 := by rw [hW]; exact ((Blk.new w _ _).alloc _).alloc _
  have hB2 : Blk W (w.heap.size + 1) (blanks n) 90 := by
    have := (Blk.new (w.alloc (.cells (blanks n) 90)) (blanks n) 90).alloc (.cells #[.slice (some ⟨a, 0, none⟩) n n, .slice (some ⟨b, 0, none⟩) n n, .slice none 0 0, .int .i64 0, .bool false, .int .i64 0] 70)
    have := this.drew
    rw [← hW] at this
    simpa using this
  have hB3 : Blk W (w.heap.size + 2) #[.slice (some ⟨a, 0, none⟩) n n, .slice (some ⟨b, 0, none⟩) n n, .slice none 0 0, .int .i64 0, .bool false, .int .i64 0] 70 := by
    have := Blk.new ((w.alloc (.cells (blanks n) 90)).alloc (.cells (blanks n) 90)) #[.slice (some ⟨a, 0, none⟩) n n, .slice (some ⟨b, 0, none⟩) n n, .slice none 0 0, .int .i64 0, .bool false, .int .i64 0] 70
    have := this.drew
    rw [← hW] at this
    simpa using this
  have hbe : Below w.heap.size w W := by rw [hW]; exact ((((Below.refl _ _).alloc (Nat.le_refl _) _).alloc (by simp) _).alloc (by simp; omega) _).drew
  have ha : Blk W a (blanks n) 90 := by rcases hab with ⟨rfl, rfl⟩ | ⟨rfl, rfl⟩; exact hB1; exact hB2
  have hb : Blk W b (blanks n) 90 := by rcases hab with ⟨rfl, rfl⟩ | ⟨rfl, rfl⟩; exact hB2; exact hB1
  refine ⟨⟨w.heap.size + 2, a, b, none, fun _ => False⟩, rfl, ⟨⟨.slice none 0 0, ?_, rfl, [], World.ownsRow_nil _ _ _ _, fun i p hp => by simp [DSt.fresh] at hp⟩, blanks_secs ha, blanks_secs hb, by show a ≠ b; omega, DSt.fresh_inv n, ?_, ?_, fun k hk => hk.elim, fun k hk => hk.elim⟩, ?_, hbe⟩
  · simpa [hd, DSt.fresh] using hB3
  · simpa [DSt.fresh] using hn
  · simp [DSt.fresh]
  · intro k hk
    rcases hk with (hk | hk | hk | hk) | hk
    · have : k = w.heap.size + 2 := hk
      omega
    · have : k = a := hk
      omega
    · have : k = b := hk
      omega
    · cases hk
    · exact hk.elim

def nSec (i : Int) : Nat := if i < 0 then 0 else if 65536 < i then 65536 else i.toNat
theorem nSec_le (i : Int) : nSec i ≤ 65536 := by unfold nSec; split; omega; split; omega; omega

theorem run_makeSecs0 (w : World) : (Instr.makeSlice 67 (.int .i64 0) (.int .i64 0)).run Try.prog w = .ok (.slice (some ⟨w.heap.size, 0, none⟩) 0 0) (w.alloc (.cells (blanks 0) 90)) := run_makeSecs 0 (by omega) w
theorem run_makeSecsM (w : World) : (Instr.makeSlice 67 (.int .i64 65536) (.int .i64 65536)).run Try.prog w = .ok (.slice (some ⟨w.heap.size, 0, none⟩) 65536 65536) (w.alloc (.cells (blanks 65536) 90)) := run_makeSecs 65536 (by omega) w

set_option maxHeartbeats 1000000 in
theorem new_any (i : Int) (w : World) : Calls Try.prog 15 #[.int .i64 i] w (NewDisk w (nSec i)) := by
  rcases (show i < 0 ∨ 65536 < i ∨ (0 ≤ i ∧ i ≤ 65536) by omega) with h | h | ⟨h, h'⟩
  · have hn : nSec i = 0 := by unfold nSec; rw [if_pos h]
    rw [hn]
    have hmk := run_makeSecs0
    have h2 : ¬ 0 ≤ i := by omega
    go_enter Try.func15, Try.ntmps15
    go_wp2
    go_region
    all_goals
      go_wp2
      go_ret
      first
        | exact newDisk_of w _ w.heap.size (w.heap.size + 1) (by omega) (.inl ⟨rfl, rfl⟩) _ rfl
        | exact newDisk_of w _ (w.heap.size + 1) w.heap.size (by omega) (.inr ⟨rfl, rfl⟩) _ rfl
  · have hn : nSec i = 65536 := by unfold nSec; rw [if_neg (by omega), if_pos h]
    rw [hn]
    have hmk := run_makeSecsM
    have h2 : 0 ≤ i := by omega
    have h3 : ¬ i ≤ 65536 := by omega
    clear hn
    generalize hB : (65536 : Nat) = B at *
    go_enter Try.func15, Try.ntmps15
    go_wp2
    go_region
    all_goals
      go_wp2
      go_ret
      first
        | exact newDisk_of w _ w.heap.size (w.heap.size + 1) (by omega) (.inl ⟨rfl, rfl⟩) _ rfl
        | exact newDisk_of w _ (w.heap.size + 1) w.heap.size (by omega) (.inr ⟨rfl, rfl⟩) _ rfl
  · have hn : nSec i = i.toNat := by unfold nSec; rw [if_neg (by omega), if_neg (by omega)]
    rw [hn]
    clear hn
    obtain ⟨n, rfl⟩ := Int.eq_ofNat_of_zero_le h
    rw [Int.toNat_natCast]
    have hmk := run_makeSecs n (by omega)
    have h2 : ¬ (n : Int) < 0 := by omega
    go_enter Try.func15, Try.ntmps15
    go_wp2
    go_region
    all_goals
      go_wp2
      go_ret
      first
        | exact newDisk_of w _ w.heap.size (w.heap.size + 1) (by omega) (.inl ⟨rfl, rfl⟩) _ rfl
        | exact newDisk_of w _ (w.heap.size + 1) w.heap.size (by omega) (.inr ⟨rfl, rfl⟩) _ rfl
end Go.Proofs.Ytepfckckplbjjaa
