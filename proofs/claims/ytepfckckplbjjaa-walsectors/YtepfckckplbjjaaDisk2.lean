/- The Go texts of disk's filled, Write and Read. Own lemmas, no statement. -/
import Derived.Test.YtepfckckplbjjaaDisk1
import Derived.Laws.CopyRow
import Derived.Maps.AppendAt
namespace Go.Proofs.Ytepfckckplbjjaa
open Go.ChangeShapes Go.WideShapes Go.ChangeAt Go.RowKit

def noughts : Array Value := madeCells #[.int .u8 0] 512
theorem noughts_list : noughts.toList = bv zeros := by
  unfold noughts
  rw [toList_madeCells_one]
  unfold bv zeros
  rw [List.map_replicate]
  rfl
theorem noughts_size : noughts.size = 512 := size_madeCells _ _
theorem run_make512 (w : World) : (Instr.makeSlice 41 (.int .i64 512) (.int .i64 512)).run Try.prog w = .ok (.slice (some ⟨w.heap.size, 0, none⟩) 512 512) (w.alloc (.cells noughts 5)) := by
  obtain ⟨i0, hi, hz0, hz1, hz2⟩ := info_parts info8
  have := run_make (P := Try.prog) w 41 5 i0 (.int .u8 0) Try.underlying41 hi hz0 .i64 .i64 512 512 (by omega) (by omega) (by rw [hz2]; decide) (by omega)
  rw [this, hz1]
  rfl

theorem run_copy512 (w : World) (ao : Option Addr) (c : Nat) (l : List UInt8) (hs : SrcAt w ao c l) (hl : l.length ≤ 512) :
    ∃ w2, (∀ ty, (Builtin.copy_ #[41, 41] ty #[.slice (some ⟨w.heap.size, 0, none⟩) 512 512, .slice ao l.length c]).run Try.prog (w.alloc (.cells noughts 5)) = .ok (.int .i64 (l.length : Int)) w2) ∧ Blk w2 w.heap.size (bv (pad l)).toArray 5 ∧ Below w.heap.size w w2 ∧ w2.heap.size = w.heap.size + 1 := by
  have hB := Blk.new w noughts 5
  have hbe : Below w.heap.size w (w.alloc (.cells noughts 5)) := (Below.refl _ _).alloc (Nat.le_refl _) _
  have hpad : noughts.toList.take 0 ++ bv l ++ noughts.toList.drop (0 + (bv l).length) = bv (pad l) := by
    rw [noughts_list, bv_length]
    unfold pad
    rw [bv_append]
    simp only [List.take_zero, List.nil_append, Nat.zero_add]
    congr 1
    unfold bv zeros
    rw [← List.map_drop, List.drop_replicate]
  obtain ⟨h1, h2⟩ := hs
  cases ao with
  | none =>
    obtain ⟨rfl, rfl⟩ := h1 rfl
    refine ⟨_, fun ty => run_copy_nil (P := Try.prog) _ _ _ _ 5 _ _ _ Try.underlying41 (by kernel_rfl), ?_, hbe, by simp⟩
    rw [← hpad]
    simpa [bv] using hB
  | some ad =>
    have hsrc : ∀ j v, (bv l)[j]? = some v → (w.alloc (.cells noughts 5)).cell? (ad.add j) = some v := fun j v hv => by
      have := h2 ad rfl j v hv
      rw [hbe.cell (cell_lt this)]; exact this
    have hr := fun ty => run_copy_row (P := Try.prog) (w.alloc (.cells noughts 5)) 41 41 ty 5 w.heap.size 0 512 512 ad l.length c noughts 5 (bv l) Try.underlying41 (by kernel_rfl) hB (by rw [bv_length]; exact (Nat.min_eq_left hl).symm) hsrc (by rw [bv_length, noughts_size]; omega) (bv_one l)
    rw [hpad, bv_length] at hr
    refine ⟨_, hr, setRow_heap _ _ _ _ _ _ hB, ?_, by simp [World.setRow]⟩
    exact hbe.trans ⟨rfl, rfl, rfl, by simp [World.setRow], fun k hk => by simp [World.setRow, Array.getElem?_modify]; omega⟩

set_option maxHeartbeats 400000 in
theorem filled_any (ao : Option Addr) (n c : Nat) (l : List UInt8) (w : World) (hs : Src w (.slice ao n c) l) (hl : l.length ≤ 512) :
    Calls Try.prog 51 #[.slice ao n c] w fun e w' => e = .returned (.slice (some ⟨w.heap.size, 0, none⟩) 512 512) ∧ Blk w' w.heap.size (bv (pad l)).toArray 5 ∧ Below w.heap.size w w' ∧ w'.heap.size = w.heap.size + 1 := by
  obtain ⟨rfl, h1, h2, h3⟩ := hs.at
  obtain ⟨w2, hcp, k1, k2, k3⟩ := run_copy512 w ao c l h3 hl
  have K1 : Hid (Blk w2 w.heap.size (bv (pad l)).toArray 5) := k1
  have K3 : Hid (w2.heap.size = w.heap.size + 1) := k3
  have hmk := run_make512
  clear k1 k3 h3 hs h1 h2
  go_enter Try.func51, Try.ntmps51
  go_wp2
  go_ret
  exact ⟨rfl, K1.out, k2, K3.out⟩

section
variable {w w' : World} {bs bs' : Nat → Prop}
theorem Byt.mono {v : Value} {l : List UInt8} (h : Byt w bs v l) (hb : ∀ i, bs i → bs' i) : Byt w bs' v l := h.chg (Chg.refl (fun _ => False) w) (fun _ _ e => e) hb
/-- A sector is laid. -/
theorem SecsAt.set {b i : Nat} {xs : List Sec} (h : SecsAt w bs b xs) (u : Value) (l : List UInt8) (t : Bool) (hu : Byt w bs u l) (hb : ¬ bs b) (_hi : i < xs.length) : SecsAt ((w.setCell ⟨b, i * 2, none⟩ u).setCell ⟨b, i * 2 + 1, none⟩ (.bool t)) bs b (xs.set i (l, t)) := by
  have hch : Chg (fun k => k = b) w ((w.setCell ⟨b, i * 2, none⟩ u).setCell ⟨b, i * 2 + 1, none⟩ (.bool t)) := chgG (chgG (Chg.refl _ w) _ _) _ _
  have hnb : ∀ k, bs k → ¬ k = b := fun k hk e => by subst e; exact hb hk
  obtain ⟨c, h1, h2, h3⟩ := h
  refine ⟨_, (h1.set _ _).set _ _, by simp [h2], fun j p hp => ?_⟩
  rw [List.getElem?_set] at hp
  by_cases hij : i = j
  · subst hij
    rw [if_pos rfl, if_pos _hi] at hp
    cases hp
    refine ⟨u, ?_, ?_, hu.chg hch hnb (fun _ e => e)⟩
    · rw [Array.getElem?_setIfInBounds, if_neg (by omega), Array.getElem?_setIfInBounds, if_pos rfl, if_pos (by omega)]
    · rw [Array.getElem?_setIfInBounds, if_pos rfl, if_pos (by simp; omega)]
  · rw [if_neg hij] at hp
    obtain ⟨v, a1, a2, a3⟩ := h3 j p hp
    refine ⟨v, ?_, ?_, a3.chg hch hnb (fun _ e => e)⟩
    · rw [Array.getElem?_setIfInBounds, if_neg (by omega), Array.getElem?_setIfInBounds, if_neg (by omega)]; exact a1
    · rw [Array.getElem?_setIfInBounds, if_neg (by omega), Array.getElem?_setIfInBounds, if_neg (by omega)]; exact a2
theorem SecsAt.get {b i : Nat} {xs : List Sec} (h : SecsAt w bs b xs) (hi : i < xs.length) : ∃ u, w.cell? ⟨b, i * 2, none⟩ = some u ∧ w.cell? ⟨b, i * 2 + 1, none⟩ = some (.bool xs[i].2) ∧ Byt w bs u xs[i].1 ∧ (∀ j, w.frozen? ⟨b, j, none⟩ = false) := by
  obtain ⟨c, h1, h2, h3⟩ := h
  obtain ⟨u, a1, a2, a3⟩ := h3 i xs[i] (List.getElem?_eq_getElem hi)
  exact ⟨u, (h1.cell _).trans a1, (h1.cell _).trans a2, a3, h1.frozen⟩
theorem Byt.src {v : Value} {l : List UInt8} (h : Byt w bs v l) : ∃ m, Src w v m ∧ pad m = l ∧ m.length ≤ 512 := by
  obtain ⟨h1, h2⟩ := h
  rcases h2 with ⟨rfl, rfl⟩ | ⟨b, _, rfl, hB⟩
  · exact ⟨[], Src.nil w, pad_nil, by simp⟩
  · refine ⟨l, ⟨some ⟨b, 0, none⟩, 512, by rw [h1], by omega, by unfold maxLen; omega, fun e => (by cases e), fun ad e j u hu => ?_⟩, pad_full h1, by omega⟩
    cases e
    rw [Addr.add_mid, Nat.zero_add, hB.cell, List.getElem?_toArray]
    exact hu
theorem Byt.form {v : Value} {l : List UInt8} (h : Byt w bs v l) : ∃ ao n, v = .slice ao n n := by
  rcases h.2 with ⟨rfl, _⟩ | ⟨b, _, rfl, hB⟩
  · exact ⟨none, 0, rfl⟩
  · exact ⟨_, 512, rfl⟩
end

theorem infoW : (Try.prog.info? 88).map (fun i => (i.zero, i.size, i.bytes)) = some (some (.agg #[.int .i64 0, .slice none 0 0]), 2, 32) := by kernel_rfl

/-- A write more that waits. -/
theorem wpList_pushW {ops : Array Oper} {rest : List Oper} {o : Oper} {a : Act} {Q : Exit → Act → World → Prop} (w : World) (hgd : o.guard = none) (s x : Operand)
    (ho : o.op = .call { callee := .builtin .append, args := #[s, x], argTypes := #[68, 68] })
    (bs : Nat → Prop) (v : Value) (ws : List (Nat × List UInt8)) (i : Nat) (u : Value) (l : List UInt8) (hown : WaitsAt w bs v ws) (hu : Byt w bs u l) (hu1 : u.oneCell' = true) (hbs : ∀ k, v.ownBlock = some k → ¬ bs k)
    (hs : a.eval s = v) (hx : a.eval x = .slice (some ⟨w.heap.size, 0, none⟩) 1 1) (hl : ws.length < 1099511627776)
    (hK : ∀ v' w', WaitsAt w' bs v' (ws ++ [(i, l)]) → Chg (fun k => v.ownBlock = some k) w w' → (v'.ownBlock = v.ownBlock ∨ v'.ownBlock = some (w.heap.size + 1)) → wpList Try.prog ops Q rest (a.put o.dst v') w') :
    wpList Try.prog ops Q (o :: rest) a (w.alloc (.cells #[.int .i64 (i : Int), u] 88)) := by
  obtain ⟨i0, hi, hz0, hz1, hz2⟩ := info_parts infoW
  obtain ⟨xs, h1, h2⟩ := hown
  have hxl := h1.1
  refine wpList_append_own_at _ hgd s x 68 ho 0 88 i0 (.agg #[.int .i64 0, .slice none 0 0]) 2 32 Try.underlying68 hi hz0 hz1 hz2 rfl (by decide) v ws.length xs hs (h1.alloc _) ⟨w.heap.size, 0, none⟩ 1 1 [.int .i64 (i : Int), u] hx rfl ?_ ?_ ?_ ?_ (Nat.zero_le _) ?_
  · intro j z hj
    rw [Addr.add_mid, Nat.zero_add, (Blk.new w _ _).cell, List.getElem?_toArray]
    exact hj
  · intro z hz; simp at hz; rcases hz with rfl | rfl; rfl; exact hu1
  · unfold maxLen; omega
  · omega
  · intro v' w' k1 k2 k3 k4
    have hch : Chg (fun k => v.ownBlock = some k) w w' := ((Chg.refl _ w).alloc _).grown k2 (fun k e _ => e)
    refine hK v' w' ⟨xs ++ [.int .i64 (i : Int), u], by simpa using k1, fun j p hp => ?_⟩ hch (by simpa using k4)
    have hbs' : ∀ k, bs k → ¬ v.ownBlock = some k := fun k hk e => hbs k e hk
    rcases (show j < ws.length ∨ j = ws.length ∨ ws.length < j by omega) with hj | rfl | hj
    · rw [List.getElem?_append_left hj] at hp
      obtain ⟨a1, z, a2, a3⟩ := h2 j p hp
      exact ⟨by rw [List.getElem?_append_left (by omega)]; exact a1, z, by rw [List.getElem?_append_left (by omega)]; exact a2, a3.chg hch hbs' (fun _ e => e)⟩
    · simp at hp
      subst hp
      refine ⟨?_, u, ?_, hu.chg hch hbs' (fun _ e => e)⟩
      · rw [List.getElem?_append_right (by omega), hxl]; simp
      · rw [List.getElem?_append_right (by omega), hxl]; simp [Nat.add_sub_cancel_left]
    · rw [List.getElem?_eq_none (by simp; omega)] at hp
      cases hp
end Go.Proofs.Ytepfckckplbjjaa
