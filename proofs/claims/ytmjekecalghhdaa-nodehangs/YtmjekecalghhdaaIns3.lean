/- slices.Delete of one element of a row of a call's own. Own lemmas, no statement. -/
import Derived.Test.YtmjekecalghhdaaIns2
import Derived.Lib.OwnBridge
set_option linter.unusedSimpArgs false
set_option linter.unusedVariables false
namespace Go.Proofs.Ytmjekecalghhdaa
open Go.RowKit Go.Sort

theorem grown_putRow {α : Type} [Inhabited α] {enc : α → Value} {w : World} {g q : Nat} {d : Array α} : w.grownBy (putRow enc (Sort.ahead w q) g 0 d) (some g) :=
  ⟨rfl, rfl, rfl, by simp [putRow, mapBlock, Sort.ahead], fun k hk hn => by simp [putRow, mapBlock, Sort.ahead, Array.getElem?_modify, show g ≠ k from fun e => hn (by rw [e])]⟩
theorem map_erase {α β : Type} (f : α → β) (l : List α) (i : Nat) : (l.eraseIdx i).map f = (l.map f).eraseIdx i := by
  rw [List.eraseIdx_eq_take_drop_succ, List.eraseIdx_eq_take_drop_succ, List.map_append, List.map_take, List.map_drop]
theorem cut_take {α : Type} (zs : List α) (i : Nat) (x : α) (hi : i < zs.length) : (zs.take i ++ zs.drop (i + 1) ++ List.replicate (i + 1 - i) x).take (zs.length - 1) = zs.eraseIdx i := by
  rw [List.eraseIdx_eq_take_drop_succ]
  exact List.take_left' (by simp; omega)

theorem delS_any (W : World) (B : Nat) (v : Value) (ks : List ByteArray) (i : Nat) (hown : OwnV W B 9 v (sv ks)) (hi : i < ks.length) (hl : ks.length ≤ 1000) :
    Calls Try.prog 65 #[v, .int .i64 (i : Int), .int .i64 ((i : Int) + 1)] W fun e w' => ∃ v', e = .returned v' ∧ OwnV w' B 9 v' (sv (ks.eraseIdx i)) ∧ v'.ownBlock = v.ownBlock ∧ W.grownBy w' v.ownBlock := by
  have hne : v ≠ .slice none 0 0 := by
    rintro rfl
    rcases hown.2 with ⟨_, h⟩ | ⟨_, _, _, h, _⟩
    · rw [sv_length] at h; omega
    · cases h
  have hmap : (ks.map (·.data.toList)).map encStr = sv ks := Lib.map_encStr ks
  have hzl : (ks.map (·.data.toList)).length = ks.length := (by simp)
  have hown' : W.ownsRow B 9 1 v ks.length ((ks.map (·.data.toList)).map encStr) := by rw [hmap]; have := hown; unfold OwnV at this; rw [sv_length] at this; exact this
  obtain ⟨g, cap, rfl, hb, hg, hn, hm, hl', hH⟩ := Lib.holds_of_ownsRow hown' hne
  have hc := Any.slices_Delete_string laysDS g 0 cap i (i + 1) (ks.map (·.data.toList)) W hH (by omega) hm (Nat.le_succ _) (by omega)
  rw [hzl] at hc
  have hc' : Calls Try.prog 65 #[.slice (some ⟨g, 0, none⟩) ks.length cap, .int .i64 (i : Int), .int .i64 ((i : Int) + 1)] W _ := hc
  refine hc'.mono ?_
  rintro e w' ⟨rfl, q, rfl⟩
  have ho := Lib.ownsRow_putRow (q := q) (k := ks.length - 1) (ys := (ks.map (·.data.toList)).take i ++ (ks.map (·.data.toList)).drop (i + 1) ++ List.replicate (i + 1 - i) []) hown' (by simp; omega) (by omega)
  rw [← hzl, cut_take _ _ _ (by omega), hzl] at ho
  refine ⟨_, rfl, ?_, rfl, grown_putRow⟩
  have hk : ks.length - (i + 1 - i) = ks.length - 1 := by omega
  rw [hk]
  unfold OwnV
  have e1 : (sv (ks.eraseIdx i)).length = ks.length - 1 := by rw [sv_length, List.length_eraseIdx_of_lt hi]
  have e2 : ((ks.map (·.data.toList)).eraseIdx i).map encStr = sv (ks.eraseIdx i) := by rw [map_erase, hmap]; unfold sv; rw [map_erase]
  rw [e1, ← e2]
  exact ho

theorem delI_any (W : World) (B : Nat) (v : Value) (ks : List Int) (i : Nat) (hown : OwnV W B 3 v (iv ks)) (hi : i < ks.length) (hl : ks.length ≤ 1000) :
    Calls Try.prog 71 #[v, .int .i64 (i : Int), .int .i64 ((i : Int) + 1)] W fun e w' => ∃ v', e = .returned v' ∧ OwnV w' B 3 v' (iv (ks.eraseIdx i)) ∧ v'.ownBlock = v.ownBlock ∧ W.grownBy w' v.ownBlock := by
  have hne : v ≠ .slice none 0 0 := by
    rintro rfl
    rcases hown.2 with ⟨_, h⟩ | ⟨_, _, _, h, _⟩
    · rw [iv_length] at h; omega
    · cases h
  have hmap : ks.map (Value.int .i64) = iv ks := rfl
  have hzl : ks.length = ks.length := rfl
  have hown' : W.ownsRow B 3 1 v ks.length (ks.map (Value.int .i64)) := by rw [hmap]; have := hown; unfold OwnV at this; rw [iv_length] at this; exact this
  obtain ⟨g, cap, rfl, hb, hg, hn, hm, hl', hH⟩ := Lib.holds_of_ownsRow hown' hne
  have hc := Any.slices_Delete_int laysDI g 0 cap i (i + 1) ks W hH (by omega) hm (Nat.le_succ _) (by omega)
  rw [hzl] at hc
  have hc' : Calls Try.prog 71 #[.slice (some ⟨g, 0, none⟩) ks.length cap, .int .i64 (i : Int), .int .i64 ((i : Int) + 1)] W _ := hc
  refine hc'.mono ?_
  rintro e w' ⟨rfl, q, rfl⟩
  have ho := Lib.ownsRow_putRow (q := q) (k := ks.length - 1) (ys := ks.take i ++ ks.drop (i + 1) ++ List.replicate (i + 1 - i) 0) hown' (by simp; omega) (by omega)
  rw [← hzl, cut_take _ _ _ (by omega), hzl] at ho
  refine ⟨_, rfl, ?_, rfl, grown_putRow⟩
  have hk : ks.length - (i + 1 - i) = ks.length - 1 := by omega
  rw [hk]
  unfold OwnV
  have e1 : (iv (ks.eraseIdx i)).length = ks.length - 1 := by rw [iv_length, List.length_eraseIdx_of_lt hi]
  have e2 : (ks.eraseIdx i).map (Value.int .i64) = iv (ks.eraseIdx i) := by rw [map_erase, hmap]; unfold iv; rw [map_erase]
  rw [e1, ← e2]
  exact ho
end Go.Proofs.Ytmjekecalghhdaa
