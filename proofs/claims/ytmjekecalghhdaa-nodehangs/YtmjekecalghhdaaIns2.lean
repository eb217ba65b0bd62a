/- slices.Insert of one element into a row of a call's own. Own lemmas, no statement. -/
import Derived.Test.YtmjekecalghhdaaIns1
import Derived.Deep.Upon
set_option linter.unusedSimpArgs false
set_option linter.unusedVariables false
namespace Go.Proofs.Ytmjekecalghhdaa
open Go.RowKit

theorem grown_cells {w : World} {g : Nat} : ∀ (vs : List Value) (o : Nat) {w' : World}, w.grownBy w' (some g) → w.grownBy (w'.setCells g o vs) (some g)
  | [], _, _, h => h
  | v :: vs, o, w', h => grown_cells vs (o + 1) ⟨h.os, h.tape, h.output, by have := h.size; simpa [World.setCell] using this, fun k hk hn => by rw [Below.heap_setCell _ _ _ _ (fun e => hn (by rw [e]))]; exact h.block k hk hn⟩
theorem grown_drew {w w' : World} {r : Option Nat} (h : w.grownBy w' r) : w.grownBy w'.drew r := ⟨h.os, h.tape, h.output, h.size, h.block⟩
theorem grown_new {w w' : World} {r : Option Nat} (h : w.grownBy w' r) (o : Obj) : w.grownBy (w'.alloc o) r := ⟨h.os, h.tape, h.output, by have := h.size; simp; omega, fun k hk hn => by rw [Below.heap_alloc _ _ _ (Nat.lt_of_lt_of_le hk h.size)]; exact h.block k hk hn⟩
theorem grown_newset {w : World} {r : Option Nat} {g : Nat} (hg : w.heap.size ≤ g) : ∀ (vs : List Value) (o : Nat) {w' : World}, w.grownBy w' r → w.grownBy (w'.setCells g o vs) r
  | [], _, _, h => h
  | v :: vs, o, w', h => grown_newset hg vs (o + 1) ⟨h.os, h.tape, h.output, by have := h.size; simpa [World.setCell] using this, fun k hk hn => by rw [Below.heap_setCell _ _ _ _ (by show k ≠ g; omega)]; exact h.block k hk hn⟩
section
variable {α : Type}
theorem ins_end (us : List α) (a : α) : us.take us.length ++ a :: us.drop us.length = us ++ [a] := by simp
theorem lay_end {cur us rest : List α} {n : Nat} (a : α) (ht : cur.take n = us) (hn : us.length = n) : (cur.take n ++ [a] ++ rest).take (n + 1) = us ++ [a] := by
  rw [ht]
  exact List.take_left' (by simp [hn])
theorem lay_shift {cur us rest : List α} {n i : Nat} (a : α) (ht : cur.take n = us) (hn : us.length = n) (hi : i < n) (c1 : List α) (h1 : c1 = cur.take (i + 1) ++ us.drop i ++ rest) (c2 : List α) (h2 : c2 = c1.take i ++ [a] ++ c1.drop (i + 1)) : c2.take (n + 1) = us.take i ++ a :: us.drop i := by
  have e0 : cur.take (i + 1) = us.take (i + 1) := by rw [← ht, List.take_take, Nat.min_eq_left (by omega)]
  have l0 : (us.take (i + 1)).length = i + 1 := by rw [List.length_take]; omega
  have e1 : c1.take i = us.take i := by
    rw [h1, e0, List.append_assoc, List.take_append_of_le_length (by omega), List.take_take, Nat.min_eq_left (by omega)]
  have e2 : c1.drop (i + 1) = us.drop i ++ rest := by
    rw [h1, e0, List.append_assoc, List.drop_left' l0]
  rw [h2, e1, e2, ← List.append_assoc]
  rw [List.take_left' (by simp; omega)]
  simp
theorem lay_grow {us z rest : List α} {n i : Nat} (a : α) (hn : us.length = n) (hi : i ≤ n) (c1 : List α) (h1 : c1 = (us.take i ++ z).take i ++ [a] ++ (us.take i ++ z).drop (i + 1)) (c2 : List α) (h2 : c2 = c1.take (i + 1) ++ us.drop i ++ rest) : c2.take (n + 1) = us.take i ++ a :: us.drop i := by
  have l0 : (us.take i).length = i := by rw [List.length_take]; omega
  have e1 : c1.take (i + 1) = us.take i ++ [a] := by
    rw [h1, List.take_left' l0]
    exact List.take_left' (by simp; omega)
  rw [h2, e1, List.take_left' (by simp; omega)]
  simp
end
/-- A row in a block that is known. -/
theorem own_of {W : World} {B g n cap : Nat} {T : TypeId} {cur : Array Value} {us : List Value} (h : Blk W g cur T) (hB : B ≤ g) (hn : us.length = n) (hc : n ≤ cap) (hm : cap ≤ maxLen) (hs : cur.size = cap) (ht : cur.toList.take n = us) : OwnV W B T (.slice (some ⟨g, 0, none⟩) n cap) us := by
  refine ⟨by simp, .inr ⟨g, cap, cur, by rw [hn], hB, h, by omega, hm, by omega, by rw [Nat.mul_one, hn]; exact ht⟩⟩

set_option maxHeartbeats 1000000 in
theorem insS_any (W : World) (B : Nat) (v : Value) (ks : List ByteArray) (i : Nat) (x : ByteArray) (hown : OwnV W B 9 v (sv ks)) (hi : i ≤ ks.length) (hl : ks.length ≤ 1000) (hB : B ≤ W.heap.size) :
    Calls Try.prog 64 #[v, .int .i64 (i : Int), .slice (some ⟨W.heap.size, 0, none⟩) 1 1] (W.alloc (.cells #[.string x] 9)) fun e w' => ∃ v', e = .returned v' ∧ OwnV w' B 9 v' (sv (ks.take i ++ x :: ks.drop i)) ∧ (v'.ownBlock = v.ownBlock ∨ v'.ownBlock = some (W.heap.size + 1)) ∧ (W.alloc (.cells #[.string x] 9)).grownBy w' v.ownBlock := by
  have hnew : Blk (W.alloc (.cells #[.string x] 9)) W.heap.size #[.string x] 9 := Blk.new _ _ _
  have hsz : (W.alloc (.cells #[.string x] 9)).heap.size = W.heap.size + 1 := by simp
  have hvs : ∀ j u, [Value.string x][j]? = some u → (W.alloc (.cells #[.string x] 9)).cell? ⟨W.heap.size, 0 + j, none⟩ = some u := fun j u hu => by rw [Nat.zero_add, hnew.cell]; simpa using hu
  have h1v : ∀ u ∈ [Value.string x], u.oneCell' = true := by intro u hu; simp at hu; subst hu; rfl
  have hlen : (sv (ks.take i ++ x :: ks.drop i)).length = ks.length + 1 := by rw [sv_length, List.length_append, List.length_cons, List.length_take, List.length_drop]; omega
  have hcv : sv (ks.take i ++ x :: ks.drop i) = (sv ks).take i ++ Value.string x :: (sv ks).drop i := by simp [sv]
  have hkl : (sv ks).length = ks.length := sv_length ks
  have z1 : ((Value.string ⟨#[]⟩).cells).size = 1 := rfl
  rcases hown.2 with ⟨rfl, hn⟩ | ⟨g, cap, cur, rfl, hb, hg, hnc, hcm, hcs, ht⟩
  · have hk0 : ks = [] := List.eq_nil_of_length_eq_zero (by omega)
    subst hk0
    have hi0 : i = 0 := by simpa using hi
    subst hi0
    refine (Any2.slices_Insert_string_end_grow laysIS none 0 0 W.heap.size 0 1 1 [] [.string x] (W.alloc (.cells #[.string x] 9)) (by omega) (Nat.le_refl _) (by omega) (by omega) rfl rfl (fun _ => rfl) (fun a h => by cases h) hvs h1v).mono ?_
    rintro e w' ⟨rfl, rfl⟩
    refine ⟨_, rfl, ?_, .inr ?_, grown_new (grown_drew (World.grownBy.refl _ _)) _⟩
    · refine own_of (Blk.new _ _ _) (by show B ≤ (W.alloc (.cells #[.string x] 9)).heap.size; omega) rfl (grownCap_ge _ _ _ _) (grownCap_le_maxLen _ _ _ _ (by unfold maxLen; omega)) ?_ ?_
      · have := grownCap_ge (W.alloc (.cells #[.string x] 9)) (0 + 1) 0 (sRen.t 9)
        simp [size_zeroCells, z1] at this ⊢
        omega
      · simp [sv]
    · show some (W.alloc (.cells #[.string x] 9)).heap.size = _
      rw [hsz]
  · rw [hkl] at hnc ht ⊢
    rw [Nat.mul_one] at hcs ht
    have hgl : g < W.heap.size := (Array.getElem?_eq_some_iff.1 hg).1
    have hG : Blk (W.alloc (.cells #[.string x] 9)) g cur 9 := Blk.alloc hg _
    have hne : W.heap.size ≠ g := by omega
    have hcell : ∀ j u, (sv ks)[j]? = some u → (W.alloc (.cells #[.string x] 9)).cell? ⟨g, 0 + j, none⟩ = some u := fun j u hu => by
      rw [Nat.zero_add, hG.cell]
      rw [← ht, List.getElem?_take] at hu
      split at hu
      · simpa using hu
      · cases hu
    have hsome : ∀ j, j < cap → ((W.alloc (.cells #[.string x] 9)).cell? ⟨g, 0 + j, none⟩).isSome = true := fun j hj => by rw [Nat.zero_add, hG.cell]; simp; omega
    have hfz : ∀ j, (W.alloc (.cells #[.string x] 9)).frozen? ⟨g, j, none⟩ = false := fun j => hG.frozen j
    have hone : ∀ u ∈ sv ks, u.oneCell' = true := sv_one ks
    have hcur : cur.toList = sv ks ++ cur.toList.drop ks.length := by rw [← ht, List.take_append_drop]
    by_cases hin : i = ks.length
    · subst hin
      by_cases hroom : ks.length + 1 ≤ cap
      · refine (Any2.slices_Insert_string_end_room laysIS g 0 ks.length cap W.heap.size 0 1 1 [.string x] (W.alloc (.cells #[.string x] 9)) (by omega) hroom hcm rfl (fun j hj => by have := hsome (ks.length + j) (by omega); rw [Nat.zero_add] at this ⊢; exact this) (fun j hj => hfz _) hvs h1v).mono ?_
        rintro e w' ⟨rfl, rfl⟩
        have hs := Blk.setCells [Value.string x] (0 + ks.length) hG (by simp; omega)
        refine ⟨_, rfl, ?_, .inl rfl, grown_cells _ _ (World.grownBy.refl _ _)⟩
        refine own_of hs hb hlen hroom hcm (by simp; omega) ?_
        rw [hcv, ← hkl, ins_end]
        simp only [Nat.zero_add, hkl]
        exact lay_end _ ht hkl
      · refine (Any2.slices_Insert_string_end_grow laysIS (some ⟨g, 0, none⟩) ks.length cap W.heap.size 0 1 1 (sv ks) [.string x] (W.alloc (.cells #[.string x] 9)) (by omega) hnc (by omega) (by omega) hkl rfl (fun h => by cases h) (fun a h j u hu => by cases h; rw [Addr.add_mid]; exact hcell j u hu) hvs h1v).mono ?_
        rintro e w' ⟨rfl, rfl⟩
        refine ⟨_, rfl, ?_, .inr ?_, grown_new (grown_drew (World.grownBy.refl _ _)) _⟩
        · refine own_of (Blk.new _ _ _) (by show B ≤ (W.alloc (.cells #[.string x] 9)).heap.size; omega) hlen (grownCap_ge _ _ _ _) (grownCap_le_maxLen _ _ _ _ (by unfold maxLen; omega)) ?_ ?_
          · have := grownCap_ge (W.alloc (.cells #[.string x] 9)) (ks.length + 1) cap (sRen.t 9)
            simp [size_zeroCells, z1, hkl]
            omega
          · rw [hcv, ← hkl, ins_end]
            simp only [Array.toList_append, hkl]
            exact List.take_left' (by simp [hkl])
        · show some (W.alloc (.cells #[.string x] 9)).heap.size = _
          rw [hsz]
    · have hlt : i < ks.length := by omega
      by_cases hroom : ks.length + 1 ≤ cap
      · refine (Any2.slices_Insert_string_shift laysIS g 0 ks.length cap i W.heap.size 0 1 1 (sv ks) [.string x] (W.alloc (.cells #[.string x] 9)) hlt (by omega) hroom hcm hne hkl rfl hcell (fun j hj => hsome j (by omega)) (fun j hj => hfz _) hvs hone h1v 9 9 1 cap (by unfold World.shape?; rw [hnew]; rfl) (by unfold World.shape?; rw [hG]; simp [hcs]) (by omega) (hnew.frozen _) (hnew.frozen _)).mono ?_
        rintro e w' ⟨rfl, rfl⟩
        have hs1 := Blk.setCells ((sv ks).drop i) (0 + (i + 1)) hG.drew (by rw [List.length_drop, hkl]; omega)
        have hs2 := Blk.setCells [Value.string x] (0 + i) hs1 (by simp [hkl]; omega)
        refine ⟨_, rfl, ?_, .inl rfl, grown_cells _ _ (grown_cells _ _ (grown_drew (World.grownBy.refl _ _)))⟩
        refine own_of hs2 hb hlen hroom hcm (by simp [hkl]; omega) ?_
        rw [hcv]
        simp only [Nat.zero_add]
        exact lay_shift _ ht hkl hlt _ rfl _ rfl
      · refine (Any2.slices_Insert_string_grow laysIS g 0 ks.length cap i W.heap.size 0 1 1 (sv ks) [.string x] (W.alloc (.cells #[.string x] 9)) hlt (by omega) hnc (by omega) (by omega) hkl rfl hcell hvs hone h1v).mono ?_
        rintro e w' ⟨rfl, rfl⟩
        have hcap := grownCap_ge (W.alloc (.cells #[.string x] 9)) (ks.length + 1) cap (sRen.t 9)
        have hs0 : Blk _ (W.alloc (.cells #[.string x] 9)).heap.size _ (sRen.t 9) := Blk.new (W.alloc (.cells #[.string x] 9)) (((sv ks).take i).toArray ++ Builtin.zeroCells (Value.string ⟨#[]⟩).cells (ks.length + 1 - i) ++ Builtin.zeroCells (Value.string ⟨#[]⟩).cells (grownCap (W.alloc (.cells #[.string x] 9)) (ks.length + 1) cap (sRen.t 9) - (ks.length + 1))) (sRen.t 9)
        have hs1 := Blk.setCells [Value.string x] i hs0.drew (by simp [size_zeroCells, z1, hkl]; omega)
        have hs2 := Blk.setCells ((sv ks).drop i) (i + 1) hs1.drew (by simp [size_zeroCells, z1, hkl]; omega)
        refine ⟨_, rfl, ?_, .inr ?_, grown_newset (Nat.le_refl _) _ _ (grown_drew (grown_newset (Nat.le_refl _) _ _ (grown_drew (grown_new (World.grownBy.refl _ _) _))))⟩
        · refine own_of hs2 (by show B ≤ (W.alloc (.cells #[.string x] 9)).heap.size; omega) hlen hcap (grownCap_le_maxLen _ _ _ _ (by unfold maxLen; omega)) (by simp [size_zeroCells, z1, hkl]; omega) ?_
          rw [hcv]
          refine lay_grow (z := (Builtin.zeroCells (Value.string ⟨#[]⟩).cells (ks.length + 1 - i)).toList ++ (Builtin.zeroCells (Value.string ⟨#[]⟩).cells (grownCap (W.alloc (.cells #[.string x] 9)) (ks.length + 1) cap (sRen.t 9) - (ks.length + 1))).toList) _ hkl (Nat.le_of_lt hlt) _ ?_ _ rfl
          simp [List.append_assoc]
        · show some (W.alloc (.cells #[.string x] 9)).heap.size = _
          rw [hsz]

set_option maxHeartbeats 1000000 in
theorem insI_any (W : World) (B : Nat) (v : Value) (ks : List Int) (i : Nat) (x : Int) (hown : OwnV W B 3 v (iv ks)) (hi : i ≤ ks.length) (hl : ks.length ≤ 1000) (hB : B ≤ W.heap.size) :
    Calls Try.prog 69 #[v, .int .i64 (i : Int), .slice (some ⟨W.heap.size, 0, none⟩) 1 1] (W.alloc (.cells #[.int .i64 x] 3)) fun e w' => ∃ v', e = .returned v' ∧ OwnV w' B 3 v' (iv (ks.take i ++ x :: ks.drop i)) ∧ (v'.ownBlock = v.ownBlock ∨ v'.ownBlock = some (W.heap.size + 1)) ∧ (W.alloc (.cells #[.int .i64 x] 3)).grownBy w' v.ownBlock := by
  have hnew : Blk (W.alloc (.cells #[.int .i64 x] 3)) W.heap.size #[.int .i64 x] 3 := Blk.new _ _ _
  have hsz : (W.alloc (.cells #[.int .i64 x] 3)).heap.size = W.heap.size + 1 := by simp
  have hvs : ∀ j u, [Value.int .i64 x][j]? = some u → (W.alloc (.cells #[.int .i64 x] 3)).cell? ⟨W.heap.size, 0 + j, none⟩ = some u := fun j u hu => by rw [Nat.zero_add, hnew.cell]; simpa using hu
  have h1v : ∀ u ∈ [Value.int .i64 x], u.oneCell' = true := by intro u hu; simp at hu; subst hu; rfl
  have hlen : (iv (ks.take i ++ x :: ks.drop i)).length = ks.length + 1 := by rw [iv_length, List.length_append, List.length_cons, List.length_take, List.length_drop]; omega
  have hcv : iv (ks.take i ++ x :: ks.drop i) = (iv ks).take i ++ Value.int .i64 x :: (iv ks).drop i := by simp [iv]
  have hkl : (iv ks).length = ks.length := iv_length ks
  have z1 : ((Value.int .i64 0).cells).size = 1 := rfl
  rcases hown.2 with ⟨rfl, hn⟩ | ⟨g, cap, cur, rfl, hb, hg, hnc, hcm, hcs, ht⟩
  · have hk0 : ks = [] := List.eq_nil_of_length_eq_zero (by omega)
    subst hk0
    have hi0 : i = 0 := by simpa using hi
    subst hi0
    refine (Any2.slices_Insert_int_end_grow laysII none 0 0 W.heap.size 0 1 1 [] [.int .i64 x] (W.alloc (.cells #[.int .i64 x] 3)) (by omega) (Nat.le_refl _) (by omega) (by omega) rfl rfl (fun _ => rfl) (fun a h => by cases h) hvs h1v).mono ?_
    rintro e w' ⟨rfl, rfl⟩
    refine ⟨_, rfl, ?_, .inr ?_, grown_new (grown_drew (World.grownBy.refl _ _)) _⟩
    · refine own_of (Blk.new _ _ _) (by show B ≤ (W.alloc (.cells #[.int .i64 x] 3)).heap.size; omega) rfl (grownCap_ge _ _ _ _) (grownCap_le_maxLen _ _ _ _ (by unfold maxLen; omega)) ?_ ?_
      · have := grownCap_ge (W.alloc (.cells #[.int .i64 x] 3)) (0 + 1) 0 (sRen.t 3)
        simp [size_zeroCells, z1] at this ⊢
        omega
      · simp [iv]
    · show some (W.alloc (.cells #[.int .i64 x] 3)).heap.size = _
      rw [hsz]
  · rw [hkl] at hnc ht ⊢
    rw [Nat.mul_one] at hcs ht
    have hgl : g < W.heap.size := (Array.getElem?_eq_some_iff.1 hg).1
    have hG : Blk (W.alloc (.cells #[.int .i64 x] 3)) g cur 3 := Blk.alloc hg _
    have hne : W.heap.size ≠ g := by omega
    have hcell : ∀ j u, (iv ks)[j]? = some u → (W.alloc (.cells #[.int .i64 x] 3)).cell? ⟨g, 0 + j, none⟩ = some u := fun j u hu => by
      rw [Nat.zero_add, hG.cell]
      rw [← ht, List.getElem?_take] at hu
      split at hu
      · simpa using hu
      · cases hu
    have hsome : ∀ j, j < cap → ((W.alloc (.cells #[.int .i64 x] 3)).cell? ⟨g, 0 + j, none⟩).isSome = true := fun j hj => by rw [Nat.zero_add, hG.cell]; simp; omega
    have hfz : ∀ j, (W.alloc (.cells #[.int .i64 x] 3)).frozen? ⟨g, j, none⟩ = false := fun j => hG.frozen j
    have hone : ∀ u ∈ iv ks, u.oneCell' = true := iv_one ks
    have hcur : cur.toList = iv ks ++ cur.toList.drop ks.length := by rw [← ht, List.take_append_drop]
    by_cases hin : i = ks.length
    · subst hin
      by_cases hroom : ks.length + 1 ≤ cap
      · refine (Any2.slices_Insert_int_end_room laysII g 0 ks.length cap W.heap.size 0 1 1 [.int .i64 x] (W.alloc (.cells #[.int .i64 x] 3)) (by omega) hroom hcm rfl (fun j hj => by have := hsome (ks.length + j) (by omega); rw [Nat.zero_add] at this ⊢; exact this) (fun j hj => hfz _) hvs h1v).mono ?_
        rintro e w' ⟨rfl, rfl⟩
        have hs := Blk.setCells [Value.int .i64 x] (0 + ks.length) hG (by simp; omega)
        refine ⟨_, rfl, ?_, .inl rfl, grown_cells _ _ (World.grownBy.refl _ _)⟩
        refine own_of hs hb hlen hroom hcm (by simp; omega) ?_
        rw [hcv, ← hkl, ins_end]
        simp only [Nat.zero_add, hkl]
        exact lay_end _ ht hkl
      · refine (Any2.slices_Insert_int_end_grow laysII (some ⟨g, 0, none⟩) ks.length cap W.heap.size 0 1 1 (iv ks) [.int .i64 x] (W.alloc (.cells #[.int .i64 x] 3)) (by omega) hnc (by omega) (by omega) hkl rfl (fun h => by cases h) (fun a h j u hu => by cases h; rw [Addr.add_mid]; exact hcell j u hu) hvs h1v).mono ?_
        rintro e w' ⟨rfl, rfl⟩
        refine ⟨_, rfl, ?_, .inr ?_, grown_new (grown_drew (World.grownBy.refl _ _)) _⟩
        · refine own_of (Blk.new _ _ _) (by show B ≤ (W.alloc (.cells #[.int .i64 x] 3)).heap.size; omega) hlen (grownCap_ge _ _ _ _) (grownCap_le_maxLen _ _ _ _ (by unfold maxLen; omega)) ?_ ?_
          · have := grownCap_ge (W.alloc (.cells #[.int .i64 x] 3)) (ks.length + 1) cap (sRen.t 3)
            simp [size_zeroCells, z1, hkl]
            omega
          · rw [hcv, ← hkl, ins_end]
            simp only [Array.toList_append, hkl]
            exact List.take_left' (by simp [hkl])
        · show some (W.alloc (.cells #[.int .i64 x] 3)).heap.size = _
          rw [hsz]
    · have hlt : i < ks.length := by omega
      by_cases hroom : ks.length + 1 ≤ cap
      · refine (Any2.slices_Insert_int_shift laysII g 0 ks.length cap i W.heap.size 0 1 1 (iv ks) [.int .i64 x] (W.alloc (.cells #[.int .i64 x] 3)) hlt (by omega) hroom hcm hne hkl rfl hcell (fun j hj => hsome j (by omega)) (fun j hj => hfz _) hvs hone h1v 3 3 1 cap (by unfold World.shape?; rw [hnew]; rfl) (by unfold World.shape?; rw [hG]; simp [hcs]) (by omega) (hnew.frozen _) (hnew.frozen _)).mono ?_
        rintro e w' ⟨rfl, rfl⟩
        have hs1 := Blk.setCells ((iv ks).drop i) (0 + (i + 1)) hG.drew (by rw [List.length_drop, hkl]; omega)
        have hs2 := Blk.setCells [Value.int .i64 x] (0 + i) hs1 (by simp [hkl]; omega)
        refine ⟨_, rfl, ?_, .inl rfl, grown_cells _ _ (grown_cells _ _ (grown_drew (World.grownBy.refl _ _)))⟩
        refine own_of hs2 hb hlen hroom hcm (by simp [hkl]; omega) ?_
        rw [hcv]
        simp only [Nat.zero_add]
        exact lay_shift _ ht hkl hlt _ rfl _ rfl
      · refine (Any2.slices_Insert_int_grow laysII g 0 ks.length cap i W.heap.size 0 1 1 (iv ks) [.int .i64 x] (W.alloc (.cells #[.int .i64 x] 3)) hlt (by omega) hnc (by omega) (by omega) hkl rfl hcell hvs hone h1v).mono ?_
        rintro e w' ⟨rfl, rfl⟩
        have hcap := grownCap_ge (W.alloc (.cells #[.int .i64 x] 3)) (ks.length + 1) cap (sRen.t 3)
        have hs0 : Blk _ (W.alloc (.cells #[.int .i64 x] 3)).heap.size _ (sRen.t 3) := Blk.new (W.alloc (.cells #[.int .i64 x] 3)) (((iv ks).take i).toArray ++ Builtin.zeroCells (Value.int .i64 0).cells (ks.length + 1 - i) ++ Builtin.zeroCells (Value.int .i64 0).cells (grownCap (W.alloc (.cells #[.int .i64 x] 3)) (ks.length + 1) cap (sRen.t 3) - (ks.length + 1))) (sRen.t 3)
        have hs1 := Blk.setCells [Value.int .i64 x] i hs0.drew (by simp [size_zeroCells, z1, hkl]; omega)
        have hs2 := Blk.setCells ((iv ks).drop i) (i + 1) hs1.drew (by simp [size_zeroCells, z1, hkl]; omega)
        refine ⟨_, rfl, ?_, .inr ?_, grown_newset (Nat.le_refl _) _ _ (grown_drew (grown_newset (Nat.le_refl _) _ _ (grown_drew (grown_new (World.grownBy.refl _ _) _))))⟩
        · refine own_of hs2 (by show B ≤ (W.alloc (.cells #[.int .i64 x] 3)).heap.size; omega) hlen hcap (grownCap_le_maxLen _ _ _ _ (by unfold maxLen; omega)) (by simp [size_zeroCells, z1, hkl]; omega) ?_
          rw [hcv]
          refine lay_grow (z := (Builtin.zeroCells (Value.int .i64 0).cells (ks.length + 1 - i)).toList ++ (Builtin.zeroCells (Value.int .i64 0).cells (grownCap (W.alloc (.cells #[.int .i64 x] 3)) (ks.length + 1) cap (sRen.t 3) - (ks.length + 1))).toList) _ hkl (Nat.le_of_lt hlt) _ ?_ _ rfl
          simp [List.append_assoc]
        · show some (W.alloc (.cells #[.int .i64 x] 3)).heap.size = _
          rw [hsz]
end Go.Proofs.Ytmjekecalghhdaa
