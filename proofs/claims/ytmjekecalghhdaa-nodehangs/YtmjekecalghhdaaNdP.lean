/- Lists of texts in rising order, each once: laying one; the leaf and the inner page that the laws make. Plain lemmas. -/
import Derived.Test.YtmjekecalghhdaaNd1
namespace Go.Proofs.Ytmjekecalghhdaa

def insB (k : ByteArray) : List ByteArray → List ByteArray
  | [] => [k]
  | p :: t => if ltK p k then p :: insB k t else if ltK k p then k :: p :: t else p :: t
def addK (ks : List ByteArray) (k : ByteArray) : List ByteArray := insB k ks
def ksOf (l : List ByteArray) : List ByteArray := l.foldl addK []
theorem insB_eq (k : ByteArray) : ∀ m : List ByteArray, insB k m = if hasB k m then m else m.take (idxB k m) ++ k :: m.drop (idxB k m)
  | [] => rfl
  | p :: t => by
    unfold insB idxB hasB
    by_cases h : ltK p k = true
    · rw [if_pos h, if_pos h, if_pos h, insB_eq k t]
      cases hasB k t <;> simp
    · rw [if_neg h, if_neg h, if_neg h]
      by_cases h2 : ltK k p = true
      · rw [if_pos h2]; simp [h2]
      · rw [if_neg h2]; simp [h2]
theorem insB_has {k : ByteArray} {m : List ByteArray} (h : hasB k m = true) : insB k m = m := by rw [insB_eq, if_pos h]
theorem insB_new {k : ByteArray} {m : List ByteArray} (h : hasB k m = false) : insB k m = m.take (idxB k m) ++ k :: m.drop (idxB k m) := by rw [insB_eq, if_neg (by simp [h])]
theorem insB_mem (k : ByteArray) : ∀ m : List ByteArray, ∀ x ∈ insB k m, x = k ∨ x ∈ m
  | [], x, h => by simp [insB] at h; exact .inl h
  | p :: t, x, h => by
    unfold insB at h
    split at h
    · rcases List.mem_cons.1 h with rfl | h
      · exact .inr List.mem_cons_self
      · rcases insB_mem k t x h with h | h
        · exact .inl h
        · exact .inr (List.mem_cons_of_mem _ h)
    · split at h
      · rcases List.mem_cons.1 h with h | h
        · exact .inl h
        · exact .inr h
      · exact .inr h
theorem insB_rising (k : ByteArray) : ∀ m : List ByteArray, RisB m → RisB (insB k m)
  | [], _ => by simp [insB, RisB]
  | p :: t, h => by
    have h' := List.pairwise_cons.1 h
    unfold insB
    split
    · rename_i hp
      refine List.pairwise_cons.2 ⟨fun x hx => ?_, insB_rising k t h'.2⟩
      rcases insB_mem k t x hx with rfl | hx
      · exact hp
      · exact h'.1 x hx
    · split
      · rename_i hk
        refine List.pairwise_cons.2 ⟨fun x hx => ?_, h⟩
        rcases List.mem_cons.1 hx with rfl | hx
        · exact hk
        · exact ltK_trans hk (h'.1 x hx)
      · exact h
theorem insB_length (k : ByteArray) (m : List ByteArray) : (insB k m).length ≤ m.length + 1 := by
  rw [insB_eq]
  have := idxB_le k m
  split <;> simp <;> omega
theorem fold_rising : ∀ (l m : List ByteArray), RisB m → RisB (l.foldl addK m)
  | [], _, h => h
  | k :: l, m, h => fold_rising l (insB k m) (insB_rising k m h)
theorem fold_length : ∀ (l m : List ByteArray), (l.foldl addK m).length ≤ m.length + l.length
  | [], m => by simp
  | k :: l, m => by
    have h1 := fold_length l (insB k m)
    have h2 := insB_length k m
    show (l.foldl addK (insB k m)).length ≤ m.length + (l.length + 1)
    omega
theorem fold_mem : ∀ (l m : List ByteArray) (x : ByteArray), x ∈ l.foldl addK m → x ∈ l ∨ x ∈ m
  | [], _, _, h => .inr h
  | k :: l, m, x, h => by
    rcases fold_mem l (insB k m) x h with h | h
    · exact .inl (List.mem_cons_of_mem _ h)
    · rcases insB_mem k m x h with rfl | h
      · exact .inl List.mem_cons_self
      · exact .inr h
theorem ksOf_mem (l : List ByteArray) (x : ByteArray) (h : x ∈ ksOf l) : x ∈ l := by
  rcases fold_mem l [] x h with h | h
  · exact h
  · cases h
theorem ksOf_rising (l : List ByteArray) : RisB (ksOf l) := fold_rising l [] List.Pairwise.nil
theorem ksOf_length (l : List ByteArray) : (ksOf l).length ≤ l.length := by have := fold_length l []; simpa [ksOf] using this
theorem ksOf_take (l : List ByteArray) {i : Nat} (h : i < l.length) : ksOf (l.take (i + 1)) = insB l[i] (ksOf (l.take i)) := by
  unfold ksOf
  rw [List.take_succ_eq_append_getElem h, List.foldl_append]
  rfl

/-- "v" with a text behind it. -/
def vk (k : ByteArray) : ByteArray := ⟨#[118]⟩ ++ k
def vsTo (ks : List ByteArray) (j : Nat) : List ByteArray := (ks.take j).map vk
def lfK (ks : List ByteArray) (j : Nat) : Pg := ⟨1, ks, vsTo ks j, [], 0, 0, 0, 0⟩
/-- The law's leaf, the law's inner page. -/
def leafM (ks : List ByteArray) : Pg := ⟨1, ks, ks.map vk, [], 0, 0, 0, 0⟩
def kidsM (f : Int) (n : Nat) : List Int := (List.range n).map fun i : Nat => f + (i : Int)
def innM (ks : List ByteArray) (f : Int) (n : Nat) : Pg := ⟨2, ks, [], kidsM f n, 0, 0, 0, 0⟩
theorem lfK_zero (ks : List ByteArray) : lfK ks 0 = ⟨1, ks, [], [], 0, 0, 0, 0⟩ := by simp [lfK, vsTo]
theorem lfK_all (ks : List ByteArray) : lfK ks ks.length = leafM ks := by simp [lfK, leafM, vsTo]
theorem vsTo_length (ks : List ByteArray) (j : Nat) : (vsTo ks j).length ≤ ks.length := by simp [vsTo]; omega
theorem vals_succ (ks : List ByteArray) {j : Nat} (h : j < ks.length) : vsTo ks (j + 1) = vsTo ks j ++ [vk ks[j]] := by
  unfold vsTo
  rw [List.take_succ_eq_append_getElem h, List.map_append]
  rfl
theorem kidsM_length (f : Int) (n : Nat) : (kidsM f n).length = n := by simp [kidsM]
theorem kidsM_succ (f : Int) (n : Nat) : kidsM f (n + 1) = kidsM f n ++ [f + (n : Int)] := by simp [kidsM, List.range_succ]
end Go.Proofs.Ytmjekecalghhdaa
