/- Texts in the order of their bytes; lists of pairs in rising order: plain lemmas. -/
import Derived.Test.YthkmohcdgnldgaaGreatCell
namespace Go.Proofs.YthkmohcdgnldgaaGreat

theorem less_irrefl : ∀ a : List UInt8, Op.bytesLess a a = false
  | [] => rfl
  | a :: x => by simp [Op.bytesLess, less_irrefl x]

theorem less_trans : ∀ a b c : List UInt8, Op.bytesLess a b = true → Op.bytesLess b c = true → Op.bytesLess a c = true
  | _, _, [], _, h => by simp [Op.bytesLess] at h
  | _, [], _ :: _, h, _ => by simp [Op.bytesLess] at h
  | [], _ :: _, _ :: _, _, _ => by simp [Op.bytesLess]
  | a :: x, b :: y, c :: z, h1, h2 => by
    simp only [Op.bytesLess, Bool.or_eq_true, Bool.and_eq_true, decide_eq_true_eq, beq_iff_eq] at h1 h2 ⊢
    rcases h1 with h1 | ⟨rfl, h1⟩
    · rcases h2 with h2 | ⟨rfl, h2⟩
      · exact .inl (UInt8.lt_trans h1 h2)
      · exact .inl h1
    · rcases h2 with h2 | ⟨rfl, h2⟩
      · exact .inl h2
      · exact .inr ⟨rfl, less_trans x y z h1 h2⟩

theorem less_total : ∀ a b : List UInt8, Op.bytesLess a b = false → Op.bytesLess b a = false → a = b
  | [], [], _, _ => rfl
  | [], _ :: _, h, _ => by simp [Op.bytesLess] at h
  | _ :: _, [], _, h => by simp [Op.bytesLess] at h
  | a :: x, b :: y, h1, h2 => by
    simp only [Op.bytesLess, Bool.or_eq_false_iff, Bool.and_eq_false_iff, decide_eq_false_iff_not, beq_eq_false_iff_ne] at h1 h2
    have hab : a = b := by
      have h3 := UInt8.not_lt.1 h1.1
      have h4 := UInt8.not_lt.1 h2.1
      exact UInt8.le_antisymm h4 h3
    subst hab
    have h5 : Op.bytesLess x y = false := by rcases h1.2 with h | h; exact absurd rfl h; exact h
    have h6 : Op.bytesLess y x = false := by rcases h2.2 with h | h; exact absurd rfl h; exact h
    rw [less_total x y h5 h6]

abbrev KV := ByteArray × ByteArray
def ltK (a b : ByteArray) : Bool := Op.bytesLess a.toList b.toList
theorem toList_inj {a b : ByteArray} (h : a.toList = b.toList) : a = b := by
  rw [ByteArray.toList_eq, ByteArray.toList_eq] at h
  cases a; cases b
  simp at h
  rw [h]
theorem ltK_irrefl (a : ByteArray) : ltK a a = false := less_irrefl _
theorem ltK_trans {a b c : ByteArray} (h : ltK a b = true) (k : ltK b c = true) : ltK a c = true := less_trans _ _ _ h k
theorem ltK_total {a b : ByteArray} (h : ltK a b = false) (k : ltK b a = false) : a = b := toList_inj (less_total _ _ h k)

/-- In rising order, each key once. -/
def Rising (m : List KV) : Prop := m.Pairwise fun p q => ltK p.1 q.1 = true

/-- With something under a key, without a key, what stands under a key: by the list alone. -/
def ins (k v : ByteArray) : List KV → List KV
  | [] => [(k, v)]
  | p :: t => if ltK p.1 k then p :: ins k v t else if ltK k p.1 then (k, v) :: p :: t else (k, v) :: t
def del (k : ByteArray) : List KV → List KV
  | [] => []
  | p :: t => if ltK p.1 k then p :: del k t else if ltK k p.1 then p :: t else t
def getK (k : ByteArray) : List KV → Option ByteArray
  | [] => none
  | p :: t => if ltK p.1 k then getK k t else if ltK k p.1 then none else some p.2
/-- Where a key stands, or would. -/
def idx (k : ByteArray) : List KV → Nat
  | [] => 0
  | p :: t => if ltK p.1 k then idx k t + 1 else 0
def hasK (k : ByteArray) : List KV → Bool
  | [] => false
  | p :: t => if ltK p.1 k then hasK k t else !(ltK k p.1)

theorem idx_le (k : ByteArray) (m : List KV) : idx k m ≤ m.length := by
  induction m with
  | nil => exact Nat.le_refl _
  | cons p t ih => unfold idx; split <;> simp; omega

theorem idx_of (k : ByteArray) : ∀ (m : List KV) (r : Nat), r ≤ m.length → (∀ j (h : j < m.length), j < r → ltK m[j].1 k = true) → (∀ (h : r < m.length), ltK m[r].1 k = false) → idx k m = r
  | [], r, h, _, _ => by simp at h; subst h; rfl
  | p :: t, r, h, h1, h2 => by
    unfold idx
    cases r with
    | zero => rw [if_neg]; have := h2 (by simp); simp at this; simp [this]
    | succ r =>
      have h0 := h1 0 (by simp) (by omega)
      simp at h0
      rw [if_pos h0, idx_of k t r (by simpa using h) (fun j hj hr => by have := h1 (j + 1) (by simpa using hj) (by omega); simpa using this) (fun hr => by have := h2 (by simpa using hr); simpa using this)]

theorem ins_eq (k v : ByteArray) : ∀ m : List KV, ins k v m = m.take (idx k m) ++ (k, v) :: m.drop (if hasK k m then idx k m + 1 else idx k m)
  | [] => rfl
  | p :: t => by
    unfold ins idx hasK
    by_cases h : ltK p.1 k = true
    · rw [if_pos h, if_pos h, if_pos h, ins_eq k v t]
      cases hasK k t <;> simp
    · rw [if_neg h, if_neg h, if_neg h]
      by_cases h2 : ltK k p.1 = true
      · rw [if_pos h2]; simp [h2]
      · rw [if_neg h2]; simp [h2]
theorem del_eq (k : ByteArray) : ∀ m : List KV, del k m = m.take (idx k m) ++ m.drop (if hasK k m then idx k m + 1 else idx k m)
  | [] => rfl
  | p :: t => by
    unfold del idx hasK
    by_cases h : ltK p.1 k = true
    · rw [if_pos h, if_pos h, if_pos h, del_eq k t]
      cases hasK k t <;> simp
    · rw [if_neg h, if_neg h, if_neg h]
      by_cases h2 : ltK k p.1 = true
      · rw [if_pos h2]; simp [h2]
      · rw [if_neg h2]; simp [h2]
theorem hasK_at (k : ByteArray) : ∀ m : List KV, hasK k m = (match m[idx k m]? with | some p => p.1.toList == k.toList | none => false)
  | [] => rfl
  | p :: t => by
    unfold hasK idx
    by_cases h : ltK p.1 k = true
    · rw [if_pos h, if_pos h, hasK_at k t]; rfl
    · rw [if_neg h, if_neg h]
      show (!(ltK k p.1)) = (p.1.toList == k.toList)
      cases h2 : ltK k p.1 with
      | true =>
        rw [eq_comm, Bool.not_true, beq_eq_false_iff_ne]
        intro he
        have := toList_inj he
        subst this
        rw [ltK_irrefl] at h2
        cases h2
      | false =>
        have := ltK_total (by simpa using h) h2
        subst this
        simp
theorem getK_at (k : ByteArray) : ∀ m : List KV, getK k m = if hasK k m then (m[idx k m]?).map (·.2) else none
  | [] => rfl
  | p :: t => by
    unfold getK hasK idx
    by_cases h : ltK p.1 k = true
    · rw [if_pos h, if_pos h, if_pos h, getK_at k t]; rfl
    · rw [if_neg h, if_neg h, if_neg h]
      cases h2 : ltK k p.1 <;> simp

theorem ins_lb (k v : ByteArray) (b : ByteArray) (hb : ltK b k = true) : ∀ m : List KV, (∀ p ∈ m, ltK b p.1 = true) → ∀ p ∈ ins k v m, ltK b p.1 = true
  | [], _, p, hp => by simp [ins] at hp; rw [hp]; exact hb
  | q :: t, hm, p, hp => by
    unfold ins at hp
    split at hp
    · rcases List.mem_cons.1 hp with rfl | hp
      · exact hm _ (List.mem_cons_self)
      · exact ins_lb k v b hb t (fun p hp => hm p (List.mem_cons_of_mem _ hp)) p hp
    · split at hp
      · rcases List.mem_cons.1 hp with rfl | hp
        · exact hb
        · exact hm _ hp
      · rcases List.mem_cons.1 hp with rfl | hp
        · exact hb
        · exact hm _ (List.mem_cons_of_mem _ hp)
theorem ins_rising (k v : ByteArray) : ∀ m : List KV, Rising m → Rising (ins k v m)
  | [], _ => by unfold ins Rising; simp
  | q :: t, h => by
    unfold Rising at h
    rw [List.pairwise_cons] at h
    unfold ins
    split
    · rename_i hq
      exact List.pairwise_cons.2 ⟨fun p hp => ins_lb k v q.1 hq t h.1 p hp, ins_rising k v t h.2⟩
    · rename_i hq
      split
      · rename_i hk
        refine List.pairwise_cons.2 ⟨fun p hp => ?_, List.pairwise_cons.2 h⟩
        rcases List.mem_cons.1 hp with rfl | hp
        · exact hk
        · exact ltK_trans hk (h.1 p hp)
      · rename_i hk
        have := ltK_total (by simpa using hq) (by simpa using hk)
        refine List.pairwise_cons.2 ⟨fun p hp => by rw [← this]; exact h.1 p hp, h.2⟩
theorem del_mem (k : ByteArray) : ∀ (m : List KV) p, p ∈ del k m → p ∈ m
  | [], _, hp => by simp [del] at hp
  | q :: t, p, hp => by
    unfold del at hp
    split at hp
    · rcases List.mem_cons.1 hp with rfl | hp
      · exact List.mem_cons_self
      · exact List.mem_cons_of_mem _ (del_mem k t p hp)
    · split at hp
      · exact hp
      · exact List.mem_cons_of_mem _ hp
theorem del_rising (k : ByteArray) : ∀ m : List KV, Rising m → Rising (del k m)
  | [], _ => by unfold del Rising; simp
  | q :: t, h => by
    unfold Rising at h
    rw [List.pairwise_cons] at h
    unfold del
    split
    · exact List.pairwise_cons.2 ⟨fun p hp => h.1 p (del_mem k t p hp), del_rising k t h.2⟩
    · split
      · exact List.pairwise_cons.2 h
      · exact h.2
theorem rising_get {m : List KV} (h : Rising m) {i j : Nat} (hij : i < j) (hj : j < m.length) : ltK (m[i]'(by omega)).1 m[j].1 = true :=
  (List.pairwise_iff_getElem.1 h) i j (by omega) hj hij
end Go.Proofs.YthkmohcdgnldgaaGreat
