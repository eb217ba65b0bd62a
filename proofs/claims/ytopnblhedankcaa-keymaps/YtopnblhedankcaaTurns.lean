/- Lists of pairs in rising order: laying two in whatever order, laying twice, taking away. Plain lemmas. -/
import Derived.Test.YtopnblhedankcaaOrder
namespace Go.Proofs.Ytopnblhedankcaa

theorem ltK_asymm {a b : ByteArray} (h : ltK a b = true) : ltK b a = false := by
  cases h2 : ltK b a with
  | false => rfl
  | true => have := ltK_trans h h2; rw [ltK_irrefl] at this; cases this
theorem ltK_cases (a b : ByteArray) : (ltK a b = true ∧ ltK b a = false) ∨ (ltK b a = true ∧ ltK a b = false) ∨ a = b := by
  cases h : ltK a b with
  | true => exact .inl ⟨rfl, ltK_asymm h⟩
  | false =>
    cases h2 : ltK b a with
    | true => exact .inr (.inl ⟨rfl, rfl⟩)
    | false => exact .inr (.inr (ltK_total h h2))

theorem ins_ins (k v u : ByteArray) (m : List KV) : ins k v (ins k u m) = ins k v m := by
  induction m with
  | nil => simp [ins, ltK_irrefl]
  | cons p t ih =>
    rcases ltK_cases p.1 k with ⟨h1, h2⟩ | ⟨h1, h2⟩ | h
    · simp [ins, h1, ih]
    · simp [ins, h1, h2, ltK_irrefl]
    · simp [ins, h, ltK_irrefl]
theorem del_ins (k v : ByteArray) (m : List KV) : del k (ins k v m) = del k m := by
  induction m with
  | nil => simp [ins, del, ltK_irrefl]
  | cons p t ih =>
    rcases ltK_cases p.1 k with ⟨h1, h2⟩ | ⟨h1, h2⟩ | h
    · simp [ins, del, h1, ih]
    · simp [ins, del, h1, h2, ltK_irrefl]
    · simp [ins, del, h, ltK_irrefl]
theorem del_above (k : ByteArray) (t : List KV) (h : ∀ p ∈ t, ltK k p.1 = true) : del k t = t := by
  cases t with
  | nil => rfl
  | cons p t =>
    have h1 := h p List.mem_cons_self
    simp [del, h1, ltK_asymm h1]
theorem del_del (k : ByteArray) (m : List KV) (hr : Rising m) : del k (del k m) = del k m := by
  induction m with
  | nil => rfl
  | cons p t ih =>
    unfold Rising at hr
    rw [List.pairwise_cons] at hr
    rcases ltK_cases p.1 k with ⟨h1, h2⟩ | ⟨h1, h2⟩ | h
    · simp [del, h1, ih hr.2]
    · simp [del, h1, h2]
    · have := del_above k t (fun q hq => by rw [← h]; exact hr.1 q hq)
      simp [del, h, ltK_irrefl, this]
theorem ins_comm (a b va vb : ByteArray) (hab : a ≠ b) (m : List KV) : ins b vb (ins a va m) = ins a va (ins b vb m) := by
  induction m with
  | nil =>
    rcases ltK_cases a b with ⟨h1, h2⟩ | ⟨h1, h2⟩ | h
    · simp [ins, h1, h2]
    · simp [ins, h1, h2]
    · exact absurd h hab
  | cons p t ih =>
    rcases ltK_cases p.1 a with ⟨a1, a2⟩ | ⟨a1, a2⟩ | ha
    · rcases ltK_cases p.1 b with ⟨b1, b2⟩ | ⟨b1, b2⟩ | hb
      · simp [ins, a1, b1, ih]
      · have h1 := ltK_trans b1 a1
        simp [ins, a1, b1, b2, h1]
      · rw [hb] at a1
        simp [ins, hb, a1, ltK_irrefl]
    · rcases ltK_cases p.1 b with ⟨b1, b2⟩ | ⟨b1, b2⟩ | hb
      · have h1 := ltK_trans a1 b1
        simp [ins, a1, a2, b1, h1]
      · rcases ltK_cases a b with ⟨h1, h2⟩ | ⟨h1, h2⟩ | h
        · simp [ins, a1, a2, b1, b2, h1, h2]
        · simp [ins, a1, a2, b1, b2, h1, h2]
        · exact absurd h hab
      · rw [hb] at a1 a2
        simp [ins, hb, a1, a2, ltK_irrefl]
    · rcases ltK_cases p.1 b with ⟨b1, b2⟩ | ⟨b1, b2⟩ | hb
      · rw [ha] at b1
        simp [ins, ha, b1, ltK_irrefl]
      · rw [ha] at b1 b2
        simp [ins, ha, b1, b2, ltK_irrefl]
      · exact absurd (ha.symm.trans hb) hab

theorem ins_length (k v : ByteArray) (m : List KV) : (ins k v m).length ≤ m.length + 1 := by
  induction m with
  | nil => exact Nat.le_refl _
  | cons p t ih =>
    unfold ins
    split
    · simp; omega
    · split <;> simp
theorem del_length (k : ByteArray) (m : List KV) : (del k m).length ≤ m.length := by
  induction m with
  | nil => exact Nat.le_refl _
  | cons p t ih =>
    unfold del
    split
    · simp; omega
    · split <;> simp

theorem getK_ins (k v : ByteArray) (m : List KV) : getK k (ins k v m) = some v := by
  induction m with
  | nil => simp [ins, getK, ltK_irrefl]
  | cons p t ih =>
    rcases ltK_cases p.1 k with ⟨h1, h2⟩ | ⟨h1, h2⟩ | h
    · simp [ins, getK, h1, ih]
    · simp [ins, getK, h1, h2, ltK_irrefl]
    · simp [ins, getK, h, ltK_irrefl]
theorem ins_same (k v : ByteArray) (m : List KV) (h : getK k m = some v) : ins k v m = m := by
  induction m with
  | nil => simp [getK] at h
  | cons p t ih =>
    unfold getK at h
    rcases ltK_cases p.1 k with ⟨h1, h2⟩ | ⟨h1, h2⟩ | h'
    · simp [h1] at h; simp [ins, h1, ih h]
    · simp [h1, h2] at h
    · simp [h', ltK_irrefl] at h
      simp [ins, h', ltK_irrefl]
      obtain ⟨a, b⟩ := p
      simp at h h'
      subst h h'
      rfl
theorem ins_same_iff (k v : ByteArray) (m : List KV) : m = ins k v m ↔ getK k m = some v := by
  constructor
  · intro h; rw [h]; exact getK_ins k v m
  · intro h; exact (ins_same k v m h).symm
theorem getK_above (k : ByteArray) (t : List KV) (h : ∀ p ∈ t, ltK k p.1 = true) : getK k t = none := by
  cases t with
  | nil => rfl
  | cons p t =>
    have h1 := h p List.mem_cons_self
    simp [getK, h1, ltK_asymm h1]
theorem getK_del (k : ByteArray) (m : List KV) (hr : Rising m) : getK k (del k m) = none := by
  induction m with
  | nil => rfl
  | cons p t ih =>
    unfold Rising at hr
    rw [List.pairwise_cons] at hr
    rcases ltK_cases p.1 k with ⟨h1, h2⟩ | ⟨h1, h2⟩ | h
    · simp [del, getK, h1, ih hr.2]
    · simp [del, getK, h1, h2]
    · have := getK_above k t (fun q hq => by rw [← h]; exact hr.1 q hq)
      simp [del, h, ltK_irrefl, this]
theorem del_none (k : ByteArray) (m : List KV) (h : getK k m = none) : del k m = m := by
  induction m with
  | nil => rfl
  | cons p t ih =>
    unfold getK at h
    rcases ltK_cases p.1 k with ⟨h1, h2⟩ | ⟨h1, h2⟩ | h'
    · simp [h1] at h; simp [del, h1, ih h]
    · simp [del, h1, h2]
    · simp [h', ltK_irrefl] at h
theorem del_same_iff (k : ByteArray) (m : List KV) (hr : Rising m) : m = del k m ↔ getK k m = none := by
  constructor
  · intro h; rw [h]; exact getK_del k m hr
  · intro h; exact (del_none k m h).symm
end Go.Proofs.Ytopnblhedankcaa
