/- Maps made of a list of keys, each with a value of its own: whatever the order, the same. Plain lemmas. -/
import Derived.Test.YtopnblhedankcaaTurns
namespace Go.Proofs.Ytopnblhedankcaa

theorem getK_ins_ne (k v q : ByteArray) (h : q ≠ k) (m : List KV) : getK q (ins k v m) = getK q m := by
  induction m with
  | nil =>
    rcases ltK_cases k q with ⟨h1, h2⟩ | ⟨h1, h2⟩ | h'
    · simp [ins, getK, h1]
    · simp [ins, getK, h1, h2]
    · exact absurd h'.symm h
  | cons p t ih =>
    rcases ltK_cases p.1 k with ⟨h1, h2⟩ | ⟨h1, h2⟩ | hk
    · simp [ins, getK, h1, ih]
    · rcases ltK_cases k q with ⟨q1, q2⟩ | ⟨q1, q2⟩ | h'
      · simp [ins, getK, h1, h2, q1]
      · have := ltK_trans q1 h1
        simp [ins, getK, h1, h2, q1, q2, this, ltK_asymm this]
      · exact absurd h'.symm h
    · subst hk
      rcases ltK_cases p.1 q with ⟨q1, q2⟩ | ⟨q1, q2⟩ | h'
      · simp [ins, getK, ltK_irrefl, q1]
      · simp [ins, getK, ltK_irrefl, q1, q2]
      · exact absurd h'.symm h

theorem rising_ext : ∀ (m o : List KV), Rising m → Rising o → (∀ q, getK q m = getK q o) → m = o
  | [], [], _, _, _ => rfl
  | [], p :: t, _, _, h => by have := h p.1; simp [getK, ltK_irrefl] at this
  | p :: t, [], _, _, h => by have := h p.1; simp [getK, ltK_irrefl] at this
  | p :: t, q :: s, hm, ho, h => by
    unfold Rising at hm ho
    rw [List.pairwise_cons] at hm ho
    rcases ltK_cases p.1 q.1 with ⟨h1, h2⟩ | ⟨h1, h2⟩ | he
    · have := h p.1; simp [getK, ltK_irrefl, h1, h2] at this
    · have := h q.1; simp [getK, ltK_irrefl, h1, h2] at this
    · have h3 := h p.1
      rw [he] at h3
      simp only [getK, he, ltK_irrefl] at h3
      have hpq : p = q := Prod.ext he (by simpa using h3)
      subst hpq
      congr 1
      refine rising_ext t s hm.2 ho.2 fun r => ?_
      rcases ltK_cases p.1 r with ⟨r1, r2⟩ | ⟨r1, r2⟩ | hr
      · have := h r; simpa [getK, r1] using this
      · rw [getK_above r t (fun x hx => ltK_trans r1 (hm.1 x hx)), getK_above r s (fun x hx => ltK_trans r1 (ho.1 x hx))]
      · subst hr
        rw [getK_above _ t (fun x hx => hm.1 x hx), getK_above _ s (fun x hx => ho.1 x hx)]

def xs (k : ByteArray) : ByteArray := k ++ ⟨#[120]⟩
def mkF (l : List ByteArray) (m : List KV) : List KV := l.foldl (fun m k => ins k (xs k) m) m
def mkL (l : List ByteArray) : List KV := mkF l []
theorem mkL_snoc (l : List ByteArray) (k : ByteArray) : mkL (l ++ [k]) = ins k (xs k) (mkL l) := by simp [mkL, mkF]
theorem mkF_rising (l : List ByteArray) : ∀ m, Rising m → Rising (mkF l m) := by
  induction l with
  | nil => intro m h; exact h
  | cons k l ih => intro m h; exact ih _ (ins_rising k (xs k) m h)
theorem mkF_length (l : List ByteArray) : ∀ m, (mkF l m).length ≤ m.length + l.length := by
  induction l with
  | nil => intro m; exact Nat.le_refl _
  | cons k l ih =>
    intro m
    have h1 := ih (ins k (xs k) m)
    have h2 := ins_length k (xs k) m
    have h3 : mkF (k :: l) m = mkF l (ins k (xs k) m) := rfl
    rw [h3]; simp; omega
open Classical in
theorem mkF_get (q : ByteArray) (l : List ByteArray) : ∀ m, getK q (mkF l m) = if q ∈ l then some (xs q) else getK q m := by
  induction l with
  | nil => intro m; simp [mkF]
  | cons k l ih =>
    intro m
    have h3 : mkF (k :: l) m = mkF l (ins k (xs k) m) := rfl
    rw [h3, ih]
    by_cases h1 : q ∈ l
    · simp [h1]
    · by_cases h2 : q = k
      · subst h2; simp [h1, getK_ins]
      · simp [h1, h2, getK_ins_ne k (xs k) q h2 m]
theorem mkL_rising (l : List ByteArray) : Rising (mkL l) := mkF_rising l [] List.Pairwise.nil
theorem mkL_length (l : List ByteArray) : (mkL l).length ≤ l.length := by have := mkF_length l []; simpa [mkL] using this
open Classical in
theorem mkL_same {l k : List ByteArray} (h : ∀ q, q ∈ l ↔ q ∈ k) : mkL l = mkL k :=
  rising_ext _ _ (mkL_rising l) (mkL_rising k) fun q => by unfold mkL; rw [mkF_get, mkF_get]; simp [h q]

/-- The keys from T on, round. -/
def rot (ks : List ByteArray) (T i : Nat) : List ByteArray := (List.range i).map fun j => ks.getD ((j + T) % ks.length) ByteArray.empty
theorem rot_succ (ks : List ByteArray) (T i : Nat) : rot ks T (i + 1) = rot ks T i ++ [ks.getD ((i + T) % ks.length) ByteArray.empty] := by simp [rot, List.range_succ]
theorem rot_length (ks : List ByteArray) (T i : Nat) : (rot ks T i).length = i := by simp [rot]
theorem rot_mem (ks : List ByteArray) (T : Nat) (q : ByteArray) : q ∈ rot ks T ks.length ↔ q ∈ ks := by
  unfold rot
  rw [List.mem_map]
  constructor
  · rintro ⟨j, hj, rfl⟩
    have hj := List.mem_range.1 hj
    have hr : (j + T) % ks.length < ks.length := Nat.mod_lt _ (by omega)
    rw [List.getD_eq_getElem?_getD, List.getElem?_eq_getElem hr]
    exact List.getElem_mem hr
  · intro h
    obtain ⟨r, hr, rfl⟩ := List.getElem_of_mem h
    have hn : 0 < ks.length := by omega
    have ht : T % ks.length < ks.length := Nat.mod_lt _ hn
    refine ⟨(r + ks.length - T % ks.length) % ks.length, List.mem_range.2 (Nat.mod_lt _ hn), ?_⟩
    have : ((r + ks.length - T % ks.length) % ks.length + T) % ks.length = r := by
      rw [Nat.mod_add_mod]
      have h1 : r + ks.length - T % ks.length + T = r + ks.length * (1 + T / ks.length) := by
        have := Nat.mod_add_div T ks.length
        rw [Nat.mul_add, Nat.mul_one]
        omega
      rw [h1, Nat.add_mul_mod_self_left, Nat.mod_eq_of_lt hr]
    rw [this, List.getD_eq_getElem?_getD, List.getElem?_eq_getElem hr]
    rfl
theorem mkL_rot (ks : List ByteArray) (T : Nat) : mkL ks = mkL (rot ks T ks.length) := mkL_same fun q => (rot_mem ks T q).symm

theorem and255 (t : Int) : ∃ T : Nat, T < 256 ∧ bits .and .i64 t 255 = (T : Int) := by
  have h1 : (BitVec.ofInt 64 255).toNat = 255 := by decide
  refine ⟨(BitVec.ofInt 64 t).toNat &&& 255, ?_, ?_⟩
  · have := Nat.and_le_right (n := (BitVec.ofInt 64 t).toNat) (m := 255); omega
  · have := Nat.and_le_right (n := (BitVec.ofInt 64 t).toNat) (m := 255)
    show IntKind.i64.wrap ((BitVec.ofInt 64 t &&& BitVec.ofInt 64 255).toNat : Int) = _
    rw [BitVec.toNat_and, h1, IntKind.wrap_i64]
    omega
end Go.Proofs.Ytopnblhedankcaa
