/- A leaf with something under a key, without a key; an inner page hung, turned, unhung: plainly. Plain lemmas. -/
import Derived.Test.YtmjekecalghhdaaNdQ
import Derived.Test.YtmjekecalghhdaaIns3
namespace Go.Proofs.Ytmjekecalghhdaa

/-- A leaf with something under a key; without a key. -/
def putH (p : Pg) (k v : ByteArray) : Pg := { p with vals := p.vals.set (idxB k p.keys) v }
def putN (p : Pg) (k v : ByteArray) : Pg := { p with keys := p.keys.take (idxB k p.keys) ++ k :: p.keys.drop (idxB k p.keys), vals := p.vals.take (idxB k p.keys) ++ v :: p.vals.drop (idxB k p.keys) }
def putP (p : Pg) (k v : ByteArray) : Pg := if hasB k p.keys = true then putH p k v else putN p k v
def dropH (p : Pg) (k : ByteArray) : Pg := { p with keys := p.keys.eraseIdx (idxB k p.keys), vals := p.vals.eraseIdx (idxB k p.keys) }
def dropP (p : Pg) (k : ByteArray) : Pg := if hasB k p.keys = true then dropH p k else p
def hangP (p : Pg) (i : Nat) (k : ByteArray) (d : Int) : Pg := { p with keys := p.keys.take i ++ k :: p.keys.drop i, kids := p.kids.take (i + 1) ++ d :: p.kids.drop (i + 1) }
def turnP (p : Pg) (i : Nat) (k : ByteArray) : Pg := { p with keys := p.keys.set i k }
def unhangP (p : Pg) (i : Nat) : Pg := { p with keys := p.keys.eraseIdx i, kids := p.kids.eraseIdx (i + 1) }

theorem has_get {o : ByteArray} {K : List ByteArray} (h : hasB o K = true) : K[idxB o K]? = some o := by
  rw [hasB_at] at h
  cases e : K[idxB o K]? with
  | none => rw [e] at h; cases h
  | some x => rw [e] at h; simp at h; rw [h]
theorem idx_at {o : ByteArray} {K : List ByteArray} {j : Nat} (hr : RisB K) (h : K[j]? = some o) : idxB o K = j ∧ hasB o K = true := by
  obtain ⟨hj, rfl⟩ := List.getElem?_eq_some_iff.1 h
  have e := idxB_of K[j] K j (Nat.le_of_lt hj) (fun t ht hlt => hr.le ht hj hlt) (fun _ => ltK_irrefl _)
  refine ⟨e, ?_⟩
  rw [hasB_at, e, h]
  simp
theorem has_mem {o : ByteArray} {K : List ByteArray} (h : hasB o K = true) : o ∈ K := List.mem_of_getElem? (has_get h)
theorem mem_has {o : ByteArray} {K : List ByteArray} (hr : RisB K) (h : o ∈ K) : hasB o K = true := by
  obtain ⟨j, hj⟩ := List.getElem?_of_mem h
  exact (idx_at hr hj).2
theorem set_self {α : Type} {l : List α} {i : Nat} {x : α} (h : l[i]? = some x) : l.set i x = l := by
  obtain ⟨hi, rfl⟩ := List.getElem?_eq_some_iff.1 h
  exact List.set_getElem_self hi
theorem ins_get {α : Type} (l : List α) {i : Nat} (hi : i ≤ l.length) (x : α) (j : Nat) : (l.take i ++ x :: l.drop i)[j]? = if j < i then l[j]? else if j = i then some x else l[j - 1]? := by
  have ht : (l.take i).length = i := by rw [List.length_take]; omega
  rw [List.getElem?_append, ht]
  split
  · rename_i h; rw [List.getElem?_take, if_pos h]
  · rename_i h
    split
    · rename_i h2; subst h2; simp
    · rename_i h2
      obtain ⟨m, rfl⟩ : ∃ m, j = i + m + 1 := ⟨j - i - 1, by omega⟩
      rw [show i + m + 1 - i = m + 1 by omega, List.getElem?_cons_succ, List.getElem?_drop]
      rfl
theorem ins_length {α : Type} (l : List α) {i : Nat} (hi : i ≤ l.length) (x : α) : (l.take i ++ x :: l.drop i).length = l.length + 1 := by
  simp; omega
theorem ins_erase {α : Type} (l : List α) {i : Nat} (hi : i ≤ l.length) (x : α) : (l.take i ++ x :: l.drop i).eraseIdx i = l := by
  have ht : (l.take i).length = i := by rw [List.length_take]; omega
  rw [List.eraseIdx_append_of_length_le (by omega), ht, Nat.sub_self]
  simp

theorem put_leafM (ks : List ByteArray) (k : ByteArray) : putP (leafM ks) k (vk k) = leafM (insB k ks) := by
  unfold putP
  show (if hasB k ks = true then _ else _) = _
  cases h : hasB k ks with
  | true =>
    rw [if_pos rfl, insB_has h]
    show Pg.mk 1 ks ((ks.map vk).set (idxB k ks) (vk k)) [] 0 0 0 0 = _
    rw [set_self (by rw [List.getElem?_map, has_get h]; rfl)]
    rfl
  | false =>
    rw [if_neg (by simp), insB_new h]
    show Pg.mk 1 (ks.take (idxB k ks) ++ k :: ks.drop (idxB k ks)) ((ks.map vk).take (idxB k ks) ++ vk k :: (ks.map vk).drop (idxB k ks)) [] 0 0 0 0 = _
    unfold leafM
    simp
def delB (k : ByteArray) (ks : List ByteArray) : List ByteArray := if hasB k ks = true then ks.eraseIdx (idxB k ks) else ks
theorem drop_leafM (ks : List ByteArray) (k : ByteArray) : dropP (leafM ks) k = leafM (delB k ks) := by
  unfold dropP delB
  show (if hasB k ks = true then _ else _) = _
  cases h : hasB k ks with
  | true =>
    rw [if_pos rfl, if_pos rfl]
    show Pg.mk 1 (ks.eraseIdx (idxB k ks)) ((ks.map vk).eraseIdx (idxB k ks)) [] 0 0 0 0 = _
    rw [← map_erase]
    rfl
  | false => rfl
theorem delB_ris {ks : List ByteArray} (h : RisB ks) (k : ByteArray) : RisB (delB k ks) := by
  unfold delB
  split
  · exact List.Pairwise.sublist (List.eraseIdx_sublist _ _) h
  · exact h
theorem delB_mem {ks : List ByteArray} (h : RisB ks) (k x : ByteArray) : x ∈ delB k ks ↔ x ∈ ks ∧ x ≠ k := by
  unfold delB
  cases e : hasB k ks with
  | false =>
    rw [if_neg (by simp)]
    exact ⟨fun hx => ⟨hx, fun e' => by subst e'; rw [mem_has h hx] at e; cases e⟩, fun hx => hx.1⟩
  | true =>
    rw [if_pos rfl, List.mem_eraseIdx_iff_getElem?]
    constructor
    · rintro ⟨i, hi, hx⟩
      exact ⟨List.mem_of_getElem? hx, fun e' => by subst e'; exact hi (idx_at h hx).1.symm⟩
    · rintro ⟨hx, hne⟩
      obtain ⟨j, hj⟩ := List.getElem?_of_mem hx
      refine ⟨j, fun e' => hne ?_, hj⟩
      subst e'
      rw [has_get e] at hj
      exact (Option.some.inj hj).symm
theorem delB_length {ks : List ByteArray} (k : ByteArray) : (delB k ks).length = if hasB k ks = true then ks.length - 1 else ks.length := by
  unfold delB
  split
  · rename_i h; rw [List.length_eraseIdx_of_lt (hasB_lt h)]
  · rfl
theorem delB_le (k : ByteArray) (ks : List ByteArray) : (delB k ks).length ≤ ks.length := by
  rw [delB_length]; split <;> omega
theorem ins_mem (k : ByteArray) (m : List ByteArray) (x : ByteArray) : x ∈ insB k m ↔ x = k ∨ x ∈ m := by
  refine ⟨insB_mem k m x, fun h => ?_⟩
  rw [insB_eq]
  cases e : hasB k m with
  | true =>
    rw [if_pos rfl]
    rcases h with rfl | h
    · exact has_mem e
    · exact h
  | false =>
    rw [if_neg (by simp)]
    rcases h with rfl | h
    · simp
    · rw [← List.take_append_drop (idxB k m) m] at h
      rcases List.mem_append.1 h with h | h
      · exact List.mem_append.2 (.inl h)
      · exact List.mem_append.2 (.inr (List.mem_cons_of_mem _ h))
theorem foldK_mem : ∀ (l m : List ByteArray) (x : ByteArray), x ∈ l.foldl addK m ↔ x ∈ l ∨ x ∈ m
  | [], m, x => by simp
  | k :: l, m, x => by
    show x ∈ l.foldl addK (insB k m) ↔ _
    rw [foldK_mem l (insB k m) x, ins_mem, List.mem_cons]
    constructor
    · rintro (h | h | h)
      · exact .inl (.inr h)
      · exact .inl (.inl h)
      · exact .inr h
    · rintro ((h | h) | h)
      · exact .inr (.inl h)
      · exact .inl h
      · exact .inr (.inr h)
theorem ksOf_mem' (l : List ByteArray) (x : ByteArray) : x ∈ ksOf l ↔ x ∈ l := by
  unfold ksOf
  rw [foldK_mem]
  simp
theorem ris_ext : ∀ (a b : List ByteArray), RisB a → RisB b → (∀ x, x ∈ a ↔ x ∈ b) → a = b
  | [], [], _, _, _ => rfl
  | [], y :: b, _, _, h => by have := (h y).2 List.mem_cons_self; cases this
  | x :: a, [], _, _, h => by have := (h x).1 List.mem_cons_self; cases this
  | x :: a, y :: b, ha, hb, h => by
    have ha' := List.pairwise_cons.1 ha
    have hb' := List.pairwise_cons.1 hb
    have hxy : x = y := by
      rcases List.mem_cons.1 ((h x).1 List.mem_cons_self) with e | e
      · exact e
      · rcases List.mem_cons.1 ((h y).2 List.mem_cons_self) with e2 | e2
        · exact e2.symm
        · have h1 := hb'.1 x e
          have h2 := ha'.1 y e2
          rw [ltK_asymm h1] at h2
          cases h2
    subst hxy
    rw [ris_ext a b ha'.2 hb'.2 fun z => ?_]
    constructor
    · intro hz
      rcases List.mem_cons.1 ((h z).1 (List.mem_cons_of_mem _ hz)) with e | e
      · subst e; have := ha'.1 z hz; rw [ltK_irrefl] at this; cases this
      · exact e
    · intro hz
      rcases List.mem_cons.1 ((h z).2 (List.mem_cons_of_mem _ hz)) with e | e
      · subst e; have := hb'.1 z hz; rw [ltK_irrefl] at this; cases this
      · exact e

/-- What a leaf tells of a key at a place. -/
theorem get_at {p : Pg} (hlf : leafP p = true) (hr : RisB p.keys) {j : Nat} {o x : ByteArray} (hk : p.keys[j]? = some o) (hv : p.vals[j]? = some x) : getP p o = (x, true) := by
  obtain ⟨h1, h2⟩ := idx_at hr hk
  unfold getP
  rw [if_pos ⟨h2, hlf⟩, h1, List.getD_eq_getElem?_getD, hv]
  rfl
theorem leafP_M (ks : List ByteArray) : leafP (leafM ks) = true := by simp [leafP, leafM]
theorem get_M {ks : List ByteArray} (hr : RisB ks) (o : ByteArray) : getP (leafM ks) o = if hasB o ks = true then (vk o, true) else (.empty, false) := by
  cases h : hasB o ks with
  | true =>
    rw [if_pos rfl]
    exact get_at (leafP_M ks) hr (has_get h) (by show (ks.map vk)[idxB o ks]? = _; rw [List.getElem?_map, has_get h]; rfl)
  | false =>
    unfold getP
    rw [if_neg (fun e => by have e1 : hasB o ks = true := e.1; rw [h] at e1; cases e1), if_neg (by simp)]
section
variable {ks : List ByteArray} (hr : RisB ks) (k v : ByteArray)
theorem put_keys : (putP (leafM ks) k v).keys = insB k ks := by
  unfold putP
  show (if hasB k ks = true then putH (leafM ks) k v else putN (leafM ks) k v).keys = _
  cases h : hasB k ks with
  | true => rw [if_pos rfl, insB_has h]; rfl
  | false => rw [if_neg (by simp), insB_new h]; rfl
theorem put_vals : (putP (leafM ks) k v).vals = if hasB k ks = true then (ks.map vk).set (idxB k ks) v else (ks.map vk).take (idxB k ks) ++ v :: (ks.map vk).drop (idxB k ks) := by
  unfold putP
  show (if hasB k ks = true then putH (leafM ks) k v else putN (leafM ks) k v).vals = _
  cases h : hasB k ks with
  | true => rw [if_pos rfl, if_pos rfl]; rfl
  | false => rw [if_neg (by simp), if_neg (by simp)]; rfl
theorem put_kind : (putP (leafM ks) k v).kind = 1 := by unfold putP; split <;> rfl
theorem ins_len : (insB k ks).length = if hasB k ks = true then ks.length else ks.length + 1 := by
  rw [insB_eq]
  split
  · rfl
  · exact ins_length ks (idxB_le k ks) k
theorem put_len : (putP (leafM ks) k v).vals.length = (insB k ks).length := by
  rw [put_vals, ins_len]
  split
  · simp
  · have := idxB_le k ks
    rw [ins_length _ (by simpa using this)]
    simp
theorem put_leaf : leafP (putP (leafM ks) k v) = true := by
  unfold leafP
  rw [put_kind, put_len, put_keys]
  simp
theorem put_ris (hr : RisB ks) : RisB (putP (leafM ks) k v).keys := by rw [put_keys]; exact insB_rising k ks hr
theorem get_put_self (hr : RisB ks) : getP (putP (leafM ks) k v) k = (v, true) := by
  have hi := idxB_le k ks
  refine get_at (put_leaf k v) (put_ris k v hr) (j := idxB k ks) ?_ ?_
  · rw [put_keys, insB_eq]
    split
    · rename_i h; exact has_get h
    · rw [ins_get ks hi, if_neg (Nat.lt_irrefl _), if_pos rfl]
  · rw [put_vals]
    split
    · rename_i h; rw [List.getElem?_set_self (by simpa using hasB_lt h)]
    · rw [ins_get _ (by simpa using hi), if_neg (Nat.lt_irrefl _), if_pos rfl]
theorem get_put_other (hr : RisB ks) {o : ByteArray} (ho : o ∈ ks) (hne : o ≠ k) : getP (putP (leafM ks) k v) o = (vk o, true) := by
  have hi := idxB_le k ks
  obtain ⟨j, hj⟩ := List.getElem?_of_mem ho
  have hv : (ks.map vk)[j]? = some (vk o) := by rw [List.getElem?_map, hj]; rfl
  cases h : hasB k ks with
  | true =>
    refine get_at (put_leaf k v) (put_ris k v hr) (j := j) ?_ ?_
    · rw [put_keys, insB_has h]; exact hj
    · rw [put_vals, if_pos h, List.getElem?_set_ne (fun e => hne ?_)]
      · exact hv
      · rw [← e, has_get h] at hj; exact (Option.some.inj hj).symm
  | false =>
    by_cases hlt : j < idxB k ks
    · refine get_at (put_leaf k v) (put_ris k v hr) (j := j) ?_ ?_
      · rw [put_keys, insB_new h, ins_get ks hi, if_pos hlt]; exact hj
      · rw [put_vals, if_neg (by simp [h]), ins_get _ (by simpa using hi), if_pos hlt]; exact hv
    · refine get_at (put_leaf k v) (put_ris k v hr) (j := j + 1) ?_ ?_
      · rw [put_keys, insB_new h, ins_get ks hi, if_neg (by omega), if_neg (by omega)]; exact hj
      · rw [put_vals, if_neg (by simp [h]), ins_get _ (by simpa using hi), if_neg (by omega), if_neg (by omega)]; exact hv
theorem get_drop_self (hr : RisB ks) : getP (dropP (leafM ks) k) k = (.empty, false) := by
  rw [drop_leafM, get_M (delB_ris hr k)]
  cases h : hasB k (delB k ks) with
  | false => rfl
  | true => exact absurd rfl ((delB_mem hr k k).1 (has_mem h)).2
theorem get_drop_other (hr : RisB ks) {o : ByteArray} (ho : o ∈ ks) (hne : o ≠ k) : getP (dropP (leafM ks) k) o = (vk o, true) := by
  rw [drop_leafM, get_M (delB_ris hr k), if_pos (mem_has (delB_ris hr k) ((delB_mem hr k o).2 ⟨ho, hne⟩))]
end
/-- The keys, from a place on and round. -/
def rotN (n t i : Nat) : Nat := (i + t) % n
theorem rot_onto {n t j : Nat} (hj : j < n) : ∃ i, i < n ∧ rotN n t i = j := by
  have hn : 0 < n := by omega
  have ht : t % n < n := Nat.mod_lt _ hn
  refine ⟨(j + (n - t % n)) % n, Nat.mod_lt _ hn, ?_⟩
  unfold rotN
  rw [Nat.mod_add_mod]
  have : j + (n - t % n) + t = j + n * (t / n + 1) := by
    have := Nat.div_add_mod t n
    rw [Nat.mul_add, Nat.mul_one]
    omega
  rw [this, Nat.add_mul_mod_self_left, Nat.mod_eq_of_lt hj]
def rotL (l : List ByteArray) (t : Nat) (m : Nat) : List ByteArray := (List.range m).map fun i => l.getD (rotN l.length t i) .empty
theorem rotL_succ (l : List ByteArray) (t m : Nat) : rotL l t (m + 1) = rotL l t m ++ [l.getD (rotN l.length t m) .empty] := by simp [rotL, List.range_succ]
theorem rotL_mem (l : List ByteArray) (t : Nat) (x : ByteArray) : x ∈ rotL l t l.length ↔ x ∈ l := by
  unfold rotL
  rw [List.mem_map]
  constructor
  · rintro ⟨i, hi, rfl⟩
    have hn : i < l.length := List.mem_range.1 hi
    have hm : rotN l.length t i < l.length := Nat.mod_lt _ (by omega)
    rw [List.getD_eq_getElem?_getD, List.getElem?_eq_getElem hm]
    exact List.getElem_mem hm
  · intro hx
    obtain ⟨j, hj⟩ := List.getElem?_of_mem hx
    obtain ⟨hl, _⟩ := List.getElem?_eq_some_iff.1 hj
    obtain ⟨i, hi, e⟩ := rot_onto (t := t) hl
    exact ⟨i, List.mem_range.2 hi, by rw [e, List.getD_eq_getElem?_getD, hj]; rfl⟩
theorem rot_same (l : List ByteArray) (t : Nat) : ksOf (rotL l t l.length) = ksOf l :=
  ris_ext _ _ (ksOf_rising _) (ksOf_rising _) fun x => by rw [ksOf_mem', ksOf_mem', rotL_mem]
/-- All of them taken away. -/
def delAll (ks l : List ByteArray) : List ByteArray := l.foldl (fun m k => delB k m) ks
theorem delAll_ris : ∀ (l ks : List ByteArray), RisB ks → RisB (delAll ks l)
  | [], _, h => h
  | k :: l, ks, h => delAll_ris l (delB k ks) (delB_ris h k)
theorem delAll_le : ∀ (l ks : List ByteArray), (delAll ks l).length ≤ ks.length
  | [], _ => Nat.le_refl _
  | k :: l, ks => Nat.le_trans (delAll_le l (delB k ks)) (delB_le k ks)
theorem delAll_mem : ∀ (l ks : List ByteArray), RisB ks → ∀ x, x ∈ delAll ks l → x ∈ ks ∧ x ∉ l
  | [], _, _, x, h => ⟨h, by simp⟩
  | k :: l, ks, hr, x, h => by
    obtain ⟨h1, h2⟩ := delAll_mem l (delB k ks) (delB_ris hr k) x h
    obtain ⟨h3, h4⟩ := (delB_mem hr k x).1 h1
    exact ⟨h3, fun e => by rcases List.mem_cons.1 e with e | e; exact h4 e; exact h2 e⟩
theorem delAll_none (l : List ByteArray) (t : Nat) : delAll (ksOf l) (rotL l t l.length) = [] := by
  rw [List.eq_nil_iff_forall_not_mem]
  intro x hx
  obtain ⟨h1, h2⟩ := delAll_mem _ _ (ksOf_rising l) x hx
  exact h2 ((rotL_mem l t x).2 ((ksOf_mem' l x).1 h1))
theorem delAll_snoc (ks l : List ByteArray) (k : ByteArray) : delAll ks (l ++ [k]) = delB k (delAll ks l) := by simp [delAll]
theorem ksOf_snoc (l : List ByteArray) (k : ByteArray) : ksOf (l ++ [k]) = insB k (ksOf l) := by unfold ksOf; rw [List.foldl_append]; rfl
end Go.Proofs.Ytmjekecalghhdaa
