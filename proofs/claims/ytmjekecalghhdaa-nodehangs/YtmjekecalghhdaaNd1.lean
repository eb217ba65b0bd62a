/- Where a text stands in a rising list of texts; pieces of rows; a row of a call's own grows by another row. Own lemmas, no statement. -/
import Derived.Test.YtmjekecalghhdaaBox
import Derived.Test.YtmjekecalghhdaaOrder
namespace Go.Proofs.Ytmjekecalghhdaa
open Go.ChangeShapes Go.WideShapes Go.ChangeAt Go.RowKit

def RisB (ks : List ByteArray) : Prop := ks.Pairwise fun a b => ltK a b = true
def idxB (k : ByteArray) : List ByteArray → Nat
  | [] => 0
  | p :: t => if ltK p k then idxB k t + 1 else 0
def hasB (k : ByteArray) : List ByteArray → Bool
  | [] => false
  | p :: t => if ltK p k then hasB k t else !(ltK k p)
theorem idxB_le (k : ByteArray) (m : List ByteArray) : idxB k m ≤ m.length := by
  induction m with
  | nil => exact Nat.le_refl _
  | cons p t ih => unfold idxB; split <;> simp; omega
theorem idxB_of (k : ByteArray) : ∀ (m : List ByteArray) (r : Nat), r ≤ m.length → (∀ j (h : j < m.length), j < r → ltK m[j] k = true) → (∀ (h : r < m.length), ltK m[r] k = false) → idxB k m = r
  | [], r, h, _, _ => by simp at h; subst h; rfl
  | p :: t, r, h, h1, h2 => by
    unfold idxB
    cases r with
    | zero => rw [if_neg]; have := h2 (by simp); simp at this; simp [this]
    | succ r =>
      have h0 := h1 0 (by simp) (by omega)
      simp at h0
      rw [if_pos h0, idxB_of k t r (by simpa using h) (fun j hj hr => by have := h1 (j + 1) (by simpa using hj) (by omega); simpa using this) (fun hr => by have := h2 (by simpa using hr); simpa using this)]
theorem idxB_lt (k : ByteArray) : ∀ (m : List ByteArray) (j : Nat) (h : j < m.length), j < idxB k m → ltK m[j] k = true
  | [], _, h, _ => by simp at h
  | p :: t, j, h, hj => by
    unfold idxB at hj
    by_cases hp : ltK p k = true
    · rw [if_pos hp] at hj
      cases j with
      | zero => exact hp
      | succ j => simpa using idxB_lt k t j (by simpa using h) (by omega)
    · rw [if_neg hp] at hj; omega
theorem idxB_at (k : ByteArray) : ∀ (m : List ByteArray) (h : idxB k m < m.length), ltK m[idxB k m] k = false
  | [], h => by simp at h
  | p :: t, h => by
    by_cases hp : ltK p k = true
    · have e : idxB k (p :: t) = idxB k t + 1 := by show (if ltK p k then _ else _) = _; rw [if_pos hp]
      simp only [e] at h ⊢
      simpa using idxB_at k t (by simpa using h)
    · have e : idxB k (p :: t) = 0 := by show (if ltK p k then _ else _) = _; rw [if_neg hp]
      simp only [e]
      simpa using hp
theorem hasB_at (k : ByteArray) : ∀ m : List ByteArray, hasB k m = (match m[idxB k m]? with | some p => decide (p = k) | none => false)
  | [] => rfl
  | p :: t => by
    unfold hasB idxB
    by_cases h : ltK p k = true
    · rw [if_pos h, if_pos h, hasB_at k t]; rfl
    · rw [if_neg h, if_neg h]
      show (!(ltK k p)) = decide (p = k)
      cases h2 : ltK k p with
      | true =>
        rw [eq_comm, Bool.not_true, decide_eq_false_iff_not]
        rintro rfl
        rw [ltK_irrefl] at h2
        cases h2
      | false =>
        have := ltK_total (by simpa using h) h2
        subst this
        simp
theorem hasB_lt {k : ByteArray} {m : List ByteArray} (h : hasB k m = true) : idxB k m < m.length := by
  rw [hasB_at] at h
  cases hm : m[idxB k m]? with
  | none => rw [hm] at h; cases h
  | some p => exact (List.getElem?_eq_some_iff.1 hm).1
theorem RisB.le {ks : List ByteArray} (h : RisB ks) {i j : Nat} (hi : i < ks.length) (hj : j < ks.length) (hij : i < j) : ltK ks[i] ks[j] = true := List.pairwise_iff_getElem.1 h i j hi hj hij
theorem RisB.take {ks : List ByteArray} (h : RisB ks) (n : Nat) : RisB (ks.take n) := List.Pairwise.sublist (List.take_sublist _ _) h
theorem RisB.drop {ks : List ByteArray} (h : RisB ks) (n : Nat) : RisB (ks.drop n) := List.Pairwise.sublist (List.drop_sublist _ _) h
theorem ltK_asymm {a b : ByteArray} (h : ltK a b = true) : ltK b a = false := by
  cases hb : ltK b a with
  | false => rfl
  | true => have := ltK_trans h hb; rw [ltK_irrefl] at this; cases this
theorem idx_fst (k : ByteArray) : ∀ m : List KV, idx k m = idxB k (m.map (·.1))
  | [] => rfl
  | p :: t => by simp only [idx, idxB, List.map_cons, idx_fst k t]
theorem has_fst (k : ByteArray) : ∀ m : List KV, hasK k m = hasB k (m.map (·.1))
  | [] => rfl
  | p :: t => by simp only [hasK, hasB, List.map_cons, has_fst k t]
theorem rising_fst {m : List KV} : Rising m ↔ RisB (m.map (·.1)) := by unfold Rising RisB; rw [List.pairwise_map]

theorem sv_append (a b : List ByteArray) : sv (a ++ b) = sv a ++ sv b := by simp [sv]
theorem iv_append (a b : List Int) : iv (a ++ b) = iv a ++ iv b := by simp [iv]
theorem sv_take (a : List ByteArray) (n : Nat) : sv (a.take n) = (sv a).take n := by simp [sv]
theorem sv_drop (a : List ByteArray) (n : Nat) : sv (a.drop n) = (sv a).drop n := by simp [sv]
theorem iv_take (a : List Int) (n : Nat) : iv (a.take n) = (iv a).take n := by simp [iv]
theorem iv_drop (a : List Int) (n : Nat) : iv (a.drop n) = (iv a).drop n := by simp [iv]

section
variable {w w' : World} {B : Nat} {T : TypeId} {us : List Value} {ao : Option Addr} {n c k : Nat}
/-- The first ones of a row. -/
theorem Rd.take (h : Rd w (.slice ao n c) us) (hk : k ≤ n) : Rd w (.slice ao k c) (us.take k) := by
  obtain ⟨rfl, h1, h2, h3, h4⟩ := h.at
  have hl : (us.take k).length = k := by simp; omega
  refine ⟨ao, c, by rw [hl], by omega, h2, fun e => ?_, fun ad had j u hu => ?_⟩
  · obtain ⟨e1, e2⟩ := h3 e
    exact ⟨by rw [e1]; simp, e2⟩
  · rw [List.getElem?_take] at hu
    split at hu
    · exact h4 ad had j u hu
    · cases hu
/-- The others. -/
theorem Rd.drop {ad : Addr} (h : Rd w (.slice (some ad) n c) us) (hk : k ≤ n) : Rd w (.slice (some (if c = k then ad else ad.add k)) (n - k) (c - k)) (us.drop k) := by
  obtain ⟨rfl, h1, h2, h3, h4⟩ := h.at
  have hl : (us.drop k).length = us.length - k := by simp
  refine ⟨_, c - k, by rw [hl], by omega, by omega, fun e => (by cases e), fun ad' had j u hu => ?_⟩
  cases had
  have hj := (List.getElem?_eq_some_iff.1 hu).1
  rw [List.length_drop] at hj
  rw [if_neg (by omega)]
  rw [List.getElem?_drop] at hu
  have := h4 ad rfl (k + j) u hu
  rw [← this]
  congr 1
  unfold Addr.add
  by_cases hi : k = 0 <;> by_cases hj : j = 0 <;> simp [hi, hj, Nat.add_assoc]
theorem Rd.dropN (h : Rd w (.slice none n c) us) : Rd w (.slice none 0 0) (us.drop k) := by
  obtain ⟨rfl, h1, h2, h3, h4⟩ := h.at
  rw [(h3 rfl).1]
  simpa using Rd.nil w
end

/-- 'append(l, x...)' of a call's own row and another one. -/
theorem run_appS (W : World) (ty : TypeId) (B : Nat) (v vx : Value) (ks xs : List ByteArray) (hown : OwnV W B 9 v (sv ks)) (hx : Rd W vx (sv xs)) (hl : ks.length + xs.length < 1000000000000) (hB : B ≤ W.heap.size) :
    ∃ v' W', (Builtin.append_ #[22, 22] ty #[v, vx]).run Try.prog W = .ok v' W' ∧ OwnV W' B 9 v' (sv (ks ++ xs)) ∧ W.grownBy W' v.ownBlock ∧ (v'.ownBlock = v.ownBlock ∨ v'.ownBlock = some W.heap.size) := by
  obtain ⟨i0, hi, hz0, hz1, hz2⟩ := info_parts infoS
  obtain ⟨ao, c, rfl, h1, h2, h3, h4⟩ := hx
  cases ao with
  | none =>
    obtain ⟨e0, rfl⟩ := h3 rfl
    have e0' : xs = [] := by cases xs with | nil => rfl | cons _ _ => simp [sv] at e0
    subst e0'
    have hrun := run_append_owned_none (P := Try.prog) W B 22 ty 9 i0 1 Try.underlying22 hi v (sv ks).length (sv ks) hown
    exact ⟨v, W, hrun, by rw [List.append_nil]; exact hown, World.grownBy.refl _ _, .inl rfl⟩
  | some ad =>
    obtain ⟨v', w', hr, h5, h6, _, h8⟩ := run_append_own_at (P := Try.prog) W B 22 ty 9 i0 (.string ⟨#[]⟩) 1 16 Try.underlying22 hi hz0 hz1 hz2 rfl (by decide) v (sv ks).length (sv ks) hown ad (sv xs).length c (sv xs) (by omega) (h4 ad rfl) (sv_one xs) (by rw [sv_length, sv_length]; unfold maxLen; omega) (by rw [sv_length, sv_length]; omega) hB
    refine ⟨v', w', hr, ?_, h6, h8⟩
    unfold OwnV
    rw [sv_append, List.length_append]
    exact h5
theorem run_appI (W : World) (ty : TypeId) (B : Nat) (v vx : Value) (ks xs : List Int) (hown : OwnV W B 3 v (iv ks)) (hx : Rd W vx (iv xs)) (hl : ks.length + xs.length < 1000000000000) (hB : B ≤ W.heap.size) :
    ∃ v' W', (Builtin.append_ #[23, 23] ty #[v, vx]).run Try.prog W = .ok v' W' ∧ OwnV W' B 3 v' (iv (ks ++ xs)) ∧ W.grownBy W' v.ownBlock ∧ (v'.ownBlock = v.ownBlock ∨ v'.ownBlock = some W.heap.size) := by
  obtain ⟨i0, hi, hz0, hz1, hz2⟩ := info_parts infoI
  obtain ⟨ao, c, rfl, h1, h2, h3, h4⟩ := hx
  cases ao with
  | none =>
    obtain ⟨e0, rfl⟩ := h3 rfl
    have e0' : xs = [] := by cases xs with | nil => rfl | cons _ _ => simp [iv] at e0
    subst e0'
    have hrun := run_append_owned_none (P := Try.prog) W B 23 ty 3 i0 1 Try.underlying23 hi v (iv ks).length (iv ks) hown
    exact ⟨v, W, hrun, by rw [List.append_nil]; exact hown, World.grownBy.refl _ _, .inl rfl⟩
  | some ad =>
    obtain ⟨v', w', hr, h5, h6, _, h8⟩ := run_append_own_at (P := Try.prog) W B 23 ty 3 i0 (.int .i64 0) 1 8 Try.underlying23 hi hz0 hz1 hz2 rfl (by decide) v (iv ks).length (iv ks) hown ad (iv xs).length c (iv xs) (by omega) (h4 ad rfl) (iv_one xs) (by rw [iv_length, iv_length]; unfold maxLen; omega) (by rw [iv_length, iv_length]; omega) hB
    refine ⟨v', w', hr, ?_, h6, h8⟩
    unfold OwnV
    rw [iv_append, List.length_append]
    exact h5
section
variable {W W' : World} {B b : Nat} {p : Pg} {kv vv dv v' : Value}
/-- A list of a page in a block is another row. -/
theorem Box.setK (h : Box W B b p kv vv dv) {ks : List ByteArray} (ho : OwnV W' B 9 v' (sv ks)) (hk : ∀ g, g = b ∨ vv.ownBlock = some g ∨ dv.ownBlock = some g → W'.heap[g]? = W.heap[g]?) (hn : v'.ownBlock ≠ some b) (f1 : far v' vv) (f2 : far v' dv) :
    Box (W'.setCell ⟨b, 1, none⟩ v') B b { p with keys := ks } v' vv dv := by
  have hbox : PBox W' b p kv vv dv := Blk.of h.box (hk b (.inl rfl))
  exact ⟨Blk.set hbox 1 _, ⟨ownV_set ho hn, ownV_set (h.own.vals.kept fun g e => hk g (.inr (.inl e))) h.nv, ownV_set (h.own.kids.kept fun g e => hk g (.inr (.inr e))) h.nd, f1, f2, h.own.fvd⟩, h.hb, hn, h.nv, h.nd⟩
theorem Box.setV (h : Box W B b p kv vv dv) {ks : List ByteArray} (ho : OwnV W' B 9 v' (sv ks)) (hk : ∀ g, g = b ∨ kv.ownBlock = some g ∨ dv.ownBlock = some g → W'.heap[g]? = W.heap[g]?) (hn : v'.ownBlock ≠ some b) (f1 : far kv v') (f2 : far v' dv) :
    Box (W'.setCell ⟨b, 2, none⟩ v') B b { p with vals := ks } kv v' dv := by
  have hbox : PBox W' b p kv vv dv := Blk.of h.box (hk b (.inl rfl))
  exact ⟨Blk.set hbox 2 _, ⟨ownV_set (h.own.keys.kept fun g e => hk g (.inr (.inl e))) h.nk, ownV_set ho hn, ownV_set (h.own.kids.kept fun g e => hk g (.inr (.inr e))) h.nd, f1, h.own.fkd, f2⟩, h.hb, h.nk, hn, h.nd⟩
theorem Box.setD (h : Box W B b p kv vv dv) {ks : List Int} (ho : OwnV W' B 3 v' (iv ks)) (hk : ∀ g, g = b ∨ kv.ownBlock = some g ∨ vv.ownBlock = some g → W'.heap[g]? = W.heap[g]?) (hn : v'.ownBlock ≠ some b) (f1 : far kv v') (f2 : far vv v') :
    Box (W'.setCell ⟨b, 3, none⟩ v') B b { p with kids := ks } kv vv v' := by
  have hbox : PBox W' b p kv vv dv := Blk.of h.box (hk b (.inl rfl))
  exact ⟨Blk.set hbox 3 _, ⟨ownV_set (h.own.keys.kept fun g e => hk g (.inr (.inl e))) h.nk, ownV_set (h.own.vals.kept fun g e => hk g (.inr (.inr e))) h.nv, ownV_set ho hn, h.own.fkv, f1, f2⟩, h.hb, h.nk, h.nv, hn⟩
/-- .. by an append that lays nothing first. -/
theorem Box.joinK (h : Box W B b p kv vv dv) {ks : List ByteArray} (ho : OwnV W' B 9 v' (sv ks)) (hg : W.grownBy W' kv.ownBlock) (hat : v'.ownBlock = kv.ownBlock ∨ v'.ownBlock = some W.heap.size) :
    Box (W'.setCell ⟨b, 1, none⟩ v') B b { p with keys := ks } v' vv dv := by
  have hb := Blk.lt h.box
  refine h.setK ho (fun g e => hg.block g ?_ fun e' => ?_) (fun e => ?_) (fun g e e' => ?_) (fun g e e' => ?_)
  · rcases e with rfl | e | e
    · exact hb
    · exact (h.own.vals.blk g e).2
    · exact (h.own.kids.blk g e).2
  · rcases e with rfl | e | e
    · exact h.nk e'.symm
    · exact h.own.fkv g e'.symm e
    · exact h.own.fkd g e'.symm e
  · rcases hat with x | x
    · exact h.nk (x ▸ e)
    · rw [x] at e; simp at e; omega
  · rcases hat with x | x
    · exact h.own.fkv g (x ▸ e) e'
    · rw [x] at e; have := (h.own.vals.blk g e').2; simp at e; omega
  · rcases hat with x | x
    · exact h.own.fkd g (x ▸ e) e'
    · rw [x] at e; have := (h.own.kids.blk g e').2; simp at e; omega
theorem Box.joinV (h : Box W B b p kv vv dv) {ks : List ByteArray} (ho : OwnV W' B 9 v' (sv ks)) (hg : W.grownBy W' vv.ownBlock) (hat : v'.ownBlock = vv.ownBlock ∨ v'.ownBlock = some W.heap.size) :
    Box (W'.setCell ⟨b, 2, none⟩ v') B b { p with vals := ks } kv v' dv := by
  have hb := Blk.lt h.box
  refine h.setV ho (fun g e => hg.block g ?_ fun e' => ?_) (fun e => ?_) (fun g e' e => ?_) (fun g e e' => ?_)
  · rcases e with rfl | e | e
    · exact hb
    · exact (h.own.keys.blk g e).2
    · exact (h.own.kids.blk g e).2
  · rcases e with rfl | e | e
    · exact h.nv e'.symm
    · exact h.own.fkv g e e'.symm
    · exact h.own.fvd g e'.symm e
  · rcases hat with x | x
    · exact h.nv (x ▸ e)
    · rw [x] at e; simp at e; omega
  · rcases hat with x | x
    · exact h.own.fkv g e' (x ▸ e)
    · rw [x] at e; have := (h.own.keys.blk g e').2; simp at e; omega
  · rcases hat with x | x
    · exact h.own.fvd g (x ▸ e) e'
    · rw [x] at e; have := (h.own.kids.blk g e').2; simp at e; omega
theorem Box.joinD (h : Box W B b p kv vv dv) {ks : List Int} (ho : OwnV W' B 3 v' (iv ks)) (hg : W.grownBy W' dv.ownBlock) (hat : v'.ownBlock = dv.ownBlock ∨ v'.ownBlock = some W.heap.size) :
    Box (W'.setCell ⟨b, 3, none⟩ v') B b { p with kids := ks } kv vv v' := by
  have hb := Blk.lt h.box
  refine h.setD ho (fun g e => hg.block g ?_ fun e' => ?_) (fun e => ?_) (fun g e' e => ?_) (fun g e' e => ?_)
  · rcases e with rfl | e | e
    · exact hb
    · exact (h.own.keys.blk g e).2
    · exact (h.own.vals.blk g e).2
  · rcases e with rfl | e | e
    · exact h.nd e'.symm
    · exact h.own.fkd g e e'.symm
    · exact h.own.fvd g e e'.symm
  · rcases hat with x | x
    · exact h.nd (x ▸ e)
    · rw [x] at e; simp at e; omega
  · rcases hat with x | x
    · exact h.own.fkd g e' (x ▸ e)
    · rw [x] at e; have := (h.own.keys.blk g e').2; simp at e; omega
  · rcases hat with x | x
    · exact h.own.fvd g e' (x ▸ e)
    · rw [x] at e; have := (h.own.vals.blk g e').2; simp at e; omega
end
end Go.Proofs.Ytmjekecalghhdaa
