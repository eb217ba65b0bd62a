/- The queue in plain words: which things are due, and when. Own lemmas, no statement. -/
import Derived.Test.YtgoejoiomjmfaaaDue17
namespace Go.Proofs.Ytgoejoiomjmfaaa
open Go.ChangeShapes Go.WideShapes Go.ChangeAt Go.RowKit

def entOf (q : Key) (a : Int) : Ent := ⟨a, q.kind, q.num, q.node⟩
theorem entOf_key (q : Key) (a : Int) : (entOf q a).key = q := rfl
theorem entOf_self (e : Ent) : entOf e.key e.at_ = e := rfl
theorem entOf_inj {q q' : Key} {a a' : Int} (h : entOf q a = entOf q' a') : q = q' ∧ a = a' := by
  have h1 := congrArg Ent.key h
  have h2 := congrArg Ent.at_ h
  exact ⟨h1, h2⟩
def putT (T : Key → Option Int) (q : Key) (a : Int) : Key → Option Int := fun k => @ite _ (k = q) (keyEq k q) (some a) (T k)
def delT (T : Key → Option Int) (q : Key) : Key → Option Int := fun k => @ite _ (k = q) (keyEq k q) none (T k)

/-- The queue in block g: n things are due, when T says; at most N stores were made; all its blocks are of O. -/
def QS (O : Nat → Prop) (w : World) (g N n : Nat) (T : Key → Option Int) : Prop :=
  ∃ N' A v mb f, QAt 0 w g N' n A v mb f ∧ N' ≤ N ∧ (∀ k, allB g mb v n A k → O k) ∧ ∀ q a, T q = some a ↔ ∃ i, i < n ∧ (A i).e = entOf q a

section
variable {O O' : Nat → Prop} {w w' : World} {g N n : Nat} {T : Key → Option Int}
theorem QAt.zero {B : Nat} {A : Nat → It} {v : Value} {mb : Nat} {f : Key → Option Nat} (h : QAt B w g N n A v mb f) : QAt 0 w g N n A v mb f := ⟨h.ho, h.heap, h.map, h.has, h.back, h.wf, fun _ _ => Nat.zero_le _⟩
theorem QS.mono (h : QS O w g N n T) {N2 : Nat} (hN : N ≤ N2) (hO : ∀ k, k < w.heap.size → O k → O' k) : QS O' w g N2 n T := by
  obtain ⟨N', A, v, mb, f, h1, h2, h3, h4⟩ := h
  exact ⟨N', A, v, mb, f, h1, by omega, fun k hk => hO k (h1.lt k hk) (h3 k hk), h4⟩
theorem QS.cut (h : QS O w g N n T) : QS (fun k => O k ∧ k < w.heap.size) w g N n T := h.mono (Nat.le_refl _) (fun _ h1 h2 => ⟨h2, h1⟩)
theorem QS.chg {S : Nat → Prop} (h : QS O w g N n T) (hc : Chg S w w') (hn : ∀ k, O k → ¬ S k) : QS O w' g N n T := by
  obtain ⟨N', A, v, mb, f, h1, h2, h3, h4⟩ := h
  exact ⟨N', A, v, mb, f, h1.chg hc (fun k hk => hn k (h3 k hk)), h2, h3, h4⟩
theorem QS.below (h : QS O w g N n T) (hb : Below w.heap.size w w') : QS O w' g N n T := by
  obtain ⟨N', A, v, mb, f, h1, h2, h3, h4⟩ := h
  exact ⟨N', A, v, mb, f, h1.below hb, h2, h3, h4⟩
theorem QS.at (h : QS O w g N n T) : O g := by
  obtain ⟨N', A, v, mb, f, h1, h2, h3, h4⟩ := h
  exact h3 g (.inl rfl)
theorem QS.wf (h : QS O w g N n T) {q : Key} {a : Int} (ht : T q = some a) : q.wf := by
  obtain ⟨N', A, v, mb, f, h1, h2, h3, h4⟩ := h
  obtain ⟨i, hi, e⟩ := (h4 q a).1 ht
  have := h1.wf i hi
  rw [e] at this
  exact this
theorem QS.pos (h : QS O w g N n T) {q : Key} {a : Int} (ht : T q = some a) : 0 < n := by
  obtain ⟨N', A, v, mb, f, h1, h2, h3, h4⟩ := h
  obtain ⟨i, hi, e⟩ := (h4 q a).1 ht
  omega
theorem QS.all (h : QS O w g N n T) (hn : 0 < n) : ∃ q a, T q = some a := by
  obtain ⟨N', A, v, mb, f, h1, h2, h3, h4⟩ := h
  exact ⟨(A 0).e.key, (A 0).e.at_, (h4 _ _).2 ⟨0, hn, rfl⟩⟩
/-- A block of cells that is neither a queue's nor a line's nor an item's is none of the queue's. -/
theorem QS.other (h : QS O w g N n T) {k : Nat} {cs : Array Value} {t : TypeId} (hk : Blk w k cs t) (h1 : t ≠ 53) (h2 : t ≠ 56) (h3 : t ≠ 59) : QS (fun j => O j ∧ j ≠ k) w g N n T := by
  obtain ⟨N', A, v, mb, f, q1, q2, q3, q4⟩ := h
  refine ⟨N', A, v, mb, f, q1, q2, fun j hj => ⟨q3 j hj, fun e => ?_⟩, q4⟩
  subst e
  rcases hj with e | e | e | ⟨i, hi, e⟩
  · subst e; exact q1.ho.q.ne hk h1.symm rfl
  · subst e; exact q1.map.ne hk rfl
  · obtain ⟨cs', hc⟩ := q1.ho.l.rowBlk e
    exact hc.ne hk h2.symm rfl
  · subst e; exact (q1.ho.l.item hi).ne hk h3.symm rfl
theorem chg_of_below (hb : Below w.heap.size w w') : Chg O w w' := Chg.of_below hb (fun k h1 h2 => by omega)
end

theorem qs_new (w : World) : Calls Try.prog 9 #[] w fun e w' => ∃ g, e = .returned (iptr g) ∧ QS (fun k => w.heap.size ≤ k) w' g 0 0 (fun _ => none) ∧ Below w.heap.size w w' := by
  refine (new_any w).mono ?_
  rintro e w' ⟨g, mb, rfl, h, hb⟩
  refine ⟨g, rfl, ⟨0, _, _, _, _, h.zero, Nat.le_refl _, fun k hk => h.low k hk, fun q a => ⟨fun e => (by cases e), fun ⟨i, hi, _⟩ => (by omega)⟩⟩, hb⟩

section
variable {O : Nat → Prop} {w : World} {g N n : Nat} {T : Key → Option Int}
theorem qs_len (h : QS O w g N n T) : Calls Try.prog 15 #[iptr g] w fun e w' => e = .returned (.int .i64 (n : Int)) ∧ w' = w := by
  obtain ⟨N', A, v, mb, f, h1, h2, h3, h4⟩ := h
  exact len_any h1

theorem none_f {N' : Nat} {A : Nat → It} {v : Value} {mb : Nat} {f : Key → Option Nat} (h : QAt 0 w g N' n A v mb f) (h4 : ∀ q a, T q = some a ↔ ∃ i, i < n ∧ (A i).e = entOf q a) {q : Key} (ht : T q = none) : f q = none := by
  cases hf : f q with
  | none => rfl
  | some b =>
    obtain ⟨i, hi, e1, e2⟩ := h.back q b hf
    have := (h4 q (A i).e.at_).2 ⟨i, hi, by rw [← e2]; rfl⟩
    rw [ht] at this
    cases this

theorem qs_when (h : QS O w g N n T) (q : Key) (hw : q.wf) :
    Calls Try.prog 12 #[iptr g, .int .i64 q.kind, .agg #[.int .u64 q.num, .int .i64 q.node]] w fun e w' => e = .returned (.tuple #[.int .i64 ((T q).getD 0), .bool (T q).isSome]) ∧ Below w.heap.size w w' := by
  obtain ⟨N', A, v, mb, f, h1, h2, h3, h4⟩ := h
  cases ht : T q with
  | none => exact when_none h1 q hw (none_f h1 h4 ht)
  | some a =>
    obtain ⟨i, hi, e⟩ := (h4 q a).1 ht
    refine (when_some h1 q i hi (by rw [e]; rfl)).mono ?_
    rintro r w' ⟨rfl, hb⟩
    exact ⟨by rw [e]; rfl, hb⟩

theorem qs_set (h : QS O w g N n T) (e : Ent) (hw : e.key.wf) (hN : N < 1000000) (hn : n < 1000000) :
    Calls Try.prog 10 #[iptr g, .int .i64 e.kind, .agg #[.int .u64 e.num, .int .i64 e.node], .int .i64 e.at_] w fun r w' => r = .returned (.tuple #[]) ∧ QS (fun k => O k ∨ w.heap.size ≤ k) w' g (N + 1) (if (T e.key).isSome then n else n + 1) (putT T e.key e.at_) ∧ Chg O w w' := by
  obtain ⟨N', A, v, mb, f, h1, h2, h3, h4⟩ := h
  cases ht : T e.key with
  | none =>
    refine (set_new e h1 (Nat.zero_le _) (none_f h1 h4 ht) hw (by omega) hn).mono ?_
    rintro r w' ⟨rfl, A', v', nb, hL⟩
    refine ⟨rfl, ⟨N' + 1, A', v', mb, _, hL.q, by omega, fun k hk => ?_, fun q a => ?_⟩, hL.chg.mono (fun k _ hk => h3 k hk)⟩
    · rcases hL.sub k hk with x | x
      · exact .inl (h3 k x)
      · exact .inr x
    · unfold putT
      constructor
      · intro hq
        split at hq
        · rename_i hk
          cases hq
          obtain ⟨i, hi, e1⟩ := hL.same.2 n (by omega)
          refine ⟨i, hi, ?_⟩
          rw [e1, snocA_at, hk]
          rfl
        · obtain ⟨j, hj, e1⟩ := (h4 q a).1 hq
          obtain ⟨i, hi, e2⟩ := hL.same.2 j (by omega)
          refine ⟨i, hi, ?_⟩
          rw [e2, snocA_lt A _ hj]
          exact e1
      · rintro ⟨i, hi, e1⟩
        obtain ⟨j, hj, e2⟩ := hL.same.1 i hi
        rw [e2] at e1
        rcases Nat.lt_or_ge j n with hl | hl
        · rw [snocA_lt A _ hl] at e1
          have := (h4 q a).2 ⟨j, hl, e1⟩
          rw [if_neg, this]
          intro hk
          rw [hk, ht] at this
          cases this
        · obtain rfl : j = n := by have hj' : j < n + 1 := hj; omega
          rw [snocA_at] at e1
          have e3 : e = entOf q a := e1
          rw [e3]
          simp only [entOf_key, if_true]
          rfl
  | some a0 =>
    obtain ⟨i, hi, e0⟩ := (h4 _ _).1 ht
    have hk : (A i).e.key = e.key := by rw [e0]; rfl
    refine (set_again e h1 i hi hk hn).mono ?_
    rintro r w' ⟨rfl, A', hL⟩
    refine ⟨rfl, ⟨N', A', v, mb, f, hL.q, by omega, fun k hk => .inl (h3 k (hL.sub k hk)), fun q a => ?_⟩, hL.chg.mono (fun k _ hk => h3 k hk)⟩
    have hu : ∀ j, j < n → (A j).e.key = e.key → j = i := fun j hj e1 => by
      have x1 := h1.has j hj
      have x2 := h1.has i hi
      rw [e1] at x1
      rw [hk, x1] at x2
      obtain ⟨b, cap, _, hl⟩ := h1.line' (by omega)
      exact hl.l.inj j i hj hi (by simpa using x2)
    unfold putT
    constructor
    · intro hq
      split at hq
      · rename_i hk
        cases hq
        obtain ⟨j, hj, e1⟩ := hL.same.2 i hi
        refine ⟨j, hj, ?_⟩
        rw [e1, turnA_at, hk]
        rfl
      · rename_i hk3
        obtain ⟨j, hj, e1⟩ := (h4 q a).1 hq
        obtain ⟨l, hl, e2⟩ := hL.same.2 j hj
        refine ⟨l, hl, ?_⟩
        rw [e2, turnA_ne A _ (fun x => by subst x; rw [e0] at e1; exact hk3 (entOf_inj e1).1.symm)]
        exact e1
    · rintro ⟨j, hj, e1⟩
      obtain ⟨l, hl, e2⟩ := hL.same.1 j hj
      rw [e2] at e1
      by_cases hl2 : l = i
      · subst hl2
        rw [turnA_at] at e1
        have e3 : e = entOf q a := e1
        rw [e3]
        simp only [entOf_key, if_true]
        rfl
      · rw [turnA_ne A _ hl2] at e1
        have := (h4 q a).2 ⟨l, hl, e1⟩
        rw [if_neg, this]
        intro hk2
        exact hl2 (hu l hl (by rw [e1, ← hk2]; rfl))

theorem gone_T {N' i : Nat} {A A' : Nat → It} {v : Value} {mb : Nat} {f : Key → Option Nat} (h1 : QAt 0 w g N' (n + 1) A v mb f) (hi : i ≤ n) (h4 : ∀ q a, T q = some a ↔ ∃ i, i < n + 1 ∧ (A i).e = entOf q a) (hL : Lost n i A A') : ∀ q a, delT T (A i).e.key q = some a ↔ ∃ i, i < n ∧ (A' i).e = entOf q a := by
  intro q a
  have hu : ∀ j, j < n + 1 → (A j).e.key = (A i).e.key → j = i := fun j hj e1 => by
    have x1 := h1.has j hj
    have x2 := h1.has i (by omega)
    rw [e1, x2] at x1
    obtain ⟨b, cap, _, hl⟩ := h1.line' (by omega)
    exact hl.l.inj j i hj (by omega) (by simpa using x1.symm)
  unfold delT
  constructor
  · intro hq
    split at hq
    · cases hq
    · rename_i hk
      obtain ⟨j, hj, e1⟩ := (h4 q a).1 hq
      obtain ⟨l, hl, e2⟩ := hL.to j hj (fun x => by subst x; rw [e1] at hk; exact hk rfl)
      exact ⟨l, hl, by rw [e2]; exact e1⟩
  · rintro ⟨j, hj, e1⟩
    obtain ⟨l, hl, hne, e2⟩ := hL.of j hj
    rw [e2] at e1
    have := (h4 q a).2 ⟨l, hl, e1⟩
    rw [if_neg, this]
    intro hk
    exact hne (hu l hl (by rw [e1, ← hk]; rfl))

theorem qs_drop (h : QS O w g N n T) (q : Key) (hw : q.wf) (hn : n < 1000000) :
    Calls Try.prog 11 #[iptr g, .int .i64 q.kind, .agg #[.int .u64 q.num, .int .i64 q.node]] w fun e w' => e = .returned (.bool (T q).isSome) ∧ QS O w' g N (if (T q).isSome then n - 1 else n) (delT T q) ∧ Chg O w w' := by
  have h0 := h
  obtain ⟨N', A, v, mb, f, h1, h2, h3, h4⟩ := h
  cases ht : T q with
  | none =>
    refine (drop_none h1 q hw (none_f h1 h4 ht)).mono ?_
    rintro r w' ⟨rfl, hb⟩
    have e : delT T q = T := by
      funext k
      unfold delT
      split
      · rename_i hk; rw [hk, ht]
      · rfl
    rw [e]
    exact ⟨rfl, h0.below hb, chg_of_below hb⟩
  | some a =>
    obtain ⟨i, hi, e⟩ := (h4 q a).1 ht
    obtain ⟨n, rfl⟩ : ∃ m, n = m + 1 := ⟨n - 1, by omega⟩
    refine (drop_some h1 q i (by omega) (by rw [e]; rfl) (by omega)).mono ?_
    rintro r w' ⟨rfl, A', v', hG⟩
    have hT := gone_T h1 (by omega) h4 hG.lost
    rw [show (A i).e.key = q by rw [e]; rfl] at hT
    exact ⟨rfl, ⟨N', A', v', mb, _, hG.q, h2, fun k hk => h3 k (hG.sub k hk), hT⟩, hG.chg.mono (fun k _ hk => h3 k hk)⟩

/-- What Next leaves. -/
def NextP (O : Nat → Prop) (w : World) (g N n : Nat) (T : Key → Option Int) (now : Int) (r : Ending) (w' : World) : Prop :=
  (r = .returned (.tuple #[entV noEnt, .bool false]) ∧ (∀ q a, T q = some a → now < a) ∧ QS O w' g N n T ∧ Below w.heap.size w w') ∨
  ∃ (e : Ent) (m : Nat), r = .returned (.tuple #[entV e, .bool true]) ∧ n = m + 1 ∧ T e.key = some e.at_ ∧ e.at_ ≤ now ∧ (∀ q a, T q = some a → lessE (entOf q a) e = false) ∧ QS O w' g N m (delT T e.key) ∧ Chg O w w'

theorem qs_next (h : QS O w g N n T) (now : Int) (hn : n < 1000000) : Calls Try.prog 14 #[iptr g, .int .i64 now] w (NextP O w g N n T now) := by
  have h0 := h
  obtain ⟨N', A, v, mb, f, h1, h2, h3, h4⟩ := h
  rcases n with _ | n
  · refine (next_empty h1 now).mono ?_
    rintro r w' ⟨rfl, hb⟩
    exact .inl ⟨rfl, fun q a e => (by obtain ⟨i, hi, _⟩ := (h4 q a).1 e; omega), h0.below hb, hb⟩
  · by_cases hl : now < (A 0).e.at_
    · refine (next_late h1 now hl (by omega)).mono ?_
      rintro r w' ⟨rfl, hb⟩
      refine .inl ⟨rfl, fun q a e => ?_, h0.below hb, hb⟩
      obtain ⟨i, hi, e1⟩ := (h4 q a).1 e
      have := h1.heap.min ltI_ord i hi
      unfold ltI lessE at this
      rw [e1] at this
      unfold entOf at this
      simp only [decide_eq_false_iff_not] at this
      omega
    · refine (next_take h1 now (by omega) (by omega)).mono ?_
      rintro r w' ⟨rfl, A', v', hq, hL, hc, hs⟩
      refine .inr ⟨(A 0).e, n, rfl, rfl, (h4 _ _).2 ⟨0, by omega, rfl⟩, by omega, fun q a e => ?_, ⟨N', A', v', mb, _, hq, h2, fun k hk => h3 k (hs k hk), gone_T h1 (by omega) h4 hL⟩, hc.mono (fun k _ hk => h3 k hk)⟩
      obtain ⟨i, hi, e1⟩ := (h4 q a).1 e
      have := h1.heap.min ltI_ord i hi
      unfold ltI at this
      rw [e1] at this
      exact this
end
end Go.Proofs.Ytgoejoiomjmfaaa
