/- rec: the law's own rising and keys, of any lists. Own lemmas, no statement. -/
import Derived.Test.YthkmohcdgnldgaaGreatRecL1
set_option linter.unusedSimpArgs false
set_option linter.unusedVariables false
namespace Go.Proofs.YthkmohcdgnldgaaGreat
open Go.ChangeShapes Go.WideShapes Go.ChangeAt Go.RowKit

def BoolP (b : Bool) (w : World) (e : Ending) (w' : World) : Prop := e = .returned (.bool b) ∧ Below w.heap.size w w'
theorem fits_iff {α : Type} {r : α → Bool} {a : α → α → Bool} {d : α} {m : Nat} {l : List α} : fitsB r a d m l = true ↔ l.length ≤ m ∧ ∀ k (hk : k < l.length), r l[k] = true ∧ (∀ j (hj : j < l.length), k = j + 1 → a l[j] l[k] = true) := by
  constructor
  · intro h
    refine ⟨?_, fun k hk => fits_at h hk⟩
    unfold fitsB at h
    rw [Bool.and_eq_true] at h
    exact of_decide_eq_true h.1
  · rintro ⟨h1, h2⟩
    unfold fitsB
    rw [Bool.and_eq_true, allB_iff]
    refine ⟨decide_eq_true h1, fun k hk => ?_⟩
    obtain ⟨h3, h4⟩ := h2 k hk
    unfold fitAt
    rw [Bool.and_eq_true, getD_of hk]
    refine ⟨h3, ?_⟩
    rcases (show k = 0 ∨ ∃ m, k = m + 1 from by cases k; exact .inl rfl; exact .inr ⟨_, rfl⟩) with h0 | ⟨m, hm⟩
    · simp [h0]
    · subst hm
      have h5 := h4 m (by omega) rfl
      rw [show m + 1 - 1 = m from rfl, getD_of (show m < l.length by omega), h5]
      simp
theorem lastN_succ {ns : List Int} {k : Nat} (hk : k < ns.length) : lastN ns (k + 1) = ns[k] := by
  unfold lastN
  rw [if_neg (by omega), show k + 1 - 1 = k from rfl, getD_of hk]
theorem rise_iff (ns : List Int) : nodesOk ns = true ↔ ∀ k (hk : k < ns.length), lastN ns k < ns[k] ∧ ns[k] ≤ 63 := by
  unfold nodesOk
  rw [fits_iff]
  constructor
  · rintro ⟨h0, h⟩ k hk
    obtain ⟨h1, h2⟩ := h k hk
    have h3 := nodeOk_bounds h1
    refine ⟨?_, by omega⟩
    rcases (show k = 0 ∨ ∃ m, k = m + 1 from by cases k; exact .inl rfl; exact .inr ⟨_, rfl⟩) with e | ⟨m, e⟩
    · subst e
      have : lastN ns 0 = -1 := rfl
      omega
    · subst e
      rw [lastN_succ (show m < ns.length by omega)]
      have := h2 m (by omega) rfl
      unfold ltI at this
      exact of_decide_eq_true this
  · intro h
    have hlo : ∀ k (hk : k < ns.length), (k : Int) ≤ ns[k] := by
      intro k
      induction k with
      | zero => intro hk; have h1 := (h 0 hk).1; have : lastN ns 0 = -1 := rfl; omega
      | succ m ih =>
        intro hk
        have h1 := (h (m + 1) hk).1
        rw [lastN_succ (show m < ns.length by omega)] at h1
        have h2 := ih (by omega)
        omega
    refine ⟨?_, fun k hk => ⟨?_, fun j hj e => ?_⟩⟩
    · by_cases h0 : ns.length = 0
      · omega
      · have h1 := (h (ns.length - 1) (by omega)).2
        have h2 := hlo (ns.length - 1) (by omega)
        omega
    · have h1 := (h k hk).2
      have h2 := hlo k hk
      unfold nodeOk
      rw [decide_eq_true (show (0 : Int) ≤ ns[k] by omega), decide_eq_true (show ns[k] < 64 by omega)]
      rfl
    · subst e
      have h1 := (h (j + 1) hk).1
      rw [lastN_succ hj] at h1
      unfold ltI
      exact decide_eq_true h1
theorem rise_no {ns : List Int} {k : Nat} (hk : k < ns.length) (h : ns[k] ≤ lastN ns k ∨ 63 < ns[k]) : nodesOk ns = false := by
  cases e : nodesOk ns with
  | false => rfl
  | true => have h1 := (rise_iff ns).1 e k hk; omega
theorem keyOk_iff (x : ByteArray) : keyOk x = true ↔ 1 ≤ x.size ∧ x.size ≤ 24 := by
  unfold keyOk
  simp only [Bool.and_eq_true, decide_eq_true_eq]
theorem keys_no {ss : List ByteArray} {k : Nat} (hk : k < ss.length) (h : ss[k].size < 1 ∨ 24 < ss[k].size ∨ ∃ m, ∃ hm : m < ss.length, k = m + 1 ∧ ltK ss[m] ss[k] = false) : readsOk ss = false := by
  cases e : readsOk ss with
  | false => rfl
  | true =>
    obtain ⟨h1, h2⟩ := (fits_iff.1 e).2 k hk
    have h3 := (keyOk_iff _).1 h1
    rcases h with h | h | ⟨m, hm, h4, h5⟩
    · omega
    · omega
    · rw [h2 m hm h4] at h5
      cases h5
set_option maxRecDepth 100000 in
set_option maxHeartbeats 4000000 in
theorem rising_any (u : Value) (ns : List Int) (w : World) (hu : Rd w u (iv ns)) : Calls Tryz.prog 23 #[u] w (BoolP (nodesOk ns) w) := by
  obtain ⟨un, uo, uc, rfl⟩ := hu.any2
  have hun : un = ns.length := by have := hu.at.1; rw [iv_length] at this; exact this
  have HN : Hid (un = ns.length) := hun
  have hub : un ≤ maxLen := by have h1 := hu.at.2.1; have h2 := hu.at.2.2.1; rw [iv_length] at h1; omega
  unfold maxLen at hub
  have HU : Hid (Rd w (.slice uo un uc) (iv ns)) := hu
  clear hu hun
  go_enter Tryz.func23, Tryz.ntmps23
  go_wp2
  go_loopw [3, 8] (fun lv i wr => ∃ k : Nat, i = .int .i64 (k : Int) ∧ lv = .int .i64 (lastN ns k) ∧ k ≤ un ∧ w = wr ∧ ∀ j (hj : j < ns.length), j < k → lastN ns j < ns[j] ∧ ns[j] ≤ 63) (fun _ i _ => un - (intOf i).toNat)
  case atStart => exact ⟨0, rfl, rfl, Nat.zero_le _, rfl, fun j _ h => absurd h (Nat.not_lt_zero _)⟩
  case round =>
    obtain ⟨k, rfl, rfl, hk, rfl, ha⟩ := hrel
    have HA : Hid (∀ j (hj : j < ns.length), j < k → lastN ns j < ns[j] ∧ ns[j] ≤ 63) := ha
    clear ha
    by_cases hlt : k < un
    · have hkl : k < ns.length := by rw [← HN.out]; exact hlt
      have hi2 : (k : Int) < (un : Int) := by omega
      obtain ⟨ad, had⟩ := HU.out.at.2.2.2.ad (by rw [iv_length]; omega)
      subst had
      have y1 := HU.out.at.2.2.2.num rfl hkl
      have HNO : Hid (ns[k] ≤ lastN ns k ∨ 63 < ns[k] → nodesOk ns = false) := rise_no hkl
      have HL : Hid (lastN ns (k + 1) = ns[k]) := lastN_succ hkl
      have HST : Hid (lastN ns k < ns[k] → ns[k] ≤ 63 → ∀ j (hj : j < ns.length), j < k + 1 → lastN ns j < ns[j] ∧ ns[j] ≤ 63) := fun h1 h2 j hj hjk => by
        by_cases e : j = k
        · subst e; exact ⟨h1, h2⟩
        · exact HA.out j hj (by omega)
      clear HA
      generalize hx : ns[k] = x at *
      generalize hy : lastN ns k = y at *
      clear hx hy
      by_cases e4 : x ≤ y
      · go_wp2
        go_ret
        exact ⟨ret_bool (HNO.out (.inl e4)).symm, Below.refl _ _⟩
      · by_cases e5 : 63 < x
        · go_wp2
          go_ret
          exact ⟨ret_bool (HNO.out (.inr e5)).symm, Below.refl _ _⟩
        · go_wp2
          go_roundw
          case rel => exact ⟨k + 1, by go_num, by rw [HL.out], by omega, trivial, HST.out (by omega) (by omega)⟩
          case measure => simp [intOf]; omega
    · have HOK : Hid (nodesOk ns = true) := (rise_iff ns).2 fun j hj => HA.out j hj (by have := HN.out; omega)
      clear HA
      go_wp2
      go_ret
      exact ⟨ret_bool HOK.out.symm, Below.refl _ _⟩
set_option maxRecDepth 100000 in
set_option maxHeartbeats 4000000 in
theorem keys_any (u : Value) (ss : List ByteArray) (w : World) (hu : Rd w u (sv ss)) : Calls Tryz.prog 24 #[u] w (BoolP (readsOk ss) w) := by
  obtain ⟨un, uo, uc, rfl⟩ := hu.any2
  have hun : un = ss.length := by have := hu.at.1; rw [sv_length] at this; exact this
  have HN : Hid (un = ss.length) := hun
  have hub : un ≤ maxLen := by have h1 := hu.at.2.1; have h2 := hu.at.2.2.1; rw [sv_length] at h1; omega
  unfold maxLen at hub
  have HU : Hid (Rd w (.slice uo un uc) (sv ss)) := hu
  clear hu hun
  go_enter Tryz.func24, Tryz.ntmps24
  go_wp2
  go_loopw [7] (fun i wr => ∃ k : Nat, i = .int .i64 (k : Int) ∧ k ≤ un ∧ w = wr ∧ ∀ j (hj : j < ss.length), j < k → keyOk ss[j] = true ∧ (∀ m (hm : m < ss.length), j = m + 1 → ltK ss[m] ss[j] = true)) (fun i _ => un - (intOf i).toNat)
  case atStart => exact ⟨0, rfl, Nat.zero_le _, rfl, fun j _ h => absurd h (Nat.not_lt_zero _)⟩
  case round =>
    obtain ⟨k, rfl, hk, rfl, ha⟩ := hrel
    have HA : Hid (∀ j (hj : j < ss.length), j < k → keyOk ss[j] = true ∧ (∀ m (hm : m < ss.length), j = m + 1 → ltK ss[m] ss[j] = true)) := ha
    clear ha
    by_cases hlt : k < un
    · have hkl : k < ss.length := by rw [← HN.out]; exact hlt
      have hi2 : (k : Int) < (un : Int) := by omega
      have ha := HU.out.at.2.2.2
      obtain ⟨ad, had⟩ := ha.ad (by rw [sv_length]; omega)
      subst had
      have y1 := ha.str rfl hkl
      have HNO : Hid (ss[k].size < 1 ∨ 24 < ss[k].size → readsOk ss = false) := fun h => keys_no hkl (h.elim .inl fun h => .inr (.inl h))
      have HST : Hid (1 ≤ ss[k].size → ss[k].size ≤ 24 → (∀ m (hm : m < ss.length), k = m + 1 → ltK ss[m] ss[k] = true) → ∀ j (hj : j < ss.length), j < k + 1 → keyOk ss[j] = true ∧ (∀ m (hm : m < ss.length), j = m + 1 → ltK ss[m] ss[j] = true)) := fun h1 h2 h3 j hj hjk => by
        by_cases e : j = k
        · subst e; exact ⟨(keyOk_iff _).2 ⟨h1, h2⟩, h3⟩
        · exact HA.out j hj (by omega)
      clear HA
      rcases (show k = 0 ∨ ∃ m, k = m + 1 from by cases k; exact .inl rfl; exact .inr ⟨_, rfl⟩) with hk0 | ⟨m, hm⟩
      · have hk1 : ¬ 0 < k := by omega
        have hk2 : ¬ (0 : Int) < (k : Int) := by omega
        have HST' : Hid (1 ≤ ss[k].size → ss[k].size ≤ 24 → ∀ j (hj : j < ss.length), j < k + 1 → keyOk ss[j] = true ∧ (∀ m (hm : m < ss.length), j = m + 1 → ltK ss[m] ss[j] = true)) := fun h1 h2 => HST.out h1 h2 fun m _ e => by omega
        clear HST
        generalize hx : ss[k] = x at *
        clear ha hx hkl hk0
        by_cases e4 : x.size < 1
        · go_wp2
          go_ret
          exact ⟨ret_bool (HNO.out (.inl e4)).symm, Below.refl _ _⟩
        · by_cases e5 : 24 < x.size
          · go_wp2
            go_ret
            exact ⟨ret_bool (HNO.out (.inr e5)).symm, Below.refl _ _⟩
          · go_wp2
            go_roundw
            case rel => exact ⟨k + 1, by go_num, by omega, trivial, HST'.out (by omega) (by omega)⟩
            case measure => simp [intOf]; omega
      · have hml : m < ss.length := by omega
        have y2 := ha.str rfl hml
        have hk1 : 0 < k := by omega
        have hk2 : (0 : Int) < (k : Int) := by omega
        have hk3 : (k : Int) - 1 = (m : Int) := by omega
        have hk4 : m < un := by omega
        have HNO2 : Hid (Op.bytesLess ss[m].toList ss[k].toList = false → readsOk ss = false) := fun h => keys_no hkl (.inr (.inr ⟨m, hml, hm, h⟩))
        have HST' : Hid (1 ≤ ss[k].size → ss[k].size ≤ 24 → Op.bytesLess ss[m].toList ss[k].toList = true → ∀ j (hj : j < ss.length), j < k + 1 → keyOk ss[j] = true ∧ (∀ m (hm : m < ss.length), j = m + 1 → ltK ss[m] ss[j] = true)) := fun h1 h2 h3 => HST.out h1 h2 fun m' _ e => by
          have e2 : m' = m := by omega
          subst e2
          exact h3
        clear HST
        generalize hx : ss[k] = x at *
        generalize hz : ss[m] = z at *
        clear ha hx hz hkl hml hm
        by_cases e4 : x.size < 1
        · go_wp2
          go_ret
          exact ⟨ret_bool (HNO.out (.inl e4)).symm, Below.refl _ _⟩
        · by_cases e5 : 24 < x.size
          · go_wp2
            go_ret
            exact ⟨ret_bool (HNO.out (.inr e5)).symm, Below.refl _ _⟩
          · cases hb : Op.bytesLess z.toList x.toList with
            | false =>
              go_wp2
              go_ret
              exact ⟨ret_bool (HNO2.out hb).symm, Below.refl _ _⟩
            | true =>
              go_wp2
              go_roundw
              case rel => exact ⟨k + 1, by go_num, by omega, trivial, HST'.out (by omega) (by omega) hb⟩
              case measure => simp [intOf]; omega
    · have HOK : Hid (∀ j (hj : j < ss.length), keyOk ss[j] = true ∧ (∀ m (hm : m < ss.length), j = m + 1 → ltK ss[m] ss[j] = true)) := fun j hj => HA.out j hj (by have := HN.out; omega)
      clear HA hk
      go_wp2
      go_ret
      refine ⟨ret_bool ?_, Below.refl _ _⟩
      have hn := HN.out
      cases e : readsOk ss with
      | true => have h1 := (fits_iff.1 e).1; simp; omega
      | false =>
        simp
        refine Classical.byContradiction fun hc => ?_
        have : readsOk ss = true := fits_iff.2 ⟨by omega, HOK.out⟩
        rw [e] at this
        cases this
end Go.Proofs.YthkmohcdgnldgaaGreat
