import Derived.Test.YtbgofajldkblmaaGreatRec12
import Derived.Test.YtbgofajldkblmaaGreatRec7
import Derived.Test.YtbgofajldkblmaaGreatPg7
import Derived.Deep.Cut
import Derived.Test.YtbgofajldkblmaaGreatG2
import Derived.Test.YtbgofajldkblmaaGreatRecQ
/- rec: the law's own rising and keys, of right ones. Own lemmas, no statement. -/
set_option linter.unusedSimpArgs false
set_option linter.unusedVariables false
namespace Go.Proofs.YtbgofajldkblmaaGreat
open Go.ChangeShapes Go.WideShapes Go.ChangeAt Go.RowKit

theorem fits_at {α : Type} {r : α → Bool} {a : α → α → Bool} {d : α} {m : Nat} {l : List α} (h : fitsB r a d m l = true) {k : Nat} (hk : k < l.length) : r l[k] = true ∧ (∀ j (hj : j < l.length), k = j + 1 → a l[j] l[k] = true) := by
  unfold fitsB at h
  rw [Bool.and_eq_true, allB_iff] at h
  have h1 := h.2 k hk
  unfold fitAt at h1
  rw [Bool.and_eq_true, getD_of hk] at h1
  refine ⟨h1.1, fun j hj e => ?_⟩
  subst e
  rw [show j + 1 - 1 = j from rfl, getD_of hj, decide_eq_false (by omega), Bool.false_or] at h1
  exact h1.2
def lastN (ns : List Int) (k : Nat) : Int := if k = 0 then -1 else ns.getD (k - 1) 0
end Go.Proofs.YtbgofajldkblmaaGreat
/- rec: the law's own rising and keys, of any lists. Own lemmas, no statement. -/
set_option linter.unusedSimpArgs false
set_option linter.unusedVariables false
namespace Go.Proofs.YtbgofajldkblmaaGreat
open Go.ChangeShapes Go.WideShapes Go.ChangeAt Go.RowKit

def BoolP (b : Bool) (w : World) (e : Ending) (w' : World) : Prop := e = .returned (.bool b) ∧ Below w.heap.size w w'
theorem fits_iff {α : Type} {r : α → Bool} {a : α → α → Bool} {d : α} {m : Nat} {l : List α} : fitsB r a d m l = true ↔ l.length ≤ m ∧ ∀ k (hk : k < l.length), r l[k] = true ∧ (∀ j (hj : j < l.length), k = j + 1 → a l[j] l[k] = true) := by
  constructor
  · intro h
    refine ⟨?_, fun k hk => fits_at h hk⟩
    unfold fitsB at h
    rw [Bool.and_eq_true] at h
    exact of_decide_eq_true h.1
  · rintro ⟨h1, h2⟩
    unfold fitsB
    rw [Bool.and_eq_true, allB_iff]
    refine ⟨decide_eq_true h1, fun k hk => ?_⟩
    obtain ⟨h3, h4⟩ := h2 k hk
    unfold fitAt
    rw [Bool.and_eq_true, getD_of hk]
    refine ⟨h3, ?_⟩
    rcases (show k = 0 ∨ ∃ m, k = m + 1 from by cases k; exact .inl rfl; exact .inr ⟨_, rfl⟩) with h0 | ⟨m, hm⟩
    · simp [h0]
    · subst hm
      have h5 := h4 m (by omega) rfl
      rw [show m + 1 - 1 = m from rfl, getD_of (show m < l.length by omega), h5]
      simp
theorem lastN_succ {ns : List Int} {k : Nat} (hk : k < ns.length) : lastN ns (k + 1) = ns[k] := by
  unfold lastN
  rw [if_neg (by omega), show k + 1 - 1 = k from rfl, getD_of hk]
theorem rise_iff (ns : List Int) : nodesOk ns = true ↔ ∀ k (hk : k < ns.length), lastN ns k < ns[k] ∧ ns[k] ≤ 63 := by
  unfold nodesOk
  rw [fits_iff]
  constructor
  · rintro ⟨h0, h⟩ k hk
    obtain ⟨h1, h2⟩ := h k hk
    have h3 := nodeOk_bounds h1
    refine ⟨?_, by omega⟩
    rcases (show k = 0 ∨ ∃ m, k = m + 1 from by cases k; exact .inl rfl; exact .inr ⟨_, rfl⟩) with e | ⟨m, e⟩
    · subst e
      have : lastN ns 0 = -1 := rfl
      omega
    · subst e
      rw [lastN_succ (show m < ns.length by omega)]
      have := h2 m (by omega) rfl
      unfold ltI at this
      exact of_decide_eq_true this
  · intro h
    have hlo : ∀ k (hk : k < ns.length), (k : Int) ≤ ns[k] := by
      intro k
      induction k with
      | zero => intro hk; have h1 := (h 0 hk).1; have : lastN ns 0 = -1 := rfl; omega
      | succ m ih =>
        intro hk
        have h1 := (h (m + 1) hk).1
        rw [lastN_succ (show m < ns.length by omega)] at h1
        have h2 := ih (by omega)
        omega
    refine ⟨?_, fun k hk => ⟨?_, fun j hj e => ?_⟩⟩
    · by_cases h0 : ns.length = 0
      · omega
      · have h1 := (h (ns.length - 1) (by omega)).2
        have h2 := hlo (ns.length - 1) (by omega)
        omega
    · have h1 := (h k hk).2
      have h2 := hlo k hk
      unfold nodeOk
      rw [decide_eq_true (show (0 : Int) ≤ ns[k] by omega), decide_eq_true (show ns[k] < 64 by omega)]
      rfl
    · subst e
      have h1 := (h (j + 1) hk).1
      rw [lastN_succ hj] at h1
      unfold ltI
      exact decide_eq_true h1
theorem rise_no {ns : List Int} {k : Nat} (hk : k < ns.length) (h : ns[k] ≤ lastN ns k ∨ 63 < ns[k]) : nodesOk ns = false := by
  cases e : nodesOk ns with
  | false => rfl
  | true => have h1 := (rise_iff ns).1 e k hk; omega
theorem keyOk_iff (x : ByteArray) : keyOk x = true ↔ 1 ≤ x.size ∧ x.size ≤ 24 := by
  unfold keyOk
  simp only [Bool.and_eq_true, decide_eq_true_eq]
theorem keys_no {ss : List ByteArray} {k : Nat} (hk : k < ss.length) (h : ss[k].size < 1 ∨ 24 < ss[k].size ∨ ∃ m, ∃ hm : m < ss.length, k = m + 1 ∧ ltK ss[m] ss[k] = false) : readsOk ss = false := by
  cases e : readsOk ss with
  | false => rfl
  | true =>
    obtain ⟨h1, h2⟩ := (fits_iff.1 e).2 k hk
    have h3 := (keyOk_iff _).1 h1
    rcases h with h | h | ⟨m, hm, h4, h5⟩
    · omega
    · omega
    · rw [h2 m hm h4] at h5
      cases h5
set_option maxRecDepth 100000 in
set_option maxHeartbeats 4000000 in
theorem rising_any (u : Value) (ns : List Int) (w : World) (hu : Rd w u (iv ns)) : Calls Tryz.prog 23 #[u] w (BoolP (nodesOk ns) w) := by
  obtain ⟨un, uo, uc, rfl⟩ := hu.any2
  have hun : un = ns.length := by have := hu.at.1; rw [iv_length] at this; exact this
  have HN : Hid (un = ns.length) := hun
  have hub : un ≤ maxLen := by have h1 := hu.at.2.1; have h2 := hu.at.2.2.1; rw [iv_length] at h1; omega
  unfold maxLen at hub
  have HU : Hid (Rd w (.slice uo un uc) (iv ns)) := hu
  clear hu hun
  go_enter Tryz.func23, Tryz.ntmps23
  go_wp2
  go_loopw [3, 8] (fun lv i wr => ∃ k : Nat, i = .int .i64 (k : Int) ∧ lv = .int .i64 (lastN ns k) ∧ k ≤ un ∧ w = wr ∧ ∀ j (hj : j < ns.length), j < k → lastN ns j < ns[j] ∧ ns[j] ≤ 63) (fun _ i _ => un - (intOf i).toNat)
  case atStart => exact ⟨0, rfl, rfl, Nat.zero_le _, rfl, fun j _ h => absurd h (Nat.not_lt_zero _)⟩
  case round =>
    obtain ⟨k, rfl, rfl, hk, rfl, ha⟩ := hrel
    have HA : Hid (∀ j (hj : j < ns.length), j < k → lastN ns j < ns[j] ∧ ns[j] ≤ 63) := ha
    clear ha
    by_cases hlt : k < un
    · have hkl : k < ns.length := by rw [← HN.out]; exact hlt
      have hi2 : (k : Int) < (un : Int) := by omega
      obtain ⟨ad, had⟩ := HU.out.at.2.2.2.ad (by rw [iv_length]; omega)
      subst had
      have y1 := HU.out.at.2.2.2.num rfl hkl
      have HNO : Hid (ns[k] ≤ lastN ns k ∨ 63 < ns[k] → nodesOk ns = false) := rise_no hkl
      have HL : Hid (lastN ns (k + 1) = ns[k]) := lastN_succ hkl
      have HST : Hid (lastN ns k < ns[k] → ns[k] ≤ 63 → ∀ j (hj : j < ns.length), j < k + 1 → lastN ns j < ns[j] ∧ ns[j] ≤ 63) := fun h1 h2 j hj hjk => by
        by_cases e : j = k
        · subst e; exact ⟨h1, h2⟩
        · exact HA.out j hj (by omega)
      clear HA
      generalize hx : ns[k] = x at *
      generalize hy : lastN ns k = y at *
      clear hx hy
      by_cases e4 : x ≤ y
      · go_wp2
        go_ret
        exact ⟨ret_bool (HNO.out (.inl e4)).symm, Below.refl _ _⟩
      · by_cases e5 : 63 < x
        · go_wp2
          go_ret
          exact ⟨ret_bool (HNO.out (.inr e5)).symm, Below.refl _ _⟩
        · go_wp2
          go_roundw
          case rel => exact ⟨k + 1, by go_num, by rw [HL.out], by omega, trivial, HST.out (by omega) (by omega)⟩
          case measure => simp [intOf]; omega
    · have HOK : Hid (nodesOk ns = true) := (rise_iff ns).2 fun j hj => HA.out j hj (by have := HN.out; omega)
      clear HA
      go_wp2
      go_ret
      exact ⟨ret_bool HOK.out.symm, Below.refl _ _⟩
set_option maxRecDepth 100000 in
set_option maxHeartbeats 4000000 in
theorem keys_any (u : Value) (ss : List ByteArray) (w : World) (hu : Rd w u (sv ss)) : Calls Tryz.prog 24 #[u] w (BoolP (readsOk ss) w) := by
  obtain ⟨un, uo, uc, rfl⟩ := hu.any2
  have hun : un = ss.length := by have := hu.at.1; rw [sv_length] at this; exact this
  have HN : Hid (un = ss.length) := hun
  have hub : un ≤ maxLen := by have h1 := hu.at.2.1; have h2 := hu.at.2.2.1; rw [sv_length] at h1; omega
  unfold maxLen at hub
  have HU : Hid (Rd w (.slice uo un uc) (sv ss)) := hu
  clear hu hun
  go_enter Tryz.func24, Tryz.ntmps24
  go_wp2
  go_loopw [7] (fun i wr => ∃ k : Nat, i = .int .i64 (k : Int) ∧ k ≤ un ∧ w = wr ∧ ∀ j (hj : j < ss.length), j < k → keyOk ss[j] = true ∧ (∀ m (hm : m < ss.length), j = m + 1 → ltK ss[m] ss[j] = true)) (fun i _ => un - (intOf i).toNat)
  case atStart => exact ⟨0, rfl, Nat.zero_le _, rfl, fun j _ h => absurd h (Nat.not_lt_zero _)⟩
  case round =>
    obtain ⟨k, rfl, hk, rfl, ha⟩ := hrel
    have HA : Hid (∀ j (hj : j < ss.length), j < k → keyOk ss[j] = true ∧ (∀ m (hm : m < ss.length), j = m + 1 → ltK ss[m] ss[j] = true)) := ha
    clear ha
    by_cases hlt : k < un
    · have hkl : k < ss.length := by rw [← HN.out]; exact hlt
      have hi2 : (k : Int) < (un : Int) := by omega
      have ha := HU.out.at.2.2.2
      obtain ⟨ad, had⟩ := ha.ad (by rw [sv_length]; omega)
      subst had
      have y1 := ha.str rfl hkl
      have HNO : Hid (ss[k].size < 1 ∨ 24 < ss[k].size → readsOk ss = false) := fun h => keys_no hkl (h.elim .inl fun h => .inr (.inl h))
      have HST : Hid (1 ≤ ss[k].size → ss[k].size ≤ 24 → (∀ m (hm : m < ss.length), k = m + 1 → ltK ss[m] ss[k] = true) → ∀ j (hj : j < ss.length), j < k + 1 → keyOk ss[j] = true ∧ (∀ m (hm : m < ss.length), j = m + 1 → ltK ss[m] ss[j] = true)) := fun h1 h2 h3 j hj hjk => by
        by_cases e : j = k
        · subst e; exact ⟨(keyOk_iff _).2 ⟨h1, h2⟩, h3⟩
        · exact HA.out j hj (by omega)
      clear HA
      rcases (show k = 0 ∨ ∃ m, k = m + 1 from by cases k; exact .inl rfl; exact .inr ⟨_, rfl⟩) with hk0 | ⟨m, hm⟩
      · have hk1 : ¬ 0 < k := by omega
        have hk2 : ¬ (0 : Int) < (k : Int) := by omega
        have HST' : Hid (1 ≤ ss[k].size → ss[k].size ≤ 24 → ∀ j (hj : j < ss.length), j < k + 1 → keyOk ss[j] = true ∧ (∀ m (hm : m < ss.length), j = m + 1 → ltK ss[m] ss[j] = true)) := fun h1 h2 => HST.out h1 h2 fun m _ e => by omega
        clear HST
        generalize hx : ss[k] = x at *
        clear ha hx hkl hk0
        by_cases e4 : x.size < 1
        · go_wp2
          go_ret
          exact ⟨ret_bool (HNO.out (.inl e4)).symm, Below.refl _ _⟩
        · by_cases e5 : 24 < x.size
          · go_wp2
            go_ret
            exact ⟨ret_bool (HNO.out (.inr e5)).symm, Below.refl _ _⟩
          · go_wp2
            go_roundw
            case rel => exact ⟨k + 1, by go_num, by omega, trivial, HST'.out (by omega) (by omega)⟩
            case measure => simp [intOf]; omega
      · have hml : m < ss.length := by omega
        have y2 := ha.str rfl hml
        have hk1 : 0 < k := by omega
        have hk2 : (0 : Int) < (k : Int) := by omega
        have hk3 : (k : Int) - 1 = (m : Int) := by omega
        have hk4 : m < un := by omega
        have HNO2 : Hid (Op.bytesLess ss[m].toList ss[k].toList = false → readsOk ss = false) := fun h => keys_no hkl (.inr (.inr ⟨m, hml, hm, h⟩))
        have HST' : Hid (1 ≤ ss[k].size → ss[k].size ≤ 24 → Op.bytesLess ss[m].toList ss[k].toList = true → ∀ j (hj : j < ss.length), j < k + 1 → keyOk ss[j] = true ∧ (∀ m (hm : m < ss.length), j = m + 1 → ltK ss[m] ss[j] = true)) := fun h1 h2 h3 => HST.out h1 h2 fun m' _ e => by
          have e2 : m' = m := by omega
          subst e2
          exact h3
        clear HST
        generalize hx : ss[k] = x at *
        generalize hz : ss[m] = z at *
        clear ha hx hz hkl hml hm
        by_cases e4 : x.size < 1
        · go_wp2
          go_ret
          exact ⟨ret_bool (HNO.out (.inl e4)).symm, Below.refl _ _⟩
        · by_cases e5 : 24 < x.size
          · go_wp2
            go_ret
            exact ⟨ret_bool (HNO.out (.inr e5)).symm, Below.refl _ _⟩
          · cases hb : Op.bytesLess z.toList x.toList with
            | false =>
              go_wp2
              go_ret
              exact ⟨ret_bool (HNO2.out hb).symm, Below.refl _ _⟩
            | true =>
              go_wp2
              go_roundw
              case rel => exact ⟨k + 1, by go_num, by omega, trivial, HST'.out (by omega) (by omega) hb⟩
              case measure => simp [intOf]; omega
    · have HOK : Hid (∀ j (hj : j < ss.length), keyOk ss[j] = true ∧ (∀ m (hm : m < ss.length), j = m + 1 → ltK ss[m] ss[j] = true)) := fun j hj => HA.out j hj (by have := HN.out; omega)
      clear HA hk
      go_wp2
      go_ret
      refine ⟨ret_bool ?_, Below.refl _ _⟩
      have hn := HN.out
      cases e : readsOk ss with
      | true => have h1 := (fits_iff.1 e).1; simp; omega
      | false =>
        simp
        refine Classical.byContradiction fun hc => ?_
        have : readsOk ss = true := fits_iff.2 ⟨by omega, HOK.out⟩
        rw [e] at this
        cases this
end Go.Proofs.YtbgofajldkblmaaGreat
/- Pages: the document's example, and the law's own small. Own lemmas, no statement. -/
namespace Go.Proofs.YtbgofajldkblmaaGreat
open Go.ChangeShapes Go.WideShapes Go.ChangeAt Go.RowKit

end Go.Proofs.YtbgofajldkblmaaGreat
/- The law's own bytes: what it comes to. Own lemmas, no statement. -/
namespace Go.Proofs.YtbgofajldkblmaaGreat
open Go.ChangeShapes Go.WideShapes Go.ChangeAt Go.RowKit

theorem txt_any (v : Value) (l : List UInt8) (s : ByteArray) (w : World) (hv : Src w v l) (hl : l.length + s.size < 800000000000) : Calls Tryz.prog 27 #[v, .string s] w (BytesP w (l ++ txt s)) := by
  obtain ⟨ao, c, rfl⟩ := hv.form
  refine (text_any ao _ c l s w hv (by omega)).mono ?_
  rintro e w1 ⟨g, cap, rfl, hown, hb⟩
  refine ⟨_, rfl, ?_, hb⟩
  have := hown.src
  simpa [join, txt, List.append_assoc] using this
theorem num_put (v : Value) (l : List UInt8) (N : Nat) (w : World) (hv : Src w v l) (hN : N < 18446744073709551616) (hl : l.length < 800000000000) : Calls Tryz.prog 28 #[v, .int .u64 (N : Int)] w (BytesP w (l ++ enc N)) := by
  obtain ⟨ao, c, rfl⟩ := hv.form
  refine (put_any ao _ c l N w hv hN (by omega)).mono ?_
  rintro e w1 ⟨g, cap, rfl, hown, hb⟩
  exact ⟨_, rfl, hown.src, hb⟩

end Go.Proofs.YtbgofajldkblmaaGreat
/- rec: the law's own flag, texts, list. Own lemmas, no statement. -/
set_option linter.unusedSimpArgs false
set_option linter.unusedVariables false
namespace Go.Proofs.YtbgofajldkblmaaGreat
open Go.ChangeShapes Go.WideShapes Go.ChangeAt Go.RowKit

theorem tidP (v : Value) (l : List UInt8) (x y : Int) (w : World) (hv : Src w v l) (h0 : 0 ≤ x) (h1 : x < 18446744073709551616) (hl : l.length < 800000000) : Calls Tryz.prog 16 #[v, .agg #[.int .u64 x, .int .i64 y]] w (BytesP w (l ++ tidB x y)) := by
  obtain ⟨ao, c, rfl⟩ := hv.form
  have := tid_any ao l.length c l x.toNat y w hv (by omega) (by omega)
  rw [Int.toNat_of_nonneg h0] at this
  refine this.mono ?_
  rintro e w1 ⟨g, cap, rfl, ho, hb⟩
  refine ⟨_, rfl, ?_, hb⟩
  have h2 := ho.src
  unfold tidB
  simpa [join, List.append_assoc] using h2
theorem putP (v : Value) (l : List UInt8) (n : Int) (w : World) (hv : Src w v l) (h0 : 0 ≤ n) (h1 : n < 18446744073709551616) (hl : l.length < 800000000) : Calls Tryz.prog 28 #[v, .int .u64 n] w (BytesP w (l ++ intB n)) := by
  have := num_put v l n.toNat w hv (by omega) (by omega)
  rw [Int.toNat_of_nonneg h0] at this
  exact this
theorem txtP (v : Value) (l : List UInt8) (s : ByteArray) (w : World) (hv : Src w v l) (hl : l.length + s.size < 800000000) : Calls Tryz.prog 27 #[v, .string s] w (BytesP w (l ++ textB s)) := txt_any v l s w hv (by omega)
theorem flag11_any (b : Bool) (w : World) : Calls Tryz.prog 29 #[.bool b] w fun e w' => e = .returned (.int .u64 (flagN b : Int)) ∧ w' = w := by
  go_enter Tryz.func29, Tryz.ntmps29
  cases b with
  | true => go_wp2; go_ret; exact ⟨rfl, rfl⟩
  | false => go_wp2; go_ret; exact ⟨rfl, rfl⟩
theorem textB_len (s : ByteArray) : (textB s).length = (enc s.size).length + s.size := by unfold textB; rw [List.length_append]; rfl
theorem wrap_small {n : Int} (h0 : 0 ≤ n) (h1 : n < 9223372036854775808) : IntKind.u64.wrap n = n := by rw [IntKind.wrap_u64]; omega

set_option maxRecDepth 100000 in
set_option maxHeartbeats 4000000 in
theorem texts11_any (v u : Value) (l : List UInt8) (ss : List ByteArray) (w : World) (hv : Src w v l) (hu : Rd w u (sv ss)) (hl : l.length + (allB8 textB ss).length < 100000000) (hn : ss.length ≤ 100000) :
    Calls Tryz.prog 31 #[v, u] w (BytesP w (l ++ allB8 textB ss)) := by
  obtain ⟨ao, c, rfl⟩ := hv.form
  obtain ⟨un, uo, uc, rfl⟩ := hu.any2
  have hun : un = ss.length := by have := hu.at.1; rw [sv_length] at this; exact this
  have HN : Hid (un = ss.length) := hun
  have hub : un ≤ 100000 := by omega
  have HU : Hid (Rd w (.slice uo un uc) (sv ss)) := hu
  have HS : Hid (Src w (.slice ao l.length c) l) := hv
  have HL : Hid (l.length + (allB8 textB ss).length < 100000000) := hl

  clear hv hu hl hn hun
  obtain ⟨ln, hln⟩ : ∃ x, x = l.length := ⟨_, rfl⟩
  have HLN : Hid (ln = l.length) := hln
  rw [← hln] at HS ⊢
  clear hln
  go_enter Tryz.func31, Tryz.ntmps31
  go_wp2_with fail
  refine (num_put _ l un w HS.out (by omega) (by have := HL.out; have := HS.out.at; omega)).mono ?_
  rintro e w1 ⟨v1, rfl, hs, y⟩
  have HS1 : Hid (Src w1 v1 (l ++ partB textB ss 0)) := by show Src _ _ _; unfold partB; rw [List.take_zero, List.map_nil, List.flatten_nil, List.append_nil, ← HN.out]; exact hs
  have HY1 : Hid (Below w.heap.size w w1) := y
  clear hs y HS
  go_wp2
  go_loopw [0, 14] (fun v i wr => ∃ k : Nat, i = .int .i64 (k : Int) ∧ k ≤ un ∧ Src wr v (l ++ partB textB ss k) ∧ Below w.heap.size w wr) (fun _ i _ => un - (intOf i).toNat)
  case atStart => exact ⟨0, rfl, Nat.zero_le _, HS1.out, HY1.out⟩
  case round =>
    obtain ⟨k, rfl, hk, hs, y⟩ := hrel
    clear HS1 HY1
    have HSK : Hid (Src wr _ (l ++ partB textB ss k)) := hs
    have HYK : Hid (Below w.heap.size w wr) := y
    clear hs y
    obtain ⟨vo, vc, hvk⟩ := HSK.out.form
    subst hvk
    by_cases hlt : k < un
    · have hkl : k < ss.length := by rw [← HN.out]; exact hlt
      have hi2 : (k : Int) < (un : Int) := by omega
      obtain ⟨ad, had⟩ := HU.out.at.2.2.2.ad (by rw [sv_length]; omega)
      subst had
      have y1 := (HU.out.below HYK.out).at.2.2.2.str rfl hkl
      have HST : Hid (partB textB ss (k + 1) = partB textB ss k ++ textB ss[k]) := all_take textB hkl
      have HLE : Hid ((l ++ partB textB ss k).length + (textB ss[k]).length < 100000000) := by
        have h1 := all_le textB ss (k + 1)
        rw [HST.out, List.length_append] at h1
        have h2 := HL.out
        have h3 : l.length = ln := HLN.out.symm
        show _ < _
        rw [List.length_append]
        omega

      generalize ss[k] = x at *
      obtain ⟨kn, hkn⟩ : ∃ x, x = (l ++ partB textB ss k).length := ⟨_, rfl⟩
      have HKN : Hid (kn = (l ++ partB textB ss k).length) := hkn
      rw [← hkn] at HSK HLE ⊢
      clear hkn

      go_wp2_with fail
      refine (txtP _ _ x wr HSK.out (by have h1 := HLE.out; unfold textB at h1; rw [List.length_append] at h1; have h2 : x.data.toList.length = x.size := rfl; have h3 := HKN.out; omega)).mono ?_
      rintro e w2 ⟨v2, rfl, hs, y⟩
      have HS2 : Hid (Src w2 v2 (l ++ partB textB ss (k + 1))) := by show Src _ _ _; rw [HST.out, ← List.append_assoc]; exact hs
      have HY2 : Hid (Below w.heap.size w w2) := ext_trans HYK.out y
      clear hs y HSK HYK y1
      go_wp2
      go_roundw
      case rel => exact ⟨k + 1, by go_num, hlt, HS2.out, HY2.out⟩
      case measure => simp [intOf]; omega
    · have hkn : k = ss.length := by rw [← HN.out]; omega
      have HE : Hid (partB textB ss k = allB8 textB ss) := by show _ = _; rw [hkn]; unfold partB allB8; rw [List.take_length]
      clear hkn hk
      go_wp2
      go_ret
      exact ⟨_, rfl, by rw [← HE.out]; exact HSK.out, HYK.out⟩

set_option maxRecDepth 100000 in
set_option maxHeartbeats 4000000 in
theorem list11_any (v u : Value) (l : List UInt8) (ss : List Int) (w : World) (hv : Src w v l) (hu : Rd w u (iv ss)) (hl : l.length + (allB8 intB ss).length < 100000000) (hn : ss.length ≤ 100000) (hsm : ∀ n ∈ ss, 0 ≤ n ∧ n < 64) :
    Calls Tryz.prog 32 #[v, u] w (BytesP w (l ++ allB8 intB ss)) := by
  obtain ⟨ao, c, rfl⟩ := hv.form
  obtain ⟨un, uo, uc, rfl⟩ := hu.any2
  have hun : un = ss.length := by have := hu.at.1; rw [iv_length] at this; exact this
  have HN : Hid (un = ss.length) := hun
  have hub : un ≤ 100000 := by omega
  have HU : Hid (Rd w (.slice uo un uc) (iv ss)) := hu
  have HS : Hid (Src w (.slice ao l.length c) l) := hv
  have HL : Hid (l.length + (allB8 intB ss).length < 100000000) := hl
  have HSM : Hid (∀ n ∈ ss, 0 ≤ n ∧ n < 64) := hsm
  clear hv hu hl hn hun hsm
  obtain ⟨ln, hln⟩ : ∃ x, x = l.length := ⟨_, rfl⟩
  have HLN : Hid (ln = l.length) := hln
  rw [← hln] at HS ⊢
  clear hln
  go_enter Tryz.func32, Tryz.ntmps32
  go_wp2_with fail
  refine (num_put _ l un w HS.out (by omega) (by have := HL.out; have := HS.out.at; omega)).mono ?_
  rintro e w1 ⟨v1, rfl, hs, y⟩
  have HS1 : Hid (Src w1 v1 (l ++ partB intB ss 0)) := by show Src _ _ _; unfold partB; rw [List.take_zero, List.map_nil, List.flatten_nil, List.append_nil, ← HN.out]; exact hs
  have HY1 : Hid (Below w.heap.size w w1) := y
  clear hs y HS
  go_wp2
  go_loopw [0, 14] (fun v i wr => ∃ k : Nat, i = .int .i64 (k : Int) ∧ k ≤ un ∧ Src wr v (l ++ partB intB ss k) ∧ Below w.heap.size w wr) (fun _ i _ => un - (intOf i).toNat)
  case atStart => exact ⟨0, rfl, Nat.zero_le _, HS1.out, HY1.out⟩
  case round =>
    obtain ⟨k, rfl, hk, hs, y⟩ := hrel
    clear HS1 HY1
    have HSK : Hid (Src wr _ (l ++ partB intB ss k)) := hs
    have HYK : Hid (Below w.heap.size w wr) := y
    clear hs y
    obtain ⟨vo, vc, hvk⟩ := HSK.out.form
    subst hvk
    by_cases hlt : k < un
    · have hkl : k < ss.length := by rw [← HN.out]; exact hlt
      have hi2 : (k : Int) < (un : Int) := by omega
      obtain ⟨ad, had⟩ := HU.out.at.2.2.2.ad (by rw [iv_length]; omega)
      subst had
      have y1 := (HU.out.below HYK.out).at.2.2.2.num rfl hkl
      have HST : Hid (partB intB ss (k + 1) = partB intB ss k ++ intB ss[k]) := all_take intB hkl
      have HLE : Hid ((l ++ partB intB ss k).length + (intB ss[k]).length < 100000000) := by
        have h1 := all_le intB ss (k + 1)
        rw [HST.out, List.length_append] at h1
        have h2 := HL.out
        have h3 : l.length = ln := HLN.out.symm
        show _ < _
        rw [List.length_append]
        omega
      have hsm := HSM.out ss[k] (List.getElem_mem hkl)
      generalize ss[k] = x at *
      obtain ⟨kn, hkn⟩ : ∃ x, x = (l ++ partB intB ss k).length := ⟨_, rfl⟩
      have HKN : Hid (kn = (l ++ partB intB ss k).length) := hkn
      rw [← hkn] at HSK HLE ⊢
      clear hkn
      have hwx := wrap_small hsm.1 (by omega)
      go_wp2_with fail
      refine (putP _ _ x wr HSK.out hsm.1 (by omega) (by have h1 := HLE.out; have h3 := HKN.out; omega)).mono ?_
      rintro e w2 ⟨v2, rfl, hs, y⟩
      have HS2 : Hid (Src w2 v2 (l ++ partB intB ss (k + 1))) := by show Src _ _ _; rw [HST.out, ← List.append_assoc]; exact hs
      have HY2 : Hid (Below w.heap.size w w2) := ext_trans HYK.out y
      clear hs y HSK HYK y1
      go_wp2
      go_roundw
      case rel => exact ⟨k + 1, by go_num, hlt, HS2.out, HY2.out⟩
      case measure => simp [intOf]; omega
    · have hkn : k = ss.length := by rw [← HN.out]; omega
      have HE : Hid (partB intB ss k = allB8 intB ss) := by show _ = _; rw [hkn]; unfold partB allB8; rw [List.take_length]
      clear hkn hk
      go_wp2
      go_ret
      exact ⟨_, rfl, by rw [← HE.out]; exact HSK.out, HYK.out⟩
end Go.Proofs.YtbgofajldkblmaaGreat
/- rec: the law's own bytes. Own lemmas, no statement. -/
set_option linter.unusedSimpArgs false
set_option linter.unusedVariables false
namespace Go.Proofs.YtbgofajldkblmaaGreat
open Go.ChangeShapes Go.WideShapes Go.ChangeAt Go.RowKit

set_option maxRecDepth 100000 in
set_option maxHeartbeats 8000000 in
theorem bytes11_4 (num : Int) (node : Int) (key : ByteArray) (was : Bool) (old : ByteArray) (prev : Int) (na : Option Addr) (nn : Nat) (nc : Nat) (ra : Option Addr) (rn : Nat) (rc : Nat) (ga : Option Addr) (gn : Nat) (gc : Nat) (oa : Option Addr) (om : Nat) (oc : Nat) (da : Option Addr) (dn : Nat) (dc : Nat) (ns : List Int) (rs : List ByteArray) (gs : List ChgV) (os : List OpenV) (ds : List DoneV) (w : World) (hnum : 0 ≤ num ∧ num < 18446744073709551616) (hlen : ([4] ++ tidB num node).length < 100000000) :
    Calls Tryz.prog 11 #[.agg #[.int .i64 4, .int .u64 num, .int .i64 node, .string key, .bool was, .string old, .int .u64 prev, .slice na nn nc, .slice ra rn rc, .slice ga gn gc, .slice oa om oc, .slice da dn dc]] w (BytesP w ([4] ++ tidB num node)) := by
  have HLEN : Hid (([4] ++ tidB num node).length < 100000000) := hlen
  have HB : Hid (Blk (w.alloc (.cells #[.int .i64 4, .int .u64 num, .int .i64 node, .string key, .bool was, .string old, .int .u64 prev, .slice na nn nc, .slice ra rn rc, .slice ga gn gc, .slice oa om oc, .slice da dn dc] 31)) w.heap.size #[.int .i64 4, .int .u64 num, .int .i64 node, .string key, .bool was, .string old, .int .u64 prev, .slice na nn nc, .slice ra rn rc, .slice ga gn gc, .slice oa om oc, .slice da dn dc] 31) := Blk.new _ _ _
  have HY : Hid (Below w.heap.size w (w.alloc (.cells #[.int .i64 4, .int .u64 num, .int .i64 node, .string key, .bool was, .string old, .int .u64 prev, .slice na nn nc, .slice ra rn rc, .slice ga gn gc, .slice oa om oc, .slice da dn dc] 31))) := (Below.refl _ _).alloc (Nat.le_refl _) _
  go_enter Tryz.func11, Tryz.ntmps11
  go_upto_region 1 with fail
  generalize (w.alloc (.cells #[.int .i64 4, .int .u64 num, .int .i64 node, .string key, .bool was, .string old, .int .u64 prev, .slice na nn nc, .slice ra rn rc, .slice ga gn gc, .slice oa om oc, .slice da dn dc] 31)) = w0 at *
  have z0 : w0.cell? ⟨w.heap.size, 0, none⟩ = some (.int .i64 4) := HB.out.cell 0
  have z1 : w0.cell? ⟨w.heap.size, 1, none⟩ = some (.int .u64 num) := HB.out.cell 1
  have z2 : w0.cell? ⟨w.heap.size, 2, none⟩ = some (.int .i64 node) := HB.out.cell 2
  have HSB : Hid (Src (w0.alloc (.cells #[.int .u8 4] 5)) (.slice (some ⟨w0.heap.size, 0, none⟩) 1 1) [4]) := Blk.src (l := [4]) (k := 1) (c := 1) (Blk.new _ _ _) (by decide) (by decide) (by unfold maxLen; omega)
  have HBB : Hid (Blk (w0.alloc (.cells #[.int .u8 4] 5)) w.heap.size #[.int .i64 4, .int .u64 num, .int .i64 node, .string key, .bool was, .string old, .int .u64 prev, .slice na nn nc, .slice ra rn rc, .slice ga gn gc, .slice oa om oc, .slice da dn dc] 31) := HB.out.alloc _
  have HYB : Hid (Below w.heap.size w (w0.alloc (.cells #[.int .u8 4] 5))) := HY.out.alloc HY.out.size _
  have x1 : (w0.alloc (.cells #[.int .u8 4] 5)).cell? ⟨w.heap.size, 1, none⟩ = some (.int .u64 num) := HBB.out.cell 1
  have x2 : (w0.alloc (.cells #[.int .u8 4] 5)).cell? ⟨w.heap.size, 2, none⟩ = some (.int .i64 node) := HBB.out.cell 2
  go_wp2_with fail
  refine (tidP _ _ num node _ HSB.out hnum.1 hnum.2 (by decide)).mono ?_
  rintro e w1 ⟨v1, rfl, hs, y⟩
  have HS : Hid (Src w1 v1 ([4] ++ tidB num node)) := hs
  have HB1 : Hid (Blk w1 w.heap.size #[.int .i64 4, .int .u64 num, .int .i64 node, .string key, .bool was, .string old, .int .u64 prev, .slice na nn nc, .slice ra rn rc, .slice ga gn gc, .slice oa om oc, .slice da dn dc] 31) := Blk.of HBB.out (y.block _ HBB.out.lt)
  have HY1 : Hid (Below w.heap.size w w1) := ext_trans HYB.out y
  clear hs y HB HY HSB HBB HYB z0 z1 z2 x1 x2
  have HB := HB1
  have HY := HY1
  clear HB1 HY1
  have z0 : w1.cell? ⟨w.heap.size, 0, none⟩ = some (.int .i64 4) := HB.out.cell 0
  go_wp2
  go_ret
  exact ⟨_, rfl, HS.out, HY.out⟩

set_option maxRecDepth 100000 in
set_option maxHeartbeats 8000000 in
theorem bytes11_5 (num : Int) (node : Int) (key : ByteArray) (was : Bool) (old : ByteArray) (prev : Int) (na : Option Addr) (nn : Nat) (nc : Nat) (ra : Option Addr) (rn : Nat) (rc : Nat) (ga : Option Addr) (gn : Nat) (gc : Nat) (oa : Option Addr) (om : Nat) (oc : Nat) (da : Option Addr) (dn : Nat) (dc : Nat) (ns : List Int) (rs : List ByteArray) (gs : List ChgV) (os : List OpenV) (ds : List DoneV) (w : World) (hnum : 0 ≤ num ∧ num < 18446744073709551616) (hlen : ([5] ++ tidB num node).length < 100000000) :
    Calls Tryz.prog 11 #[.agg #[.int .i64 5, .int .u64 num, .int .i64 node, .string key, .bool was, .string old, .int .u64 prev, .slice na nn nc, .slice ra rn rc, .slice ga gn gc, .slice oa om oc, .slice da dn dc]] w (BytesP w ([5] ++ tidB num node)) := by
  have HLEN : Hid (([5] ++ tidB num node).length < 100000000) := hlen
  have HB : Hid (Blk (w.alloc (.cells #[.int .i64 5, .int .u64 num, .int .i64 node, .string key, .bool was, .string old, .int .u64 prev, .slice na nn nc, .slice ra rn rc, .slice ga gn gc, .slice oa om oc, .slice da dn dc] 31)) w.heap.size #[.int .i64 5, .int .u64 num, .int .i64 node, .string key, .bool was, .string old, .int .u64 prev, .slice na nn nc, .slice ra rn rc, .slice ga gn gc, .slice oa om oc, .slice da dn dc] 31) := Blk.new _ _ _
  have HY : Hid (Below w.heap.size w (w.alloc (.cells #[.int .i64 5, .int .u64 num, .int .i64 node, .string key, .bool was, .string old, .int .u64 prev, .slice na nn nc, .slice ra rn rc, .slice ga gn gc, .slice oa om oc, .slice da dn dc] 31))) := (Below.refl _ _).alloc (Nat.le_refl _) _
  go_enter Tryz.func11, Tryz.ntmps11
  go_upto_region 1 with fail
  generalize (w.alloc (.cells #[.int .i64 5, .int .u64 num, .int .i64 node, .string key, .bool was, .string old, .int .u64 prev, .slice na nn nc, .slice ra rn rc, .slice ga gn gc, .slice oa om oc, .slice da dn dc] 31)) = w0 at *
  have z0 : w0.cell? ⟨w.heap.size, 0, none⟩ = some (.int .i64 5) := HB.out.cell 0
  have z1 : w0.cell? ⟨w.heap.size, 1, none⟩ = some (.int .u64 num) := HB.out.cell 1
  have z2 : w0.cell? ⟨w.heap.size, 2, none⟩ = some (.int .i64 node) := HB.out.cell 2
  have HSB : Hid (Src (w0.alloc (.cells #[.int .u8 5] 5)) (.slice (some ⟨w0.heap.size, 0, none⟩) 1 1) [5]) := Blk.src (l := [5]) (k := 1) (c := 1) (Blk.new _ _ _) (by decide) (by decide) (by unfold maxLen; omega)
  have HBB : Hid (Blk (w0.alloc (.cells #[.int .u8 5] 5)) w.heap.size #[.int .i64 5, .int .u64 num, .int .i64 node, .string key, .bool was, .string old, .int .u64 prev, .slice na nn nc, .slice ra rn rc, .slice ga gn gc, .slice oa om oc, .slice da dn dc] 31) := HB.out.alloc _
  have HYB : Hid (Below w.heap.size w (w0.alloc (.cells #[.int .u8 5] 5))) := HY.out.alloc HY.out.size _
  have x1 : (w0.alloc (.cells #[.int .u8 5] 5)).cell? ⟨w.heap.size, 1, none⟩ = some (.int .u64 num) := HBB.out.cell 1
  have x2 : (w0.alloc (.cells #[.int .u8 5] 5)).cell? ⟨w.heap.size, 2, none⟩ = some (.int .i64 node) := HBB.out.cell 2
  go_wp2_with fail
  refine (tidP _ _ num node _ HSB.out hnum.1 hnum.2 (by decide)).mono ?_
  rintro e w1 ⟨v1, rfl, hs, y⟩
  have HS : Hid (Src w1 v1 ([5] ++ tidB num node)) := hs
  have HB1 : Hid (Blk w1 w.heap.size #[.int .i64 5, .int .u64 num, .int .i64 node, .string key, .bool was, .string old, .int .u64 prev, .slice na nn nc, .slice ra rn rc, .slice ga gn gc, .slice oa om oc, .slice da dn dc] 31) := Blk.of HBB.out (y.block _ HBB.out.lt)
  have HY1 : Hid (Below w.heap.size w w1) := ext_trans HYB.out y
  clear hs y HB HY HSB HBB HYB z0 z1 z2 x1 x2
  have HB := HB1
  have HY := HY1
  clear HB1 HY1
  have z0 : w1.cell? ⟨w.heap.size, 0, none⟩ = some (.int .i64 5) := HB.out.cell 0
  go_wp2
  go_ret
  exact ⟨_, rfl, HS.out, HY.out⟩

set_option maxRecDepth 100000 in
set_option maxHeartbeats 8000000 in
theorem bytes11_7 (num : Int) (node : Int) (key : ByteArray) (was : Bool) (old : ByteArray) (prev : Int) (na : Option Addr) (nn : Nat) (nc : Nat) (ra : Option Addr) (rn : Nat) (rc : Nat) (ga : Option Addr) (gn : Nat) (gc : Nat) (oa : Option Addr) (om : Nat) (oc : Nat) (da : Option Addr) (dn : Nat) (dc : Nat) (ns : List Int) (rs : List ByteArray) (gs : List ChgV) (os : List OpenV) (ds : List DoneV) (w : World) (hnum : 0 ≤ num ∧ num < 18446744073709551616) (hlen : ([7] ++ tidB num node).length < 100000000) :
    Calls Tryz.prog 11 #[.agg #[.int .i64 7, .int .u64 num, .int .i64 node, .string key, .bool was, .string old, .int .u64 prev, .slice na nn nc, .slice ra rn rc, .slice ga gn gc, .slice oa om oc, .slice da dn dc]] w (BytesP w ([7] ++ tidB num node)) := by
  have HLEN : Hid (([7] ++ tidB num node).length < 100000000) := hlen
  have HB : Hid (Blk (w.alloc (.cells #[.int .i64 7, .int .u64 num, .int .i64 node, .string key, .bool was, .string old, .int .u64 prev, .slice na nn nc, .slice ra rn rc, .slice ga gn gc, .slice oa om oc, .slice da dn dc] 31)) w.heap.size #[.int .i64 7, .int .u64 num, .int .i64 node, .string key, .bool was, .string old, .int .u64 prev, .slice na nn nc, .slice ra rn rc, .slice ga gn gc, .slice oa om oc, .slice da dn dc] 31) := Blk.new _ _ _
  have HY : Hid (Below w.heap.size w (w.alloc (.cells #[.int .i64 7, .int .u64 num, .int .i64 node, .string key, .bool was, .string old, .int .u64 prev, .slice na nn nc, .slice ra rn rc, .slice ga gn gc, .slice oa om oc, .slice da dn dc] 31))) := (Below.refl _ _).alloc (Nat.le_refl _) _
  go_enter Tryz.func11, Tryz.ntmps11
  go_upto_region 1 with fail
  generalize (w.alloc (.cells #[.int .i64 7, .int .u64 num, .int .i64 node, .string key, .bool was, .string old, .int .u64 prev, .slice na nn nc, .slice ra rn rc, .slice ga gn gc, .slice oa om oc, .slice da dn dc] 31)) = w0 at *
  have z0 : w0.cell? ⟨w.heap.size, 0, none⟩ = some (.int .i64 7) := HB.out.cell 0
  have z1 : w0.cell? ⟨w.heap.size, 1, none⟩ = some (.int .u64 num) := HB.out.cell 1
  have z2 : w0.cell? ⟨w.heap.size, 2, none⟩ = some (.int .i64 node) := HB.out.cell 2
  have HSB : Hid (Src (w0.alloc (.cells #[.int .u8 7] 5)) (.slice (some ⟨w0.heap.size, 0, none⟩) 1 1) [7]) := Blk.src (l := [7]) (k := 1) (c := 1) (Blk.new _ _ _) (by decide) (by decide) (by unfold maxLen; omega)
  have HBB : Hid (Blk (w0.alloc (.cells #[.int .u8 7] 5)) w.heap.size #[.int .i64 7, .int .u64 num, .int .i64 node, .string key, .bool was, .string old, .int .u64 prev, .slice na nn nc, .slice ra rn rc, .slice ga gn gc, .slice oa om oc, .slice da dn dc] 31) := HB.out.alloc _
  have HYB : Hid (Below w.heap.size w (w0.alloc (.cells #[.int .u8 7] 5))) := HY.out.alloc HY.out.size _
  have x1 : (w0.alloc (.cells #[.int .u8 7] 5)).cell? ⟨w.heap.size, 1, none⟩ = some (.int .u64 num) := HBB.out.cell 1
  have x2 : (w0.alloc (.cells #[.int .u8 7] 5)).cell? ⟨w.heap.size, 2, none⟩ = some (.int .i64 node) := HBB.out.cell 2
  go_wp2_with fail
  refine (tidP _ _ num node _ HSB.out hnum.1 hnum.2 (by decide)).mono ?_
  rintro e w1 ⟨v1, rfl, hs, y⟩
  have HS : Hid (Src w1 v1 ([7] ++ tidB num node)) := hs
  have HB1 : Hid (Blk w1 w.heap.size #[.int .i64 7, .int .u64 num, .int .i64 node, .string key, .bool was, .string old, .int .u64 prev, .slice na nn nc, .slice ra rn rc, .slice ga gn gc, .slice oa om oc, .slice da dn dc] 31) := Blk.of HBB.out (y.block _ HBB.out.lt)
  have HY1 : Hid (Below w.heap.size w w1) := ext_trans HYB.out y
  clear hs y HB HY HSB HBB HYB z0 z1 z2 x1 x2
  have HB := HB1
  have HY := HY1
  clear HB1 HY1
  have z0 : w1.cell? ⟨w.heap.size, 0, none⟩ = some (.int .i64 7) := HB.out.cell 0
  go_wp2
  go_ret
  exact ⟨_, rfl, HS.out, HY.out⟩

set_option maxRecDepth 100000 in
set_option maxHeartbeats 8000000 in
theorem bytes11_3 (num : Int) (node : Int) (key : ByteArray) (was : Bool) (old : ByteArray) (prev : Int) (na : Option Addr) (nn : Nat) (nc : Nat) (ra : Option Addr) (rn : Nat) (rc : Nat) (ga : Option Addr) (gn : Nat) (gc : Nat) (oa : Option Addr) (om : Nat) (oc : Nat) (da : Option Addr) (dn : Nat) (dc : Nat) (ns : List Int) (rs : List ByteArray) (gs : List ChgV) (os : List OpenV) (ds : List DoneV) (w : World) (hnum : 0 ≤ num ∧ num < 18446744073709551616) (hr : Rd w (.slice ra rn rc) (sv rs)) (hrn : rs.length ≤ 100000) (hlen : ([3] ++ tidB num node ++ allB8 textB rs).length < 100000000) :
    Calls Tryz.prog 11 #[.agg #[.int .i64 3, .int .u64 num, .int .i64 node, .string key, .bool was, .string old, .int .u64 prev, .slice na nn nc, .slice ra rn rc, .slice ga gn gc, .slice oa om oc, .slice da dn dc]] w (BytesP w ([3] ++ tidB num node ++ allB8 textB rs)) := by
  have HLEN : Hid (([3] ++ tidB num node ++ allB8 textB rs).length < 100000000) := hlen
  have HR : Hid (Rd w (.slice ra rn rc) (sv rs)) := hr
  clear hr hlen
  have HB : Hid (Blk (w.alloc (.cells #[.int .i64 3, .int .u64 num, .int .i64 node, .string key, .bool was, .string old, .int .u64 prev, .slice na nn nc, .slice ra rn rc, .slice ga gn gc, .slice oa om oc, .slice da dn dc] 31)) w.heap.size #[.int .i64 3, .int .u64 num, .int .i64 node, .string key, .bool was, .string old, .int .u64 prev, .slice na nn nc, .slice ra rn rc, .slice ga gn gc, .slice oa om oc, .slice da dn dc] 31) := Blk.new _ _ _
  have HY : Hid (Below w.heap.size w (w.alloc (.cells #[.int .i64 3, .int .u64 num, .int .i64 node, .string key, .bool was, .string old, .int .u64 prev, .slice na nn nc, .slice ra rn rc, .slice ga gn gc, .slice oa om oc, .slice da dn dc] 31))) := (Below.refl _ _).alloc (Nat.le_refl _) _
  go_enter Tryz.func11, Tryz.ntmps11
  go_upto_region 1 with fail
  generalize (w.alloc (.cells #[.int .i64 3, .int .u64 num, .int .i64 node, .string key, .bool was, .string old, .int .u64 prev, .slice na nn nc, .slice ra rn rc, .slice ga gn gc, .slice oa om oc, .slice da dn dc] 31)) = w0 at *
  have z0 : w0.cell? ⟨w.heap.size, 0, none⟩ = some (.int .i64 3) := HB.out.cell 0
  have z1 : w0.cell? ⟨w.heap.size, 1, none⟩ = some (.int .u64 num) := HB.out.cell 1
  have z2 : w0.cell? ⟨w.heap.size, 2, none⟩ = some (.int .i64 node) := HB.out.cell 2
  have HSB : Hid (Src (w0.alloc (.cells #[.int .u8 3] 5)) (.slice (some ⟨w0.heap.size, 0, none⟩) 1 1) [3]) := Blk.src (l := [3]) (k := 1) (c := 1) (Blk.new _ _ _) (by decide) (by decide) (by unfold maxLen; omega)
  have HBB : Hid (Blk (w0.alloc (.cells #[.int .u8 3] 5)) w.heap.size #[.int .i64 3, .int .u64 num, .int .i64 node, .string key, .bool was, .string old, .int .u64 prev, .slice na nn nc, .slice ra rn rc, .slice ga gn gc, .slice oa om oc, .slice da dn dc] 31) := HB.out.alloc _
  have HYB : Hid (Below w.heap.size w (w0.alloc (.cells #[.int .u8 3] 5))) := HY.out.alloc HY.out.size _
  have x1 : (w0.alloc (.cells #[.int .u8 3] 5)).cell? ⟨w.heap.size, 1, none⟩ = some (.int .u64 num) := HBB.out.cell 1
  have x2 : (w0.alloc (.cells #[.int .u8 3] 5)).cell? ⟨w.heap.size, 2, none⟩ = some (.int .i64 node) := HBB.out.cell 2
  go_wp2_with fail
  refine (tidP _ _ num node _ HSB.out hnum.1 hnum.2 (by decide)).mono ?_
  rintro e w1 ⟨v1, rfl, hs, y⟩
  have HS : Hid (Src w1 v1 ([3] ++ tidB num node)) := hs
  have HB1 : Hid (Blk w1 w.heap.size #[.int .i64 3, .int .u64 num, .int .i64 node, .string key, .bool was, .string old, .int .u64 prev, .slice na nn nc, .slice ra rn rc, .slice ga gn gc, .slice oa om oc, .slice da dn dc] 31) := Blk.of HBB.out (y.block _ HBB.out.lt)
  have HY1 : Hid (Below w.heap.size w w1) := ext_trans HYB.out y
  clear hs y HB HY HSB HBB HYB z0 z1 z2 x1 x2
  have HB := HB1
  have HY := HY1
  clear HB1 HY1
  have z0 : w1.cell? ⟨w.heap.size, 0, none⟩ = some (.int .i64 3) := HB.out.cell 0
  have z8 : w1.cell? ⟨w.heap.size, 8, none⟩ = some (.slice ra rn rc) := HB.out.cell 8
  go_wp2_with fail
  refine (texts11_any _ _ _ rs w1 HS.out (HR.out.below HY.out) (by have := HLEN.out; simp only [List.length_append] at this ⊢; omega) hrn).mono ?_
  rintro e y1 ⟨v1, rfl, hs, y⟩
  have HS' : Hid (Src y1 v1 ([3] ++ tidB num node ++ allB8 textB rs)) := by show Src _ _ _; simpa only [List.append_assoc] using hs
  have HB' : Hid (Blk y1 w.heap.size #[.int .i64 3, .int .u64 num, .int .i64 node, .string key, .bool was, .string old, .int .u64 prev, .slice na nn nc, .slice ra rn rc, .slice ga gn gc, .slice oa om oc, .slice da dn dc] 31) := Blk.of HB.out (y.block _ HB.out.lt)
  have HY' : Hid (Below w.heap.size w y1) := ext_trans HY.out y
  clear hs y HS HB HY z0 z8
  have HS := HS'
  have HB := HB'
  have HY := HY'
  clear HS' HB' HY'
  have z0 : y1.cell? ⟨w.heap.size, 0, none⟩ = some (.int .i64 3) := HB.out.cell 0
  go_wp2
  go_ret
  exact ⟨_, rfl, HS.out, HY.out⟩

set_option maxRecDepth 100000 in
set_option maxHeartbeats 8000000 in
theorem bytes11_6 (num : Int) (node : Int) (key : ByteArray) (was : Bool) (old : ByteArray) (prev : Int) (na : Option Addr) (nn : Nat) (nc : Nat) (ra : Option Addr) (rn : Nat) (rc : Nat) (ga : Option Addr) (gn : Nat) (gc : Nat) (oa : Option Addr) (om : Nat) (oc : Nat) (da : Option Addr) (dn : Nat) (dc : Nat) (ns : List Int) (rs : List ByteArray) (gs : List ChgV) (os : List OpenV) (ds : List DoneV) (w : World) (hnum : 0 ≤ num ∧ num < 18446744073709551616) (hr : Rd w (.slice na nn nc) (iv ns)) (hrn : ns.length ≤ 100000) (hsm : ∀ n ∈ ns, 0 ≤ n ∧ n < 64) (hlen : ([6] ++ tidB num node ++ allB8 intB ns).length < 100000000) :
    Calls Tryz.prog 11 #[.agg #[.int .i64 6, .int .u64 num, .int .i64 node, .string key, .bool was, .string old, .int .u64 prev, .slice na nn nc, .slice ra rn rc, .slice ga gn gc, .slice oa om oc, .slice da dn dc]] w (BytesP w ([6] ++ tidB num node ++ allB8 intB ns)) := by
  have HLEN : Hid (([6] ++ tidB num node ++ allB8 intB ns).length < 100000000) := hlen
  have HR : Hid (Rd w (.slice na nn nc) (iv ns)) := hr
  have HSM : Hid (∀ n ∈ ns, 0 ≤ n ∧ n < 64) := hsm
  clear hr hlen hsm
  have HB : Hid (Blk (w.alloc (.cells #[.int .i64 6, .int .u64 num, .int .i64 node, .string key, .bool was, .string old, .int .u64 prev, .slice na nn nc, .slice ra rn rc, .slice ga gn gc, .slice oa om oc, .slice da dn dc] 31)) w.heap.size #[.int .i64 6, .int .u64 num, .int .i64 node, .string key, .bool was, .string old, .int .u64 prev, .slice na nn nc, .slice ra rn rc, .slice ga gn gc, .slice oa om oc, .slice da dn dc] 31) := Blk.new _ _ _
  have HY : Hid (Below w.heap.size w (w.alloc (.cells #[.int .i64 6, .int .u64 num, .int .i64 node, .string key, .bool was, .string old, .int .u64 prev, .slice na nn nc, .slice ra rn rc, .slice ga gn gc, .slice oa om oc, .slice da dn dc] 31))) := (Below.refl _ _).alloc (Nat.le_refl _) _
  go_enter Tryz.func11, Tryz.ntmps11
  go_upto_region 1 with fail
  generalize (w.alloc (.cells #[.int .i64 6, .int .u64 num, .int .i64 node, .string key, .bool was, .string old, .int .u64 prev, .slice na nn nc, .slice ra rn rc, .slice ga gn gc, .slice oa om oc, .slice da dn dc] 31)) = w0 at *
  have z0 : w0.cell? ⟨w.heap.size, 0, none⟩ = some (.int .i64 6) := HB.out.cell 0
  have z1 : w0.cell? ⟨w.heap.size, 1, none⟩ = some (.int .u64 num) := HB.out.cell 1
  have z2 : w0.cell? ⟨w.heap.size, 2, none⟩ = some (.int .i64 node) := HB.out.cell 2
  have HSB : Hid (Src (w0.alloc (.cells #[.int .u8 6] 5)) (.slice (some ⟨w0.heap.size, 0, none⟩) 1 1) [6]) := Blk.src (l := [6]) (k := 1) (c := 1) (Blk.new _ _ _) (by decide) (by decide) (by unfold maxLen; omega)
  have HBB : Hid (Blk (w0.alloc (.cells #[.int .u8 6] 5)) w.heap.size #[.int .i64 6, .int .u64 num, .int .i64 node, .string key, .bool was, .string old, .int .u64 prev, .slice na nn nc, .slice ra rn rc, .slice ga gn gc, .slice oa om oc, .slice da dn dc] 31) := HB.out.alloc _
  have HYB : Hid (Below w.heap.size w (w0.alloc (.cells #[.int .u8 6] 5))) := HY.out.alloc HY.out.size _
  have x1 : (w0.alloc (.cells #[.int .u8 6] 5)).cell? ⟨w.heap.size, 1, none⟩ = some (.int .u64 num) := HBB.out.cell 1
  have x2 : (w0.alloc (.cells #[.int .u8 6] 5)).cell? ⟨w.heap.size, 2, none⟩ = some (.int .i64 node) := HBB.out.cell 2
  go_wp2_with fail
  refine (tidP _ _ num node _ HSB.out hnum.1 hnum.2 (by decide)).mono ?_
  rintro e w1 ⟨v1, rfl, hs, y⟩
  have HS : Hid (Src w1 v1 ([6] ++ tidB num node)) := hs
  have HB1 : Hid (Blk w1 w.heap.size #[.int .i64 6, .int .u64 num, .int .i64 node, .string key, .bool was, .string old, .int .u64 prev, .slice na nn nc, .slice ra rn rc, .slice ga gn gc, .slice oa om oc, .slice da dn dc] 31) := Blk.of HBB.out (y.block _ HBB.out.lt)
  have HY1 : Hid (Below w.heap.size w w1) := ext_trans HYB.out y
  clear hs y HB HY HSB HBB HYB z0 z1 z2 x1 x2
  have HB := HB1
  have HY := HY1
  clear HB1 HY1
  have z0 : w1.cell? ⟨w.heap.size, 0, none⟩ = some (.int .i64 6) := HB.out.cell 0
  have z7 : w1.cell? ⟨w.heap.size, 7, none⟩ = some (.slice na nn nc) := HB.out.cell 7
  go_wp2_with fail
  refine (list11_any _ _ _ ns w1 HS.out (HR.out.below HY.out) (by have := HLEN.out; simp only [List.length_append] at this ⊢; omega) hrn HSM.out).mono ?_
  rintro e y1 ⟨v1, rfl, hs, y⟩
  have HS' : Hid (Src y1 v1 ([6] ++ tidB num node ++ allB8 intB ns)) := by show Src _ _ _; simpa only [List.append_assoc] using hs
  have HB' : Hid (Blk y1 w.heap.size #[.int .i64 6, .int .u64 num, .int .i64 node, .string key, .bool was, .string old, .int .u64 prev, .slice na nn nc, .slice ra rn rc, .slice ga gn gc, .slice oa om oc, .slice da dn dc] 31) := Blk.of HB.out (y.block _ HB.out.lt)
  have HY' : Hid (Below w.heap.size w y1) := ext_trans HY.out y
  clear hs y HS HB HY z0 z7
  have HS := HS'
  have HB := HB'
  have HY := HY'
  clear HS' HB' HY'
  have z0 : y1.cell? ⟨w.heap.size, 0, none⟩ = some (.int .i64 6) := HB.out.cell 0
  go_wp2
  go_ret
  exact ⟨_, rfl, HS.out, HY.out⟩

set_option maxRecDepth 100000 in
set_option maxHeartbeats 8000000 in
theorem bytes11_2 (num : Int) (node : Int) (key : ByteArray) (was : Bool) (old : ByteArray) (prev : Int) (na : Option Addr) (nn : Nat) (nc : Nat) (ra : Option Addr) (rn : Nat) (rc : Nat) (ga : Option Addr) (gn : Nat) (gc : Nat) (oa : Option Addr) (om : Nat) (oc : Nat) (da : Option Addr) (dn : Nat) (dc : Nat) (ns : List Int) (rs : List ByteArray) (gs : List ChgV) (os : List OpenV) (ds : List DoneV) (w : World) (hnum : 0 ≤ num ∧ num < 18446744073709551616) (hprev : 0 ≤ prev ∧ prev < 18446744073709551616) (hg : RowsN w 9 ChgV.c (.slice ga gn gc) gs) (hga : ∀ c ∈ gs, c.At w) (hgo : ∀ c ∈ gs, chgOk c = true) (hgn : gs.length ≤ 1000) (hlen : ([2] ++ tidB num node ++ intB prev ++ allB8 chgB gs).length < 100000000) :
    Calls Tryz.prog 11 #[.agg #[.int .i64 2, .int .u64 num, .int .i64 node, .string key, .bool was, .string old, .int .u64 prev, .slice na nn nc, .slice ra rn rc, .slice ga gn gc, .slice oa om oc, .slice da dn dc]] w (BytesP w ([2] ++ tidB num node ++ intB prev ++ allB8 chgB gs)) := by
  have HLEN : Hid (([2] ++ tidB num node ++ intB prev ++ allB8 chgB gs).length < 100000000) := hlen
  have HG : Hid (RowsN w 9 ChgV.c (.slice ga gn gc) gs) := hg
  have HGA : Hid (∀ c ∈ gs, c.At w) := hga
  have HGO : Hid (∀ c ∈ gs, chgOk c = true) := hgo
  have HWF : Hid (∀ c ∈ gs, True) := fun _ _ => trivial
  have hgm : gn ≤ 1000 := by have := hg.len.1; omega
  clear hg hga hgo hgn hlen
  have HB : Hid (Blk (w.alloc (.cells #[.int .i64 2, .int .u64 num, .int .i64 node, .string key, .bool was, .string old, .int .u64 prev, .slice na nn nc, .slice ra rn rc, .slice ga gn gc, .slice oa om oc, .slice da dn dc] 31)) w.heap.size #[.int .i64 2, .int .u64 num, .int .i64 node, .string key, .bool was, .string old, .int .u64 prev, .slice na nn nc, .slice ra rn rc, .slice ga gn gc, .slice oa om oc, .slice da dn dc] 31) := Blk.new _ _ _
  have HY : Hid (Below w.heap.size w (w.alloc (.cells #[.int .i64 2, .int .u64 num, .int .i64 node, .string key, .bool was, .string old, .int .u64 prev, .slice na nn nc, .slice ra rn rc, .slice ga gn gc, .slice oa om oc, .slice da dn dc] 31))) := (Below.refl _ _).alloc (Nat.le_refl _) _
  go_enter Tryz.func11, Tryz.ntmps11
  go_upto_region 1 with fail
  generalize (w.alloc (.cells #[.int .i64 2, .int .u64 num, .int .i64 node, .string key, .bool was, .string old, .int .u64 prev, .slice na nn nc, .slice ra rn rc, .slice ga gn gc, .slice oa om oc, .slice da dn dc] 31)) = w0 at *
  have z0 : w0.cell? ⟨w.heap.size, 0, none⟩ = some (.int .i64 2) := HB.out.cell 0
  have z1 : w0.cell? ⟨w.heap.size, 1, none⟩ = some (.int .u64 num) := HB.out.cell 1
  have z2 : w0.cell? ⟨w.heap.size, 2, none⟩ = some (.int .i64 node) := HB.out.cell 2
  have HSB : Hid (Src (w0.alloc (.cells #[.int .u8 2] 5)) (.slice (some ⟨w0.heap.size, 0, none⟩) 1 1) [2]) := Blk.src (l := [2]) (k := 1) (c := 1) (Blk.new _ _ _) (by decide) (by decide) (by unfold maxLen; omega)
  have HBB : Hid (Blk (w0.alloc (.cells #[.int .u8 2] 5)) w.heap.size #[.int .i64 2, .int .u64 num, .int .i64 node, .string key, .bool was, .string old, .int .u64 prev, .slice na nn nc, .slice ra rn rc, .slice ga gn gc, .slice oa om oc, .slice da dn dc] 31) := HB.out.alloc _
  have HYB : Hid (Below w.heap.size w (w0.alloc (.cells #[.int .u8 2] 5))) := HY.out.alloc HY.out.size _
  have x1 : (w0.alloc (.cells #[.int .u8 2] 5)).cell? ⟨w.heap.size, 1, none⟩ = some (.int .u64 num) := HBB.out.cell 1
  have x2 : (w0.alloc (.cells #[.int .u8 2] 5)).cell? ⟨w.heap.size, 2, none⟩ = some (.int .i64 node) := HBB.out.cell 2
  go_wp2_with fail
  refine (tidP _ _ num node _ HSB.out hnum.1 hnum.2 (by decide)).mono ?_
  rintro e w1 ⟨v1, rfl, hs, y⟩
  have HS : Hid (Src w1 v1 ([2] ++ tidB num node)) := hs
  have HB1 : Hid (Blk w1 w.heap.size #[.int .i64 2, .int .u64 num, .int .i64 node, .string key, .bool was, .string old, .int .u64 prev, .slice na nn nc, .slice ra rn rc, .slice ga gn gc, .slice oa om oc, .slice da dn dc] 31) := Blk.of HBB.out (y.block _ HBB.out.lt)
  have HY1 : Hid (Below w.heap.size w w1) := ext_trans HYB.out y
  clear hs y HB HY HSB HBB HYB z0 z1 z2 x1 x2
  have HB := HB1
  have HY := HY1
  clear HB1 HY1
  have z0 : w1.cell? ⟨w.heap.size, 0, none⟩ = some (.int .i64 2) := HB.out.cell 0
  have z6 : w1.cell? ⟨w.heap.size, 6, none⟩ = some (.int .u64 prev) := HB.out.cell 6
  go_wp2_with fail
  refine (putP _ _ prev w1 HS.out hprev.1 hprev.2 (by have := HLEN.out; simp only [List.length_append] at this ⊢; omega)).mono ?_
  rintro e y1 ⟨v1, rfl, hs, y⟩
  have HS' : Hid (Src y1 v1 ([2] ++ tidB num node ++ intB prev)) := by show Src _ _ _; simpa only [List.append_assoc] using hs
  have HB' : Hid (Blk y1 w.heap.size #[.int .i64 2, .int .u64 num, .int .i64 node, .string key, .bool was, .string old, .int .u64 prev, .slice na nn nc, .slice ra rn rc, .slice ga gn gc, .slice oa om oc, .slice da dn dc] 31) := Blk.of HB.out (y.block _ HB.out.lt)
  have HY' : Hid (Below w.heap.size w y1) := ext_trans HY.out y
  clear hs y HS HB HY z0 z6
  have HS := HS'
  have HB := HB'
  have HY := HY'
  clear HS' HB' HY'
  have z9 : y1.cell? ⟨w.heap.size, 9, none⟩ = some (.slice ga gn gc) := HB.out.cell 9
  go_wp2_with fail
  refine (num_put _ _ gn y1 HS.out (by omega) (by have := HLEN.out; simp only [List.length_append] at this ⊢; omega)).mono ?_
  rintro e y2 ⟨v2, rfl, hs, y⟩
  have HS' : Hid (Src y2 v2 ([2] ++ tidB num node ++ intB prev ++ enc gn)) := by show Src _ _ _; simpa only [List.append_assoc] using hs
  have HB' : Hid (Blk y2 w.heap.size #[.int .i64 2, .int .u64 num, .int .i64 node, .string key, .bool was, .string old, .int .u64 prev, .slice na nn nc, .slice ra rn rc, .slice ga gn gc, .slice oa om oc, .slice da dn dc] 31) := Blk.of HB.out (y.block _ HB.out.lt)
  have HY' : Hid (Below w.heap.size w y2) := ext_trans HY.out y
  clear hs y HS HB HY z9
  have HS := HS'
  have HB := HB'
  have HY := HY'
  clear HS' HB' HY'
  have HS0 : Hid (Src y2 v2 ([2] ++ tidB num node ++ intB prev ++ partB chgB gs 0)) := by show Src _ _ _; unfold partB; rw [List.take_zero, List.map_nil, List.flatten_nil, List.append_nil, ← HG.out.len.1]; exact HS.out
  have z9 : y2.cell? ⟨w.heap.size, 9, none⟩ = some (.slice ga gn gc) := HB.out.cell 9
  go_wp2
  clear z9
  go_loopw [3, 51] (fun v i wr => ∃ k : Nat, i = .int .i64 (k : Int) ∧ k ≤ gn ∧ Src wr v ([2] ++ tidB num node ++ intB prev ++ partB chgB gs k) ∧ Below w.heap.size w wr ∧ Blk wr w.heap.size #[.int .i64 2, .int .u64 num, .int .i64 node, .string key, .bool was, .string old, .int .u64 prev, .slice na nn nc, .slice ra rn rc, .slice ga gn gc, .slice oa om oc, .slice da dn dc] 31) (fun _ i _ => gn - (intOf i).toNat)
  case atStart => exact ⟨0, rfl, Nat.zero_le _, HS0.out, HY.out, HB.out⟩
  case round =>
    obtain ⟨k, rfl, hk, hs, y, hb⟩ := hrel
    clear HY HB HS HS0
    have HY : Hid (Below w.heap.size w wr) := y
    have HB : Hid (Blk wr w.heap.size #[.int .i64 2, .int .u64 num, .int .i64 node, .string key, .bool was, .string old, .int .u64 prev, .slice na nn nc, .slice ra rn rc, .slice ga gn gc, .slice oa om oc, .slice da dn dc] 31) := hb
    have HS : Hid (Src wr _ ([2] ++ tidB num node ++ intB prev ++ partB chgB gs k)) := hs
    clear y hb hs
    obtain ⟨vo, vc, hvk⟩ := HS.out.form
    subst hvk
    by_cases hlt : k < gn
    · have hkl : k < gs.length := by rw [← HG.out.len.1]; exact hlt
      have hi2 : (k : Int) < (gn : Int) := by omega
      obtain ⟨ad, had⟩ := RowsN.adr HG.out (by omega)
      subst had
      have HH : Hid (RowsN wr 9 _ (.slice (some ad) _ _) gs) := HG.out.below HY.out
      have e0 : wr.cell? (ad.add (k * 9)) = some _ := HH.out.at0 hkl rfl
      have e1 : wr.cell? ⟨(ad.add (k * 9)).block, (ad.add (k * 9)).off + 1, none⟩ = some _ := HH.out.atS hkl 0 rfl
      have e2 : wr.cell? ⟨(ad.add (k * 9)).block, (ad.add (k * 9)).off + 2, none⟩ = some _ := HH.out.atS hkl 1 rfl
      have e3 : wr.cell? ⟨(ad.add (k * 9)).block, (ad.add (k * 9)).off + 3, none⟩ = some _ := HH.out.atS hkl 2 rfl
      have e4 : wr.cell? ⟨(ad.add (k * 9)).block, (ad.add (k * 9)).off + 4, none⟩ = some _ := HH.out.atS hkl 3 rfl
      have e5 : wr.cell? ⟨(ad.add (k * 9)).block, (ad.add (k * 9)).off + 5, none⟩ = some _ := HH.out.atS hkl 4 rfl
      have e6 : wr.cell? ⟨(ad.add (k * 9)).block, (ad.add (k * 9)).off + 6, none⟩ = some _ := HH.out.atS hkl 5 rfl
      have e7 : wr.cell? ⟨(ad.add (k * 9)).block, (ad.add (k * 9)).off + 7, none⟩ = some _ := HH.out.atS hkl 6 rfl
      have e8 : wr.cell? ⟨(ad.add (k * 9)).block, (ad.add (k * 9)).off + 8, none⟩ = some _ := HH.out.atS hkl 7 rfl
      have HST : Hid (partB chgB gs (k + 1) = partB chgB gs k ++ chgB gs[k]) := all_take chgB hkl
      have HTOT : Hid (([2] ++ tidB num node ++ intB prev ++ (partB chgB gs k ++ chgB gs[k])).length < 100000000) := by
        have h1 := all_le chgB gs (k + 1)
        have h2 := HLEN.out
        rw [HST.out] at h1
        show _ < _
        simp only [List.length_append] at h1 h2 ⊢
        omega
      have HQA : Hid (gs[k].At w) := HGA.out _ (List.getElem_mem hkl)
      have HOK : Hid (_ = true) := HGO.out _ (List.getElem_mem hkl)
      have HQW := HWF.out gs[k] (List.getElem_mem hkl)
      generalize gs[k] = q at *
      obtain ⟨PK, hPK⟩ : ∃ l, l = partB chgB gs k := ⟨_, rfl⟩
      rw [← hPK] at HS HTOT HST ⊢
      clear hPK
      obtain ⟨vn, hvn⟩ : ∃ y, y = ([2] ++ tidB num node ++ intB prev ++ PK).length := ⟨_, rfl⟩
      rw [← hvn] at HS ⊢
      clear hvn
      have y : Below wr.heap.size wr (wr.alloc (.cells #[.int .i64 q.n, .int .i64 q.p.kind, .slice q.ka q.kn q.kc, .slice q.va q.vn q.vc, .slice q.da q.dn q.dc, .int .i64 q.p.root, .int .i64 q.p.next, .int .i64 q.p.size, .int .i64 q.p.idle] 49)) := below_allocR _
      have HY' : Hid (Below w.heap.size w (wr.alloc (.cells #[.int .i64 q.n, .int .i64 q.p.kind, .slice q.ka q.kn q.kc, .slice q.va q.vn q.vc, .slice q.da q.dn q.dc, .int .i64 q.p.root, .int .i64 q.p.next, .int .i64 q.p.size, .int .i64 q.p.idle] 49))) := HY.out.alloc HY.out.size _
      have HB' : Hid (Blk (wr.alloc (.cells #[.int .i64 q.n, .int .i64 q.p.kind, .slice q.ka q.kn q.kc, .slice q.va q.vn q.vc, .slice q.da q.dn q.dc, .int .i64 q.p.root, .int .i64 q.p.next, .int .i64 q.p.size, .int .i64 q.p.idle] 49)) w.heap.size #[.int .i64 2, .int .u64 num, .int .i64 node, .string key, .bool was, .string old, .int .u64 prev, .slice na nn nc, .slice ra rn rc, .slice (some ad) gn gc, .slice oa om oc, .slice da dn dc] 31) := HB.out.alloc _
      have HS' : Hid (Src (wr.alloc (.cells #[.int .i64 q.n, .int .i64 q.p.kind, .slice q.ka q.kn q.kc, .slice q.va q.vn q.vc, .slice q.da q.dn q.dc, .int .i64 q.p.root, .int .i64 q.p.next, .int .i64 q.p.size, .int .i64 q.p.idle] 49)) _ ([2] ++ tidB num node ++ intB prev ++ PK)) := HS.out.below y
      have HQ : Hid (Blk (wr.alloc (.cells #[.int .i64 q.n, .int .i64 q.p.kind, .slice q.ka q.kn q.kc, .slice q.va q.vn q.vc, .slice q.da q.dn q.dc, .int .i64 q.p.root, .int .i64 q.p.next, .int .i64 q.p.size, .int .i64 q.p.idle] 49)) wr.heap.size #[.int .i64 q.n, .int .i64 q.p.kind, .slice q.ka q.kn q.kc, .slice q.va q.vn q.vc, .slice q.da q.dn q.dc, .int .i64 q.p.root, .int .i64 q.p.next, .int .i64 q.p.size, .int .i64 q.p.idle] 49) := Blk.new _ _ _
      go_upto_region 12 with fail
      clear e0 e1 e2 e3 e4 e5 e6 e7 e8 HH HY HB HS y
      generalize (wr.alloc (.cells #[.int .i64 q.n, .int .i64 q.p.kind, .slice q.ka q.kn q.kc, .slice q.va q.vn q.vc, .slice q.da q.dn q.dc, .int .i64 q.p.root, .int .i64 q.p.next, .int .i64 q.p.size, .int .i64 q.p.idle] 49)) = y0 at *
      obtain ⟨b, hbb⟩ : ∃ b, wr.heap.size = b := ⟨_, rfl⟩
      rw [hbb] at HQ ⊢
      clear hbb
      have HS := HS'
      have HB := HB'
      have HY := HY'
      clear HS' HB' HY'
      have u1 : y0.cell? ⟨b, 1, none⟩ = some (.int .i64 q.p.kind) := HQ.out.cell 1
      have u2 : y0.cell? ⟨b, 2, none⟩ = some (.slice q.ka q.kn q.kc) := HQ.out.cell 2
      have u3 : y0.cell? ⟨b, 3, none⟩ = some (.slice q.va q.vn q.vc) := HQ.out.cell 3
      have u4 : y0.cell? ⟨b, 4, none⟩ = some (.slice q.da q.dn q.dc) := HQ.out.cell 4
      have u5 : y0.cell? ⟨b, 5, none⟩ = some (.int .i64 q.p.root) := HQ.out.cell 5
      have u6 : y0.cell? ⟨b, 6, none⟩ = some (.int .i64 q.p.next) := HQ.out.cell 6
      have u7 : y0.cell? ⟨b, 7, none⟩ = some (.int .i64 q.p.size) := HQ.out.cell 7
      have u8 : y0.cell? ⟨b, 8, none⟩ = some (.int .i64 q.p.idle) := HQ.out.cell 8
      have HPG := HQA.out.below HY.out
      go_wp2_with fail
      refine (encode_any q.p 0 _ _ _ y0 HPG.rd HPG.ok (by omega)).mono ?_
      rintro e y1 ⟨hs, y⟩
      rw [(chg_parts HOK.out).2, if_pos rfl] at hs
      obtain ⟨pv, rfl, hs⟩ := hs
      have HIM : Hid (Src y1 pv (encP q.p 0)) := hs
      have HS' : Hid (Src y1 _ ([2] ++ tidB num node ++ intB prev ++ PK)) := HS.out.below y
      clear HPG
      have HB' : Hid (Blk y1 w.heap.size #[.int .i64 2, .int .u64 num, .int .i64 node, .string key, .bool was, .string old, .int .u64 prev, .slice na nn nc, .slice ra rn rc, .slice (some ad) gn gc, .slice oa om oc, .slice da dn dc] 31) := Blk.of HB.out (y.block _ HB.out.lt)
      have HY' : Hid (Below w.heap.size w y1) := ext_trans HY.out y
      have HQ' : Hid (Blk y1 b #[.int .i64 q.n, .int .i64 q.p.kind, .slice q.ka q.kn q.kc, .slice q.va q.vn q.vc, .slice q.da q.dn q.dc, .int .i64 q.p.root, .int .i64 q.p.next, .int .i64 q.p.size, .int .i64 q.p.idle] 49) := Blk.of HQ.out (y.block _ HQ.out.lt)
      clear hs y HS HB HY HQ u1 u2 u3 u4 u5 u6 u7 u8
      have HS := HS'
      have HB := HB'
      have HY := HY'
      have HQ := HQ'
      clear HS' HB' HY' HQ'
      obtain ⟨po, pc, hpv⟩ := HIM.out.form
      subst hpv
      have hn1 := (chg_parts HOK.out).1
      have hwx := wrap_small hn1.1 (by omega)
      have u0 : y1.cell? ⟨b, 0, none⟩ = some (.int .i64 q.n) := HQ.out.cell 0
      go_wp2_with fail
      refine (putP _ _ q.n y1 HS.out (by omega) (by omega) (by have := HTOT.out; unfold chgB at this; simp only [List.length_append] at this ⊢; omega)).mono ?_
      rintro e y2 ⟨v2, rfl, hs, y⟩
      have HS' : Hid (Src y2 v2 ([2] ++ tidB num node ++ intB prev ++ PK ++ intB q.n)) := by show Src _ _ _; simpa only [List.append_assoc] using hs
      have HB' : Hid (Blk y2 w.heap.size #[.int .i64 2, .int .u64 num, .int .i64 node, .string key, .bool was, .string old, .int .u64 prev, .slice na nn nc, .slice ra rn rc, .slice (some ad) gn gc, .slice oa om oc, .slice da dn dc] 31) := Blk.of HB.out (y.block _ HB.out.lt)
      have HY' : Hid (Below w.heap.size w y2) := ext_trans HY.out y
      have HQ' : Hid (Blk y2 b #[.int .i64 q.n, .int .i64 q.p.kind, .slice q.ka q.kn q.kc, .slice q.va q.vn q.vc, .slice q.da q.dn q.dc, .int .i64 q.p.root, .int .i64 q.p.next, .int .i64 q.p.size, .int .i64 q.p.idle] 49) := Blk.of HQ.out (y.block _ HQ.out.lt)
      have HIM' : Hid (Src y2 _ (encP q.p 0)) := HIM.out.below y
      clear hs y HS HB HY HQ u0
      have HS := HS'
      have HB := HB'
      have HY := HY'
      have HQ := HQ'
      clear HS' HB' HY' HQ'
      have HIM2 := HIM'
      clear HIM' HIM hwx hn1
      have hst : (convert 34 9 (.slice po (encP q.p 0).length pc)).run Tryz.prog y2 = .ok (.string (imageB q.p)) y2 := HIM2.out.str
      have HTX := txtP _ _ (imageB q.p) y2 HS.out (by have := HTOT.out; unfold chgB at this; have h2 := textB_len (imageB q.p); simp only [List.length_append] at this ⊢; omega)
      generalize (encP q.p 0).length = pn at *
      generalize hIMG : imageB q.p = IMG at *
      go_wp2_with fail
      refine (HTX).mono ?_
      rintro e y3 ⟨v3, rfl, hs, y⟩
      have HS' : Hid (Src y3 v3 ([2] ++ tidB num node ++ intB prev ++ PK ++ (intB q.n ++ textB IMG))) := by show Src _ _ _; simpa only [List.append_assoc] using hs
      have HB' : Hid (Blk y3 w.heap.size #[.int .i64 2, .int .u64 num, .int .i64 node, .string key, .bool was, .string old, .int .u64 prev, .slice na nn nc, .slice ra rn rc, .slice (some ad) gn gc, .slice oa om oc, .slice da dn dc] 31) := Blk.of HB.out (y.block _ HB.out.lt)
      have HY' : Hid (Below w.heap.size w y3) := ext_trans HY.out y
      have HQ' : Hid (Blk y3 b #[.int .i64 q.n, .int .i64 q.p.kind, .slice q.ka q.kn q.kc, .slice q.va q.vn q.vc, .slice q.da q.dn q.dc, .int .i64 q.p.root, .int .i64 q.p.next, .int .i64 q.p.size, .int .i64 q.p.idle] 49) := Blk.of HQ.out (y.block _ HQ.out.lt)
      clear hs y HS HB HY HQ
      have HS := HS'
      have HB := HB'
      have HY := HY'
      have HQ := HQ'
      clear HS' HB' HY' HQ'
      rw [← hIMG] at HS
      clear hIMG hst HTX
      go_wp2
      go_roundw
      case rel => exact ⟨k + 1, by go_num, hlt, by rw [HST.out]; simpa only [List.append_assoc, chgB] using HS.out, HY.out, HB.out⟩
      case measure => simp [intOf]; omega
    · have hkn : k = gs.length := by rw [← HG.out.len.1]; omega
      have HE : Hid (partB chgB gs k = allB8 chgB gs) := by show _ = _; rw [hkn]; unfold partB allB8; rw [List.take_length]
      obtain ⟨vn2, hvn2⟩ : ∃ y, y = ([2] ++ tidB num node ++ intB prev ++ partB chgB gs k).length := ⟨_, rfl⟩
      rw [← hvn2] at HS ⊢
      rw [HE.out] at HS
      clear hkn hk hvn2 HE
      rename World => wz

      have z0 : wz.cell? ⟨w.heap.size, 0, none⟩ = some (.int .i64 2) := HB.out.cell 0
      go_wp2
      go_ret
      refine ⟨_, rfl, ?_, HY.out⟩
      show Src _ (.slice vo vn2 vc) _
      have HSF := HS.out
      simp only [List.append_assoc, List.cons_append, List.nil_append] at HSF ⊢
      exact HSF

set_option maxRecDepth 100000 in
set_option maxHeartbeats 8000000 in
theorem bytes11_1 (num : Int) (node : Int) (key : ByteArray) (was : Bool) (old : ByteArray) (prev : Int) (na : Option Addr) (nn : Nat) (nc : Nat) (ra : Option Addr) (rn : Nat) (rc : Nat) (ga : Option Addr) (gn : Nat) (gc : Nat) (oa : Option Addr) (om : Nat) (oc : Nat) (da : Option Addr) (dn : Nat) (dc : Nat) (ns : List Int) (rs : List ByteArray) (gs : List ChgV) (os : List OpenV) (ds : List DoneV) (w : World) (hnum : 0 ≤ num ∧ num < 18446744073709551616) (hprev : 0 ≤ prev ∧ prev < 18446744073709551616) (hg : RowsN w 9 ChgV.c (.slice ga gn gc) gs) (hga : ∀ c ∈ gs, c.At w) (hgo : ∀ c ∈ gs, chgOk c = true) (hgn : gs.length ≤ 1000) (hlen : ([1] ++ tidB num node ++ textB key ++ enc (flagN was) ++ textB old ++ intB prev ++ allB8 chgB gs).length < 100000000) :
    Calls Tryz.prog 11 #[.agg #[.int .i64 1, .int .u64 num, .int .i64 node, .string key, .bool was, .string old, .int .u64 prev, .slice na nn nc, .slice ra rn rc, .slice ga gn gc, .slice oa om oc, .slice da dn dc]] w (BytesP w ([1] ++ tidB num node ++ textB key ++ enc (flagN was) ++ textB old ++ intB prev ++ allB8 chgB gs)) := by
  have HLEN : Hid (([1] ++ tidB num node ++ textB key ++ enc (flagN was) ++ textB old ++ intB prev ++ allB8 chgB gs).length < 100000000) := hlen
  have HG : Hid (RowsN w 9 ChgV.c (.slice ga gn gc) gs) := hg
  have HGA : Hid (∀ c ∈ gs, c.At w) := hga
  have HGO : Hid (∀ c ∈ gs, chgOk c = true) := hgo
  have HWF : Hid (∀ c ∈ gs, True) := fun _ _ => trivial
  have hgm : gn ≤ 1000 := by have := hg.len.1; omega
  clear hg hga hgo hgn hlen
  have HB : Hid (Blk (w.alloc (.cells #[.int .i64 1, .int .u64 num, .int .i64 node, .string key, .bool was, .string old, .int .u64 prev, .slice na nn nc, .slice ra rn rc, .slice ga gn gc, .slice oa om oc, .slice da dn dc] 31)) w.heap.size #[.int .i64 1, .int .u64 num, .int .i64 node, .string key, .bool was, .string old, .int .u64 prev, .slice na nn nc, .slice ra rn rc, .slice ga gn gc, .slice oa om oc, .slice da dn dc] 31) := Blk.new _ _ _
  have HY : Hid (Below w.heap.size w (w.alloc (.cells #[.int .i64 1, .int .u64 num, .int .i64 node, .string key, .bool was, .string old, .int .u64 prev, .slice na nn nc, .slice ra rn rc, .slice ga gn gc, .slice oa om oc, .slice da dn dc] 31))) := (Below.refl _ _).alloc (Nat.le_refl _) _
  go_enter Tryz.func11, Tryz.ntmps11
  go_upto_region 1 with fail
  generalize (w.alloc (.cells #[.int .i64 1, .int .u64 num, .int .i64 node, .string key, .bool was, .string old, .int .u64 prev, .slice na nn nc, .slice ra rn rc, .slice ga gn gc, .slice oa om oc, .slice da dn dc] 31)) = w0 at *
  have z0 : w0.cell? ⟨w.heap.size, 0, none⟩ = some (.int .i64 1) := HB.out.cell 0
  have z1 : w0.cell? ⟨w.heap.size, 1, none⟩ = some (.int .u64 num) := HB.out.cell 1
  have z2 : w0.cell? ⟨w.heap.size, 2, none⟩ = some (.int .i64 node) := HB.out.cell 2
  have HSB : Hid (Src (w0.alloc (.cells #[.int .u8 1] 5)) (.slice (some ⟨w0.heap.size, 0, none⟩) 1 1) [1]) := Blk.src (l := [1]) (k := 1) (c := 1) (Blk.new _ _ _) (by decide) (by decide) (by unfold maxLen; omega)
  have HBB : Hid (Blk (w0.alloc (.cells #[.int .u8 1] 5)) w.heap.size #[.int .i64 1, .int .u64 num, .int .i64 node, .string key, .bool was, .string old, .int .u64 prev, .slice na nn nc, .slice ra rn rc, .slice ga gn gc, .slice oa om oc, .slice da dn dc] 31) := HB.out.alloc _
  have HYB : Hid (Below w.heap.size w (w0.alloc (.cells #[.int .u8 1] 5))) := HY.out.alloc HY.out.size _
  have x1 : (w0.alloc (.cells #[.int .u8 1] 5)).cell? ⟨w.heap.size, 1, none⟩ = some (.int .u64 num) := HBB.out.cell 1
  have x2 : (w0.alloc (.cells #[.int .u8 1] 5)).cell? ⟨w.heap.size, 2, none⟩ = some (.int .i64 node) := HBB.out.cell 2
  go_wp2_with fail
  refine (tidP _ _ num node _ HSB.out hnum.1 hnum.2 (by decide)).mono ?_
  rintro e w1 ⟨v1, rfl, hs, y⟩
  have HS : Hid (Src w1 v1 ([1] ++ tidB num node)) := hs
  have HB1 : Hid (Blk w1 w.heap.size #[.int .i64 1, .int .u64 num, .int .i64 node, .string key, .bool was, .string old, .int .u64 prev, .slice na nn nc, .slice ra rn rc, .slice ga gn gc, .slice oa om oc, .slice da dn dc] 31) := Blk.of HBB.out (y.block _ HBB.out.lt)
  have HY1 : Hid (Below w.heap.size w w1) := ext_trans HYB.out y
  clear hs y HB HY HSB HBB HYB z0 z1 z2 x1 x2
  have HB := HB1
  have HY := HY1
  clear HB1 HY1
  have z0 : w1.cell? ⟨w.heap.size, 0, none⟩ = some (.int .i64 1) := HB.out.cell 0
  have z3 : w1.cell? ⟨w.heap.size, 3, none⟩ = some (.string key) := HB.out.cell 3
  go_wp2_with fail
  refine (txtP _ _ key w1 HS.out (by have := HLEN.out; have h2 := textB_len key; simp only [List.length_append] at this ⊢; omega)).mono ?_
  rintro e y1 ⟨v1, rfl, hs, y⟩
  have HS' : Hid (Src y1 v1 ([1] ++ tidB num node ++ textB key)) := by show Src _ _ _; simpa only [List.append_assoc] using hs
  have HB' : Hid (Blk y1 w.heap.size #[.int .i64 1, .int .u64 num, .int .i64 node, .string key, .bool was, .string old, .int .u64 prev, .slice na nn nc, .slice ra rn rc, .slice ga gn gc, .slice oa om oc, .slice da dn dc] 31) := Blk.of HB.out (y.block _ HB.out.lt)
  have HY' : Hid (Below w.heap.size w y1) := ext_trans HY.out y
  clear hs y HS HB HY z0 z3
  have HS := HS'
  have HB := HB'
  have HY := HY'
  clear HS' HB' HY'
  have z4 : y1.cell? ⟨w.heap.size, 4, none⟩ = some (.bool was) := HB.out.cell 4
  go_wp2_with fail
  refine (flag11_any was y1).mono ?_
  rintro e wf ⟨rfl, hwf⟩
  subst hwf
  clear z4
  have hfl : flagN was < 18446744073709551616 := by unfold flagN; split <;> omega
  go_wp2_with fail
  refine (num_put _ _ (flagN was) wf HS.out hfl (by have := HLEN.out; simp only [List.length_append] at this ⊢; omega)).mono ?_
  rintro e y3 ⟨v3, rfl, hs, y⟩
  have HS' : Hid (Src y3 v3 ([1] ++ tidB num node ++ textB key ++ enc (flagN was))) := by show Src _ _ _; simpa only [List.append_assoc] using hs
  have HB' : Hid (Blk y3 w.heap.size #[.int .i64 1, .int .u64 num, .int .i64 node, .string key, .bool was, .string old, .int .u64 prev, .slice na nn nc, .slice ra rn rc, .slice ga gn gc, .slice oa om oc, .slice da dn dc] 31) := Blk.of HB.out (y.block _ HB.out.lt)
  have HY' : Hid (Below w.heap.size w y3) := ext_trans HY.out y
  clear hs y HS HB HY
  have HS := HS'
  have HB := HB'
  have HY := HY'
  clear HS' HB' HY'
  have z5 : y3.cell? ⟨w.heap.size, 5, none⟩ = some (.string old) := HB.out.cell 5
  go_wp2_with fail
  refine (txtP _ _ old y3 HS.out (by have := HLEN.out; have h2 := textB_len old; simp only [List.length_append] at this ⊢; omega)).mono ?_
  rintro e y4 ⟨v4, rfl, hs, y⟩
  have HS' : Hid (Src y4 v4 ([1] ++ tidB num node ++ textB key ++ enc (flagN was) ++ textB old)) := by show Src _ _ _; simpa only [List.append_assoc] using hs
  have HB' : Hid (Blk y4 w.heap.size #[.int .i64 1, .int .u64 num, .int .i64 node, .string key, .bool was, .string old, .int .u64 prev, .slice na nn nc, .slice ra rn rc, .slice ga gn gc, .slice oa om oc, .slice da dn dc] 31) := Blk.of HB.out (y.block _ HB.out.lt)
  have HY' : Hid (Below w.heap.size w y4) := ext_trans HY.out y
  clear hs y HS HB HY z5
  have HS := HS'
  have HB := HB'
  have HY := HY'
  clear HS' HB' HY'
  have z0 : y4.cell? ⟨w.heap.size, 0, none⟩ = some (.int .i64 1) := HB.out.cell 0
  have z6 : y4.cell? ⟨w.heap.size, 6, none⟩ = some (.int .u64 prev) := HB.out.cell 6
  go_wp2_with fail
  refine (putP _ _ prev y4 HS.out hprev.1 hprev.2 (by have := HLEN.out; simp only [List.length_append] at this ⊢; omega)).mono ?_
  rintro e y5 ⟨v5, rfl, hs, y⟩
  have HS' : Hid (Src y5 v5 ([1] ++ tidB num node ++ textB key ++ enc (flagN was) ++ textB old ++ intB prev)) := by show Src _ _ _; simpa only [List.append_assoc] using hs
  have HB' : Hid (Blk y5 w.heap.size #[.int .i64 1, .int .u64 num, .int .i64 node, .string key, .bool was, .string old, .int .u64 prev, .slice na nn nc, .slice ra rn rc, .slice ga gn gc, .slice oa om oc, .slice da dn dc] 31) := Blk.of HB.out (y.block _ HB.out.lt)
  have HY' : Hid (Below w.heap.size w y5) := ext_trans HY.out y
  clear hs y HS HB HY z0 z6
  have HS := HS'
  have HB := HB'
  have HY := HY'
  clear HS' HB' HY'
  have z9 : y5.cell? ⟨w.heap.size, 9, none⟩ = some (.slice ga gn gc) := HB.out.cell 9
  go_wp2_with fail
  refine (num_put _ _ gn y5 HS.out (by omega) (by have := HLEN.out; simp only [List.length_append] at this ⊢; omega)).mono ?_
  rintro e y6 ⟨v6, rfl, hs, y⟩
  have HS' : Hid (Src y6 v6 ([1] ++ tidB num node ++ textB key ++ enc (flagN was) ++ textB old ++ intB prev ++ enc gn)) := by show Src _ _ _; simpa only [List.append_assoc] using hs
  have HB' : Hid (Blk y6 w.heap.size #[.int .i64 1, .int .u64 num, .int .i64 node, .string key, .bool was, .string old, .int .u64 prev, .slice na nn nc, .slice ra rn rc, .slice ga gn gc, .slice oa om oc, .slice da dn dc] 31) := Blk.of HB.out (y.block _ HB.out.lt)
  have HY' : Hid (Below w.heap.size w y6) := ext_trans HY.out y
  clear hs y HS HB HY z9
  have HS := HS'
  have HB := HB'
  have HY := HY'
  clear HS' HB' HY'
  have HS0 : Hid (Src y6 v6 ([1] ++ tidB num node ++ textB key ++ enc (flagN was) ++ textB old ++ intB prev ++ partB chgB gs 0)) := by show Src _ _ _; unfold partB; rw [List.take_zero, List.map_nil, List.flatten_nil, List.append_nil, ← HG.out.len.1]; exact HS.out
  have z9 : y6.cell? ⟨w.heap.size, 9, none⟩ = some (.slice ga gn gc) := HB.out.cell 9
  go_wp2
  clear z9
  go_loopw [3, 51] (fun v i wr => ∃ k : Nat, i = .int .i64 (k : Int) ∧ k ≤ gn ∧ Src wr v ([1] ++ tidB num node ++ textB key ++ enc (flagN was) ++ textB old ++ intB prev ++ partB chgB gs k) ∧ Below w.heap.size w wr ∧ Blk wr w.heap.size #[.int .i64 1, .int .u64 num, .int .i64 node, .string key, .bool was, .string old, .int .u64 prev, .slice na nn nc, .slice ra rn rc, .slice ga gn gc, .slice oa om oc, .slice da dn dc] 31) (fun _ i _ => gn - (intOf i).toNat)
  case atStart => exact ⟨0, rfl, Nat.zero_le _, HS0.out, HY.out, HB.out⟩
  case round =>
    obtain ⟨k, rfl, hk, hs, y, hb⟩ := hrel
    clear HY HB HS HS0
    have HY : Hid (Below w.heap.size w wr) := y
    have HB : Hid (Blk wr w.heap.size #[.int .i64 1, .int .u64 num, .int .i64 node, .string key, .bool was, .string old, .int .u64 prev, .slice na nn nc, .slice ra rn rc, .slice ga gn gc, .slice oa om oc, .slice da dn dc] 31) := hb
    have HS : Hid (Src wr _ ([1] ++ tidB num node ++ textB key ++ enc (flagN was) ++ textB old ++ intB prev ++ partB chgB gs k)) := hs
    clear y hb hs
    obtain ⟨vo, vc, hvk⟩ := HS.out.form
    subst hvk
    by_cases hlt : k < gn
    · have hkl : k < gs.length := by rw [← HG.out.len.1]; exact hlt
      have hi2 : (k : Int) < (gn : Int) := by omega
      obtain ⟨ad, had⟩ := RowsN.adr HG.out (by omega)
      subst had
      have HH : Hid (RowsN wr 9 _ (.slice (some ad) _ _) gs) := HG.out.below HY.out
      have e0 : wr.cell? (ad.add (k * 9)) = some _ := HH.out.at0 hkl rfl
      have e1 : wr.cell? ⟨(ad.add (k * 9)).block, (ad.add (k * 9)).off + 1, none⟩ = some _ := HH.out.atS hkl 0 rfl
      have e2 : wr.cell? ⟨(ad.add (k * 9)).block, (ad.add (k * 9)).off + 2, none⟩ = some _ := HH.out.atS hkl 1 rfl
      have e3 : wr.cell? ⟨(ad.add (k * 9)).block, (ad.add (k * 9)).off + 3, none⟩ = some _ := HH.out.atS hkl 2 rfl
      have e4 : wr.cell? ⟨(ad.add (k * 9)).block, (ad.add (k * 9)).off + 4, none⟩ = some _ := HH.out.atS hkl 3 rfl
      have e5 : wr.cell? ⟨(ad.add (k * 9)).block, (ad.add (k * 9)).off + 5, none⟩ = some _ := HH.out.atS hkl 4 rfl
      have e6 : wr.cell? ⟨(ad.add (k * 9)).block, (ad.add (k * 9)).off + 6, none⟩ = some _ := HH.out.atS hkl 5 rfl
      have e7 : wr.cell? ⟨(ad.add (k * 9)).block, (ad.add (k * 9)).off + 7, none⟩ = some _ := HH.out.atS hkl 6 rfl
      have e8 : wr.cell? ⟨(ad.add (k * 9)).block, (ad.add (k * 9)).off + 8, none⟩ = some _ := HH.out.atS hkl 7 rfl
      have HST : Hid (partB chgB gs (k + 1) = partB chgB gs k ++ chgB gs[k]) := all_take chgB hkl
      have HTOT : Hid (([1] ++ tidB num node ++ textB key ++ enc (flagN was) ++ textB old ++ intB prev ++ (partB chgB gs k ++ chgB gs[k])).length < 100000000) := by
        have h1 := all_le chgB gs (k + 1)
        have h2 := HLEN.out
        rw [HST.out] at h1
        show _ < _
        simp only [List.length_append] at h1 h2 ⊢
        omega
      have HQA : Hid (gs[k].At w) := HGA.out _ (List.getElem_mem hkl)
      have HOK : Hid (_ = true) := HGO.out _ (List.getElem_mem hkl)
      have HQW := HWF.out gs[k] (List.getElem_mem hkl)
      generalize gs[k] = q at *
      obtain ⟨PK, hPK⟩ : ∃ l, l = partB chgB gs k := ⟨_, rfl⟩
      rw [← hPK] at HS HTOT HST ⊢
      clear hPK
      obtain ⟨vn, hvn⟩ : ∃ y, y = ([1] ++ tidB num node ++ textB key ++ enc (flagN was) ++ textB old ++ intB prev ++ PK).length := ⟨_, rfl⟩
      rw [← hvn] at HS ⊢
      clear hvn
      have y : Below wr.heap.size wr (wr.alloc (.cells #[.int .i64 q.n, .int .i64 q.p.kind, .slice q.ka q.kn q.kc, .slice q.va q.vn q.vc, .slice q.da q.dn q.dc, .int .i64 q.p.root, .int .i64 q.p.next, .int .i64 q.p.size, .int .i64 q.p.idle] 49)) := below_allocR _
      have HY' : Hid (Below w.heap.size w (wr.alloc (.cells #[.int .i64 q.n, .int .i64 q.p.kind, .slice q.ka q.kn q.kc, .slice q.va q.vn q.vc, .slice q.da q.dn q.dc, .int .i64 q.p.root, .int .i64 q.p.next, .int .i64 q.p.size, .int .i64 q.p.idle] 49))) := HY.out.alloc HY.out.size _
      have HB' : Hid (Blk (wr.alloc (.cells #[.int .i64 q.n, .int .i64 q.p.kind, .slice q.ka q.kn q.kc, .slice q.va q.vn q.vc, .slice q.da q.dn q.dc, .int .i64 q.p.root, .int .i64 q.p.next, .int .i64 q.p.size, .int .i64 q.p.idle] 49)) w.heap.size #[.int .i64 1, .int .u64 num, .int .i64 node, .string key, .bool was, .string old, .int .u64 prev, .slice na nn nc, .slice ra rn rc, .slice (some ad) gn gc, .slice oa om oc, .slice da dn dc] 31) := HB.out.alloc _
      have HS' : Hid (Src (wr.alloc (.cells #[.int .i64 q.n, .int .i64 q.p.kind, .slice q.ka q.kn q.kc, .slice q.va q.vn q.vc, .slice q.da q.dn q.dc, .int .i64 q.p.root, .int .i64 q.p.next, .int .i64 q.p.size, .int .i64 q.p.idle] 49)) _ ([1] ++ tidB num node ++ textB key ++ enc (flagN was) ++ textB old ++ intB prev ++ PK)) := HS.out.below y
      have HQ : Hid (Blk (wr.alloc (.cells #[.int .i64 q.n, .int .i64 q.p.kind, .slice q.ka q.kn q.kc, .slice q.va q.vn q.vc, .slice q.da q.dn q.dc, .int .i64 q.p.root, .int .i64 q.p.next, .int .i64 q.p.size, .int .i64 q.p.idle] 49)) wr.heap.size #[.int .i64 q.n, .int .i64 q.p.kind, .slice q.ka q.kn q.kc, .slice q.va q.vn q.vc, .slice q.da q.dn q.dc, .int .i64 q.p.root, .int .i64 q.p.next, .int .i64 q.p.size, .int .i64 q.p.idle] 49) := Blk.new _ _ _
      go_upto_region 12 with fail
      clear e0 e1 e2 e3 e4 e5 e6 e7 e8 HH HY HB HS y
      generalize (wr.alloc (.cells #[.int .i64 q.n, .int .i64 q.p.kind, .slice q.ka q.kn q.kc, .slice q.va q.vn q.vc, .slice q.da q.dn q.dc, .int .i64 q.p.root, .int .i64 q.p.next, .int .i64 q.p.size, .int .i64 q.p.idle] 49)) = y0 at *
      obtain ⟨b, hbb⟩ : ∃ b, wr.heap.size = b := ⟨_, rfl⟩
      rw [hbb] at HQ ⊢
      clear hbb
      have HS := HS'
      have HB := HB'
      have HY := HY'
      clear HS' HB' HY'
      have u1 : y0.cell? ⟨b, 1, none⟩ = some (.int .i64 q.p.kind) := HQ.out.cell 1
      have u2 : y0.cell? ⟨b, 2, none⟩ = some (.slice q.ka q.kn q.kc) := HQ.out.cell 2
      have u3 : y0.cell? ⟨b, 3, none⟩ = some (.slice q.va q.vn q.vc) := HQ.out.cell 3
      have u4 : y0.cell? ⟨b, 4, none⟩ = some (.slice q.da q.dn q.dc) := HQ.out.cell 4
      have u5 : y0.cell? ⟨b, 5, none⟩ = some (.int .i64 q.p.root) := HQ.out.cell 5
      have u6 : y0.cell? ⟨b, 6, none⟩ = some (.int .i64 q.p.next) := HQ.out.cell 6
      have u7 : y0.cell? ⟨b, 7, none⟩ = some (.int .i64 q.p.size) := HQ.out.cell 7
      have u8 : y0.cell? ⟨b, 8, none⟩ = some (.int .i64 q.p.idle) := HQ.out.cell 8
      have HPG := HQA.out.below HY.out
      go_wp2_with fail
      refine (encode_any q.p 0 _ _ _ y0 HPG.rd HPG.ok (by omega)).mono ?_
      rintro e y1 ⟨hs, y⟩
      rw [(chg_parts HOK.out).2, if_pos rfl] at hs
      obtain ⟨pv, rfl, hs⟩ := hs
      have HIM : Hid (Src y1 pv (encP q.p 0)) := hs
      have HS' : Hid (Src y1 _ ([1] ++ tidB num node ++ textB key ++ enc (flagN was) ++ textB old ++ intB prev ++ PK)) := HS.out.below y
      clear HPG
      have HB' : Hid (Blk y1 w.heap.size #[.int .i64 1, .int .u64 num, .int .i64 node, .string key, .bool was, .string old, .int .u64 prev, .slice na nn nc, .slice ra rn rc, .slice (some ad) gn gc, .slice oa om oc, .slice da dn dc] 31) := Blk.of HB.out (y.block _ HB.out.lt)
      have HY' : Hid (Below w.heap.size w y1) := ext_trans HY.out y
      have HQ' : Hid (Blk y1 b #[.int .i64 q.n, .int .i64 q.p.kind, .slice q.ka q.kn q.kc, .slice q.va q.vn q.vc, .slice q.da q.dn q.dc, .int .i64 q.p.root, .int .i64 q.p.next, .int .i64 q.p.size, .int .i64 q.p.idle] 49) := Blk.of HQ.out (y.block _ HQ.out.lt)
      clear hs y HS HB HY HQ u1 u2 u3 u4 u5 u6 u7 u8
      have HS := HS'
      have HB := HB'
      have HY := HY'
      have HQ := HQ'
      clear HS' HB' HY' HQ'
      obtain ⟨po, pc, hpv⟩ := HIM.out.form
      subst hpv
      have hn1 := (chg_parts HOK.out).1
      have hwx := wrap_small hn1.1 (by omega)
      have u0 : y1.cell? ⟨b, 0, none⟩ = some (.int .i64 q.n) := HQ.out.cell 0
      go_wp2_with fail
      refine (putP _ _ q.n y1 HS.out (by omega) (by omega) (by have := HTOT.out; unfold chgB at this; simp only [List.length_append] at this ⊢; omega)).mono ?_
      rintro e y2 ⟨v2, rfl, hs, y⟩
      have HS' : Hid (Src y2 v2 ([1] ++ tidB num node ++ textB key ++ enc (flagN was) ++ textB old ++ intB prev ++ PK ++ intB q.n)) := by show Src _ _ _; simpa only [List.append_assoc] using hs
      have HB' : Hid (Blk y2 w.heap.size #[.int .i64 1, .int .u64 num, .int .i64 node, .string key, .bool was, .string old, .int .u64 prev, .slice na nn nc, .slice ra rn rc, .slice (some ad) gn gc, .slice oa om oc, .slice da dn dc] 31) := Blk.of HB.out (y.block _ HB.out.lt)
      have HY' : Hid (Below w.heap.size w y2) := ext_trans HY.out y
      have HQ' : Hid (Blk y2 b #[.int .i64 q.n, .int .i64 q.p.kind, .slice q.ka q.kn q.kc, .slice q.va q.vn q.vc, .slice q.da q.dn q.dc, .int .i64 q.p.root, .int .i64 q.p.next, .int .i64 q.p.size, .int .i64 q.p.idle] 49) := Blk.of HQ.out (y.block _ HQ.out.lt)
      have HIM' : Hid (Src y2 _ (encP q.p 0)) := HIM.out.below y
      clear hs y HS HB HY HQ u0
      have HS := HS'
      have HB := HB'
      have HY := HY'
      have HQ := HQ'
      clear HS' HB' HY' HQ'
      have HIM2 := HIM'
      clear HIM' HIM hwx hn1
      have hst : (convert 34 9 (.slice po (encP q.p 0).length pc)).run Tryz.prog y2 = .ok (.string (imageB q.p)) y2 := HIM2.out.str
      have HTX := txtP _ _ (imageB q.p) y2 HS.out (by have := HTOT.out; unfold chgB at this; have h2 := textB_len (imageB q.p); simp only [List.length_append] at this ⊢; omega)
      generalize (encP q.p 0).length = pn at *
      generalize hIMG : imageB q.p = IMG at *
      go_wp2_with fail
      refine (HTX).mono ?_
      rintro e y3 ⟨v3, rfl, hs, y⟩
      have HS' : Hid (Src y3 v3 ([1] ++ tidB num node ++ textB key ++ enc (flagN was) ++ textB old ++ intB prev ++ PK ++ (intB q.n ++ textB IMG))) := by show Src _ _ _; simpa only [List.append_assoc] using hs
      have HB' : Hid (Blk y3 w.heap.size #[.int .i64 1, .int .u64 num, .int .i64 node, .string key, .bool was, .string old, .int .u64 prev, .slice na nn nc, .slice ra rn rc, .slice (some ad) gn gc, .slice oa om oc, .slice da dn dc] 31) := Blk.of HB.out (y.block _ HB.out.lt)
      have HY' : Hid (Below w.heap.size w y3) := ext_trans HY.out y
      have HQ' : Hid (Blk y3 b #[.int .i64 q.n, .int .i64 q.p.kind, .slice q.ka q.kn q.kc, .slice q.va q.vn q.vc, .slice q.da q.dn q.dc, .int .i64 q.p.root, .int .i64 q.p.next, .int .i64 q.p.size, .int .i64 q.p.idle] 49) := Blk.of HQ.out (y.block _ HQ.out.lt)
      clear hs y HS HB HY HQ
      have HS := HS'
      have HB := HB'
      have HY := HY'
      have HQ := HQ'
      clear HS' HB' HY' HQ'
      rw [← hIMG] at HS
      clear hIMG hst HTX
      go_wp2
      go_roundw
      case rel => exact ⟨k + 1, by go_num, hlt, by rw [HST.out]; simpa only [List.append_assoc, chgB] using HS.out, HY.out, HB.out⟩
      case measure => simp [intOf]; omega
    · have hkn : k = gs.length := by rw [← HG.out.len.1]; omega
      have HE : Hid (partB chgB gs k = allB8 chgB gs) := by show _ = _; rw [hkn]; unfold partB allB8; rw [List.take_length]
      obtain ⟨vn2, hvn2⟩ : ∃ y, y = ([1] ++ tidB num node ++ textB key ++ enc (flagN was) ++ textB old ++ intB prev ++ partB chgB gs k).length := ⟨_, rfl⟩
      rw [← hvn2] at HS ⊢
      rw [HE.out] at HS
      clear hkn hk hvn2 HE
      rename World => wz

      have z0 : wz.cell? ⟨w.heap.size, 0, none⟩ = some (.int .i64 1) := HB.out.cell 0
      go_wp2
      go_ret
      refine ⟨_, rfl, ?_, HY.out⟩
      show Src _ (.slice vo vn2 vc) _
      have HSF := HS.out
      simp only [List.append_assoc, List.cons_append, List.nil_append] at HSF ⊢
      exact HSF

set_option maxRecDepth 100000 in
set_option maxHeartbeats 8000000 in
theorem bytes11_8 (num : Int) (node : Int) (key : ByteArray) (was : Bool) (old : ByteArray) (prev : Int) (na : Option Addr) (nn : Nat) (nc : Nat) (ra : Option Addr) (rn : Nat) (rc : Nat) (ga : Option Addr) (gn : Nat) (gc : Nat) (oa : Option Addr) (om : Nat) (oc : Nat) (da : Option Addr) (dn : Nat) (dc : Nat) (ns : List Int) (rs : List ByteArray) (gs : List ChgV) (os : List OpenV) (ds : List DoneV) (w : World) (hnum : 0 ≤ num ∧ num < 18446744073709551616) (ho : RowsN w 7 OpenV.c (.slice oa om oc) os) (hoa : ∀ c ∈ os, c.At w) (hoo : ∀ c ∈ os, openOk c = true) (hon : os.length ≤ 1000) (hd : RowsN w 3 DoneV.c (.slice da dn dc) ds) (hda : ∀ c ∈ ds, c.At w) (hdo : ∀ c ∈ ds, doneOk c = true) (hdn : ds.length ≤ 1000) (how : ∀ o ∈ os, (0 ≤ o.num ∧ o.num < 18446744073709551616) ∧ (0 ≤ o.last ∧ o.last < 18446744073709551616) ∧ (0 ≤ o.first ∧ o.first < 18446744073709551616)) (hdw : ∀ d ∈ ds, 0 ≤ d.num ∧ d.num < 18446744073709551616) (hlen : ([8] ++ tidB num node ++ allB8 openB os ++ allB8 doneB ds).length < 100000000) :
    Calls Tryz.prog 11 #[.agg #[.int .i64 8, .int .u64 num, .int .i64 node, .string key, .bool was, .string old, .int .u64 prev, .slice na nn nc, .slice ra rn rc, .slice ga gn gc, .slice oa om oc, .slice da dn dc]] w (BytesP w ([8] ++ tidB num node ++ allB8 openB os ++ allB8 doneB ds)) := by
  have HLEN : Hid (([8] ++ tidB num node ++ allB8 openB os ++ allB8 doneB ds).length < 100000000) := hlen
  have HO : Hid (RowsN w 7 OpenV.c (.slice oa om oc) os) := ho
  have HOA : Hid (∀ c ∈ os, c.At w) := hoa
  have HOO : Hid (∀ c ∈ os, openOk c = true) := hoo
  have HOW : Hid (∀ o ∈ os, (0 ≤ o.num ∧ o.num < 18446744073709551616) ∧ (0 ≤ o.last ∧ o.last < 18446744073709551616) ∧ (0 ≤ o.first ∧ o.first < 18446744073709551616)) := how
  have HD : Hid (RowsN w 3 DoneV.c (.slice da dn dc) ds) := hd
  have HDA : Hid (∀ c ∈ ds, c.At w) := hda
  have HDO : Hid (∀ c ∈ ds, doneOk c = true) := hdo
  have HDW : Hid (∀ d ∈ ds, 0 ≤ d.num ∧ d.num < 18446744073709551616) := hdw
  have hom : om ≤ 1000 := by have := ho.len.1; omega
  have hdm : dn ≤ 1000 := by have := hd.len.1; omega
  clear ho hoa hoo hon hd hda hdo hdn how hdw hlen
  have HB : Hid (Blk (w.alloc (.cells #[.int .i64 8, .int .u64 num, .int .i64 node, .string key, .bool was, .string old, .int .u64 prev, .slice na nn nc, .slice ra rn rc, .slice ga gn gc, .slice oa om oc, .slice da dn dc] 31)) w.heap.size #[.int .i64 8, .int .u64 num, .int .i64 node, .string key, .bool was, .string old, .int .u64 prev, .slice na nn nc, .slice ra rn rc, .slice ga gn gc, .slice oa om oc, .slice da dn dc] 31) := Blk.new _ _ _
  have HY : Hid (Below w.heap.size w (w.alloc (.cells #[.int .i64 8, .int .u64 num, .int .i64 node, .string key, .bool was, .string old, .int .u64 prev, .slice na nn nc, .slice ra rn rc, .slice ga gn gc, .slice oa om oc, .slice da dn dc] 31))) := (Below.refl _ _).alloc (Nat.le_refl _) _
  go_enter Tryz.func11, Tryz.ntmps11
  go_upto_region 1 with fail
  generalize (w.alloc (.cells #[.int .i64 8, .int .u64 num, .int .i64 node, .string key, .bool was, .string old, .int .u64 prev, .slice na nn nc, .slice ra rn rc, .slice ga gn gc, .slice oa om oc, .slice da dn dc] 31)) = w0 at *
  have z0 : w0.cell? ⟨w.heap.size, 0, none⟩ = some (.int .i64 8) := HB.out.cell 0
  have z1 : w0.cell? ⟨w.heap.size, 1, none⟩ = some (.int .u64 num) := HB.out.cell 1
  have z2 : w0.cell? ⟨w.heap.size, 2, none⟩ = some (.int .i64 node) := HB.out.cell 2
  have HSB : Hid (Src (w0.alloc (.cells #[.int .u8 8] 5)) (.slice (some ⟨w0.heap.size, 0, none⟩) 1 1) [8]) := Blk.src (l := [8]) (k := 1) (c := 1) (Blk.new _ _ _) (by decide) (by decide) (by unfold maxLen; omega)
  have HBB : Hid (Blk (w0.alloc (.cells #[.int .u8 8] 5)) w.heap.size #[.int .i64 8, .int .u64 num, .int .i64 node, .string key, .bool was, .string old, .int .u64 prev, .slice na nn nc, .slice ra rn rc, .slice ga gn gc, .slice oa om oc, .slice da dn dc] 31) := HB.out.alloc _
  have HYB : Hid (Below w.heap.size w (w0.alloc (.cells #[.int .u8 8] 5))) := HY.out.alloc HY.out.size _
  have x1 : (w0.alloc (.cells #[.int .u8 8] 5)).cell? ⟨w.heap.size, 1, none⟩ = some (.int .u64 num) := HBB.out.cell 1
  have x2 : (w0.alloc (.cells #[.int .u8 8] 5)).cell? ⟨w.heap.size, 2, none⟩ = some (.int .i64 node) := HBB.out.cell 2
  go_wp2_with fail
  refine (tidP _ _ num node _ HSB.out hnum.1 hnum.2 (by decide)).mono ?_
  rintro e w1 ⟨v1, rfl, hs, y⟩
  have HS : Hid (Src w1 v1 ([8] ++ tidB num node)) := hs
  have HB1 : Hid (Blk w1 w.heap.size #[.int .i64 8, .int .u64 num, .int .i64 node, .string key, .bool was, .string old, .int .u64 prev, .slice na nn nc, .slice ra rn rc, .slice ga gn gc, .slice oa om oc, .slice da dn dc] 31) := Blk.of HBB.out (y.block _ HBB.out.lt)
  have HY1 : Hid (Below w.heap.size w w1) := ext_trans HYB.out y
  clear hs y HB HY HSB HBB HYB z0 z1 z2 x1 x2
  have HB := HB1
  have HY := HY1
  clear HB1 HY1
  have z0 : w1.cell? ⟨w.heap.size, 0, none⟩ = some (.int .i64 8) := HB.out.cell 0
  have z10 : w1.cell? ⟨w.heap.size, 10, none⟩ = some (.slice oa om oc) := HB.out.cell 10
  go_wp2_with fail
  refine (num_put _ _ om w1 HS.out (by omega) (by have := HLEN.out; simp only [List.length_append] at this ⊢; omega)).mono ?_
  rintro e y1 ⟨v1, rfl, hs, y⟩
  have HS' : Hid (Src y1 v1 ([8] ++ tidB num node ++ enc om)) := by show Src _ _ _; simpa only [List.append_assoc] using hs
  have HB' : Hid (Blk y1 w.heap.size #[.int .i64 8, .int .u64 num, .int .i64 node, .string key, .bool was, .string old, .int .u64 prev, .slice na nn nc, .slice ra rn rc, .slice ga gn gc, .slice oa om oc, .slice da dn dc] 31) := Blk.of HB.out (y.block _ HB.out.lt)
  have HY' : Hid (Below w.heap.size w y1) := ext_trans HY.out y
  clear hs y HS HB HY z0 z10
  have HS := HS'
  have HB := HB'
  have HY := HY'
  clear HS' HB' HY'
  have HWF := HOW
  have HS0 : Hid (Src y1 v1 ([8] ++ tidB num node ++ partB openB os 0)) := by show Src _ _ _; unfold partB; rw [List.take_zero, List.map_nil, List.flatten_nil, List.append_nil, ← HO.out.len.1]; exact HS.out
  have z10 : y1.cell? ⟨w.heap.size, 10, none⟩ = some (.slice oa om oc) := HB.out.cell 10
  go_wp2
  clear z10
  go_loopw [3, 97] (fun v i wr => ∃ k : Nat, i = .int .i64 (k : Int) ∧ k ≤ om ∧ Src wr v ([8] ++ tidB num node ++ partB openB os k) ∧ Below w.heap.size w wr ∧ Blk wr w.heap.size #[.int .i64 8, .int .u64 num, .int .i64 node, .string key, .bool was, .string old, .int .u64 prev, .slice na nn nc, .slice ra rn rc, .slice ga gn gc, .slice oa om oc, .slice da dn dc] 31) (fun _ i _ => om - (intOf i).toNat)
  case atStart => exact ⟨0, rfl, Nat.zero_le _, HS0.out, HY.out, HB.out⟩
  case round =>
    obtain ⟨k, rfl, hk, hs, y, hb⟩ := hrel
    clear HY HB HS HS0
    have HY : Hid (Below w.heap.size w wr) := y
    have HB : Hid (Blk wr w.heap.size #[.int .i64 8, .int .u64 num, .int .i64 node, .string key, .bool was, .string old, .int .u64 prev, .slice na nn nc, .slice ra rn rc, .slice ga gn gc, .slice oa om oc, .slice da dn dc] 31) := hb
    have HS : Hid (Src wr _ ([8] ++ tidB num node ++ partB openB os k)) := hs
    clear y hb hs
    obtain ⟨vo, vc, hvk⟩ := HS.out.form
    subst hvk
    by_cases hlt : k < om
    · have hkl : k < os.length := by rw [← HO.out.len.1]; exact hlt
      have hi2 : (k : Int) < (om : Int) := by omega
      obtain ⟨ad, had⟩ := RowsN.adr HO.out (by omega)
      subst had
      have HH : Hid (RowsN wr 7 _ (.slice (some ad) _ _) os) := HO.out.below HY.out
      have e0 : wr.cell? (ad.add (k * 7)) = some _ := HH.out.at0 hkl rfl
      have e1 : wr.cell? ⟨(ad.add (k * 7)).block, (ad.add (k * 7)).off + 1, none⟩ = some _ := HH.out.atS hkl 0 rfl
      have e2 : wr.cell? ⟨(ad.add (k * 7)).block, (ad.add (k * 7)).off + 2, none⟩ = some _ := HH.out.atS hkl 1 rfl
      have e3 : wr.cell? ⟨(ad.add (k * 7)).block, (ad.add (k * 7)).off + 3, none⟩ = some _ := HH.out.atS hkl 2 rfl
      have e4 : wr.cell? ⟨(ad.add (k * 7)).block, (ad.add (k * 7)).off + 4, none⟩ = some _ := HH.out.atS hkl 3 rfl
      have e5 : wr.cell? ⟨(ad.add (k * 7)).block, (ad.add (k * 7)).off + 5, none⟩ = some _ := HH.out.atS hkl 4 rfl
      have e6 : wr.cell? ⟨(ad.add (k * 7)).block, (ad.add (k * 7)).off + 6, none⟩ = some _ := HH.out.atS hkl 5 rfl
      have HST : Hid (partB openB os (k + 1) = partB openB os k ++ openB os[k]) := all_take openB hkl
      have HTOT : Hid (([8] ++ tidB num node ++ (partB openB os k ++ openB os[k])).length < 100000000) := by
        have h1 := all_le openB os (k + 1)
        have h2 := HLEN.out
        rw [HST.out] at h1
        show _ < _
        simp only [List.length_append] at h1 h2 ⊢
        omega
      have HQA : Hid (os[k].At w) := HOA.out _ (List.getElem_mem hkl)
      have HOK : Hid (_ = true) := HOO.out _ (List.getElem_mem hkl)
      have HQW := HWF.out os[k] (List.getElem_mem hkl)
      generalize os[k] = q at *
      obtain ⟨PK, hPK⟩ : ∃ l, l = partB openB os k := ⟨_, rfl⟩
      rw [← hPK] at HS HTOT HST ⊢
      clear hPK
      obtain ⟨vn, hvn⟩ : ∃ y, y = ([8] ++ tidB num node ++ PK).length := ⟨_, rfl⟩
      rw [← hvn] at HS ⊢
      clear hvn
      have y : Below wr.heap.size wr (wr.alloc (.cells #[.int .u64 q.num, .int .i64 q.node, .int .u64 q.last, .int .u64 q.first, .int .i64 q.count, .bool q.ready, .slice q.ra q.rn q.rc] 45)) := below_allocR _
      have HY' : Hid (Below w.heap.size w (wr.alloc (.cells #[.int .u64 q.num, .int .i64 q.node, .int .u64 q.last, .int .u64 q.first, .int .i64 q.count, .bool q.ready, .slice q.ra q.rn q.rc] 45))) := HY.out.alloc HY.out.size _
      have HB' : Hid (Blk (wr.alloc (.cells #[.int .u64 q.num, .int .i64 q.node, .int .u64 q.last, .int .u64 q.first, .int .i64 q.count, .bool q.ready, .slice q.ra q.rn q.rc] 45)) w.heap.size #[.int .i64 8, .int .u64 num, .int .i64 node, .string key, .bool was, .string old, .int .u64 prev, .slice na nn nc, .slice ra rn rc, .slice ga gn gc, .slice (some ad) om oc, .slice da dn dc] 31) := HB.out.alloc _
      have HS' : Hid (Src (wr.alloc (.cells #[.int .u64 q.num, .int .i64 q.node, .int .u64 q.last, .int .u64 q.first, .int .i64 q.count, .bool q.ready, .slice q.ra q.rn q.rc] 45)) _ ([8] ++ tidB num node ++ PK)) := HS.out.below y
      have HQ : Hid (Blk (wr.alloc (.cells #[.int .u64 q.num, .int .i64 q.node, .int .u64 q.last, .int .u64 q.first, .int .i64 q.count, .bool q.ready, .slice q.ra q.rn q.rc] 45)) wr.heap.size #[.int .u64 q.num, .int .i64 q.node, .int .u64 q.last, .int .u64 q.first, .int .i64 q.count, .bool q.ready, .slice q.ra q.rn q.rc] 45) := Blk.new _ _ _
      go_upto_region 25 with fail
      clear e0 e1 e2 e3 e4 e5 e6 HH HY HB HS y
      generalize (wr.alloc (.cells #[.int .u64 q.num, .int .i64 q.node, .int .u64 q.last, .int .u64 q.first, .int .i64 q.count, .bool q.ready, .slice q.ra q.rn q.rc] 45)) = y0 at *
      obtain ⟨b, hbb⟩ : ∃ b, wr.heap.size = b := ⟨_, rfl⟩
      rw [hbb] at HQ ⊢
      clear hbb
      have HS := HS'
      have HB := HB'
      have HY := HY'
      clear HS' HB' HY'
      obtain ⟨hp1, hp2⟩ := open_parts HOK.out
      obtain ⟨hq1, hq2, hq3⟩ := HQW
      have hwx := wrap_small hp1.2.2.1 (by omega)
      have u0 : y0.cell? ⟨b, 0, none⟩ = some (.int .u64 q.num) := HQ.out.cell 0
      have u1 : y0.cell? ⟨b, 1, none⟩ = some (.int .i64 q.node) := HQ.out.cell 1
      go_wp2_with fail
      refine (tidP _ _ q.num q.node y0 HS.out hq1.1 hq1.2 (by have := HTOT.out; unfold openB at this; simp only [List.length_append] at this ⊢; omega)).mono ?_
      rintro e y2 ⟨v2, rfl, hs, y⟩
      have HS' : Hid (Src y2 v2 ([8] ++ tidB num node ++ PK ++ (tidB q.num q.node))) := by show Src _ _ _; simpa only [List.append_assoc] using hs
      have HB' : Hid (Blk y2 w.heap.size #[.int .i64 8, .int .u64 num, .int .i64 node, .string key, .bool was, .string old, .int .u64 prev, .slice na nn nc, .slice ra rn rc, .slice ga gn gc, .slice (some ad) om oc, .slice da dn dc] 31) := Blk.of HB.out (y.block _ HB.out.lt)
      have HY' : Hid (Below w.heap.size w y2) := ext_trans HY.out y
      have HQ' : Hid (Blk y2 b #[.int .u64 q.num, .int .i64 q.node, .int .u64 q.last, .int .u64 q.first, .int .i64 q.count, .bool q.ready, .slice q.ra q.rn q.rc] 45) := Blk.of HQ.out (y.block _ HQ.out.lt)
      clear hs y HS HB HY HQ u0 u1
      have HS := HS'
      have HB := HB'
      have HY := HY'
      have HQ := HQ'
      clear HS' HB' HY' HQ'
      have u2 : y2.cell? ⟨b, 2, none⟩ = some (.int .u64 q.last) := HQ.out.cell 2
      go_wp2_with fail
      refine (putP _ _ q.last y2 HS.out hq2.1 hq2.2 (by have := HTOT.out; unfold openB at this; simp only [List.length_append] at this ⊢; omega)).mono ?_
      rintro e y3 ⟨v3, rfl, hs, y⟩
      have HS' : Hid (Src y3 v3 ([8] ++ tidB num node ++ PK ++ (tidB q.num q.node ++ (intB q.last)))) := by show Src _ _ _; simpa only [List.append_assoc] using hs
      have HB' : Hid (Blk y3 w.heap.size #[.int .i64 8, .int .u64 num, .int .i64 node, .string key, .bool was, .string old, .int .u64 prev, .slice na nn nc, .slice ra rn rc, .slice ga gn gc, .slice (some ad) om oc, .slice da dn dc] 31) := Blk.of HB.out (y.block _ HB.out.lt)
      have HY' : Hid (Below w.heap.size w y3) := ext_trans HY.out y
      have HQ' : Hid (Blk y3 b #[.int .u64 q.num, .int .i64 q.node, .int .u64 q.last, .int .u64 q.first, .int .i64 q.count, .bool q.ready, .slice q.ra q.rn q.rc] 45) := Blk.of HQ.out (y.block _ HQ.out.lt)
      clear hs y HS HB HY HQ u2
      have HS := HS'
      have HB := HB'
      have HY := HY'
      have HQ := HQ'
      clear HS' HB' HY' HQ'
      have u3 : y3.cell? ⟨b, 3, none⟩ = some (.int .u64 q.first) := HQ.out.cell 3
      go_wp2_with fail
      refine (putP _ _ q.first y3 HS.out hq3.1 hq3.2 (by have := HTOT.out; unfold openB at this; simp only [List.length_append] at this ⊢; omega)).mono ?_
      rintro e y4 ⟨v4, rfl, hs, y⟩
      have HS' : Hid (Src y4 v4 ([8] ++ tidB num node ++ PK ++ (tidB q.num q.node ++ (intB q.last ++ (intB q.first))))) := by show Src _ _ _; simpa only [List.append_assoc] using hs
      have HB' : Hid (Blk y4 w.heap.size #[.int .i64 8, .int .u64 num, .int .i64 node, .string key, .bool was, .string old, .int .u64 prev, .slice na nn nc, .slice ra rn rc, .slice ga gn gc, .slice (some ad) om oc, .slice da dn dc] 31) := Blk.of HB.out (y.block _ HB.out.lt)
      have HY' : Hid (Below w.heap.size w y4) := ext_trans HY.out y
      have HQ' : Hid (Blk y4 b #[.int .u64 q.num, .int .i64 q.node, .int .u64 q.last, .int .u64 q.first, .int .i64 q.count, .bool q.ready, .slice q.ra q.rn q.rc] 45) := Blk.of HQ.out (y.block _ HQ.out.lt)
      clear hs y HS HB HY HQ u3
      have HS := HS'
      have HB := HB'
      have HY := HY'
      have HQ := HQ'
      clear HS' HB' HY' HQ'
      have u4 : y4.cell? ⟨b, 4, none⟩ = some (.int .i64 q.count) := HQ.out.cell 4
      go_wp2_with fail
      refine (putP _ _ q.count y4 HS.out hp1.2.2.1 (by omega) (by have := HTOT.out; unfold openB at this; simp only [List.length_append] at this ⊢; omega)).mono ?_
      rintro e y5 ⟨v5, rfl, hs, y⟩
      have HS' : Hid (Src y5 v5 ([8] ++ tidB num node ++ PK ++ (tidB q.num q.node ++ (intB q.last ++ (intB q.first ++ (intB q.count)))))) := by show Src _ _ _; simpa only [List.append_assoc] using hs
      have HB' : Hid (Blk y5 w.heap.size #[.int .i64 8, .int .u64 num, .int .i64 node, .string key, .bool was, .string old, .int .u64 prev, .slice na nn nc, .slice ra rn rc, .slice ga gn gc, .slice (some ad) om oc, .slice da dn dc] 31) := Blk.of HB.out (y.block _ HB.out.lt)
      have HY' : Hid (Below w.heap.size w y5) := ext_trans HY.out y
      have HQ' : Hid (Blk y5 b #[.int .u64 q.num, .int .i64 q.node, .int .u64 q.last, .int .u64 q.first, .int .i64 q.count, .bool q.ready, .slice q.ra q.rn q.rc] 45) := Blk.of HQ.out (y.block _ HQ.out.lt)
      clear hs y HS HB HY HQ u4
      have HS := HS'
      have HB := HB'
      have HY := HY'
      have HQ := HQ'
      clear HS' HB' HY' HQ'
      have u5 : y5.cell? ⟨b, 5, none⟩ = some (.bool q.ready) := HQ.out.cell 5
      go_wp2_with fail
      refine (flag11_any q.ready y5).mono ?_
      rintro e wf ⟨rfl, hwf⟩
      subst hwf
      clear u5
      have hfl : flagN q.ready < 18446744073709551616 := by unfold flagN; split <;> omega
      go_wp2_with fail
      refine (num_put _ _ (flagN q.ready) wf HS.out hfl (by have := HTOT.out; unfold openB at this; simp only [List.length_append] at this ⊢; omega)).mono ?_
      rintro e y7 ⟨v7, rfl, hs, y⟩
      have HS' : Hid (Src y7 v7 ([8] ++ tidB num node ++ PK ++ (tidB q.num q.node ++ (intB q.last ++ (intB q.first ++ (intB q.count ++ (enc (flagN q.ready)))))))) := by show Src _ _ _; simpa only [List.append_assoc] using hs
      have HB' : Hid (Blk y7 w.heap.size #[.int .i64 8, .int .u64 num, .int .i64 node, .string key, .bool was, .string old, .int .u64 prev, .slice na nn nc, .slice ra rn rc, .slice ga gn gc, .slice (some ad) om oc, .slice da dn dc] 31) := Blk.of HB.out (y.block _ HB.out.lt)
      have HY' : Hid (Below w.heap.size w y7) := ext_trans HY.out y
      have HQ' : Hid (Blk y7 b #[.int .u64 q.num, .int .i64 q.node, .int .u64 q.last, .int .u64 q.first, .int .i64 q.count, .bool q.ready, .slice q.ra q.rn q.rc] 45) := Blk.of HQ.out (y.block _ HQ.out.lt)
      clear hs y HS HB HY HQ
      have HS := HS'
      have HB := HB'
      have HY := HY'
      have HQ := HQ'
      clear HS' HB' HY' HQ'
      have u6 : y7.cell? ⟨b, 6, none⟩ = some (.slice q.ra q.rn q.rc) := HQ.out.cell 6
      go_wp2_with fail
      refine (texts11_any _ _ _ q.rs y7 HS.out (HQA.out.below HY.out).rd (by have := HTOT.out; unfold openB at this; simp only [List.length_append] at this ⊢; omega) (by have := (reads_bounds hp2).1; omega)).mono ?_
      rintro e y8 ⟨v8, rfl, hs, y⟩
      have HS' : Hid (Src y8 v8 ([8] ++ tidB num node ++ PK ++ (tidB q.num q.node ++ (intB q.last ++ (intB q.first ++ (intB q.count ++ (enc (flagN q.ready) ++ (allB8 textB q.rs)))))))) := by show Src _ _ _; simpa only [List.append_assoc] using hs
      have HB' : Hid (Blk y8 w.heap.size #[.int .i64 8, .int .u64 num, .int .i64 node, .string key, .bool was, .string old, .int .u64 prev, .slice na nn nc, .slice ra rn rc, .slice ga gn gc, .slice (some ad) om oc, .slice da dn dc] 31) := Blk.of HB.out (y.block _ HB.out.lt)
      have HY' : Hid (Below w.heap.size w y8) := ext_trans HY.out y
      have HQ' : Hid (Blk y8 b #[.int .u64 q.num, .int .i64 q.node, .int .u64 q.last, .int .u64 q.first, .int .i64 q.count, .bool q.ready, .slice q.ra q.rn q.rc] 45) := Blk.of HQ.out (y.block _ HQ.out.lt)
      clear hs y HS HB HY HQ u6
      have HS := HS'
      have HB := HB'
      have HY := HY'
      have HQ := HQ'
      clear HS' HB' HY' HQ'
      clear hp1 hp2 hq1 hq2 hq3 hwx hfl
      go_wp2
      go_roundw
      case rel => exact ⟨k + 1, by go_num, hlt, by rw [HST.out]; simpa only [List.append_assoc, openB] using HS.out, HY.out, HB.out⟩
      case measure => simp [intOf]; omega
    · have hkn : k = os.length := by rw [← HO.out.len.1]; omega
      have HE : Hid (partB openB os k = allB8 openB os) := by show _ = _; rw [hkn]; unfold partB allB8; rw [List.take_length]
      obtain ⟨vn2, hvn2⟩ : ∃ y, y = ([8] ++ tidB num node ++ partB openB os k).length := ⟨_, rfl⟩
      rw [← hvn2] at HS ⊢
      rw [HE.out] at HS
      clear hkn hk hvn2 HE
      rename World => wz
      clear HWF
      have HWF := HDW
      have z11 : wz.cell? ⟨w.heap.size, 11, none⟩ = some (.slice da dn dc) := HB.out.cell 11
      go_wp2_with fail
      refine (num_put _ _ dn wz HS.out (by omega) (by have := HLEN.out; simp only [List.length_append] at this ⊢; omega)).mono ?_
      rintro e y9 ⟨v9, rfl, hs, y⟩
      have HS' : Hid (Src y9 v9 ([8] ++ tidB num node ++ allB8 openB os ++ enc dn)) := by show Src _ _ _; simpa only [List.append_assoc] using hs
      have HB' : Hid (Blk y9 w.heap.size #[.int .i64 8, .int .u64 num, .int .i64 node, .string key, .bool was, .string old, .int .u64 prev, .slice na nn nc, .slice ra rn rc, .slice ga gn gc, .slice oa om oc, .slice da dn dc] 31) := Blk.of HB.out (y.block _ HB.out.lt)
      have HY' : Hid (Below w.heap.size w y9) := ext_trans HY.out y
      clear hs y HS HB HY z11
      have HS := HS'
      have HB := HB'
      have HY := HY'
      clear HS' HB' HY'
      have HS0 : Hid (Src y9 v9 ([8] ++ tidB num node ++ allB8 openB os ++ partB doneB ds 0)) := by show Src _ _ _; unfold partB; rw [List.take_zero, List.map_nil, List.flatten_nil, List.append_nil, ← HD.out.len.1]; exact HS.out
      have z11 : y9.cell? ⟨w.heap.size, 11, none⟩ = some (.slice da dn dc) := HB.out.cell 11
      go_wp2
      clear z11
      go_loopw [3, 137] (fun v i wr => ∃ k : Nat, i = .int .i64 (k : Int) ∧ k ≤ dn ∧ Src wr v ([8] ++ tidB num node ++ allB8 openB os ++ partB doneB ds k) ∧ Below w.heap.size w wr ∧ Blk wr w.heap.size #[.int .i64 8, .int .u64 num, .int .i64 node, .string key, .bool was, .string old, .int .u64 prev, .slice na nn nc, .slice ra rn rc, .slice ga gn gc, .slice oa om oc, .slice da dn dc] 31) (fun _ i _ => dn - (intOf i).toNat)
      case atStart => exact ⟨0, rfl, Nat.zero_le _, HS0.out, HY.out, HB.out⟩
      case round =>
        obtain ⟨k, rfl, hk, hs, y, hb⟩ := hrel
        clear HY HB HS HS0
        have HY : Hid (Below w.heap.size w wr) := y
        have HB : Hid (Blk wr w.heap.size #[.int .i64 8, .int .u64 num, .int .i64 node, .string key, .bool was, .string old, .int .u64 prev, .slice na nn nc, .slice ra rn rc, .slice ga gn gc, .slice oa om oc, .slice da dn dc] 31) := hb
        have HS : Hid (Src wr _ ([8] ++ tidB num node ++ allB8 openB os ++ partB doneB ds k)) := hs
        clear y hb hs
        obtain ⟨vo, vc, hvk⟩ := HS.out.form
        subst hvk
        by_cases hlt : k < dn
        · have hkl : k < ds.length := by rw [← HD.out.len.1]; exact hlt
          have hi2 : (k : Int) < (dn : Int) := by omega
          obtain ⟨ad, had⟩ := RowsN.adr HD.out (by omega)
          subst had
          have HH : Hid (RowsN wr 3 _ (.slice (some ad) _ _) ds) := HD.out.below HY.out
          have e0 : wr.cell? (ad.add (k * 3)) = some _ := HH.out.at0 hkl rfl
          have e1 : wr.cell? ⟨(ad.add (k * 3)).block, (ad.add (k * 3)).off + 1, none⟩ = some _ := HH.out.atS hkl 0 rfl
          have e2 : wr.cell? ⟨(ad.add (k * 3)).block, (ad.add (k * 3)).off + 2, none⟩ = some _ := HH.out.atS hkl 1 rfl
          have HST : Hid (partB doneB ds (k + 1) = partB doneB ds k ++ doneB ds[k]) := all_take doneB hkl
          have HTOT : Hid (([8] ++ tidB num node ++ allB8 openB os ++ (partB doneB ds k ++ doneB ds[k])).length < 100000000) := by
            have h1 := all_le doneB ds (k + 1)
            have h2 := HLEN.out
            rw [HST.out] at h1
            show _ < _
            simp only [List.length_append] at h1 h2 ⊢
            omega
          have HQA : Hid (ds[k].At w) := HDA.out _ (List.getElem_mem hkl)
          have HOK : Hid (_ = true) := HDO.out _ (List.getElem_mem hkl)
          have HQW := HWF.out ds[k] (List.getElem_mem hkl)
          generalize ds[k] = q at *
          obtain ⟨PK, hPK⟩ : ∃ l, l = partB doneB ds k := ⟨_, rfl⟩
          rw [← hPK] at HS HTOT HST ⊢
          clear hPK
          obtain ⟨vn, hvn⟩ : ∃ y, y = ([8] ++ tidB num node ++ allB8 openB os ++ PK).length := ⟨_, rfl⟩
          rw [← hvn] at HS ⊢
          clear hvn
          have y : Below wr.heap.size wr (wr.alloc (.cells #[.int .u64 q.num, .int .i64 q.node, .slice q.na q.nn q.nc] 51)) := below_allocR _
          have HY' : Hid (Below w.heap.size w (wr.alloc (.cells #[.int .u64 q.num, .int .i64 q.node, .slice q.na q.nn q.nc] 51))) := HY.out.alloc HY.out.size _
          have HB' : Hid (Blk (wr.alloc (.cells #[.int .u64 q.num, .int .i64 q.node, .slice q.na q.nn q.nc] 51)) w.heap.size #[.int .i64 8, .int .u64 num, .int .i64 node, .string key, .bool was, .string old, .int .u64 prev, .slice na nn nc, .slice ra rn rc, .slice ga gn gc, .slice oa om oc, .slice (some ad) dn dc] 31) := HB.out.alloc _
          have HS' : Hid (Src (wr.alloc (.cells #[.int .u64 q.num, .int .i64 q.node, .slice q.na q.nn q.nc] 51)) _ ([8] ++ tidB num node ++ allB8 openB os ++ PK)) := HS.out.below y
          have HQ : Hid (Blk (wr.alloc (.cells #[.int .u64 q.num, .int .i64 q.node, .slice q.na q.nn q.nc] 51)) wr.heap.size #[.int .u64 q.num, .int .i64 q.node, .slice q.na q.nn q.nc] 51) := Blk.new _ _ _
          go_upto_region 36 with fail
          clear e0 e1 e2 HH HY HB HS y
          generalize (wr.alloc (.cells #[.int .u64 q.num, .int .i64 q.node, .slice q.na q.nn q.nc] 51)) = y0 at *
          obtain ⟨b, hbb⟩ : ∃ b, wr.heap.size = b := ⟨_, rfl⟩
          rw [hbb] at HQ ⊢
          clear hbb
          have HS := HS'
          have HB := HB'
          have HY := HY'
          clear HS' HB' HY'
          have u0 : y0.cell? ⟨b, 0, none⟩ = some (.int .u64 q.num) := HQ.out.cell 0
          have u1 : y0.cell? ⟨b, 1, none⟩ = some (.int .i64 q.node) := HQ.out.cell 1
          go_wp2_with fail
          refine (tidP _ _ q.num q.node y0 HS.out HQW.1 HQW.2 (by have := HTOT.out; unfold doneB at this; simp only [List.length_append] at this ⊢; omega)).mono ?_
          rintro e y10 ⟨v10, rfl, hs, y⟩
          have HS' : Hid (Src y10 v10 ([8] ++ tidB num node ++ allB8 openB os ++ PK ++ (tidB q.num q.node))) := by show Src _ _ _; simpa only [List.append_assoc] using hs
          have HB' : Hid (Blk y10 w.heap.size #[.int .i64 8, .int .u64 num, .int .i64 node, .string key, .bool was, .string old, .int .u64 prev, .slice na nn nc, .slice ra rn rc, .slice ga gn gc, .slice oa om oc, .slice (some ad) dn dc] 31) := Blk.of HB.out (y.block _ HB.out.lt)
          have HY' : Hid (Below w.heap.size w y10) := ext_trans HY.out y
          have HQ' : Hid (Blk y10 b #[.int .u64 q.num, .int .i64 q.node, .slice q.na q.nn q.nc] 51) := Blk.of HQ.out (y.block _ HQ.out.lt)
          clear hs y HS HB HY HQ u0 u1
          have HS := HS'
          have HB := HB'
          have HY := HY'
          have HQ := HQ'
          clear HS' HB' HY' HQ'
          have u2 : y10.cell? ⟨b, 2, none⟩ = some (.slice q.na q.nn q.nc) := HQ.out.cell 2
          go_wp2_with fail
          refine (list11_any _ _ _ q.ns y10 HS.out (HQA.out.below HY.out).rd (by have := HTOT.out; unfold doneB at this; simp only [List.length_append] at this ⊢; omega) (by have := (nodes_bounds (done_parts HOK.out)).1; omega) (nodes_bounds (done_parts HOK.out)).2).mono ?_
          rintro e y11 ⟨v11, rfl, hs, y⟩
          have HS' : Hid (Src y11 v11 ([8] ++ tidB num node ++ allB8 openB os ++ PK ++ (tidB q.num q.node ++ allB8 intB q.ns))) := by show Src _ _ _; simpa only [List.append_assoc] using hs
          have HB' : Hid (Blk y11 w.heap.size #[.int .i64 8, .int .u64 num, .int .i64 node, .string key, .bool was, .string old, .int .u64 prev, .slice na nn nc, .slice ra rn rc, .slice ga gn gc, .slice oa om oc, .slice (some ad) dn dc] 31) := Blk.of HB.out (y.block _ HB.out.lt)
          have HY' : Hid (Below w.heap.size w y11) := ext_trans HY.out y
          have HQ' : Hid (Blk y11 b #[.int .u64 q.num, .int .i64 q.node, .slice q.na q.nn q.nc] 51) := Blk.of HQ.out (y.block _ HQ.out.lt)
          clear hs y HS HB HY HQ u2
          have HS := HS'
          have HB := HB'
          have HY := HY'
          have HQ := HQ'
          clear HS' HB' HY' HQ'
          go_wp2
          go_roundw
          case rel => exact ⟨k + 1, by go_num, hlt, by rw [HST.out]; simpa only [List.append_assoc, doneB] using HS.out, HY.out, HB.out⟩
          case measure => simp [intOf]; omega
        · have hkn : k = ds.length := by rw [← HD.out.len.1]; omega
          have HE : Hid (partB doneB ds k = allB8 doneB ds) := by show _ = _; rw [hkn]; unfold partB allB8; rw [List.take_length]
          obtain ⟨vn2, hvn2⟩ : ∃ y, y = ([8] ++ tidB num node ++ allB8 openB os ++ partB doneB ds k).length := ⟨_, rfl⟩
          rw [← hvn2] at HS ⊢
          rw [HE.out] at HS
          clear hkn hk hvn2 HE
          rename World => wy
          go_wp2
          go_ret
          refine ⟨_, rfl, ?_, HY.out⟩
          show Src _ (.slice vo vn2 vc) _
          have HSF := HS.out
          simp only [List.append_assoc, List.cons_append, List.nil_append] at HSF ⊢
          exact HSF
end Go.Proofs.YtbgofajldkblmaaGreat
/- rec: the law's own bytes, of any right record. Own lemmas, no statement. -/
set_option linter.unusedSimpArgs false
set_option linter.unusedVariables false
namespace Go.Proofs.YtbgofajldkblmaaGreat
open Go.ChangeShapes Go.WideShapes Go.ChangeAt Go.RowKit

/-- What a right record's lists are. -/
structure Parts (x : RecV) : Prop where
  tid : tidOk x.num x.node = true
  gs : fitsB chgOk chgLt noChg 30 x.gs = true
  os : fitsB openOk openLt noOpen 200 x.os = true
  ds : fitsB doneOk doneLt noDone 200 x.ds = true
  rs : readsOk x.rs = true
  ns : nodesOk x.ns = true
  n3 : ¬ x.kind = 3 → x.rs = []
  n6 : ¬ x.kind = 6 → x.ns = []
  n8 : ¬ x.kind = 8 → x.os = [] ∧ x.ds = []
  n2 : ¬ x.kind = 1 → ¬ x.kind = 2 → x.prev = 0 ∧ x.gs = []
  n1 : ¬ x.kind = 1 → x.key = .empty ∧ x.was = false ∧ x.old = .empty
  p1 : x.kind = 1 → (1 ≤ x.key.size ∧ x.key.size ≤ 24) ∧ x.old.size ≤ 48 ∧ (x.was = true ∨ x.old.size = 0)
  pr : x.prev ≤ 4611686018427387904
  t8 : x.kind = 8 → x.num = 0 ∧ x.node = 0
theorem fits_nil {α : Type} {r : α → Bool} {a : α → α → Bool} {d : α} {m : Nat} : fitsB r a d m [] = true := by
  unfold fitsB
  simp [allB]
theorem right_lists {x : RecV} (h : rightRec x = true) : Parts x := by
  obtain ⟨hk, h3, h4, h5, h6, h7, h8, h9⟩ := right_all h
  refine ⟨?_, ?_, ?_, ?_, ?_, ?_, fun hn => ?_, fun hn => ?_, fun hn => ⟨?_, ?_⟩, fun hn hm => ?_, fun hn => ?_, fun hp => ?_, ?_, fun hp => ?_⟩
  · unfold rtTid at h3
    split at h3
    · simp only [Bool.and_eq_true, decide_eq_true_eq] at h3
      rw [h3.1, h3.2]
      rfl
    · exact h3
  · unfold rtTurn at h5
    split at h5
    · rw [Bool.and_eq_true] at h5
      exact h5.2
    · simp only [Bool.and_eq_true, decide_eq_true_eq] at h5
      rw [List.eq_nil_of_length_eq_zero h5.2]
      exact fits_nil
  · rcases or_empty h8 with e | e
    · rw [e]; exact fits_nil
    · exact e
  · rcases or_empty h9 with e | e
    · rw [e]; exact fits_nil
    · exact e
  · rcases or_empty h6 with e | e
    · rw [e]; exact fits_nil
    · exact e
  · rcases or_empty h7 with e | e
    · rw [e]; exact fits_nil
    · exact e
  · unfold rtReads at h6
    rw [decide_eq_false hn] at h6
    simpa using h6
  · unfold rtNodes at h7
    rw [decide_eq_false hn] at h7
    simpa using h7
  · unfold rtOpens at h8
    rw [decide_eq_false hn] at h8
    simpa using h8
  · unfold rtDones at h9
    rw [decide_eq_false hn] at h9
    simpa using h9
  · unfold rtTurn at h5
    rw [if_neg (by omega)] at h5
    simp only [Bool.and_eq_true, decide_eq_true_eq] at h5
    exact ⟨h5.1, List.eq_nil_of_length_eq_zero h5.2⟩
  · unfold rtOld at h4
    rw [if_neg hn] at h4
    simp only [Bool.and_eq_true] at h4
    exact ⟨empty_eq h4.1.1, by simpa using h4.1.2, empty_eq h4.2⟩
  · unfold rtOld at h4
    rw [if_pos hp] at h4
    simp only [Bool.and_eq_true, Bool.or_eq_true, decide_eq_true_eq] at h4
    refine ⟨?_, h4.1.2, ?_⟩
    · have h := h4.1.1
      unfold keyOk at h
      simpa only [Bool.and_eq_true, decide_eq_true_eq] using h
    · rcases h4.2 with h | h
      · exact .inl h
      · exact .inr (empty_size h)
  · unfold rtTurn at h5
    split at h5
    · rw [Bool.and_eq_true, decide_eq_true_eq] at h5
      exact h5.1
    · simp only [Bool.and_eq_true, decide_eq_true_eq] at h5
      omega
  · unfold rtTid at h3
    rw [if_pos hp] at h3
    simpa only [Bool.and_eq_true, decide_eq_true_eq] using h3
theorem lawBytes11_any (x : RecV) (w : World) (h : x.At w) (hw : x.Wf) (hr : rightRec x = true) : Calls Tryz.prog 11 #[.agg #[.int .i64 x.kind, .int .u64 x.num, .int .i64 x.node, .string x.key, .bool x.was, .string x.old, .int .u64 x.prev, .slice x.na x.nn x.nc, .slice x.ra x.rn x.rc, .slice x.ga x.gn x.gc, .slice x.oa x.om x.oc, .slice x.da x.dn x.dc]] w (BytesP w (recBytes x)) := by
  have hk := (right_all hr).1
  have P := right_lists hr
  have hlen : (recBytes x).length < 100000000 := by
    have h1 := (right_fit hr hw).2
    have a1 := enc_length x.kind.toNat
    have a2 := enc_length x.num.toNat
    have a3 := enc_length (uns x.node)
    unfold recBytes encHead
    simp only [List.length_append]
    omega
  have hgo := (fits_mem P.gs)
  have hoo := (fits_mem P.os)
  have hdo := (fits_mem P.ds)
  have hrn := reads_bounds P.rs
  have hnn := nodes_bounds P.ns
  rcases (show x.kind = 1 ∨ x.kind = 2 ∨ x.kind = 3 ∨ x.kind = 4 ∨ x.kind = 5 ∨ x.kind = 6 ∨ x.kind = 7 ∨ x.kind = 8 by omega) with k | k | k | k | k | k | k | k
  · have e : recBytes x = [1] ++ tidB x.num x.node ++ textB x.key ++ enc (flagN x.was) ++ textB x.old ++ intB x.prev ++ allB8 chgB x.gs := by
      unfold recBytes recB turnB encHead
      rw [if_pos k, k]
      simp only [List.append_assoc, tidB]
      rfl
    rw [e] at hlen ⊢
    rw [k]
    exact bytes11_1 _ _ _ _ _ _ _ _ _ _ _ _ _ _ _ _ _ _ _ _ _ x.ns x.rs x.gs x.os x.ds w hw.num hw.prev h.pages h.pagez hgo.2 (by omega) hlen
  · have e : recBytes x = [2] ++ tidB x.num x.node ++ intB x.prev ++ allB8 chgB x.gs := by
      unfold recBytes recB turnB encHead
      rw [if_neg (by omega), if_pos k, k]
      simp only [List.append_assoc, tidB]
      rfl
    rw [e] at hlen ⊢
    rw [k]
    exact bytes11_2 _ _ _ _ _ _ _ _ _ _ _ _ _ _ _ _ _ _ _ _ _ x.ns x.rs x.gs x.os x.ds w hw.num hw.prev h.pages h.pagez hgo.2 (by omega) hlen
  · have e : recBytes x = [3] ++ tidB x.num x.node ++ allB8 textB x.rs := by
      unfold recBytes recB turnB encHead
      rw [if_neg (by omega), if_neg (by omega), if_pos k, k]
      simp only [List.append_assoc, tidB]
      rfl
    rw [e] at hlen ⊢
    rw [k]
    exact bytes11_3 _ _ _ _ _ _ _ _ _ _ _ _ _ _ _ _ _ _ _ _ _ x.ns x.rs x.gs x.os x.ds w hw.num h.reads (by omega) hlen
  · have e : recBytes x = [4] ++ tidB x.num x.node := by
      unfold recBytes recB encHead
      rw [if_neg (by omega), if_neg (by omega), if_neg (by omega), if_neg (by omega), if_neg (by omega), k]
      simp only [List.append_assoc, tidB, List.append_nil]
      rfl
    rw [e] at hlen ⊢
    rw [k]
    exact bytes11_4 _ _ _ _ _ _ _ _ _ _ _ _ _ _ _ _ _ _ _ _ _ x.ns x.rs x.gs x.os x.ds w hw.num hlen
  · have e : recBytes x = [5] ++ tidB x.num x.node := by
      unfold recBytes recB encHead
      rw [if_neg (by omega), if_neg (by omega), if_neg (by omega), if_neg (by omega), if_neg (by omega), k]
      simp only [List.append_assoc, tidB, List.append_nil]
      rfl
    rw [e] at hlen ⊢
    rw [k]
    exact bytes11_5 _ _ _ _ _ _ _ _ _ _ _ _ _ _ _ _ _ _ _ _ _ x.ns x.rs x.gs x.os x.ds w hw.num hlen
  · have e : recBytes x = [6] ++ tidB x.num x.node ++ allB8 intB x.ns := by
      unfold recBytes recB encHead
      rw [if_neg (by omega), if_neg (by omega), if_neg (by omega), if_pos k, k]
      simp only [List.append_assoc, tidB]
      rfl
    rw [e] at hlen ⊢
    rw [k]
    exact bytes11_6 _ _ _ _ _ _ _ _ _ _ _ _ _ _ _ _ _ _ _ _ _ x.ns x.rs x.gs x.os x.ds w hw.num h.nodes (by omega) hnn.2 hlen
  · have e : recBytes x = [7] ++ tidB x.num x.node := by
      unfold recBytes recB encHead
      rw [if_neg (by omega), if_neg (by omega), if_neg (by omega), if_neg (by omega), if_neg (by omega), k]
      simp only [List.append_assoc, tidB, List.append_nil]
      rfl
    rw [e] at hlen ⊢
    rw [k]
    exact bytes11_7 _ _ _ _ _ _ _ _ _ _ _ _ _ _ _ _ _ _ _ _ _ x.ns x.rs x.gs x.os x.ds w hw.num hlen
  · have e : recBytes x = [8] ++ tidB x.num x.node ++ allB8 openB x.os ++ allB8 doneB x.ds := by
      unfold recBytes recB encHead
      rw [if_neg (by omega), if_neg (by omega), if_neg (by omega), if_neg (by omega), if_pos k, k]
      simp only [List.append_assoc, tidB]
      rfl
    rw [e] at hlen ⊢
    rw [k]
    exact bytes11_8 _ _ _ _ _ _ _ _ _ _ _ _ _ _ _ _ _ _ _ _ _ x.ns x.rs x.gs x.os x.ds w hw.num h.opens h.openz hoo.2 (by omega) h.dones h.donez hdo.2 (by omega) hw.os hw.ds hlen
end Go.Proofs.YtbgofajldkblmaaGreat
/- rec: what makes a record right, place by place. Own lemmas, no statement. -/
set_option linter.unusedSimpArgs false
set_option linter.unusedVariables false
namespace Go.Proofs.YtbgofajldkblmaaGreat
open Go.ChangeShapes Go.WideShapes Go.ChangeAt Go.RowKit

theorem rno {R : Bool} {P : Prop} (h : R = true → P) (hn : ¬ P) : R = false := by
  cases R with
  | false => rfl
  | true => exact absurd (h rfl) hn
theorem sz0 {s : ByteArray} (h : s = .empty) : s.size = 0 := by rw [h]; rfl
theorem emp0 {s : ByteArray} (h : s.size = 0) : s = .empty := by
  obtain ⟨d⟩ := s
  have : d.size = 0 := h
  have e : d = #[] := Array.eq_empty_of_size_eq_zero this
  rw [e]
  rfl
theorem empY : ByteArray.empty.toList.isEmpty = true := by kernel_rfl
theorem nil0 {α : Type} {l : List α} (h : l.length = 0) : l = [] := List.eq_nil_of_length_eq_zero h
theorem len0 {α : Type} {l : List α} (h : l = []) : l.length = 0 := by rw [h]; rfl
theorem fits0 {α : Type} {r : α → Bool} {a : α → α → Bool} {d : α} {m : Nat} {l : List α} (h : l.length = 0) : fitsB r a d m l = true := by
  rw [nil0 h]
  exact fits_nil
theorem tid_is (x y : Int) (b : Bool) (w : World) (h : tidOk x y = b) : Calls Tryz.prog 22 #[.agg #[.int .u64 x, .int .i64 y]] w (BoolP b w) := by
  have h1 := tid11_any x y w
  rw [h] at h1
  exact h1
theorem elder_is (x y x' y' : Int) (b : Bool) (w : World) (h : elderT x y x' y' = b) : Calls Tryz.prog 26 #[.agg #[.int .u64 x, .int .i64 y], .agg #[.int .u64 x', .int .i64 y']] w (BoolP b w) := by
  have h1 := elderT_any x y x' y' w
  rw [h] at h1
  exact h1
theorem page_is (p : Pg) (kv vv dv : Value) (b : Bool) (w : World) (hp : PgAt w p kv vv dv) (hok : p.Ok) (h : rightPg p = b) : Calls Tryz.prog 25 #[pgv p kv vv dv] w (BoolP b w) := by
  have h1 := right_any p kv vv dv w hp hok
  rw [h] at h1
  exact h1
theorem keys_is (u : Value) (ss : List ByteArray) (b : Bool) (w : World) (hu : Rd w u (sv ss)) (h : readsOk ss = b) : Calls Tryz.prog 24 #[u] w (BoolP b w) := by
  have h1 := keys_any u ss w hu
  rw [h] at h1
  exact h1
theorem rising_is (u : Value) (ns : List Int) (b : Bool) (w : World) (hu : Rd w u (iv ns)) (h : nodesOk ns = b) : Calls Tryz.prog 23 #[u] w (BoolP b w) := by
  have h1 := rising_any u ns w hu
  rw [h] at h1
  exact h1
theorem chg_no {q : ChgV} (h : q.n < 0 ∨ 65535 < q.n ∨ rightPg q.p = false) : chgOk q = false := by
  cases e : chgOk q with
  | false => rfl
  | true =>
    obtain ⟨⟨h1, h2⟩, h3⟩ := chg_parts e
    rcases h with h | h | h
    · omega
    · omega
    · rw [h3] at h; cases h
theorem chg_yes {q : ChgV} (h1 : ¬ q.n < 0) (h2 : ¬ 65535 < q.n) (h3 : rightPg q.p = true) : chgOk q = true := by
  unfold chgOk
  rw [decide_eq_true (show (0 : Int) ≤ q.n by omega), decide_eq_true (show q.n < 65536 by omega), h3]
  rfl
theorem open_tid {q : OpenV} (h : openOk q = true) : tidOk q.num q.node = true := by
  unfold openOk at h
  simp only [Bool.and_eq_true] at h
  exact h.1.1.1.1.1
theorem done_tid {q : DoneV} (h : doneOk q = true) : tidOk q.num q.node = true := by
  unfold doneOk at h
  rw [Bool.and_eq_true] at h
  exact h.1
theorem open_no {q : OpenV} (h : tidOk q.num q.node = false ∨ 4611686018427387904 < q.last ∨ 4611686018427387904 < q.first ∨ q.count < 0 ∨ 1073741824 < q.count ∨ readsOk q.rs = false) : openOk q = false := by
  cases e : openOk q with
  | false => rfl
  | true =>
    have h0 := open_tid e
    obtain ⟨h1, h2⟩ := open_parts e
    rcases h with h | h | h | h | h | h
    · rw [h0] at h; cases h
    · omega
    · omega
    · omega
    · omega
    · rw [h2] at h; cases h
theorem open_yes {q : OpenV} (h0 : tidOk q.num q.node = true) (h1 : ¬ 4611686018427387904 < q.last) (h2 : ¬ 4611686018427387904 < q.first) (h3 : ¬ q.count < 0) (h4 : ¬ 1073741824 < q.count) (h5 : readsOk q.rs = true) : openOk q = true := by
  unfold openOk
  rw [h0, h5, decide_eq_true (show q.last ≤ 4611686018427387904 by omega), decide_eq_true (show q.first ≤ 4611686018427387904 by omega), decide_eq_true (show (0 : Int) ≤ q.count by omega), decide_eq_true (show q.count ≤ 1073741824 by omega)]
  rfl
theorem done_no {q : DoneV} (h : tidOk q.num q.node = false ∨ nodesOk q.ns = false) : doneOk q = false := by
  cases e : doneOk q with
  | false => rfl
  | true =>
    rcases h with h | h
    · rw [done_tid e] at h; cases h
    · rw [done_parts e] at h; cases h
theorem done_yes {q : DoneV} (h0 : tidOk q.num q.node = true) (h1 : nodesOk q.ns = true) : doneOk q = true := by
  unfold doneOk
  rw [h0, h1]
  rfl
theorem parts_right {x : RecV} (h1 : 1 ≤ x.kind) (h8 : x.kind ≤ 8) (P : Parts x) : rightRec x = true := by
  have e1 : rtTid x = true := by
    unfold rtTid
    split
    · rename_i h
      rw [(P.t8 h).1, (P.t8 h).2]
      rfl
    · exact P.tid
  have e2 : rtOld x = true := by
    unfold rtOld
    split
    · rename_i h
      obtain ⟨p1, p2, p3⟩ := P.p1 h
      rw [(keyOk_iff _).2 p1, decide_eq_true p2]
      rcases p3 with p3 | p3
      · rw [p3]; rfl
      · rw [emp0 p3, empY]; cases x.was <;> rfl
    · rename_i h
      obtain ⟨p1, p2, p3⟩ := P.n1 h
      rw [p1, p2, p3, empY]
      rfl
  have e3 : rtTurn x = true := by
    unfold rtTurn
    split
    · rw [decide_eq_true P.pr, P.gs]; rfl
    · rename_i h
      obtain ⟨p1, p2⟩ := P.n2 (fun e => h (.inl e)) (fun e => h (.inr e))
      rw [p1, p2]
      rfl
  have e4 : rtReads x = true := by
    unfold rtReads
    by_cases h : x.kind = 3
    · rw [decide_eq_true h, P.rs]; simp
    · rw [P.n3 h]; rfl
  have e5 : rtNodes x = true := by
    unfold rtNodes
    by_cases h : x.kind = 6
    · rw [decide_eq_true h, P.ns]; simp
    · rw [P.n6 h]; rfl
  have e6 : rtOpens x = true := by
    unfold rtOpens
    by_cases h : x.kind = 8
    · rw [decide_eq_true h, P.os]; simp
    · rw [(P.n8 h).1]; rfl
  have e7 : rtDones x = true := by
    unfold rtDones
    by_cases h : x.kind = 8
    · rw [decide_eq_true h, P.ds]; simp
    · rw [(P.n8 h).2]; rfl
  unfold rightRec rtLists
  rw [decide_eq_true h1, decide_eq_true h8, e1, e2, e3, e4, e5, e6, e7]
  rfl
end Go.Proofs.YtbgofajldkblmaaGreat
