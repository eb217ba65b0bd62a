/- rec: the law's own rising and keys, of right ones. Own lemmas, no statement. -/
import Derived.Test.YthkmohcdgnldgaaGreatRec12
import Derived.Test.YthkmohcdgnldgaaGreatRec7
set_option linter.unusedSimpArgs false
set_option linter.unusedVariables false
namespace Go.Proofs.YthkmohcdgnldgaaGreat
open Go.ChangeShapes Go.WideShapes Go.ChangeAt Go.RowKit

def OkP (w : World) (e : Ending) (w' : World) : Prop := e = .returned (.bool true) ∧ Below w.heap.size w w'
theorem fits_at {α : Type} {r : α → Bool} {a : α → α → Bool} {d : α} {m : Nat} {l : List α} (h : fitsB r a d m l = true) {k : Nat} (hk : k < l.length) : r l[k] = true ∧ (∀ j (hj : j < l.length), k = j + 1 → a l[j] l[k] = true) := by
  unfold fitsB at h
  rw [Bool.and_eq_true, allB_iff] at h
  have h1 := h.2 k hk
  unfold fitAt at h1
  rw [Bool.and_eq_true, getD_of hk] at h1
  refine ⟨h1.1, fun j hj e => ?_⟩
  subst e
  rw [show j + 1 - 1 = j from rfl, getD_of hj, decide_eq_false (by omega), Bool.false_or] at h1
  exact h1.2
def lastN (ns : List Int) (k : Nat) : Int := if k = 0 then -1 else ns.getD (k - 1) 0
set_option maxRecDepth 100000 in
set_option maxHeartbeats 4000000 in
theorem rising_ok (u : Value) (ns : List Int) (w : World) (hu : Rd w u (iv ns)) (hn : nodesOk ns = true) : Calls Tryz.prog 23 #[u] w (OkP w) := by
  obtain ⟨un, uo, uc, rfl⟩ := hu.any2
  have hun : un = ns.length := by have := hu.at.1; rw [iv_length] at this; exact this
  have HN : Hid (un = ns.length) := hun
  have hub : un ≤ 64 := by have := (nodes_bounds hn).1; omega
  have HU : Hid (Rd w (.slice uo un uc) (iv ns)) := hu
  have HE : Hid (∀ k (hk : k < ns.length), lastN ns k < ns[k] ∧ ns[k] ≤ 63 ∧ lastN ns (k + 1) = ns[k]) := fun k hk => by
    obtain ⟨h1, h2⟩ := fits_at hn hk
    have h3 := nodeOk_bounds h1
    refine ⟨?_, by omega, ?_⟩
    · unfold lastN
      split
      · omega
      · rename_i h0
        rw [getD_of (show k - 1 < ns.length by omega)]
        have := h2 (k - 1) (by omega) (by omega)
        unfold ltI at this
        exact of_decide_eq_true this
    · unfold lastN
      rw [if_neg (by omega), show k + 1 - 1 = k from rfl, getD_of hk]
  clear hu hun hn
  go_enter Tryz.func23, Tryz.ntmps23
  go_wp2
  go_loopw [3, 8] (fun lv i wr => ∃ k : Nat, i = .int .i64 (k : Int) ∧ lv = .int .i64 (lastN ns k) ∧ k ≤ un ∧ w = wr) (fun _ i _ => un - (intOf i).toNat)
  case atStart => exact ⟨0, rfl, rfl, Nat.zero_le _, rfl⟩
  case round =>
    obtain ⟨k, rfl, rfl, hk, rfl⟩ := hrel
    by_cases hlt : k < un
    · have hkl : k < ns.length := by rw [← HN.out]; exact hlt
      have hi2 : (k : Int) < (un : Int) := by omega
      obtain ⟨ad, had⟩ := HU.out.at.2.2.2.ad (by rw [iv_length]; omega)
      subst had
      have y1 := HU.out.at.2.2.2.num rfl hkl
      obtain ⟨e1, e2, e3⟩ := HE.out k hkl
      have HL : Hid (lastN ns (k + 1) = ns[k]) := e3
      clear e3
      generalize ns[k] = x at *
      generalize lastN ns k = y at *
      have e4 : ¬ x ≤ y := by omega
      have e5 : ¬ 63 < x := by omega
      go_wp2
      go_roundw
      case rel => exact ⟨k + 1, by go_num, by rw [HL.out], by omega, trivial⟩
      case measure => simp [intOf]; omega
    · go_wp2
      go_ret
      exact ⟨rfl, Below.refl _ _⟩
set_option maxRecDepth 100000 in
set_option maxHeartbeats 4000000 in
theorem keys_ok (u : Value) (ss : List ByteArray) (w : World) (hu : Rd w u (sv ss)) (hn : readsOk ss = true) : Calls Tryz.prog 24 #[u] w (OkP w) := by
  obtain ⟨un, uo, uc, rfl⟩ := hu.any2
  have hun : un = ss.length := by have := hu.at.1; rw [sv_length] at this; exact this
  have HN : Hid (un = ss.length) := hun
  have hub : un ≤ 100 := by have := (reads_bounds hn).1; omega
  have HU : Hid (Rd w (.slice uo un uc) (sv ss)) := hu
  have HE : Hid (readsOk ss = true) := hn
  clear hu hun hn
  go_enter Tryz.func24, Tryz.ntmps24
  go_wp2
  go_loopw [7] (fun i wr => ∃ k : Nat, i = .int .i64 (k : Int) ∧ k ≤ un ∧ w = wr) (fun i _ => un - (intOf i).toNat)
  case atStart => exact ⟨0, rfl, Nat.zero_le _, rfl⟩
  case round =>
    obtain ⟨k, rfl, hk, rfl⟩ := hrel
    by_cases hlt : k < un
    · have hkl : k < ss.length := by rw [← HN.out]; exact hlt
      have hi2 : (k : Int) < (un : Int) := by omega
      have ha := HU.out.at.2.2.2
      obtain ⟨ad, had⟩ := ha.ad (by rw [sv_length]; omega)
      subst had
      have y1 := ha.str rfl hkl
      obtain ⟨e1, e2⟩ := fits_at HE.out hkl
      have h1 : 1 ≤ ss[k].size ∧ ss[k].size ≤ 24 := by unfold keyOk at e1; simpa only [Bool.and_eq_true, decide_eq_true_eq] using e1
      obtain ⟨h2, h3⟩ := h1
      clear e1
      rcases (show k = 0 ∨ ∃ m, k = m + 1 from by cases k; exact .inl rfl; exact .inr ⟨_, rfl⟩) with hk0 | ⟨m, hm⟩
      · have hk1 : ¬ 0 < k := by omega
        have hk2 : ¬ (0 : Int) < (k : Int) := by omega
        generalize ss[k] = x at *
        clear ha e2 hkl hk0
        go_wp2
        go_roundw
        case rel => exact ⟨k + 1, by go_num, by omega, trivial⟩
        case measure => simp [intOf]; omega
      · have hml : m < ss.length := by omega
        have y2 := ha.str rfl hml
        have hb : Op.bytesLess ss[m].toList ss[k].toList = true := e2 m hml hm
        have hk1 : 0 < k := by omega
        have hk2 : (0 : Int) < (k : Int) := by omega
        have hk3 : (k : Int) - 1 = (m : Int) := by omega
        have hk4 : m < un := by omega
        generalize ss[k] = x at *
        generalize ss[m] = z at *
        clear ha e2 hkl hml hm
        go_wp2
        go_roundw
        case rel => exact ⟨k + 1, by go_num, by omega, trivial⟩
        case measure => simp [intOf]; omega
    · clear hk
      go_wp2
      go_ret
      exact ⟨ret_bool (by simp; omega), Below.refl _ _⟩
theorem tid_ok (x y : Int) (w : World) (h : tidOk x y = true) : Calls Tryz.prog 22 #[.agg #[.int .u64 x, .int .i64 y]] w (OkP w) := by
  have h1 := tid11_any x y w
  rw [h] at h1
  exact h1
theorem elder_ok (x y x' y' : Int) (w : World) (h : elderT x y x' y' = true) : Calls Tryz.prog 26 #[.agg #[.int .u64 x, .int .i64 y], .agg #[.int .u64 x', .int .i64 y']] w (OkP w) := by
  have h1 := elderT_any x y x' y' w
  rw [h] at h1
  exact h1
theorem page_ok (p : Pg) (kv vv dv : Value) (w : World) (hp : PgAt w p kv vv dv) (hok : p.Ok) (h : rightPg p = true) : Calls Tryz.prog 25 #[pgv p kv vv dv] w (OkP w) := by
  have h1 := right_any p kv vv dv w hp hok
  rw [h] at h1
  exact h1
end Go.Proofs.YthkmohcdgnldgaaGreat
