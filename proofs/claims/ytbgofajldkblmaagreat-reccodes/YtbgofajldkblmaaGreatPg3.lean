/- Pages: which are right. Own lemmas, no statement. -/
import Derived.Test.YtbgofajldkblmaaGreatPg2
import Derived.Test.YtbgofajldkblmaaGreatOrder
namespace Go.Proofs.YtbgofajldkblmaaGreat
open Go.ChangeShapes Go.WideShapes Go.ChangeAt Go.RowKit

/-- Of so many places all. -/
def allB (f : Nat → Bool) : Nat → Bool
  | 0 => true
  | n + 1 => allB f n && f n
theorem allB_iff (f : Nat → Bool) (n : Nat) : allB f n = true ↔ ∀ j, j < n → f j = true := by
  induction n with
  | zero => simp [allB]
  | succ n ih =>
    simp only [allB, Bool.and_eq_true, ih]
    constructor
    · rintro ⟨h1, h2⟩ j hj
      rcases Nat.lt_succ_iff_lt_or_eq.1 hj with h | rfl
      · exact h1 j h
      · exact h2
    · exact fun h => ⟨fun j hj => h j (by omega), h n (by omega)⟩
theorem allB_false {f : Nat → Bool} {k n : Nat} (hk : k < n) (h : f k = false) : allB f n = false := by
  cases e : allB f n with
  | false => rfl
  | true => rw [(allB_iff f n).1 e k hk] at h; cases h

def keyOk (k : ByteArray) : Bool := decide (1 ≤ k.size) && decide (k.size ≤ 24)
def okAt (ks : List ByteArray) (i : Nat) : Bool := keyOk (ks.getD i ByteArray.empty) && (decide (i = 0) || ltK (ks.getD (i - 1) ByteArray.empty) (ks.getD i ByteArray.empty))
def keysOk (ks : List ByteArray) : Bool := allB (okAt ks) ks.length
def valAt (vs : List ByteArray) (i : Nat) : Bool := decide ((vs.getD i ByteArray.empty).size ≤ 48)
def valsOk (vs : List ByteArray) : Bool := allB (valAt vs) vs.length
def pageOk (n : Int) : Bool := decide (0 ≤ n) && decide (n < 65536)
def kidAt (ns : List Int) (i : Nat) : Bool := pageOk (ns.getD i 0)
def kidsOk (ns : List Int) : Bool := allB (kidAt ns) ns.length

theorem getD_of {α : Type} {l : List α} {d : α} {i : Nat} (h : i < l.length) : l.getD i d = l[i] := by simp [List.getD, h]

set_option maxHeartbeats 1000000 in
theorem rightVals_any (v : Value) (vs : List ByteArray) (w : World) (h : Rd w v (sv vs)) (hs : ∀ s ∈ vs, s.size ≤ maxLen) :
    Calls Tryz.prog 100 #[v] w fun e w' => e = .returned (.bool (valsOk vs)) ∧ w' = w := by
  obtain ⟨ao, c, rfl, a1, a2, a3⟩ := h
  have A3 : Hid (RdAt w ao c (sv vs)) := a3
  have HS : Hid (∀ s ∈ vs, s.size ≤ maxLen) := hs
  clear a3 hs
  rw [sv_length] at *
  unfold maxLen at a2
  obtain ⟨n, hn⟩ : ∃ n, vs.length = n := ⟨_, rfl⟩
  rw [hn] at a1 ⊢
  have HN : Hid (vs.length = n) := hn
  have HR : Hid (valsOk vs = allB (valAt vs) n) := by show _ = _; rw [valsOk, hn]
  clear hn
  go_enter Tryz.func100, Tryz.ntmps100
  go_wp2
  go_loop [4, 7] (fun _ i => ∃ k : Nat, i = .int .i64 k ∧ k ≤ n ∧ allB (valAt vs) k = true) (fun _ i => n - (intOf i).toNat)
  case atStart => exact ⟨0, rfl, Nat.zero_le _, rfl⟩
  case round =>
    obtain ⟨k, rfl, hk, hall⟩ := hrel
    have HA : Hid (allB (valAt vs) k = true) := hall
    clear hall
    by_cases hlt : k < n
    · have hlt1 : k < vs.length := by have := HN.out; omega
      obtain ⟨ad, had⟩ := A3.out.ad (by rw [sv_length]; omega)
      subst had
      have y1 := A3.out.str rfl hlt1
      have hz := HS.out vs[k] (List.getElem_mem _)
      unfold maxLen at hz
      have HV : Hid (valAt vs k = decide (vs[k].size ≤ 48)) := by show _ = _; rw [valAt, getD_of hlt1]
      generalize vs[k] = x at *
      clear hlt1
      by_cases h48 : x.size ≤ 48
      · go_wp2
        go_round
        case rel => exact ⟨k + 1, by go_num, by omega, by rw [allB, HA.out, HV.out]; simp [h48]⟩
        case measure => simp [intOf]; omega
      · go_wp2
        go_ret
        exact ⟨ret_bool (by rw [HR.out, allB_false hlt (by rw [HV.out]; simp; omega)]), rfl⟩
    · have : k = n := by omega
      subst this
      go_wp2
      go_ret
      exact ⟨ret_bool (by rw [HR.out, HA.out]), rfl⟩

set_option maxHeartbeats 1000000 in
theorem isPage_any (n : Int) (w : World) : Calls Tryz.prog 72 #[.int .i64 n] w fun e w' => e = .returned (.bool (pageOk n)) ∧ w' = w := by
  go_enter Tryz.func72, Tryz.ntmps72
  by_cases h0 : 0 ≤ n
  · go_wp2
    go_ret
    exact ⟨ret_bool (by simp [pageOk, h0]), rfl⟩
  · go_wp2
    go_ret
    exact ⟨ret_bool (by simp [pageOk]; omega), rfl⟩

set_option maxHeartbeats 1000000 in
theorem rightKids_any (v : Value) (vs : List Int) (w : World) (h : Rd w v (iv vs)) :
    Calls Tryz.prog 101 #[v] w fun e w' => e = .returned (.bool (kidsOk vs)) ∧ w' = w := by
  obtain ⟨ao, c, rfl, a1, a2, a3⟩ := h
  have A3 : Hid (RdAt w ao c (iv vs)) := a3
  clear a3
  rw [iv_length] at *
  unfold maxLen at a2
  obtain ⟨n, hn⟩ : ∃ n, vs.length = n := ⟨_, rfl⟩
  rw [hn] at a1 ⊢
  have HN : Hid (vs.length = n) := hn
  have HR : Hid (kidsOk vs = allB (kidAt vs) n) := by show _ = _; rw [kidsOk, hn]
  clear hn
  go_enter Tryz.func101, Tryz.ntmps101
  go_wp2
  go_loop [4, 7] (fun _ i => ∃ k : Nat, i = .int .i64 k ∧ k ≤ n ∧ allB (kidAt vs) k = true) (fun _ i => n - (intOf i).toNat)
  case atStart => exact ⟨0, rfl, Nat.zero_le _, rfl⟩
  case round =>
    obtain ⟨k, rfl, hk, hall⟩ := hrel
    have HA : Hid (allB (kidAt vs) k = true) := hall
    clear hall
    by_cases hlt : k < n
    · have hlt1 : k < vs.length := by have := HN.out; omega
      obtain ⟨ad, had⟩ := A3.out.ad (by rw [iv_length]; omega)
      subst had
      have y1 := A3.out.num rfl hlt1
      have HV : Hid (kidAt vs k = pageOk vs[k]) := by show _ = _; rw [kidAt, getD_of hlt1]
      generalize vs[k] = x at *
      have HC := fun W => isPage_any x W
      clear hlt1
      cases hb : pageOk x with
      | true =>
        go_wp2_with (go_at_call 72; refine (HC _).mono ?_; rintro e w' ⟨rfl, rfl⟩)
        go_round
        case rel => exact ⟨k + 1, by go_num, by omega, by rw [allB, HA.out, HV.out]; simp [hb]⟩
        case measure => simp [intOf]; omega
      | false =>
        go_wp2_with (go_at_call 72; refine (HC _).mono ?_; rintro e w' ⟨rfl, rfl⟩)
        go_ret
        exact ⟨ret_bool (by rw [HR.out, allB_false hlt (by rw [HV.out]; exact hb)]), rfl⟩
    · have : k = n := by omega
      subst this
      go_wp2
      go_ret
      exact ⟨ret_bool (by rw [HR.out, HA.out]), rfl⟩

set_option maxHeartbeats 4000000 in
theorem rightKeys_any (v : Value) (vs : List ByteArray) (w : World) (h : Rd w v (sv vs)) (hs : ∀ s ∈ vs, s.size ≤ maxLen) :
    Calls Tryz.prog 99 #[v] w fun e w' => e = .returned (.bool (keysOk vs)) ∧ w' = w := by
  obtain ⟨ao, c, rfl, a1, a2, a3⟩ := h
  have A3 : Hid (RdAt w ao c (sv vs)) := a3
  have HS : Hid (∀ s ∈ vs, s.size ≤ maxLen) := hs
  clear a3 hs
  rw [sv_length] at *
  unfold maxLen at a2
  obtain ⟨n, hn⟩ : ∃ n, vs.length = n := ⟨_, rfl⟩
  rw [hn] at a1 ⊢
  have HN : Hid (vs.length = n) := hn
  have HR : Hid (keysOk vs = allB (okAt vs) n) := by show _ = _; rw [keysOk, hn]
  clear hn
  go_enter Tryz.func99, Tryz.ntmps99
  go_wp2
  go_loop [3, 4, 7] (fun _ _ i => ∃ k : Nat, i = .int .i64 k ∧ k ≤ n ∧ allB (okAt vs) k = true) (fun _ _ i => n - (intOf i).toNat)
  case atStart => exact ⟨0, rfl, Nat.zero_le _, rfl⟩
  case round =>
    obtain ⟨k, rfl, hk, hall⟩ := hrel
    have HA : Hid (allB (okAt vs) k = true) := hall
    clear hall
    by_cases hlt : k < n
    · have hlt1 : k < vs.length := by have := HN.out; omega
      obtain ⟨ad, had⟩ := A3.out.ad (by rw [sv_length]; omega)
      subst had
      have y1 := A3.out.str rfl hlt1
      have hz := HS.out vs[k] (List.getElem_mem _)
      unfold maxLen at hz
      rcases (show k = 0 ∨ ∃ m, k = m + 1 from by cases k; exact .inl rfl; exact .inr ⟨_, rfl⟩) with hk0 | ⟨m, hm⟩
      · have HV : Hid (okAt vs k = keyOk vs[k]) := by show _ = _; rw [okAt, getD_of hlt1]; simp [hk0]
        have hk1 : ¬ 0 < k := by omega
        have hk2 : ¬ (0 : Int) < (k : Int) := by omega
        have HK : Hid (k = 0) := hk0
        generalize vs[k] = x at *
        clear hlt1 hk0
        rcases (show x.size = 0 ∨ (0 < x.size ∧ x.size ≤ 24) ∨ 24 < x.size by omega) with h | h | h
        · go_wp2
          go_ret
          exact ⟨ret_bool (by rw [HR.out, allB_false hlt (by rw [HV.out, keyOk]; simp; omega)]), rfl⟩
        · obtain ⟨h1, h2⟩ := h
          go_wp2
          go_round
          case rel => exact ⟨k + 1, by go_num, by omega, by rw [allB, HA.out, HV.out, keyOk]; simp; omega⟩
          case measure => simp [intOf]; omega
        · go_wp2
          go_ret
          exact ⟨ret_bool (by rw [HR.out, allB_false hlt (by rw [HV.out, keyOk]; simp; omega)]), rfl⟩
      · have hlt2 : m < vs.length := by omega
        have y2 := A3.out.str rfl hlt2
        have HV : Hid (okAt vs k = (keyOk vs[k] && ltK vs[m] vs[k])) := by show _ = _; rw [okAt, getD_of hlt1, show k - 1 = m by omega, getD_of hlt2, decide_eq_false (show ¬ k = 0 by omega), Bool.false_or]
        unfold ltK at HV
        have hk1 : 0 < k := by omega
        have hk2 : (0 : Int) < (k : Int) := by omega
        have hk3 : (k : Int) - 1 = (m : Int) := by omega
        have hk4 : m < n := by omega
        have HK : Hid (k = m + 1) := hm
        generalize vs[k] = x at *
        generalize vs[m] = y at *
        clear hlt1 hlt2 hm
        rcases (show x.size = 0 ∨ (0 < x.size ∧ x.size ≤ 24) ∨ 24 < x.size by omega) with h | h | h
        · go_wp2
          go_ret
          exact ⟨ret_bool (by rw [HR.out, allB_false hlt (by rw [HV.out, keyOk]; simp; omega)]), rfl⟩
        · obtain ⟨h1, h2⟩ := h
          cases hb : Op.bytesLess y.toList x.toList with
          | true =>
            go_wp2
            go_round
            case rel => exact ⟨k + 1, by go_num, by omega, by rw [allB, HA.out, HV.out, keyOk, hb]; simp; omega⟩
            case measure => simp [intOf]; omega
          | false =>
            go_wp2
            go_ret
            exact ⟨ret_bool (by rw [HR.out, allB_false hlt (by rw [HV.out, hb]; simp)]), rfl⟩
        · go_wp2
          go_ret
          exact ⟨ret_bool (by rw [HR.out, allB_false hlt (by rw [HV.out, keyOk]; simp; omega)]), rfl⟩
    · have : k = n := by omega
      subst this
      go_wp2
      go_ret
      exact ⟨ret_bool (by rw [HR.out, HA.out]), rfl⟩
end Go.Proofs.YtbgofajldkblmaaGreat
