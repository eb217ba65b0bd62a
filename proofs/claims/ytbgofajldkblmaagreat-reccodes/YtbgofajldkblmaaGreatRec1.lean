/- rec: which nodes, transactions, keys, lists of them are right. Own lemmas, no statement. -/
import Derived.Test.YtbgofajldkblmaaGreatPg4
set_option linter.unusedSimpArgs false
set_option linter.unusedVariables false
namespace Go.Proofs.YtbgofajldkblmaaGreat
open Go.ChangeShapes Go.WideShapes Go.ChangeAt Go.RowKit

/-- Whether a list's place is right, and behind the one ahead of it. -/
def fitAt {α : Type} (r : α → Bool) (a : α → α → Bool) (d : α) (l : List α) (i : Nat) : Bool := r (l.getD i d) && (decide (i = 0) || a (l.getD (i - 1) d) (l.getD i d))
def fitsB {α : Type} (r : α → Bool) (a : α → α → Bool) (d : α) (m : Nat) (l : List α) : Bool := decide (l.length ≤ m) && allB (fitAt r a d l) l.length
def nodeOk (n : Int) : Bool := decide (0 ≤ n) && decide (n < 64)
def tidOk (x y : Int) : Bool := decide (x ≤ 1099511627776) && nodeOk y
def ltI (x y : Int) : Bool := decide (x < y)
def readsOk (l : List ByteArray) : Bool := fitsB keyOk ltK .empty 100 l
def nodesOk (l : List Int) : Bool := fitsB nodeOk ltI 0 64 l
theorem Rd.any2 {W : World} {v : Value} {us : List Value} (h : Rd W v us) : ∃ n a c, v = .slice a n c := by obtain ⟨a, c, e⟩ := h.form; exact ⟨_, a, c, e⟩
theorem fit_zero {α : Type} {r : α → Bool} {a : α → α → Bool} {d : α} {l : List α} (h : 0 < l.length) : fitAt r a d l 0 = r l[0] := by unfold fitAt; rw [getD_of h]; simp
theorem fit_succ {α : Type} {r : α → Bool} {a : α → α → Bool} {d : α} {l : List α} {i : Nat} (h : i + 1 < l.length) : fitAt r a d l (i + 1) = (r l[i + 1] && a (l[i]'(by omega)) l[i + 1]) := by
  unfold fitAt
  rw [getD_of h, show i + 1 - 1 = i by omega, getD_of (by omega)]
  simp

theorem isNode_any (n : Int) (w : World) : Calls Tryz.prog 93 #[.int .i64 n] w fun e w' => e = .returned (.bool (nodeOk n)) ∧ w' = w := by
  unfold nodeOk
  go_enter Tryz.func93, Tryz.ntmps93
  by_cases h0 : 0 ≤ n
  · go_wp2
    go_ret
    exact ⟨ret_bool (by simp [h0]), rfl⟩
  · go_wp2
    go_ret
    exact ⟨ret_bool (by rw [decide_eq_false (p := 0 ≤ n) (by omega)]; rfl), rfl⟩
theorem isTid_any (x y : Int) (w : World) : Calls Tryz.prog 55 #[.agg #[.int .u64 x, .int .i64 y]] w fun e w' => e = .returned (.bool (tidOk x y)) ∧ Below w.heap.size w w' := by
  have HB : Hid (∀ o, Below w.heap.size w (w.alloc o)) := fun o => (Below.refl _ _).alloc (Nat.le_refl _) _
  unfold tidOk
  go_enter Tryz.func55, Tryz.ntmps55
  by_cases h0 : x ≤ 1099511627776
  · go_wp2_with (refine (isNode_any _ _).mono ?_; rintro e w' ⟨rfl, rfl⟩)
    go_ret
    exact ⟨ret_bool (by simp [h0]), HB.out _⟩
  · go_wp2
    go_ret
    exact ⟨ret_bool (by rw [decide_eq_false (p := x ≤ 1099511627776) (by omega)]; rfl), HB.out _⟩
theorem keyRight_any (s : ByteArray) (w : World) (hs : s.size ≤ maxLen) : Calls Tryz.prog 94 #[.string s] w fun e w' => e = .returned (.int .i64 (if s.size = 0 then 1 else if 24 < s.size then 7 else 0)) ∧ w' = w := by
  unfold maxLen at hs
  go_enter Tryz.func94, Tryz.ntmps94
  by_cases h0 : s.size = 0
  · have h1 : ((s.size : Int) == 0) = true := by simp [h0]
    go_wp2
    go_ret
    exact ⟨by simp [h0], rfl⟩
  · have h1 : ((s.size : Int) == 0) = false := beq_eq_false_iff_ne.2 (by omega)
    by_cases h2 : 24 < s.size
    · go_wp2
      go_ret
      exact ⟨by simp [h0, h2], rfl⟩
    · go_wp2
      go_ret
      exact ⟨by simp [h0, h2], rfl⟩
theorem keyValue_any (s : ByteArray) (w : World) (hs : s.size ≤ maxLen) : Calls Tryz.prog 57 #[.string s] w fun e w' => e = .returned (.int .i64 (if 48 < s.size then 7 else 0)) ∧ w' = w := by
  unfold maxLen at hs
  go_enter Tryz.func57, Tryz.ntmps57
  by_cases h2 : 48 < s.size
  · go_wp2
    go_ret
    exact ⟨by simp [h2], rfl⟩
  · go_wp2
    go_ret
    exact ⟨by simp [h2], rfl⟩
theorem isKey_any (s : ByteArray) (w : World) (hs : s.size ≤ maxLen) : Calls Tryz.prog 56 #[.string s] w fun e w' => e = .returned (.bool (keyOk s)) ∧ w' = w := by
  unfold keyOk
  go_enter Tryz.func56, Tryz.ntmps56
  go_wp2_with fail
  refine (keyRight_any s w hs).mono ?_
  rintro e w' ⟨rfl, hw⟩
  subst hw
  by_cases h0 : s.size = 0
  · rw [if_pos h0]
    go_wp2
    go_ret
    exact ⟨ret_bool (by simp [h0]), rfl⟩
  · rw [if_neg h0]
    by_cases h2 : 24 < s.size
    · rw [if_pos h2]
      go_wp2
      go_ret
      exact ⟨ret_bool (by simp; omega), rfl⟩
    · rw [if_neg h2]
      go_wp2
      go_ret
      exact ⟨ret_bool (by simp; omega), rfl⟩
set_option maxHeartbeats 1000000 in
theorem rnan_any (x : ByteArray) (w : World) : Calls Tryz.prog 108 #[.string x] w fun e w' => e = .returned (.bool false) ∧ w' = w := by
  go_enter Tryz.func108, Tryz.ntmps108
  go_wp2
  go_ret
  exact ⟨by simp, rfl⟩
set_option maxHeartbeats 1000000 in
theorem lessS_any (x y : ByteArray) (w : World) : Calls Tryz.prog 96 #[.string x, .string y] w fun e w' => e = .returned (.bool (ltK x y)) ∧ w' = w := by
  go_enter Tryz.func96, Tryz.ntmps96
  go_wp2_with (refine (rnan_any _ _).mono ?_; rintro e w' ⟨rfl, rfl⟩)
  go_ret
  exact ⟨rfl, rfl⟩
set_option maxHeartbeats 1000000 in
theorem inan_any (x : Int) (w : World) : Calls Tryz.prog 109 #[.int .i64 x] w fun e w' => e = .returned (.bool false) ∧ w' = w := by
  go_enter Tryz.func109, Tryz.ntmps109
  go_wp2
  go_ret
  exact ⟨by simp, rfl⟩
set_option maxHeartbeats 1000000 in
theorem lessI_any (x y : Int) (w : World) : Calls Tryz.prog 98 #[.int .i64 x, .int .i64 y] w fun e w' => e = .returned (.bool (ltI x y)) ∧ w' = w := by
  unfold ltI
  go_enter Tryz.func98, Tryz.ntmps98
  go_wp2_with (refine (inan_any _ _).mono ?_; rintro e w' ⟨rfl, rfl⟩)
  go_ret
  exact ⟨rfl, rfl⟩

set_option maxRecDepth 100000 in
set_option maxHeartbeats 2000000 in
theorem fitsS_any (v : Value) (l : List ByteArray) (m : Nat) (w : World) (h : Rd w v (sv l)) (hm : m ≤ 1000) (hz : ∀ s ∈ l, s.size ≤ maxLen) :
    Calls Tryz.prog 95 #[v, .int .i64 (m : Int), .func (.func 56) #[] #[], .func (.func 96) #[] #[]] w fun e w' => e = .returned (.bool (fitsB keyOk ltK .empty m l)) ∧ w' = w := by
  obtain ⟨ao, c, rfl, a1, a2, a3⟩ := h
  have A3 : Hid (RdAt w ao c (sv l)) := a3
  have HZ : Hid (∀ s ∈ l, s.size ≤ maxLen) := hz
  clear a3 hz
  rw [sv_length] at *
  unfold maxLen at a2
  obtain ⟨n, hn⟩ : ∃ n, l.length = n := ⟨_, rfl⟩
  rw [hn] at a1 ⊢
  have HN : Hid (l.length = n) := hn
  have HR : Hid (fitsB keyOk ltK .empty m l = (decide (n ≤ m) && allB (fitAt keyOk ltK .empty l) n)) := by show _ = _; rw [fitsB, hn]
  clear hn
  go_enter Tryz.func95, Tryz.ntmps95
  by_cases hnm : m < n
  · go_wp2
    go_ret
    exact ⟨ret_bool (by rw [HR.out]; simp; omega), rfl⟩
  · go_wp2
    go_loopw [17] (fun i wr => ∃ k : Nat, i = .int .i64 k ∧ k ≤ n ∧ allB (fitAt keyOk ltK .empty l) k = true ∧ w = wr) (fun i _ => n - (intOf i).toNat)
    case atStart => exact ⟨0, rfl, Nat.zero_le _, rfl, rfl⟩
    case round =>
      obtain ⟨k, rfl, hk, hall, rfl⟩ := hrel
      have HA : Hid (allB (fitAt keyOk ltK .empty l) k = true) := hall
      clear hall
      by_cases hlt : k < n
      · have hlt1 : k < l.length := by have := HN.out; omega
        obtain ⟨ad, had⟩ := A3.out.ad (by rw [sv_length]; omega)
        subst had
        have y1 := A3.out.str rfl hlt1
        have HZ1 : Hid (l[k].size ≤ maxLen) := HZ.out _ (List.getElem_mem _)
        cases k with
        | zero =>
          have HV : Hid (fitAt keyOk ltK .empty l 0 = keyOk l[0]) := fit_zero hlt1
          have y1' : w.cell? ad = some (.string l[0]) := by simpa [Addr.add] using y1
          generalize l[0] = x at *
          go_wp2_with fail
          refine (isKey_any x _ HZ1.out).mono ?_
          rintro e w' ⟨rfl, hw⟩
          subst hw
          cases hx : keyOk x with
          | true =>
            have HX : Hid (keyOk x = true) := hx
            clear hx
            go_wp2
            go_roundw
            case rel => exact ⟨1, by go_num, by omega, by rw [allB, HA.out, HV.out, HX.out]; rfl, trivial⟩
            case measure => simp [intOf]; omega
          | false =>
            have HX : Hid (keyOk x = false) := hx
            clear hx
            go_wp2
            go_ret
            exact ⟨ret_bool (by rw [HR.out, allB_false hlt (by rw [HV.out, HX.out])]; simp), rfl⟩
        | succ k =>
          have HV : Hid (fitAt keyOk ltK .empty l (k + 1) = (keyOk l[k + 1] && ltK (l[k]'(by omega)) l[k + 1])) := fit_succ hlt1
          have y2 := A3.out.str (j := k) rfl (by omega)
          have y1' : w.cell? ⟨ad.block, ad.off + (k + 1), none⟩ = some (.string l[k + 1]) := by simpa [Addr.add] using y1
          have hwr : IntKind.i64.wrap (k : Int) = (k : Int) := by rw [IntKind.wrap_i64]; omega
          generalize l[k + 1] = x at *
          generalize (l[k]'(by omega)) = z at *
          go_wp2_with fail
          refine (isKey_any x _ HZ1.out).mono ?_
          rintro e w' ⟨rfl, hw⟩
          subst hw
          cases hx : keyOk x with
          | true =>
            have HX : Hid (keyOk x = true) := hx
            clear hx
            go_wp2_with fail
            refine (lessS_any z x _).mono ?_
            rintro e w' ⟨rfl, hw⟩
            subst hw
            cases hx2 : ltK z x with
            | true =>
              have HX2 : Hid (ltK z x = true) := hx2
              clear hx2
              go_wp2
              go_roundw
              case rel => exact ⟨k + 1 + 1, by go_num, by omega, by rw [allB, HA.out, HV.out, HX.out, HX2.out]; rfl, trivial⟩
              case measure => simp [intOf]; omega
            | false =>
              have HX2 : Hid (ltK z x = false) := hx2
              clear hx2
              go_wp2
              go_ret
              exact ⟨ret_bool (by rw [HR.out, allB_false hlt (by rw [HV.out, HX.out, HX2.out]; rfl)]; simp), rfl⟩
          | false =>
            have HX : Hid (keyOk x = false) := hx
            clear hx
            go_wp2
            go_ret
            exact ⟨ret_bool (by rw [HR.out, allB_false hlt (by rw [HV.out, HX.out]; rfl)]; simp), rfl⟩
      · have hkn : k = n := by omega
        have HK : Hid (k = n) := hkn
        clear hkn hk
        go_wp2
        go_ret
        exact ⟨ret_bool (by rw [HR.out, ← HK.out, HA.out]; simp; have := HK.out; omega), rfl⟩
set_option maxRecDepth 100000 in
set_option maxHeartbeats 2000000 in
theorem fitsI_any (v : Value) (l : List Int) (m : Nat) (w : World) (h : Rd w v (iv l)) (hm : m ≤ 1000) :
    Calls Tryz.prog 97 #[v, .int .i64 (m : Int), .func (.func 93) #[] #[], .func (.func 98) #[] #[]] w fun e w' => e = .returned (.bool (fitsB nodeOk ltI 0 m l)) ∧ w' = w := by
  obtain ⟨ao, c, rfl, a1, a2, a3⟩ := h
  have A3 : Hid (RdAt w ao c (iv l)) := a3
  clear a3
  rw [iv_length] at *
  unfold maxLen at a2
  obtain ⟨n, hn⟩ : ∃ n, l.length = n := ⟨_, rfl⟩
  rw [hn] at a1 ⊢
  have HN : Hid (l.length = n) := hn
  have HR : Hid (fitsB nodeOk ltI 0 m l = (decide (n ≤ m) && allB (fitAt nodeOk ltI 0 l) n)) := by show _ = _; rw [fitsB, hn]
  clear hn
  go_enter Tryz.func97, Tryz.ntmps97
  by_cases hnm : m < n
  · go_wp2
    go_ret
    exact ⟨ret_bool (by rw [HR.out]; simp; omega), rfl⟩
  · go_wp2
    go_loopw [17] (fun i wr => ∃ k : Nat, i = .int .i64 k ∧ k ≤ n ∧ allB (fitAt nodeOk ltI 0 l) k = true ∧ w = wr) (fun i _ => n - (intOf i).toNat)
    case atStart => exact ⟨0, rfl, Nat.zero_le _, rfl, rfl⟩
    case round =>
      obtain ⟨k, rfl, hk, hall, rfl⟩ := hrel
      have HA : Hid (allB (fitAt nodeOk ltI 0 l) k = true) := hall
      clear hall
      by_cases hlt : k < n
      · have hlt1 : k < l.length := by have := HN.out; omega
        obtain ⟨ad, had⟩ := A3.out.ad (by rw [iv_length]; omega)
        subst had
        have y1 := A3.out.num rfl hlt1
        cases k with
        | zero =>
          have HV : Hid (fitAt nodeOk ltI 0 l 0 = nodeOk l[0]) := fit_zero hlt1
          have y1' : w.cell? ad = some (.int .i64 l[0]) := by simpa [Addr.add] using y1
          generalize l[0] = x at *
          go_wp2_with fail
          refine (isNode_any x _).mono ?_
          rintro e w' ⟨rfl, hw⟩
          subst hw
          cases hx : nodeOk x with
          | true =>
            have HX : Hid (nodeOk x = true) := hx
            clear hx
            go_wp2
            go_roundw
            case rel => exact ⟨1, by go_num, by omega, by rw [allB, HA.out, HV.out, HX.out]; rfl, trivial⟩
            case measure => simp [intOf]; omega
          | false =>
            have HX : Hid (nodeOk x = false) := hx
            clear hx
            go_wp2
            go_ret
            exact ⟨ret_bool (by rw [HR.out, allB_false hlt (by rw [HV.out, HX.out])]; simp), rfl⟩
        | succ k =>
          have HV : Hid (fitAt nodeOk ltI 0 l (k + 1) = (nodeOk l[k + 1] && ltI (l[k]'(by omega)) l[k + 1])) := fit_succ hlt1
          have y2 := A3.out.num (j := k) rfl (by omega)
          have y1' : w.cell? ⟨ad.block, ad.off + (k + 1), none⟩ = some (.int .i64 l[k + 1]) := by simpa [Addr.add] using y1
          have hwr : IntKind.i64.wrap (k : Int) = (k : Int) := by rw [IntKind.wrap_i64]; omega
          generalize l[k + 1] = x at *
          generalize (l[k]'(by omega)) = z at *
          go_wp2_with fail
          refine (isNode_any x _).mono ?_
          rintro e w' ⟨rfl, hw⟩
          subst hw
          cases hx : nodeOk x with
          | true =>
            have HX : Hid (nodeOk x = true) := hx
            clear hx
            go_wp2_with fail
            refine (lessI_any z x _).mono ?_
            rintro e w' ⟨rfl, hw⟩
            subst hw
            cases hx2 : ltI z x with
            | true =>
              have HX2 : Hid (ltI z x = true) := hx2
              clear hx2
              go_wp2
              go_roundw
              case rel => exact ⟨k + 1 + 1, by go_num, by omega, by rw [allB, HA.out, HV.out, HX.out, HX2.out]; rfl, trivial⟩
              case measure => simp [intOf]; omega
            | false =>
              have HX2 : Hid (ltI z x = false) := hx2
              clear hx2
              go_wp2
              go_ret
              exact ⟨ret_bool (by rw [HR.out, allB_false hlt (by rw [HV.out, HX.out, HX2.out]; rfl)]; simp), rfl⟩
          | false =>
            have HX : Hid (nodeOk x = false) := hx
            clear hx
            go_wp2
            go_ret
            exact ⟨ret_bool (by rw [HR.out, allB_false hlt (by rw [HV.out, HX.out]; rfl)]; simp), rfl⟩
      · have hkn : k = n := by omega
        have HK : Hid (k = n) := hkn
        clear hkn hk
        go_wp2
        go_ret
        exact ⟨ret_bool (by rw [HR.out, ← HK.out, HA.out]; simp; have := HK.out; omega), rfl⟩
theorem rightReads_any (v : Value) (l : List ByteArray) (w : World) (h : Rd w v (sv l)) (hz : ∀ s ∈ l, s.size ≤ maxLen) :
    Calls Tryz.prog 61 #[v] w fun e w' => e = .returned (.bool (readsOk l)) ∧ w' = w := by
  unfold readsOk
  have HF : Hid (Calls Tryz.prog 95 #[v, .int .i64 100, .func (.func 56) #[] #[], .func (.func 96) #[] #[]] w _) := fitsS_any v l 100 w h (by omega) hz
  obtain ⟨n, a, c, rfl⟩ := h.any2
  go_enter Tryz.func61, Tryz.ntmps61
  go_wp2_with fail
  refine HF.out.mono ?_
  rintro e w' ⟨rfl, hw⟩
  subst hw
  go_wp2
  go_ret
  exact ⟨rfl, rfl⟩
theorem rightNodes_any (v : Value) (l : List Int) (w : World) (h : Rd w v (iv l)) :
    Calls Tryz.prog 62 #[v] w fun e w' => e = .returned (.bool (nodesOk l)) ∧ w' = w := by
  unfold nodesOk
  have HF : Hid (Calls Tryz.prog 97 #[v, .int .i64 64, .func (.func 93) #[] #[], .func (.func 98) #[] #[]] w _) := fitsI_any v l 64 w h (by omega)
  obtain ⟨n, a, c, rfl⟩ := h.any2
  go_enter Tryz.func62, Tryz.ntmps62
  go_wp2_with fail
  refine HF.out.mono ?_
  rintro e w' ⟨rfl, hw⟩
  subst hw
  go_wp2
  go_ret
  exact ⟨rfl, rfl⟩
end Go.Proofs.YtbgofajldkblmaaGreat
