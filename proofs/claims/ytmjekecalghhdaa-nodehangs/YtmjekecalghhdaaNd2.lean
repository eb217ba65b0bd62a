/- slices.BinarySearch at texts; node's At, Get, Over, Under, isLeaf, isInner. Own lemmas, no statement. -/
import Derived.Test.YtmjekecalghhdaaNd1
import Derived.Test.YtmjekecalghhdaaPg4
import Derived.Deep.Cut
set_option linter.unusedSimpArgs false
set_option linter.unusedVariables false
namespace Go.Proofs.Ytmjekecalghhdaa
open Go.ChangeShapes Go.WideShapes Go.ChangeAt Go.RowKit

set_option maxHeartbeats 1000000 in
theorem cnan_any (x : ByteArray) (w : World) : Calls Try.prog 88 #[.string x] w fun e w' => e = .returned (.bool false) ∧ w' = w := by
  go_enter Try.func88, Try.ntmps88
  go_wp2
  go_ret
  exact ⟨by simp, rfl⟩
set_option maxHeartbeats 1000000 in
theorem snan_any (x : ByteArray) (w : World) : Calls Try.prog 81 #[.string x] w fun e w' => e = .returned (.bool false) ∧ w' = w := by
  go_enter Try.func81, Try.ntmps81
  go_wp2
  go_ret
  exact ⟨by simp, rfl⟩
set_option maxHeartbeats 1000000 in
theorem less_any (x y : ByteArray) (w : World) : Calls Try.prog 80 #[.string x, .string y] w fun e w' => e = .returned (.bool (ltK x y)) ∧ w' = w := by
  go_enter Try.func80, Try.ntmps80
  go_wp2_with (refine (cnan_any _ _).mono ?_; rintro e w' ⟨rfl, rfl⟩)
  go_ret
  exact ⟨rfl, rfl⟩

set_option maxRecDepth 100000 in
set_option maxHeartbeats 2000000 in
theorem bs_any (v : Value) (ks : List ByteArray) (x : ByteArray) (w : World) (h : Rd w v (sv ks)) (hr : RisB ks) (hl : ks.length < 1099511627776) :
    Calls Try.prog 62 #[v, .string x] w fun e w' => e = .returned (.tuple #[.int .i64 (idxB x ks : Int), .bool (hasB x ks)]) ∧ Ext w w' := by
  obtain ⟨ao, c, rfl, a1, a2, a3⟩ := h
  rw [sv_length] at *
  obtain ⟨n, hn⟩ : ∃ n, ks.length = n := ⟨_, rfl⟩
  have A3 : Hid (RdAt w ao c (sv ks)) := a3
  have HR : Hid (RisB ks) := hr
  have HN : Hid (ks.length = n) := hn
  rw [hn] at hl a1 ⊢
  clear a3 hr hn
  go_enter Try.func62, Try.ntmps62
  go_wp2
  go_loopw [7, 8] (fun vi vj wr => ∃ i j : Nat, vi = .int .i64 (i : Int) ∧ vj = .int .i64 (j : Int) ∧ i ≤ j ∧ j ≤ n ∧ (∀ t (ht : t < ks.length), t < i → ltK ks[t] x = true) ∧ (∀ t (ht : t < ks.length), j ≤ t → ltK ks[t] x = false) ∧ Ext w wr) (fun vi vj _ => (intOf vj).toNat - (intOf vi).toNat)
  case atStart => exact ⟨0, n, rfl, rfl, Nat.zero_le _, Nat.le_refl _, fun t _ h => by omega, fun t ht h => by have := HN.out; omega, Ext.refl _⟩
  case round =>
    obtain ⟨i, j, rfl, rfl, hij, hjn, h1, h2, hE⟩ := hrel
    have H1 : Hid (∀ t (ht : t < ks.length), t < i → ltK ks[t] x = true) := h1
    have H2 : Hid (∀ t (ht : t < ks.length), j ≤ t → ltK ks[t] x = false) := h2
    have HE : Hid (Ext w wr) := hE
    clear h1 h2 hE
    by_cases hlt : i < j
    · obtain ⟨m, hm, him, hmj⟩ : ∃ m : Nat, ((i : Int) + (j : Int)) / 2 = (m : Int) ∧ i ≤ m ∧ m < j := ⟨(i + j) / 2, by omega, by omega, by omega⟩
      have hmk : m < ks.length := by have := HN.out; omega
      obtain ⟨ad, had⟩ := A3.out.ad (by rw [sv_length]; omega)
      subst had
      have y1 := (Below.cell HE.out (cell_lt (A3.out.str rfl hmk))).trans (A3.out.str rfl hmk)
      go_upto_region 5 with fail
      clear hm
      go_wp2_with fail
      refine (less_any _ _ _).mono ?_
      rintro e w2 ⟨rfl, rfl⟩
      clear y1
      cases hp : ltK ks[m] x with
      | true =>
        have HP : Hid (ltK ks[m] x = true) := hp
        clear hp
        go_wp2
        go_roundw
        case rel =>
          refine ⟨m + 1, j, by go_num, rfl, hmj, hjn, fun t ht h => ?_, H2.out, HE.out⟩
          rcases Nat.lt_or_ge t m with e | e
          · exact ltK_trans (HR.out.le ht hmk e) HP.out
          · have : t = m := by omega
            subst this
            exact HP.out
        case measure => simp [intOf]; omega
      | false =>
        have HP : Hid (ltK ks[m] x = false) := hp
        clear hp
        go_wp2
        go_roundw
        case rel =>
          refine ⟨i, m, rfl, rfl, him, by omega, H1.out, fun t ht h => ?_, HE.out⟩
          rcases Nat.eq_or_lt_of_le h with e | e
          · subst e; exact HP.out
          · cases hq : ltK ks[t] x with
            | false => rfl
            | true => have := ltK_trans (HR.out.le hmk ht e) hq; rw [HP.out] at this; cases this
        case measure => simp [intOf]; omega
    · have hij' : j = i := by omega
      subst hij'
      have HI : Hid (idxB x ks = j) := idxB_of x ks j (by have := HN.out; omega) (fun t ht h => H1.out t ht h) (fun ht => H2.out j ht (Nat.le_refl _))
      by_cases hjn' : j < n
      · have hmk : j < ks.length := by have := HN.out; omega
        obtain ⟨ad, had⟩ := A3.out.ad (by rw [sv_length]; omega)
        subst had
        have y1 := (Below.cell HE.out (cell_lt (A3.out.str rfl hmk))).trans (A3.out.str rfl hmk)
        have HH : Hid (hasB x ks = decide (ks[j] = x)) := by
          show _ = _
          rw [hasB_at, HI.out, List.getElem?_eq_getElem hmk]
        generalize ks[j] = y at *
        by_cases hyx : y = x
        · have hb : (y.toList == x.toList) = true := by rw [beq_str]; simp [hyx]
          go_wp2_with (refine (snan_any _ _).mono ?_; rintro e w' ⟨rfl, rfl⟩)
          go_ret2
          exact ⟨by rw [HI.out, HH.out]; simp [hyx], HE.out⟩
        · have hb : (y.toList == x.toList) = false := by rw [beq_str]; simp [hyx]
          go_wp2_with (refine (snan_any _ _).mono ?_; rintro e w' ⟨rfl, rfl⟩)
          go_ret2
          exact ⟨by rw [HI.out, HH.out]; simp [hyx], HE.out⟩
      · have HH : Hid (hasB x ks = false) := by
          show _ = _
          rw [hasB_at, HI.out, List.getElem?_eq_none (by have := HN.out; omega)]
        go_wp2
        go_ret2
        exact ⟨by rw [HI.out, HH.out]; rfl, HE.out⟩

/-- Where At looks: beneath an inner page a key between stands beneath the second one. -/
def atI (p : Pg) (k : ByteArray) : Nat := if hasB k p.keys = true ∧ p.kind = 2 then idxB k p.keys + 1 else idxB k p.keys

set_option maxRecDepth 100000 in
set_option maxHeartbeats 2000000 in
theorem at_any (p : Pg) (k : ByteArray) (kv vv dv : Value) (w : World) (hp : PgAt w p kv vv dv) (hr : RisB p.keys) (hl : p.keys.length < 1099511627776) :
    Calls Try.prog 26 #[pgv p kv vv dv, .string k] w fun e w' => e = .returned (.tuple #[.int .i64 (atI p k : Int), .bool (hasB k p.keys)]) ∧ Below w.heap.size w w' := by
  obtain ⟨ka, kc, va, vc, da, dc, rfl, rfl, rfl, _, _, _⟩ := hp.forms
  have HL : Hid (idxB k p.keys ≤ p.keys.length) := idxB_le _ _
  have HK : Hid (∀ W, Below w.heap.size w W → Calls Try.prog 62 #[.slice ka p.keys.length kc, .string k] W fun e w' => e = .returned (.tuple #[.int .i64 (idxB k p.keys : Int), .bool (hasB k p.keys)]) ∧ Ext W w') := fun W hb => bs_any _ _ _ _ (hp.keys.below hb) hr hl
  have HA : Hid (atI p k = if hasB k p.keys = true ∧ p.kind = 2 then idxB k p.keys + 1 else idxB k p.keys) := rfl
  generalize atI p k = A at *
  have HX0 : Hid (PBox (w.alloc (.cells (pgc p (.slice ka p.keys.length kc) (.slice va p.vals.length vc) (.slice da p.kids.length dc)) 25)) w.heap.size p (.slice ka p.keys.length kc) (.slice va p.vals.length vc) (.slice da p.kids.length dc)) := Blk.new _ _ _
  have HE0 : Hid (∀ o, Below w.heap.size w (w.alloc o)) := fun o => (Below.refl _ _).alloc (Nat.le_refl _) _
  unfold pgv
  unfold pgc at HX0
  generalize hasB k p.keys = hs at *
  generalize idxB k p.keys = ix at *
  have hix : ix < 1099511627776 := Nat.lt_of_le_of_lt HL.out hl
  generalize p.keys.length = kn at *
  generalize p.vals.length = vn at *
  generalize p.kids.length = dn at *
  clear hp HL
  go_enter Try.func26, Try.ntmps26
  go_wp2_with fail
  refine (HK.out _ (HE0.out _)).mono ?_
  rintro e w1 ⟨rfl, x1⟩
  have X1 : Hid (PBox w1 w.heap.size p (.slice ka kn kc) (.slice va vn vc) (.slice da dn dc)) := HX0.out.below x1
  have HE1 : Hid (Below w.heap.size w w1) := (HE0.out _).trans (x1.mono (HE0.out _).size)
  clear x1 HX0 HE0 HK
  obtain ⟨y0, y1, y2, y3, y4, y5, y6, y7⟩ := X1.out.cells
  cases hs with
  | false =>
    go_wp2
    go_ret2
    exact ⟨by rw [HA.out]; simp, HE1.out⟩
  | true =>
    by_cases hk : p.kind = 2
    · rw [hk] at y0
      go_wp2
      go_ret2
      exact ⟨by rw [HA.out]; simp [hk], HE1.out⟩
    · go_wp2
      go_ret2
      exact ⟨by rw [HA.out]; simp [hk], HE1.out⟩

def leafP (p : Pg) : Bool := decide (p.kind = 1) && decide (p.vals.length = p.keys.length)
def innP (p : Pg) : Bool := decide (p.kind = 2) && decide (p.kids.length = p.keys.length + 1)

set_option maxHeartbeats 1000000 in
theorem isLeaf_any (p : Pg) (ka kc va vc da dc) (w : World) (hl : p.keys.length < 1099511627776) (hl2 : p.vals.length < 1099511627776) :
    Calls Try.prog 63 #[pgv p (.slice ka p.keys.length kc) (.slice va p.vals.length vc) (.slice da p.kids.length dc)] w fun e w' => e = .returned (.bool (leafP p)) ∧ Below w.heap.size w w' := by
  have HB : Hid (∀ o, Below w.heap.size w (w.alloc o)) := fun o => (Below.refl _ _).alloc (Nat.le_refl _) _
  unfold pgv leafP
  generalize p.keys.length = kn at *
  generalize p.vals.length = vn at *
  generalize p.kids.length = dn at *
  by_cases h1 : p.kind = 1
  · go_enter Try.func63, Try.ntmps63
    go_wp2
    all_goals
      go_ret
      refine ⟨ret_bool ?_, HB.out _⟩
      first | rfl | (rw [Bool.eq_iff_iff]; simp only [beq_iff_eq, Bool.and_eq_true, decide_eq_true_eq, Bool.false_eq_true, false_iff]; omega)
  · go_enter Try.func63, Try.ntmps63
    go_wp2
    all_goals
      go_ret
      refine ⟨ret_bool ?_, HB.out _⟩
      first | rfl | (rw [Bool.eq_iff_iff]; simp only [beq_iff_eq, Bool.and_eq_true, decide_eq_true_eq, Bool.false_eq_true, false_iff]; omega)
set_option maxHeartbeats 1000000 in
theorem isInner_any (p : Pg) (ka kc va vc da dc) (w : World) (hl : p.keys.length < 1099511627776) (hl2 : p.kids.length < 1099511627776) :
    Calls Try.prog 67 #[pgv p (.slice ka p.keys.length kc) (.slice va p.vals.length vc) (.slice da p.kids.length dc)] w fun e w' => e = .returned (.bool (innP p)) ∧ Below w.heap.size w w' := by
  have HB : Hid (∀ o, Below w.heap.size w (w.alloc o)) := fun o => (Below.refl _ _).alloc (Nat.le_refl _) _
  unfold pgv innP
  generalize p.keys.length = kn at *
  generalize p.vals.length = vn at *
  generalize p.kids.length = dn at *
  by_cases h1 : p.kind = 2
  · go_enter Try.func67, Try.ntmps67
    go_wp2
    all_goals
      go_ret
      refine ⟨ret_bool ?_, HB.out _⟩
      first | rfl | (rw [Bool.eq_iff_iff]; simp only [beq_iff_eq, Bool.and_eq_true, decide_eq_true_eq, Bool.false_eq_true, false_iff]; omega)
  · go_enter Try.func67, Try.ntmps67
    go_wp2
    all_goals
      go_ret
      refine ⟨ret_bool ?_, HB.out _⟩
      first | rfl | (rw [Bool.eq_iff_iff]; simp only [beq_iff_eq, Bool.and_eq_true, decide_eq_true_eq, Bool.false_eq_true, false_iff]; omega)

def overP (p : Pg) : Bool := if p.kind = 1 then decide (6 < p.keys.length) else if p.kind = 2 then decide (8 < p.kids.length) else false
def underP (p : Pg) : Bool := if p.kind = 1 then decide (p.keys.length < 3) else if p.kind = 2 then decide (p.kids.length < 4) else false
set_option maxHeartbeats 1000000 in
theorem over_any (p : Pg) (ka kc va vc da dc) (w : World) :
    Calls Try.prog 30 #[pgv p (.slice ka p.keys.length kc) (.slice va p.vals.length vc) (.slice da p.kids.length dc)] w fun e w' => e = .returned (.bool (overP p)) ∧ Below w.heap.size w w' := by
  have HB : Hid (∀ o, Below w.heap.size w (w.alloc o)) := fun o => (Below.refl _ _).alloc (Nat.le_refl _) _
  unfold pgv overP
  generalize p.keys.length = kn at *
  generalize p.vals.length = vn at *
  generalize p.kids.length = dn at *
  by_cases h1 : p.kind = 1
  · go_enter Try.func30, Try.ntmps30
    go_wp2
    all_goals
      go_ret
      refine ⟨ret_bool ?_, HB.out _⟩
      first | rfl | (rw [Bool.eq_iff_iff]; simp only [beq_iff_eq, Bool.and_eq_true, decide_eq_true_eq, Bool.false_eq_true, false_iff]; omega)
  · by_cases h2 : p.kind = 2
    · go_enter Try.func30, Try.ntmps30
      go_wp2
      all_goals
        go_ret
        refine ⟨ret_bool ?_, HB.out _⟩
        first | rfl | (rw [Bool.eq_iff_iff]; simp only [beq_iff_eq, Bool.and_eq_true, decide_eq_true_eq, Bool.false_eq_true, false_iff]; omega)
    · go_enter Try.func30, Try.ntmps30
      go_wp2
      all_goals
        go_ret
        refine ⟨ret_bool ?_, HB.out _⟩
        first | rfl | (rw [Bool.eq_iff_iff]; simp only [beq_iff_eq, Bool.and_eq_true, decide_eq_true_eq, Bool.false_eq_true, false_iff]; omega)
set_option maxHeartbeats 1000000 in
theorem under_any (p : Pg) (ka kc va vc da dc) (w : World) :
    Calls Try.prog 31 #[pgv p (.slice ka p.keys.length kc) (.slice va p.vals.length vc) (.slice da p.kids.length dc)] w fun e w' => e = .returned (.bool (underP p)) ∧ Below w.heap.size w w' := by
  have HB : Hid (∀ o, Below w.heap.size w (w.alloc o)) := fun o => (Below.refl _ _).alloc (Nat.le_refl _) _
  unfold pgv underP
  generalize p.keys.length = kn at *
  generalize p.vals.length = vn at *
  generalize p.kids.length = dn at *
  by_cases h1 : p.kind = 1
  · go_enter Try.func31, Try.ntmps31
    go_wp2
    all_goals
      go_ret
      refine ⟨ret_bool ?_, HB.out _⟩
      first | rfl | (rw [Bool.eq_iff_iff]; simp only [beq_iff_eq, Bool.and_eq_true, decide_eq_true_eq, Bool.false_eq_true, false_iff]; omega)
  · by_cases h2 : p.kind = 2
    · go_enter Try.func31, Try.ntmps31
      go_wp2
      all_goals
        go_ret
        refine ⟨ret_bool ?_, HB.out _⟩
        first | rfl | (rw [Bool.eq_iff_iff]; simp only [beq_iff_eq, Bool.and_eq_true, decide_eq_true_eq, Bool.false_eq_true, false_iff]; omega)
    · go_enter Try.func31, Try.ntmps31
      go_wp2
      all_goals
        go_ret
        refine ⟨ret_bool ?_, HB.out _⟩
        first | rfl | (rw [Bool.eq_iff_iff]; simp only [beq_iff_eq, Bool.and_eq_true, decide_eq_true_eq, Bool.false_eq_true, false_iff]; omega)

/-- What Get tells: of a leaf alone. -/
def getP (p : Pg) (k : ByteArray) : ByteArray × Bool := if hasB k p.keys = true ∧ leafP p = true then (p.vals.getD (idxB k p.keys) .empty, true) else (.empty, false)

set_option maxRecDepth 100000 in
set_option maxHeartbeats 2000000 in
theorem get_any (p : Pg) (k : ByteArray) (kv vv dv : Value) (w : World) (hp : PgAt w p kv vv dv) (hr : RisB p.keys) (hl : p.keys.length < 1099511627776) (hl2 : p.vals.length < 1099511627776) :
    Calls Try.prog 27 #[pgv p kv vv dv, .string k] w fun e w' => e = .returned (.tuple #[.string (getP p k).1, .bool (getP p k).2]) ∧ Below w.heap.size w w' := by
  obtain ⟨ka, kc, va, vc, da, dc, rfl, rfl, rfl, _, _, _⟩ := hp.forms
  have HK : Hid (∀ W, Below w.heap.size w W → Calls Try.prog 26 #[pgv p (.slice ka p.keys.length kc) (.slice va p.vals.length vc) (.slice da p.kids.length dc), .string k] W fun e w' => e = .returned (.tuple #[.int .i64 (atI p k : Int), .bool (hasB k p.keys)]) ∧ Below W.heap.size W w') := fun W hb => at_any _ _ _ _ _ _ (hp.below hb) hr hl
  have HF : Hid (∀ W, Calls Try.prog 63 #[pgv p (.slice ka p.keys.length kc) (.slice va p.vals.length vc) (.slice da p.kids.length dc)] W fun e w' => e = .returned (.bool (leafP p)) ∧ Below W.heap.size W w') := fun W => isLeaf_any p ka kc va vc da dc W hl hl2
  have HG : Hid (getP p k = if hasB k p.keys = true ∧ leafP p = true then (p.vals.getD (idxB k p.keys) .empty, true) else (.empty, false)) := rfl
  have HV : Hid (∀ W, Below w.heap.size w W → hasB k p.keys = true → leafP p = true → atI p k = idxB k p.keys ∧ idxB k p.keys < p.vals.length ∧ ∃ ad, va = some ad ∧ W.cell? (ad.add (idxB k p.keys)) = some (.string (p.vals.getD (idxB k p.keys) .empty))) := fun W hb h1 h2 => by
    unfold leafP at h2
    simp only [Bool.and_eq_true, decide_eq_true_eq] at h2
    have h3 := hasB_lt h1
    have h4 : idxB k p.keys < p.vals.length := by omega
    obtain ⟨_, _, _, r⟩ := (hp.vals.below hb).at
    obtain ⟨ad, rfl⟩ := r.ad (by rw [sv_length]; omega)
    refine ⟨by unfold atI; rw [if_neg (by omega)], h4, ad, rfl, ?_⟩
    rw [getD_of h4]
    exact r.str rfl h4
  generalize getP p k = G at *
  have HX0 : Hid (PBox (w.alloc (.cells (pgc p (.slice ka p.keys.length kc) (.slice va p.vals.length vc) (.slice da p.kids.length dc)) 25)) w.heap.size p (.slice ka p.keys.length kc) (.slice va p.vals.length vc) (.slice da p.kids.length dc)) := Blk.new _ _ _
  have HE0 : Hid (∀ o, Below w.heap.size w (w.alloc o)) := fun o => (Below.refl _ _).alloc (Nat.le_refl _) _
  unfold pgv at *
  unfold pgc at HX0
  generalize hasB k p.keys = hs at *
  generalize leafP p = lf at *
  generalize idxB k p.keys = ix at *
  generalize atI p k = ai at *
  generalize p.keys.length = kn at *
  generalize p.vals.getD ix ByteArray.empty = vx at *
  generalize p.vals.length = vn at *
  generalize p.kids.length = dn at *
  clear hp
  go_enter Try.func27, Try.ntmps27
  go_wp2_with fail
  refine (HK.out _ (HE0.out _)).mono ?_
  rintro e w1 ⟨rfl, x1⟩
  have X1 : Hid (PBox w1 w.heap.size p (.slice ka kn kc) (.slice va vn vc) (.slice da dn dc)) := HX0.out.below x1
  have HE1 : Hid (Below w.heap.size w w1) := (HE0.out _).trans (x1.mono (HE0.out _).size)
  clear x1 HX0 HE0 HK
  obtain ⟨y0, y1, y2, y3, y4, y5, y6, y7⟩ := X1.out.cells
  cases hs with
  | false =>
    go_wp2
    go_ret2
    exact ⟨by rw [HG.out]; simp; rfl, HE1.out⟩
  | true =>
    go_wp2_with fail
    refine (HF.out _).mono ?_
    rintro e w2 ⟨rfl, x1⟩
    have X2 : Hid (PBox w2 w.heap.size p (.slice ka kn kc) (.slice va vn vc) (.slice da dn dc)) := X1.out.below x1
    have HE2 : Hid (Below w.heap.size w w2) := HE1.out.trans (x1.mono HE1.out.size)
    clear y0 y1 y2 y3 y4 y5 y6 y7 x1 X1 HE1 HF
    obtain ⟨y0, y1, y2, y3, y4, y5, y6, y7⟩ := X2.out.cells
    cases lf with
    | false =>
      go_wp2
      go_ret2
      exact ⟨by rw [HG.out]; simp; rfl, HE2.out⟩
    | true =>
      obtain ⟨e1, e2, ad, e3, e4⟩ := HV.out w2 HE2.out (by simp) (by simp)
      subst e1 e3
      go_wp2
      go_ret2
      exact ⟨by rw [HG.out]; simp, HE2.out⟩
end Go.Proofs.Ytmjekecalghhdaa
