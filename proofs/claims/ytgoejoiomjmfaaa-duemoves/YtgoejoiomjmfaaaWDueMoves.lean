/- DueMoves: the walk of the law's Go text. -/
import Derived.Test.YtgoejoiomjmfaaaDue18
import Derived.Test.YtgoejoiomjmfaaaWDueNil
namespace Go.Proofs.Ytgoejoiomjmfaaa
open Go.ChangeShapes Go.WideShapes Go.ChangeAt Go.RowKit

section
variable {B : Nat} {w : World} {g N n : Nat} {T : Key → Option Int}
theorem Blk.belB {a w : World} {b : Nat} {c : Array Value} {T : TypeId} (h : Blk a b c T) (hb : Below B a w) (hlt : b < B) : Blk w b c T := h.of (hb.block b hlt)
theorem qb_set (h : QS (fun k => B ≤ k) w g N n T) (hB : B ≤ w.heap.size) (e : Ent) (hw : e.key.wf) (hN : N < 1000000) (hn : n < 1000000) :
    Calls Try.prog 10 #[iptr g, .int .i64 e.kind, .agg #[.int .u64 e.num, .int .i64 e.node], .int .i64 e.at_] w fun r w' => r = .returned (.tuple #[]) ∧ QS (fun k => B ≤ k) w' g (N + 1) (if (T e.key).isSome then n else n + 1) (putT T e.key e.at_) ∧ Below B w w' := by
  refine (qs_set h e hw hN hn).mono ?_
  rintro r w' ⟨rfl, hq, hc⟩
  refine ⟨rfl, hq.mono (Nat.le_refl _) (fun k _ hk => ?_), hc.below hB (fun k hk => hk)⟩
  rcases hk with x | x
  · exact x
  · exact Nat.le_trans hB x
theorem qb_drop (h : QS (fun k => B ≤ k) w g N n T) (hB : B ≤ w.heap.size) (q : Key) (hw : q.wf) (hn : n < 1000000) :
    Calls Try.prog 11 #[iptr g, .int .i64 q.kind, .agg #[.int .u64 q.num, .int .i64 q.node]] w fun e w' => e = .returned (.bool (T q).isSome) ∧ QS (fun k => B ≤ k) w' g N (if (T q).isSome then n - 1 else n) (delT T q) ∧ Below B w w' := by
  refine (qs_drop h q hw hn).mono ?_
  rintro r w' ⟨rfl, hq, hc⟩
  exact ⟨rfl, hq, hc.below hB (fun k hk => hk)⟩
theorem qb_when (h : QS (fun k => B ≤ k) w g N n T) (hB : B ≤ w.heap.size) (q : Key) (hw : q.wf) :
    Calls Try.prog 12 #[iptr g, .int .i64 q.kind, .agg #[.int .u64 q.num, .int .i64 q.node]] w fun e w' => e = .returned (.tuple #[.int .i64 ((T q).getD 0), .bool (T q).isSome]) ∧ QS (fun k => B ≤ k) w' g N n T ∧ Below B w w' := by
  refine (qs_when h q hw).mono ?_
  rintro r w' ⟨rfl, hb⟩
  exact ⟨rfl, h.below hb, hb.mono hB⟩
end

def T1 (q : Key) (a : Int) : Key → Option Int := putT (fun _ => none) q a
def T3 (q u : Key) (a b : Int) : Key → Option Int := putT (putT (T1 q a) u a) q b
theorem T1_u {q u : Key} (h : u ≠ q) (a : Int) : T1 q a u = none := by unfold T1 putT; rw [if_neg h]
theorem T2_q {q u : Key} (h : u ≠ q) (a : Int) : putT (T1 q a) u a q = some a := by unfold T1 putT; rw [if_neg h.symm, if_pos rfl]
theorem T3_q (q u : Key) (a b : Int) : T3 q u a b q = some b := by unfold T3 putT; rw [if_pos rfl]
theorem T3_u {q u : Key} (h : u ≠ q) (a b : Int) : T3 q u a b u = some a := by unfold T3 putT; rw [if_neg h, if_pos rfl]
theorem T4_u (q u : Key) (a b : Int) : delT (T3 q u a b) u u = none := by unfold delT; rw [if_pos rfl]
theorem T5_of {q u k : Key} {a b c : Int} (h : delT (delT (T3 q u a b) u) u k = some c) : k = q ∧ c = b := by
  unfold delT T3 T1 putT at h
  split at h
  · cases h
  · rename_i hu
    split at h
    · rename_i hk
      cases h
      exact ⟨hk, rfl⟩
    · cases h
theorem T5_q {q u : Key} (h : u ≠ q) (a b : Int) : delT (delT (T3 q u a b) u) u q = some b := by unfold delT; rw [if_neg h.symm, if_neg h.symm, T3_q]

theorem one_wf : (Lit.int .i64 1).wf = true := by decide
set_option maxHeartbeats 4000000 in
theorem walk_DueMoves (x1 y1 x2 y2 a b now : Int) (w : World) (_h0 : (Lit.int .u64 x1).wf = true ∧ (Lit.int .i64 y1).wf = true) (_h1 : (Lit.int .u64 x2).wf = true ∧ (Lit.int .i64 y2).wf = true) (_h2 : (Lit.int .i64 a).wf = true) (_h3 : (Lit.int .i64 b).wf = true) (_h4 : (Lit.int .i64 now).wf = true) :
    Calls Try.prog 6 #[.agg #[.int .u64 x1, .int .i64 y1], .agg #[.int .u64 x2, .int .i64 y2], .int .i64 a, .int .i64 b, .int .i64 now] w fun e w' => e = .returned (.bool true) ∧ Below w.heap.size w w' := by
  have HW0 : Hid (Below w.heap.size w ((w.alloc (.cells #[.int .u64 x1, .int .i64 y1] 29)).alloc (.cells #[.int .u64 x2, .int .i64 y2] 29))) := ((Below.refl _ _).alloc (Nat.le_refl _) _).alloc (by simp) _
  have k0 := (Blk.new w #[.int .u64 x1, .int .i64 y1] 29).alloc (.cells #[.int .u64 x2, .int .i64 y2] 29)
  have k1 := Blk.new (w.alloc (.cells #[.int .u64 x1, .int .i64 y1] 29)) #[.int .u64 x2, .int .i64 y2] 29
  rw [show (w.alloc (.cells #[.int .u64 x1, .int .i64 y1] 29)).heap.size = w.heap.size + 1 by simp] at k1
  have HK0 : Hid (_ ∧ _) := ⟨k0, k1⟩
  have hq : Hid ((Key.mk 1 x1 y1).wf ∧ (Key.mk 1 x2 y2).wf) := ⟨⟨one_wf, _h0.1, _h0.2⟩, ⟨one_wf, _h1.1, _h1.2⟩⟩
  clear k0 k1 _h0 _h1 _h2 _h3 _h4
  go_enter Try.func6, Try.ntmps6
  go_wp2_with fail
  refine (head_any _).mono ?_
  rintro e w1 ⟨rfl, hb1⟩
  have HW1 : Hid (Below w.heap.size w w1) := bel_trans HW0.out hb1
  have HK1 : Hid (Blk w1 w.heap.size #[.int .u64 x1, .int .i64 y1] 29 ∧ Blk w1 (w.heap.size + 1) #[.int .u64 x2, .int .i64 y2] 29) := ⟨HK0.out.1.bel hb1, HK0.out.2.bel hb1⟩
  have c0 : w1.cell? ⟨w.heap.size, 0, none⟩ = some (.int .u64 x1) := HK1.out.1.cell 0
  have c1 : w1.cell? ⟨w.heap.size, 1, none⟩ = some (.int .i64 y1) := HK1.out.1.cell 1
  have c2 : w1.cell? ⟨w.heap.size + 1, 0, none⟩ = some (.int .u64 x2) := HK1.out.2.cell 0
  have c3 : w1.cell? ⟨w.heap.size + 1, 1, none⟩ = some (.int .i64 y2) := HK1.out.2.cell 1
  have hlt := HK1.out.2.lt
  clear hb1 HK0 HW0
  by_cases hxy : x1 = x2 ∧ y1 = y2
  · obtain ⟨rfl, rfl⟩ := hxy
    go_wp2_with fail
    go_ret
    exact ⟨rfl, HW1.out⟩
  have hne : Hid (Key.mk 1 x2 y2 ≠ Key.mk 1 x1 y1) := fun e => by
    simp only [Key.mk.injEq] at e
    exact hxy ⟨e.2.1.symm, e.2.2.symm⟩
  by_cases hx : x1 = x2
  · subst hx
    have hy : ¬ y1 = y2 := fun h => hxy ⟨rfl, h⟩
    clear hxy
    go_wp2_with fail
    refine (qs_new w1).mono ?_
    rintro e w2 ⟨g, rfl, hq2, hb2⟩
    have hB2 : Hid (w1.heap.size ≤ w2.heap.size) := hb2.size
    have HW2 : Hid (Below w.heap.size w w2) := bel_trans HW1.out hb2
    have HK2 : Hid (Blk w2 w.heap.size #[.int .u64 x1, .int .i64 y1] 29 ∧ Blk w2 (w.heap.size + 1) #[.int .u64 x1, .int .i64 y2] 29) := ⟨HK1.out.1.bel hb2, HK1.out.2.bel hb2⟩
    have d0 : w2.cell? ⟨w.heap.size, 0, none⟩ = some (.int .u64 x1) := HK2.out.1.cell 0
    have d1 : w2.cell? ⟨w.heap.size, 1, none⟩ = some (.int .i64 y1) := HK2.out.1.cell 1
    have hs1 := qb_set hq2 hB2.out ⟨a, 1, x1, y1⟩ hq.out.1 (by omega) (by omega)
    have HS1 : Hid (Calls _ _ _ _ _) := hs1
    clear hq2 hb2 hs1 c0 c1 c2 c3
    unfold iptr at *
    go_wp2_with fail
    refine Calls.mono HS1.out ?_
    rintro e w3 ⟨rfl, hq3, hb3⟩
    have hq3' : QS (fun k => w1.heap.size ≤ k) w3 g 1 1 (T1 ⟨1, x1, y1⟩ a) := hq3
    have hB3 : Hid (w1.heap.size ≤ w3.heap.size) := Nat.le_trans hB2.out hb3.size
    have HW3 : Hid (Below w.heap.size w w3) := HW2.out.trans (hb3.mono HW1.out.size)
    have HK3 : Hid (Blk w3 w.heap.size #[.int .u64 x1, .int .i64 y1] 29 ∧ Blk w3 (w.heap.size + 1) #[.int .u64 x1, .int .i64 y2] 29) := ⟨HK2.out.1.belB hb3 (by omega), HK2.out.2.belB hb3 hlt⟩
    have c2 : w3.cell? ⟨w.heap.size + 1, 0, none⟩ = some (.int .u64 x1) := HK3.out.2.cell 0
    have c3 : w3.cell? ⟨w.heap.size + 1, 1, none⟩ = some (.int .i64 y2) := HK3.out.2.cell 1
    have hs2 := qb_set hq3' hB3.out ⟨a, 1, x1, y2⟩ hq.out.2 (by omega) (by omega)
    rw [show T1 ⟨1, x1, y1⟩ a (Ent.key ⟨a, 1, x1, y2⟩) = none from T1_u hne.out a] at hs2
    have HS2 : Hid (Calls _ _ _ _ _) := hs2
    clear hq3 hq3' hb3 hs2 HS1 d0 d1
    unfold iptr at *
    go_wp2_with fail
    refine Calls.mono HS2.out ?_
    rintro e w4 ⟨rfl, hq4, hb4⟩
    have hq4' : QS (fun k => w1.heap.size ≤ k) w4 g 2 2 (putT (T1 ⟨1, x1, y1⟩ a) ⟨1, x1, y2⟩ a) := hq4
    have hB4 : Hid (w1.heap.size ≤ w4.heap.size) := Nat.le_trans hB3.out hb4.size
    have HW4 : Hid (Below w.heap.size w w4) := HW3.out.trans (hb4.mono HW1.out.size)
    have HK4 : Hid (Blk w4 w.heap.size #[.int .u64 x1, .int .i64 y1] 29 ∧ Blk w4 (w.heap.size + 1) #[.int .u64 x1, .int .i64 y2] 29) := ⟨HK3.out.1.belB hb4 (by omega), HK3.out.2.belB hb4 hlt⟩
    have d0 : w4.cell? ⟨w.heap.size, 0, none⟩ = some (.int .u64 x1) := HK4.out.1.cell 0
    have d1 : w4.cell? ⟨w.heap.size, 1, none⟩ = some (.int .i64 y1) := HK4.out.1.cell 1
    have hs3 := qb_set hq4' hB4.out ⟨b, 1, x1, y1⟩ hq.out.1 (by omega) (by omega)
    rw [show putT (T1 ⟨1, x1, y1⟩ a) ⟨1, x1, y2⟩ a (Ent.key ⟨b, 1, x1, y1⟩) = some a from T2_q hne.out a] at hs3
    have HS3 : Hid (Calls _ _ _ _ _) := hs3
    clear hq4 hq4' hb4 hs3 HS2 c2 c3
    unfold iptr at *
    go_wp2_with fail
    refine Calls.mono HS3.out ?_
    rintro e w5 ⟨rfl, hq5, hb5⟩
    have hq5' : QS (fun k => w1.heap.size ≤ k) w5 g 3 2 (T3 ⟨1, x1, y1⟩ ⟨1, x1, y2⟩ a b) := hq5
    have hB5 : Hid (w1.heap.size ≤ w5.heap.size) := Nat.le_trans hB4.out hb5.size
    have HW5 : Hid (Below w.heap.size w w5) := HW4.out.trans (hb5.mono HW1.out.size)
    have HK5 : Hid (Blk w5 w.heap.size #[.int .u64 x1, .int .i64 y1] 29 ∧ Blk w5 (w.heap.size + 1) #[.int .u64 x1, .int .i64 y2] 29) := ⟨HK4.out.1.belB hb5 (by omega), HK4.out.2.belB hb5 hlt⟩
    have c0 : w5.cell? ⟨w.heap.size, 0, none⟩ = some (.int .u64 x1) := HK5.out.1.cell 0
    have c1 : w5.cell? ⟨w.heap.size, 1, none⟩ = some (.int .i64 y1) := HK5.out.1.cell 1
    have hs4 := qb_when hq5' hB5.out ⟨1, x1, y1⟩ hq.out.1
    rw [T3_q] at hs4
    have HS4 : Hid (Calls _ _ _ _ _) := hs4
    clear hq5 hq5' hb5 hs4 HS3 d0 d1
    unfold iptr at *
    go_wp2_with fail
    refine Calls.mono HS4.out ?_
    rintro e w6 ⟨rfl, hq6, hb6⟩
    have hB6 : Hid (w1.heap.size ≤ w6.heap.size) := Nat.le_trans hB5.out hb6.size
    have HW6 : Hid (Below w.heap.size w w6) := HW5.out.trans (hb6.mono HW1.out.size)
    have HK6 : Hid (Blk w6 w.heap.size #[.int .u64 x1, .int .i64 y1] 29 ∧ Blk w6 (w.heap.size + 1) #[.int .u64 x1, .int .i64 y2] 29) := ⟨HK5.out.1.belB hb6 (by omega), HK5.out.2.belB hb6 hlt⟩
    have d0 : w6.cell? ⟨w.heap.size + 1, 0, none⟩ = some (.int .u64 x1) := HK6.out.2.cell 0
    have d1 : w6.cell? ⟨w.heap.size + 1, 1, none⟩ = some (.int .i64 y2) := HK6.out.2.cell 1
    have HL6 : Hid (Calls _ _ _ _ _) := qs_len hq6
    have hs6 := qb_drop hq6 hB6.out ⟨1, x1, y2⟩ hq.out.2 (by omega)
    rw [T3_u hne.out] at hs6
    have HS6 : Hid (Calls _ _ _ _ _) := hs6
    clear hq6 hb6 hs6 HS4 c0 c1
    unfold iptr at *
    go_wp2_with fail
    refine Calls.mono HL6.out ?_
    rintro e w' ⟨rfl, hw⟩; rw [hw]; clear hw w' HL6
    go_wp2_with fail
    refine Calls.mono HS6.out ?_
    rintro e w7 ⟨rfl, hq7, hb7⟩
    have hq7' : QS (fun k => w1.heap.size ≤ k) w7 g 3 1 (delT (T3 ⟨1, x1, y1⟩ ⟨1, x1, y2⟩ a b) ⟨1, x1, y2⟩) := hq7
    have hB7 : Hid (w1.heap.size ≤ w7.heap.size) := Nat.le_trans hB6.out hb7.size
    have HW7 : Hid (Below w.heap.size w w7) := HW6.out.trans (hb7.mono HW1.out.size)
    have HK7 : Hid (Blk w7 w.heap.size #[.int .u64 x1, .int .i64 y1] 29 ∧ Blk w7 (w.heap.size + 1) #[.int .u64 x1, .int .i64 y2] 29) := ⟨HK6.out.1.belB hb7 (by omega), HK6.out.2.belB hb7 hlt⟩
    have c2 : w7.cell? ⟨w.heap.size + 1, 0, none⟩ = some (.int .u64 x1) := HK7.out.2.cell 0
    have c3 : w7.cell? ⟨w.heap.size + 1, 1, none⟩ = some (.int .i64 y2) := HK7.out.2.cell 1
    have hs7 := qb_drop hq7' hB7.out ⟨1, x1, y2⟩ hq.out.2 (by omega)
    rw [T4_u] at hs7
    have HS7 : Hid (Calls _ _ _ _ _) := hs7
    clear hq7 hq7' hb7 hs7 HS6 d0 d1
    unfold iptr at *
    go_wp2_with fail
    refine Calls.mono HS7.out ?_
    rintro e w8 ⟨rfl, hq8, hb8⟩
    have hq8' : QS (fun k => w1.heap.size ≤ k) w8 g 3 1 (delT (delT (T3 ⟨1, x1, y1⟩ ⟨1, x1, y2⟩ a b) ⟨1, x1, y2⟩) ⟨1, x1, y2⟩) := hq8
    have hB8 : Hid (w1.heap.size ≤ w8.heap.size) := Nat.le_trans hB7.out hb8.size
    have HW8 : Hid (Below w.heap.size w w8) := HW7.out.trans (hb8.mono HW1.out.size)
    have HK8 : Hid (Blk w8 w.heap.size #[.int .u64 x1, .int .i64 y1] 29 ∧ Blk w8 (w.heap.size + 1) #[.int .u64 x1, .int .i64 y2] 29) := ⟨HK7.out.1.belB hb8 (by omega), HK7.out.2.belB hb8 hlt⟩
    have HL8 : Hid (Calls _ _ _ _ _) := qs_len hq8'
    have HS8 : Hid (Calls _ _ _ _ _) := qs_next hq8' now (by omega)
    clear hq8 hq8' hb8 HS7 c2 c3
    unfold iptr at *
    go_wp2_with fail
    refine Calls.mono HL8.out ?_
    rintro e w' ⟨rfl, hw⟩; rw [hw]; clear hw w' HL8
    go_wp2_with fail
    refine Calls.mono HS8.out ?_
    rintro r w9 hN
    clear HS8 HK1 HK2 HK3 HK4 HK5 HK6 HK7 HW2 HW3 HW4 HW5 HW6 HW7 hB2 hB3 hB4 hB5 hB6 hB7
    rcases hN with ⟨hr, hT, hq9, hb9⟩ | ⟨e, m, hr, hn, ht, ha, hm, hq9, hc9⟩
    · skip
      subst hr
      have hlt9 := hT ⟨1, x1, y1⟩ b (T5_q hne.out a b)
      have hle : ¬ b ≤ now := by omega
      have HW9 : Hid (Below w.heap.size w w9) := bel_trans HW8.out hb9
      have hq9' := hq9.below (w' := w9.alloc (.cells #[.int .i64 0, .int .i64 0, .int .u64 0, .int .i64 0] 34)) ((Below.refl _ _).alloc (Nat.le_refl _) _)
      have HL9 : Hid (Calls _ _ _ _ _) := qs_len hq9'
      clear hT hq9 hq9' hb9
      rw [show entV noEnt = .agg #[.int .i64 0, .int .i64 0, .int .u64 0, .int .i64 0] from rfl]
      unfold iptr at *
      go_wp2_with fail
      refine Calls.mono HL9.out ?_
      rintro e w' ⟨rfl, hw⟩; rw [hw]; clear hw w' HL9
      go_wp2_with fail
      go_ret
      exact ⟨rfl, HW9.out.alloc HW9.out.size _⟩
    · skip
      subst hr
      obtain ⟨hk, hbq⟩ := T5_of ht
      obtain rfl : m = 0 := by omega
      obtain ⟨e1, e2, e3, e4⟩ := e
      unfold Ent.key at hk
      simp only [Key.mk.injEq] at hk hbq ha
      obtain ⟨rfl, rfl, rfl⟩ := hk
      subst hbq
      have hb9 : Below w1.heap.size w8 w9 := hc9.below hB8.out (fun k hk => hk)
      have HW9 : Hid (Below w.heap.size w w9) := HW8.out.trans (hb9.mono HW1.out.size)
      have hk9 := ((HK8.out.1.belB hb9 (by omega)).alloc (.cells #[.int .i64 e1, .int .i64 1, .int .u64 e3, .int .i64 e4] 34))
      have c0 := hk9.cell 0
      have c1 := hk9.cell 1
      have hq9' := hq9.below (w' := w9.alloc (.cells #[.int .i64 e1, .int .i64 1, .int .u64 e3, .int .i64 e4] 34)) ((Below.refl _ _).alloc (Nat.le_refl _) _)
      have HL9 : Hid (Calls _ _ _ _ _) := qs_len hq9'
      clear ht hm hn hq9 hq9' hb9 hc9 hk9
      rw [show entV ⟨e1, 1, e3, e4⟩ = .agg #[.int .i64 e1, .int .i64 1, .int .u64 e3, .int .i64 e4] from rfl]
      unfold iptr at *
      go_wp2_with fail
      refine Calls.mono HL9.out ?_
      rintro e w' ⟨rfl, hw⟩; rw [hw]; clear hw w' HL9
      go_wp2_with fail
      go_ret
      exact ⟨rfl, HW9.out.alloc HW9.out.size _⟩
  · clear hxy
    go_wp2_with fail
    refine (qs_new w1).mono ?_
    rintro e w2 ⟨g, rfl, hq2, hb2⟩
    have hB2 : Hid (w1.heap.size ≤ w2.heap.size) := hb2.size
    have HW2 : Hid (Below w.heap.size w w2) := bel_trans HW1.out hb2
    have HK2 : Hid (Blk w2 w.heap.size #[.int .u64 x1, .int .i64 y1] 29 ∧ Blk w2 (w.heap.size + 1) #[.int .u64 x2, .int .i64 y2] 29) := ⟨HK1.out.1.bel hb2, HK1.out.2.bel hb2⟩
    have d0 : w2.cell? ⟨w.heap.size, 0, none⟩ = some (.int .u64 x1) := HK2.out.1.cell 0
    have d1 : w2.cell? ⟨w.heap.size, 1, none⟩ = some (.int .i64 y1) := HK2.out.1.cell 1
    have hs1 := qb_set hq2 hB2.out ⟨a, 1, x1, y1⟩ hq.out.1 (by omega) (by omega)
    have HS1 : Hid (Calls _ _ _ _ _) := hs1
    clear hq2 hb2 hs1 c0 c1 c2 c3
    unfold iptr at *
    go_wp2_with fail
    refine Calls.mono HS1.out ?_
    rintro e w3 ⟨rfl, hq3, hb3⟩
    have hq3' : QS (fun k => w1.heap.size ≤ k) w3 g 1 1 (T1 ⟨1, x1, y1⟩ a) := hq3
    have hB3 : Hid (w1.heap.size ≤ w3.heap.size) := Nat.le_trans hB2.out hb3.size
    have HW3 : Hid (Below w.heap.size w w3) := HW2.out.trans (hb3.mono HW1.out.size)
    have HK3 : Hid (Blk w3 w.heap.size #[.int .u64 x1, .int .i64 y1] 29 ∧ Blk w3 (w.heap.size + 1) #[.int .u64 x2, .int .i64 y2] 29) := ⟨HK2.out.1.belB hb3 (by omega), HK2.out.2.belB hb3 hlt⟩
    have c2 : w3.cell? ⟨w.heap.size + 1, 0, none⟩ = some (.int .u64 x2) := HK3.out.2.cell 0
    have c3 : w3.cell? ⟨w.heap.size + 1, 1, none⟩ = some (.int .i64 y2) := HK3.out.2.cell 1
    have hs2 := qb_set hq3' hB3.out ⟨a, 1, x2, y2⟩ hq.out.2 (by omega) (by omega)
    rw [show T1 ⟨1, x1, y1⟩ a (Ent.key ⟨a, 1, x2, y2⟩) = none from T1_u hne.out a] at hs2
    have HS2 : Hid (Calls _ _ _ _ _) := hs2
    clear hq3 hq3' hb3 hs2 HS1 d0 d1
    unfold iptr at *
    go_wp2_with fail
    refine Calls.mono HS2.out ?_
    rintro e w4 ⟨rfl, hq4, hb4⟩
    have hq4' : QS (fun k => w1.heap.size ≤ k) w4 g 2 2 (putT (T1 ⟨1, x1, y1⟩ a) ⟨1, x2, y2⟩ a) := hq4
    have hB4 : Hid (w1.heap.size ≤ w4.heap.size) := Nat.le_trans hB3.out hb4.size
    have HW4 : Hid (Below w.heap.size w w4) := HW3.out.trans (hb4.mono HW1.out.size)
    have HK4 : Hid (Blk w4 w.heap.size #[.int .u64 x1, .int .i64 y1] 29 ∧ Blk w4 (w.heap.size + 1) #[.int .u64 x2, .int .i64 y2] 29) := ⟨HK3.out.1.belB hb4 (by omega), HK3.out.2.belB hb4 hlt⟩
    have d0 : w4.cell? ⟨w.heap.size, 0, none⟩ = some (.int .u64 x1) := HK4.out.1.cell 0
    have d1 : w4.cell? ⟨w.heap.size, 1, none⟩ = some (.int .i64 y1) := HK4.out.1.cell 1
    have hs3 := qb_set hq4' hB4.out ⟨b, 1, x1, y1⟩ hq.out.1 (by omega) (by omega)
    rw [show putT (T1 ⟨1, x1, y1⟩ a) ⟨1, x2, y2⟩ a (Ent.key ⟨b, 1, x1, y1⟩) = some a from T2_q hne.out a] at hs3
    have HS3 : Hid (Calls _ _ _ _ _) := hs3
    clear hq4 hq4' hb4 hs3 HS2 c2 c3
    unfold iptr at *
    go_wp2_with fail
    refine Calls.mono HS3.out ?_
    rintro e w5 ⟨rfl, hq5, hb5⟩
    have hq5' : QS (fun k => w1.heap.size ≤ k) w5 g 3 2 (T3 ⟨1, x1, y1⟩ ⟨1, x2, y2⟩ a b) := hq5
    have hB5 : Hid (w1.heap.size ≤ w5.heap.size) := Nat.le_trans hB4.out hb5.size
    have HW5 : Hid (Below w.heap.size w w5) := HW4.out.trans (hb5.mono HW1.out.size)
    have HK5 : Hid (Blk w5 w.heap.size #[.int .u64 x1, .int .i64 y1] 29 ∧ Blk w5 (w.heap.size + 1) #[.int .u64 x2, .int .i64 y2] 29) := ⟨HK4.out.1.belB hb5 (by omega), HK4.out.2.belB hb5 hlt⟩
    have c0 : w5.cell? ⟨w.heap.size, 0, none⟩ = some (.int .u64 x1) := HK5.out.1.cell 0
    have c1 : w5.cell? ⟨w.heap.size, 1, none⟩ = some (.int .i64 y1) := HK5.out.1.cell 1
    have hs4 := qb_when hq5' hB5.out ⟨1, x1, y1⟩ hq.out.1
    rw [T3_q] at hs4
    have HS4 : Hid (Calls _ _ _ _ _) := hs4
    clear hq5 hq5' hb5 hs4 HS3 d0 d1
    unfold iptr at *
    go_wp2_with fail
    refine Calls.mono HS4.out ?_
    rintro e w6 ⟨rfl, hq6, hb6⟩
    have hB6 : Hid (w1.heap.size ≤ w6.heap.size) := Nat.le_trans hB5.out hb6.size
    have HW6 : Hid (Below w.heap.size w w6) := HW5.out.trans (hb6.mono HW1.out.size)
    have HK6 : Hid (Blk w6 w.heap.size #[.int .u64 x1, .int .i64 y1] 29 ∧ Blk w6 (w.heap.size + 1) #[.int .u64 x2, .int .i64 y2] 29) := ⟨HK5.out.1.belB hb6 (by omega), HK5.out.2.belB hb6 hlt⟩
    have d0 : w6.cell? ⟨w.heap.size + 1, 0, none⟩ = some (.int .u64 x2) := HK6.out.2.cell 0
    have d1 : w6.cell? ⟨w.heap.size + 1, 1, none⟩ = some (.int .i64 y2) := HK6.out.2.cell 1
    have HL6 : Hid (Calls _ _ _ _ _) := qs_len hq6
    have hs6 := qb_drop hq6 hB6.out ⟨1, x2, y2⟩ hq.out.2 (by omega)
    rw [T3_u hne.out] at hs6
    have HS6 : Hid (Calls _ _ _ _ _) := hs6
    clear hq6 hb6 hs6 HS4 c0 c1
    unfold iptr at *
    go_wp2_with fail
    refine Calls.mono HL6.out ?_
    rintro e w' ⟨rfl, hw⟩; rw [hw]; clear hw w' HL6
    go_wp2_with fail
    refine Calls.mono HS6.out ?_
    rintro e w7 ⟨rfl, hq7, hb7⟩
    have hq7' : QS (fun k => w1.heap.size ≤ k) w7 g 3 1 (delT (T3 ⟨1, x1, y1⟩ ⟨1, x2, y2⟩ a b) ⟨1, x2, y2⟩) := hq7
    have hB7 : Hid (w1.heap.size ≤ w7.heap.size) := Nat.le_trans hB6.out hb7.size
    have HW7 : Hid (Below w.heap.size w w7) := HW6.out.trans (hb7.mono HW1.out.size)
    have HK7 : Hid (Blk w7 w.heap.size #[.int .u64 x1, .int .i64 y1] 29 ∧ Blk w7 (w.heap.size + 1) #[.int .u64 x2, .int .i64 y2] 29) := ⟨HK6.out.1.belB hb7 (by omega), HK6.out.2.belB hb7 hlt⟩
    have c2 : w7.cell? ⟨w.heap.size + 1, 0, none⟩ = some (.int .u64 x2) := HK7.out.2.cell 0
    have c3 : w7.cell? ⟨w.heap.size + 1, 1, none⟩ = some (.int .i64 y2) := HK7.out.2.cell 1
    have hs7 := qb_drop hq7' hB7.out ⟨1, x2, y2⟩ hq.out.2 (by omega)
    rw [T4_u] at hs7
    have HS7 : Hid (Calls _ _ _ _ _) := hs7
    clear hq7 hq7' hb7 hs7 HS6 d0 d1
    unfold iptr at *
    go_wp2_with fail
    refine Calls.mono HS7.out ?_
    rintro e w8 ⟨rfl, hq8, hb8⟩
    have hq8' : QS (fun k => w1.heap.size ≤ k) w8 g 3 1 (delT (delT (T3 ⟨1, x1, y1⟩ ⟨1, x2, y2⟩ a b) ⟨1, x2, y2⟩) ⟨1, x2, y2⟩) := hq8
    have hB8 : Hid (w1.heap.size ≤ w8.heap.size) := Nat.le_trans hB7.out hb8.size
    have HW8 : Hid (Below w.heap.size w w8) := HW7.out.trans (hb8.mono HW1.out.size)
    have HK8 : Hid (Blk w8 w.heap.size #[.int .u64 x1, .int .i64 y1] 29 ∧ Blk w8 (w.heap.size + 1) #[.int .u64 x2, .int .i64 y2] 29) := ⟨HK7.out.1.belB hb8 (by omega), HK7.out.2.belB hb8 hlt⟩
    have HL8 : Hid (Calls _ _ _ _ _) := qs_len hq8'
    have HS8 : Hid (Calls _ _ _ _ _) := qs_next hq8' now (by omega)
    clear hq8 hq8' hb8 HS7 c2 c3
    unfold iptr at *
    go_wp2_with fail
    refine Calls.mono HL8.out ?_
    rintro e w' ⟨rfl, hw⟩; rw [hw]; clear hw w' HL8
    go_wp2_with fail
    refine Calls.mono HS8.out ?_
    rintro r w9 hN
    clear HS8 HK1 HK2 HK3 HK4 HK5 HK6 HK7 HW2 HW3 HW4 HW5 HW6 HW7 hB2 hB3 hB4 hB5 hB6 hB7
    rcases hN with ⟨hr, hT, hq9, hb9⟩ | ⟨e, m, hr, hn, ht, ha, hm, hq9, hc9⟩
    · skip
      subst hr
      have hlt9 := hT ⟨1, x1, y1⟩ b (T5_q hne.out a b)
      have hle : ¬ b ≤ now := by omega
      have HW9 : Hid (Below w.heap.size w w9) := bel_trans HW8.out hb9
      have hq9' := hq9.below (w' := w9.alloc (.cells #[.int .i64 0, .int .i64 0, .int .u64 0, .int .i64 0] 34)) ((Below.refl _ _).alloc (Nat.le_refl _) _)
      have HL9 : Hid (Calls _ _ _ _ _) := qs_len hq9'
      clear hT hq9 hq9' hb9
      rw [show entV noEnt = .agg #[.int .i64 0, .int .i64 0, .int .u64 0, .int .i64 0] from rfl]
      unfold iptr at *
      go_wp2_with fail
      refine Calls.mono HL9.out ?_
      rintro e w' ⟨rfl, hw⟩; rw [hw]; clear hw w' HL9
      go_wp2_with fail
      go_ret
      exact ⟨rfl, HW9.out.alloc HW9.out.size _⟩
    · skip
      subst hr
      obtain ⟨hk, hbq⟩ := T5_of ht
      obtain rfl : m = 0 := by omega
      obtain ⟨e1, e2, e3, e4⟩ := e
      unfold Ent.key at hk
      simp only [Key.mk.injEq] at hk hbq ha
      obtain ⟨rfl, rfl, rfl⟩ := hk
      subst hbq
      have hb9 : Below w1.heap.size w8 w9 := hc9.below hB8.out (fun k hk => hk)
      have HW9 : Hid (Below w.heap.size w w9) := HW8.out.trans (hb9.mono HW1.out.size)
      have hk9 := ((HK8.out.1.belB hb9 (by omega)).alloc (.cells #[.int .i64 e1, .int .i64 1, .int .u64 e3, .int .i64 e4] 34))
      have c0 := hk9.cell 0
      have c1 := hk9.cell 1
      have hq9' := hq9.below (w' := w9.alloc (.cells #[.int .i64 e1, .int .i64 1, .int .u64 e3, .int .i64 e4] 34)) ((Below.refl _ _).alloc (Nat.le_refl _) _)
      have HL9 : Hid (Calls _ _ _ _ _) := qs_len hq9'
      clear ht hm hn hq9 hq9' hb9 hc9 hk9
      rw [show entV ⟨e1, 1, e3, e4⟩ = .agg #[.int .i64 e1, .int .i64 1, .int .u64 e3, .int .i64 e4] from rfl]
      unfold iptr at *
      go_wp2_with fail
      refine Calls.mono HL9.out ?_
      rintro e w' ⟨rfl, hw⟩; rw [hw]; clear hw w' HL9
      go_wp2_with fail
      go_ret
      exact ⟨rfl, HW9.out.alloc HW9.out.size _⟩
end Go.Proofs.Ytgoejoiomjmfaaa
