/- DueTimes: the walk of the law's Go text. -/
import Derived.Test.YtgoejoiomjmfaaaEnts
import Derived.Test.YtgoejoiomjmfaaaWDueMoves
namespace Go.Proofs.Ytgoejoiomjmfaaa
open Go.ChangeShapes Go.WideShapes Go.ChangeAt Go.RowKit

def Late (T : Key → Option Int) (now : Int) : Prop := ∀ q a, T q = some a → now < a
/-- In the loops: the queue, and what was there. -/
structure TimesAt (w : World) (B : Nat) (wr : World) (g N n : Nat) (T : Key → Option Int) : Prop where
  q : QS (fun k => B ≤ k) wr g N n T
  bel : Below w.heap.size w wr
  le : w.heap.size ≤ B
  size : B ≤ wr.heap.size
theorem TimesAt.step {w : World} {B : Nat} {wr w2 : World} {g N n N2 n2 : Nat} {T T2 : Key → Option Int} (h : TimesAt w B wr g N n T) (hq : QS (fun k => B ≤ k) w2 g N2 n2 T2) (hb : Below B wr w2) : TimesAt w B w2 g N2 n2 T2 :=
  ⟨hq, h.bel.trans (hb.mono h.le), h.le, Nat.le_trans h.size hb.size⟩
theorem TimesAt.more {w : World} {B : Nat} {wr : World} {g N n : Nat} {T : Key → Option Int} (h : TimesAt w B wr g N n T) (o : Obj) : TimesAt w B (wr.alloc o) g N n T :=
  ⟨h.q.below ((Below.refl _ _).alloc (Nat.le_refl _) _), h.bel.alloc h.bel.size _, h.le, by have := h.size; simp; omega⟩

set_option maxRecDepth 10000 in
set_option maxHeartbeats 4000000 in
theorem walk_DueTimes (oa : Option Addr) (no co : Nat) (es : List Ent) (now : Int) (w : World) (ho : IsEnts w oa no es) (_hn : (Lit.int .i64 now).wf = true) :
    Calls Try.prog 7 #[.slice oa no co, .int .i64 now] w fun e w' => e = .returned (.bool true) ∧ Below w.heap.size w w' := by
  obtain ⟨ho1, ho2, ho3, ho4⟩ := ho
  have HO1 : Hid (es.length = no) := ho1
  have HO4 : Hid (∀ x, oa = some x → ∀ i (h : i < es.length), EntAt w x i es[i]) := ho4
  unfold maxLen at ho2
  clear ho1 ho4 _hn
  go_enter Try.func7, Try.ntmps7
  go_wp2_with fail
  refine (head_any _).mono ?_
  rintro e w1 ⟨rfl, hb1⟩
  have HB1 : Hid (Below w.heap.size w w1) := hb1
  clear hb1
  by_cases h40 : 40 < no
  · have hd : decide (40 < (no : Int)) = true := decide_eq_true (by omega)
    go_wp2_with fail
    go_ret
    exact ⟨rfl, HB1.out⟩
  have hd : decide (40 < (no : Int)) = false := decide_eq_false (by omega)
  go_wp2_with fail
  refine (qs_new w1).mono ?_
  rintro e w2 ⟨g, rfl, hq2, hb2⟩
  have HT2 : Hid (TimesAt w w1.heap.size w2 g 0 0 (fun _ => none)) := ⟨hq2, bel_trans HB1.out hb2, HB1.out.size, hb2.size⟩
  clear hq2 hb2 hd
  unfold iptr
  go_wp2_with fail
  go_loopw [23] (fun vi wr => ∃ (k n : Nat) (T : Key → Option Int), vi = .int .i64 (k : Int) ∧ k ≤ no ∧ n ≤ k ∧ TimesAt w w1.heap.size wr g k n T) (fun vi _ => no - (intOf vi).toNat)
  case atStart => exact ⟨0, 0, _, rfl, by omega, by omega, HT2.out⟩
  case round =>
    obtain ⟨k, n, T, rfl, hk, hnk, hT⟩ := hrel
    have HT : Hid (TimesAt w w1.heap.size wr g k n T) := hT
    clear hT
    by_cases hlt : k < no
    · have hd1 : decide ((k : Int) < (no : Int)) = true := decide_eq_true (by omega)
      obtain ⟨x, rfl⟩ : ∃ x, oa = some x := by
        cases oa with
        | none => have := ho3 rfl; omega
        | some x => exact ⟨x, rfl⟩
      have hop0 := HO4.out x rfl k (by rw [HO1.out]; exact hlt)
      generalize es[k]'(by rw [HO1.out]; exact hlt) = o at hop0
      have hop := hop0.below HT.out.bel
      obtain ⟨at_, kk, xx, yy⟩ := o
      have e0 : wr.cell? (x.add (k * 4)) = some (.int .i64 at_) := hop.c0
      have e1 : wr.cell? ⟨(x.add (k * 4)).block, (x.add (k * 4)).off + 1, none⟩ = some (.int .i64 kk) := cell_on (by omega) hop.c1
      have e2 : wr.cell? ⟨(x.add (k * 4)).block, (x.add (k * 4)).off + 2, none⟩ = some (.int .u64 xx) := cell_on (by omega) hop.c2
      have e3 : wr.cell? ⟨(x.add (k * 4)).block, (x.add (k * 4)).off + 3, none⟩ = some (.int .i64 yy) := cell_on (by omega) hop.c3
      have HS : Hid (Calls _ _ _ _ _) := qb_set (HT.out.more (.cells #[.int .i64 at_, .int .i64 kk, .int .u64 xx, .int .i64 yy] 34)).q (HT.out.more _).size ⟨at_, kk, xx, yy⟩ hop0.wk (by omega) (by omega)
      clear hop hop0
      unfold iptr at *
      go_wp2_with fail
      refine Calls.mono HS.out ?_
      rintro e w3 ⟨rfl, hq3, hb3⟩
      have HT3 : Hid (TimesAt w w1.heap.size w3 g (k + 1) _ _) := (HT.out.more _).step hq3 hb3
      clear hq3 hb3 HS e0 e1 e2 e3
      go_wp2_with fail
      go_roundw
      case rel => exact ⟨k + 1, _, _, by go_num, by omega, by split <;> omega, HT3.out⟩
      case measure => simp [intOf]; omega
    · obtain rfl : k = no := by omega
      have hd1 : decide ((k : Int) < (k : Int)) = false := decide_eq_false (by omega)
      go_wp2_with fail
      go_loopw [8] (fun vi wr => ∃ (j n : Nat) (T : Key → Option Int), vi = .int .i64 (j : Int) ∧ n + j ≤ k ∧ TimesAt w w1.heap.size wr g k n T) (fun vi _ => k - (intOf vi).toNat)
      case atStart => exact ⟨0, n, _, rfl, by omega, HT.out⟩
      case round =>
        clear HT HT2 hd1 hnk
        obtain ⟨j, n, T, rfl, hj, hT⟩ := hrel
        have HT : Hid (TimesAt w w1.heap.size wr g k n T) := hT
        have hd1 : decide ((j : Int) ≤ (k : Int)) = true := decide_eq_true (by omega)
        have HX : Hid (Calls _ _ _ _ _) := qs_next hT.q now (by omega)
        clear hT
        unfold iptr at *
        go_wp2_with fail
        refine Calls.mono HX.out ?_
        rintro r w4 hN
        clear HX
        rcases hN with ⟨hr, hTn, hq4, hb4⟩ | ⟨e, m, hr, hn, ht, ha, hm, hq4, hc4⟩
        · skip
          subst hr
          have HT4 : Hid (TimesAt w w1.heap.size w4 g k n T) := HT.out.step hq4 (hb4.mono HT.out.size)
          have HTN : Hid (Late T now) := hTn
          clear hTn hq4 hb4 hd1 HT
          rw [show entV noEnt = .agg #[.int .i64 0, .int .i64 0, .int .u64 0, .int .i64 0] from rfl]
          have HT5 : Hid (TimesAt w w1.heap.size _ g k n T) := HT4.out.more (.cells #[.int .i64 0, .int .i64 0, .int .u64 0, .int .i64 0] 34)
          clear HT4
          go_wp2_with fail
          go_loopw [56] (fun vi wr => ∃ (j : Nat), vi = .int .i64 (j : Int) ∧ j ≤ k ∧ TimesAt w w1.heap.size wr g k n T) (fun vi _ => k - (intOf vi).toNat)
          case atStart => exact ⟨0, rfl, by omega, HT5.out⟩
          case round =>
            clear HT5
            obtain ⟨j, rfl, hj, hT⟩ := hrel
            have HT : Hid (TimesAt w w1.heap.size wr g k n T) := hT
            clear hT
            by_cases hlt2 : j < k
            · have hd1 : decide ((j : Int) < (k : Int)) = true := decide_eq_true (by omega)
              obtain ⟨x, rfl⟩ : ∃ x, oa = some x := by
                cases oa with
                | none => have := ho3 rfl; omega
                | some x => exact ⟨x, rfl⟩
              have hop0 := HO4.out x rfl j (by rw [HO1.out]; exact hlt2)
              generalize es[j]'(by rw [HO1.out]; exact hlt2) = o at hop0
              have hop := hop0.below HT.out.bel
              obtain ⟨at_, kk, xx, yy⟩ := o
              have e0 : wr.cell? (x.add (j * 4)) = some (.int .i64 at_) := hop.c0
              have e1 : wr.cell? ⟨(x.add (j * 4)).block, (x.add (j * 4)).off + 1, none⟩ = some (.int .i64 kk) := cell_on (by omega) hop.c1
              have e2 : wr.cell? ⟨(x.add (j * 4)).block, (x.add (j * 4)).off + 2, none⟩ = some (.int .u64 xx) := cell_on (by omega) hop.c2
              have e3 : wr.cell? ⟨(x.add (j * 4)).block, (x.add (j * 4)).off + 3, none⟩ = some (.int .i64 yy) := cell_on (by omega) hop.c3
              have HS : Hid (Calls _ _ _ _ _) := qb_when (HT.out.more (.cells #[.int .i64 at_, .int .i64 kk, .int .u64 xx, .int .i64 yy] 34)).q (HT.out.more _).size ⟨kk, xx, yy⟩ hop0.wk
              have hTK : ∀ a, T ⟨kk, xx, yy⟩ = some a → now < a := fun a h => HTN.out _ _ h
              clear hop hop0
              unfold iptr at *
              go_wp2_with fail
              refine Calls.mono HS.out ?_
              rintro e w6 ⟨rfl, hq6, hb6⟩
              have HT6 : Hid (TimesAt w w1.heap.size w6 g k n T) := (HT.out.more _).step hq6 hb6
              clear hq6 hb6 HS e0 e1 e2 e3
              cases hTq : T ⟨kk, xx, yy⟩ with
              | none =>
                rw [Option.isSome_none, Option.getD_none]
                clear hTK hTq
                go_wp2_with fail
                go_roundw
                case rel => exact ⟨j + 1, by go_num, by omega, HT6.out⟩
                case measure => simp [intOf]; omega
              | some a =>
                rw [Option.isSome_some, Option.getD_some]
                have hla := hTK a hTq
                have hda : decide (a ≤ now) = false := decide_eq_false (by omega)
                clear hTK hTq
                go_wp2_with fail
                go_roundw
                case rel => exact ⟨j + 1, by go_num, by omega, HT6.out⟩
                case measure => simp [intOf]; omega
            · obtain rfl : j = k := by omega
              have hd1 : decide ((j : Int) < (j : Int)) = false := decide_eq_false (by omega)
              go_wp2_with fail
              go_ret
              exact ⟨rfl, HT.out.bel⟩
        · skip
          subst hr
          have hb4 : Below w1.heap.size wr w4 := hc4.below HT.out.size (fun k hk => hk)
          have HT4 : Hid (TimesAt w w1.heap.size w4 g k m _) := HT.out.step hq4 hb4
          have hda : decide (now < e.at_) = false := decide_eq_false (by omega)
          have hmj : m + (j + 1) ≤ k := by omega
          clear ht hm hq4 hc4 hb4 hd1 HT hn
          obtain ⟨e1, e2, e3, e4⟩ := e
          rw [show entV ⟨e1, e2, e3, e4⟩ = .agg #[.int .i64 e1, .int .i64 e2, .int .u64 e3, .int .i64 e4] from rfl]
          have HT5 : Hid (TimesAt w w1.heap.size _ g k m _) := HT4.out.more (.cells #[.int .i64 e1, .int .i64 e2, .int .u64 e3, .int .i64 e4] 34)
          have c0 : (w4.alloc (.cells #[.int .i64 e1, .int .i64 e2, .int .u64 e3, .int .i64 e4] 34)).cell? ⟨w4.heap.size, 0, none⟩ = some (.int .i64 e1) := (Blk.new w4 _ _).cell 0
          simp only at hda ha
          clear HT4
          go_wp2_with fail
          go_roundw
          case rel => exact ⟨j + 1, m, _, by go_num, by omega, HT5.out⟩
          case measure => simp [intOf]; omega
end Go.Proofs.Ytgoejoiomjmfaaa
