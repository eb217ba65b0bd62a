/- The log: its end. Own lemmas, no statement. -/
import Derived.Test.YtepfckckplbjjaaWal5
namespace Go.Proofs.Ytepfckckplbjjaa
open Go.ChangeShapes Go.WideShapes Go.ChangeAt Go.RowKit

theorem entW_all {lk : Nat → Option Pc} {n0 least : Nat} : ∀ {m k life : Nat} {acc t : List UInt8} {l nx : Nat}, entW lk n0 least m k acc life = some (t, l, nx) → k < nx ∧ ∀ j, k ≤ j → j < nx → ∃ p, lk j = some p
  | 0, k, life, acc, t, l, nx, h => by cases h
  | m + 1, k, life, acc, t, l, nx, h => by
    unfold entW at h
    split at h
    · cases h
    · rename_i p hp
      split at h
      · cases h
      · split at h
        · cases h
          exact ⟨by omega, fun j h1 h2 => by obtain rfl : j = k := by omega
                                             exact ⟨p, hp⟩⟩
        · obtain ⟨h1, h2⟩ := entW_all h
          refine ⟨by omega, fun j h3 h4 => ?_⟩
          rcases Nat.lt_or_ge k j with h5 | h5
          · exact h2 j h5 h4
          · obtain rfl : j = k := by omega
            exact ⟨p, hp⟩
theorem entW_life {lk : Nat → Option Pc} {n0 least : Nat} (hlk : ∀ j p, lk j = some p → p.life < 18446744073709551616) : ∀ {m k life : Nat} {acc t : List UInt8} {l nx : Nat}, entW lk n0 least m k acc life = some (t, l, nx) → l < 18446744073709551616
  | 0, k, life, acc, t, l, nx, h => by cases h
  | m + 1, k, life, acc, t, l, nx, h => by
    unfold entW at h
    split at h
    · cases h
    · rename_i p hp
      split at h
      · cases h
      · split at h
        · cases h
          exact hlk k p hp
        · exact entW_life hlk h
theorem look_life {s : LSt} {st : DSt} {n : Nat} {p : Pc} (h : look s st n = some p) : p.life < 18446744073709551616 := by
  obtain ⟨b, _, h2⟩ := look_some h
  exact (readPc_len h2).2

/-- The entry that begins at a number. -/
def entAt (s : LSt) (st : DSt) (n least : Nat) : Option (List UInt8 × Nat × Nat) := entW (look s st) n least (s.room + 1) n [] 0
theorem entAt_lt {s : LSt} {st : DSt} {first n least l nx : Nat} {t : List UInt8} (h : entAt s st n least = some (t, l, nx)) (hr : 0 < s.room) (h1 : first ≤ n) (h2 : n ≤ first + s.room) (hf : first < n → ∃ p, look s st first = some p) : n < nx ∧ nx ≤ first + s.room ∧ (∃ p, look s st first = some p) := by
  obtain ⟨a1, a2⟩ := entW_all h
  have hfst : ∃ p, look s st first = some p := by
    rcases Nat.lt_or_ge first n with h3 | h3
    · exact hf h3
    · obtain rfl : first = n := by omega
      exact a2 first (Nat.le_refl _) a1
  refine ⟨a1, ?_, hfst⟩
  rcases Nat.lt_or_ge (first + s.room) nx with h3 | h3
  · obtain ⟨p, hp⟩ := hfst
    have e1 := look_round hp hr
    obtain ⟨q, hq⟩ := a2 (first + s.room) h2 h3
    rw [e1] at hq
    cases hq
  · exact h3
/-- The number behind all entries from one on, and the last one's life. -/
def endW (s : LSt) (st : DSt) : Nat → Nat → Nat → Nat → Nat × Nat
  | 0, next, life, _ => (next, life)
  | m + 1, next, life, least => match entAt s st next least with
    | none => (next, life)
    | some (_, l, nx) => endW s st m nx l l
def endAt (s : LSt) (st : DSt) (first least : Nat) : Nat × Nat := endW s st (s.room + 1) first 0 least

def mV (writing life first least : Nat) : Value := .agg #[.int .u64 (writing : Int), .int .u64 (life : Int), .int .u64 (first : Int), .int .u64 (least : Int)]
theorem endW_none {s : LSt} {st : DSt} {m n l e : Nat} (h : entAt s st n e = none) : endW s st m n l e = (n, l) := by
  cases m with
  | zero => rfl
  | succ m => unfold endW; rw [h]
theorem endW_some {s : LSt} {st : DSt} {m n l e l2 nx : Nat} {t : List UInt8} (hm : 0 < m) (h : entAt s st n e = some (t, l2, nx)) : endW s st m n l e = endW s st (m - 1) nx l2 l2 := by
  cases m with
  | zero => omega
  | succ m =>
    conv => lhs; unfold endW
    rw [h]
    rfl
/-- What is kept while the end is sought. -/
def EndI (s : LSt) (st : DSt) (first least0 n l e : Nat) : Prop := first ≤ n ∧ n ≤ first + s.room ∧ (first < n → ∃ p, look s st first = some p) ∧ ∃ m, first + s.room < n + m ∧ endW s st m n l e = endAt s st first least0

set_option maxRecDepth 10000 in
set_option maxHeartbeats 4000000 in
theorem end_any {w : World} {g : Nat} {f : Foot} {s : LSt} {st : DSt} (h : WL w g f s st) (writing life first least : Nat) (hn : first < 9223372036853000000) (hl : least < 18446744073709551616) :
    Calls Try.prog 39 #[lptr g, mV writing life first least] w fun e w' => e = .returned (.tuple #[.int .u64 ((endAt s st first least).1 : Int), .int .u64 ((endAt s st first least).2 : Int)]) ∧ Below w.heap.size w w' := by
  have hb0 : Below w.heap.size w (w.alloc (.cells #[.int .u64 (writing : Int), .int .u64 (life : Int), .int .u64 (first : Int), .int .u64 (least : Int)] 72)) := (Below.refl _ _).alloc (Nat.le_refl _) _
  have HW0 : Hid (WL (w.alloc (.cells #[.int .u64 (writing : Int), .int .u64 (life : Int), .int .u64 (first : Int), .int .u64 (least : Int)] 72)) g f s st) := h.below hb0
  have HB0 : Hid (Below w.heap.size w (w.alloc (.cells #[.int .u64 (writing : Int), .int .u64 (life : Int), .int .u64 (first : Int), .int .u64 (least : Int)] 72))) := hb0
  have HR0 : Hid (0 < s.room ∧ s.room < 65536) := ⟨h.r0, h.bounds.1⟩
  clear hb0 h
  unfold lptr mV
  go_enter Try.func39, Try.ntmps39
  go_wp2_with fail
  go_loopw [6, 7, 8] (fun v6 v7 v8 wr => ∃ (n l e : Nat), v6 = .int .u64 (n : Int) ∧ v7 = .int .u64 (l : Int) ∧ v8 = .int .u64 (e : Int) ∧ l < 18446744073709551616 ∧ e < 18446744073709551616 ∧ EndI s st first least n l e ∧ WL wr g f s st ∧ Below w.heap.size w wr) (fun v6 _ _ _ => first + s.room + 1 - (intOf v6).toNat)
  case atStart => exact ⟨first, 0, least, rfl, rfl, rfl, by omega, hl, ⟨Nat.le_refl _, by omega, fun h => by omega, s.room + 1, by omega, rfl⟩, HW0.out, HB0.out⟩
  case round =>
    clear HW0 HB0
    obtain ⟨n, l, e, rfl, rfl, rfl, hl1, he1, hI, hW, hB⟩ := hrel
    have HI : Hid (EndI s st first least n l e) := hI
    have HW : Hid (WL wr g f s st) := hW
    have HB : Hid (Below w.heap.size w wr) := hB
    have hnb : n ≤ first + s.room := hI.2.1
    have H1 : Hid (Calls _ _ _ _ _) := entry_any hW n e (by have := HR0.out.2; omega)
    clear hI hW hB
    unfold lptr at H1
    go_wp2_with fail
    refine Calls.mono H1.out ?_
    rintro r w1 ⟨hb1, hP⟩
    have HW1 : Hid (WL w1 g f s st) := HW.out.below hb1
    have HB1 : Hid (Below w.heap.size w w1) := HB.out.trans (hb1.mono HB.out.size)
    clear hb1 H1
    obtain ⟨hi1, hi2, hi3, mm, hi5, hi4⟩ := HI.out
    cases hE : entW (look s st) n e (s.room + 1) n [] 0 with
    | none =>
      rw [hE] at hP
      simp only at hP
      subst hP
      have HR : Hid (endAt s st first least = (n, l)) := by rw [← hi4]; exact endW_none hE
      clear hi1 hi2 hi3 hi4 hi5 hE
      go_wp2_with fail
      go_ret2
      exact ⟨by rw [HR.out]; rfl, HB1.out.alloc HB1.out.size _⟩
    | some x =>
      obtain ⟨t, l2, nx⟩ := x
      rw [hE] at hP
      simp only at hP
      obtain ⟨v, rfl, ho⟩ := hP
      obtain ⟨j1, j2, j3⟩ := entAt_lt hE HR0.out.1 hi1 hi2 hi3
      have hl2 : l2 < 18446744073709551616 := entW_life (fun j p hp => look_life hp) hE
      have HI2 : Hid (EndI s st first least nx l2 l2) := by
        exact ⟨by omega, j2, fun _ => j3, mm - 1, by omega, by rw [← hi4]; exact (endW_some (by omega) hE).symm⟩
      obtain ⟨av, nv, cv, rfl⟩ : ∃ av nv cv, v = .slice av nv cv := by
        rcases ho.2 with ⟨rfl, _⟩ | ⟨g', cap', cur', rfl, _⟩
        · exact ⟨_, _, _, rfl⟩
        · exact ⟨_, _, _, rfl⟩
      have hbA : Below w1.heap.size w1 (w1.alloc (.cells #[.slice av nv cv, .int .u64 (l2 : Int), .int .u64 (nx : Int)] 95)).drew := ((Below.refl _ _).alloc (Nat.le_refl _) _).drew
      have HW2 : Hid (WL (w1.alloc (.cells #[.slice av nv cv, .int .u64 (l2 : Int), .int .u64 (nx : Int)] 95)).drew g f s st) := HW1.out.below hbA
      have HB2 : Hid (Below w.heap.size w (w1.alloc (.cells #[.slice av nv cv, .int .u64 (l2 : Int), .int .u64 (nx : Int)] 95)).drew) := HB1.out.trans (hbA.mono HB1.out.size)
      have c1 : (w1.alloc (.cells #[.slice av nv cv, .int .u64 (l2 : Int), .int .u64 (nx : Int)] 95)).drew.cell? ⟨w1.heap.size, 1, none⟩ = some (.int .u64 (l2 : Int)) := (Blk.new w1 _ _).cell 1
      have c2 : (w1.alloc (.cells #[.slice av nv cv, .int .u64 (l2 : Int), .int .u64 (nx : Int)] 95)).drew.cell? ⟨w1.heap.size, 2, none⟩ = some (.int .u64 (nx : Int)) := (Blk.new w1 _ _).cell 2
      clear hi3 hi4 hE ho hbA
      go_wp2_with fail
      have y1 := cellW1 c1
      have y2 := cellW1 c2
      haveI nA := cls_one1 (w1.alloc (.cells #[.slice av nv cv, .int .u64 (l2 : Int), .int .u64 (nx : Int)] 95)).drew
      refine wp_region_seg (fun x => x = (w1.alloc (.cells #[.slice av nv cv, .int .u64 (l2 : Int), .int .u64 (nx : Int)] 95)).drew) (by kernel_rfl) ?_
      refine wpAnyH_seg (by kernel_rfl) (fun _ _ _ h => h) [0, 1, 2, 3, 4, 5, 6, 7, 8] 0 _ _ _ rfl (by kernel_rfl) ?_
      simp only [opsAt, List.getElem?_toArray, List.getElem?_cons_zero, List.getElem?_cons_succ, List.cons_append, List.nil_append]
      repeat (go_big_quiet_step (fail))
      refine wpQuiet_nil ?_
      clear y1 y2 nA c1 c2
      refine wpAnyH_done (by kernel_rfl) (NoPanic.normal ?_) 0
      go_wp2_with fail
      go_roundw
      case rel => exact ⟨nx, l2, l2, rfl, rfl, rfl, hl2, hl2, HI2.out, HW2.out, HB2.out⟩
      case measure => simp [intOf]; omega
end Go.Proofs.Ytepfckckplbjjaa
