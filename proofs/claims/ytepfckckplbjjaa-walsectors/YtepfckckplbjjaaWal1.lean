/- The log: how many sectors; its fields; places. Own lemmas, no statement. -/
import Derived.Test.YtepfckckplbjjaaDisk8
import Derived.Test.YtepfckckplbjjaaReader
import Derived.Test.YtepfckckplbjjaaDecode
namespace Go.Proofs.Ytepfckckplbjjaa
open Go.ChangeShapes Go.WideShapes Go.ChangeAt Go.RowKit

theorem cellW1 {W0 : World} {a : Addr} {v : Value} (h : W0.cell? a = some v) : ∀ s : Cls (fun x => x = W0), s.wd.cell? a = some v := fun s => by rw [s.ok]; exact h
theorem cls_one1 (w : World) : Nonempty (Cls (fun x => x = w)) := ⟨⟨w, rfl⟩⟩
/-- How many sectors n bytes take. -/
def needN (n : Nat) : Nat := if n = 0 then 1 else (n + 479) / 480
theorem needN_pos (n : Nat) : 0 < needN n := by unfold needN; split <;> omega

set_option maxHeartbeats 400000 in
theorem Need_any (n : Nat) (hn : n < 9223372036854775808) (w : World) : Calls Try.prog 13 #[.int .i64 (n : Int)] w fun e w' => e = .returned (.int .i64 (needN n : Int)) ∧ w' = w := by
  have q1 : Int.tdiv (n : Int) 480 = ((n / 480 : Nat) : Int) := rfl
  have q2 : Int.tmod (n : Int) 480 = ((n % 480 : Nat) : Int) := rfl
  by_cases h0 : n % 480 = 0
  · have hd : decide (0 < Int.tmod (n : Int) 480) = false := decide_eq_false (by rw [q2]; omega)
    go_enter Try.func13, Try.ntmps13
    go_wp2_with fail
    all_goals
      go_ret
      refine ⟨ret_int ?_, rfl⟩
      unfold needN
      split <;> (first | omega | (simp; omega))
  · have hd : decide (0 < Int.tmod (n : Int) 480) = true := decide_eq_true (by rw [q2]; omega)
    go_enter Try.func13, Try.ntmps13
    go_wp2_with fail
    all_goals
      go_ret
      refine ⟨ret_int ?_, rfl⟩
      unfold needN
      split <;> (first | omega | (simp; omega))

/-- A log's fields. -/
structure LSt where
  from_ : Nat
  room : Nat
  writing : Nat
  life : Nat
  first : Nat
  least : Nat
  next : Nat
  safe : Nat
def lC (d : Nat) (s : LSt) : Array Value := #[.pointer (some ⟨d, 0, none⟩), .int .i64 (s.from_ : Int), .int .i64 (s.room : Int), .int .u64 (s.writing : Int), .int .u64 (s.life : Int), .int .u64 (s.first : Int), .int .u64 (s.least : Int), .int .u64 (s.next : Int), .int .u64 (s.safe : Int)]
def LogAt (w : World) (g d : Nat) (s : LSt) : Prop := Blk w g (lC d s) 74
def lptr (g : Nat) : Value := .pointer (some ⟨g, 0, none⟩)

section
variable {w : World} {g d : Nat} {s : LSt}
theorem start_any (h : LogAt w g d s) : Calls Try.prog 24 #[lptr g] w fun e w' => e = .returned (.int .u64 (s.first : Int)) ∧ w' = w := by
  have c : w.cell? ⟨g, 5, none⟩ = some (.int .u64 (s.first : Int)) := Blk.cell h 5
  clear h
  unfold lptr
  go_enter Try.func24, Try.ntmps24
  go_wp2_with fail
  go_ret
  exact ⟨rfl, rfl⟩
theorem next_any (h : LogAt w g d s) : Calls Try.prog 25 #[lptr g] w fun e w' => e = .returned (.int .u64 (s.next : Int)) ∧ w' = w := by
  have c : w.cell? ⟨g, 7, none⟩ = some (.int .u64 (s.next : Int)) := Blk.cell h 7
  clear h
  unfold lptr
  go_enter Try.func25, Try.ntmps25
  go_wp2_with fail
  go_ret
  exact ⟨rfl, rfl⟩
theorem safe_any (h : LogAt w g d s) : Calls Try.prog 31 #[lptr g] w fun e w' => e = .returned (.int .u64 (s.safe : Int)) ∧ w' = w := by
  have c : w.cell? ⟨g, 8, none⟩ = some (.int .u64 (s.safe : Int)) := Blk.cell h 8
  clear h
  unfold lptr
  go_enter Try.func31, Try.ntmps31
  go_wp2_with fail
  go_ret
  exact ⟨rfl, rfl⟩
theorem life_any (h : LogAt w g d s) : Calls Try.prog 28 #[lptr g] w fun e w' => e = .returned (.int .u64 (s.life : Int)) ∧ w' = w := by
  have c : w.cell? ⟨g, 4, none⟩ = some (.int .u64 (s.life : Int)) := Blk.cell h 4
  clear h
  unfold lptr
  go_enter Try.func28, Try.ntmps28
  go_wp2_with fail
  go_ret
  exact ⟨rfl, rfl⟩
theorem room_any (h : LogAt w g d s) : Calls Try.prog 27 #[lptr g] w fun e w' => e = .returned (.int .i64 (s.room : Int)) ∧ w' = w := by
  have c : w.cell? ⟨g, 2, none⟩ = some (.int .i64 (s.room : Int)) := Blk.cell h 2
  clear h
  unfold lptr
  go_enter Try.func27, Try.ntmps27
  go_wp2_with fail
  go_ret
  exact ⟨rfl, rfl⟩
theorem free_any (h : LogAt w g d s) (h1 : s.first ≤ s.next) (h2 : s.next ≤ s.first + s.room) (h3 : s.room < 1000000) : Calls Try.prog 26 #[lptr g] w fun e w' => e = .returned (.int .i64 ((s.room - (s.next - s.first) : Nat) : Int)) ∧ w' = w := by
  have H1 : Hid (Calls _ _ _ _ _) := room_any h
  have H2 : Hid (Calls _ _ _ _ _) := next_any h
  have H3 : Hid (Calls _ _ _ _ _) := start_any h
  clear h
  unfold lptr at *
  go_enter Try.func26, Try.ntmps26
  go_wp2_with fail
  refine Calls.mono H1.out ?_
  rintro e w' ⟨rfl, hw⟩; rw [hw]; clear hw w'
  go_wp2_with fail
  refine Calls.mono H2.out ?_
  rintro e w' ⟨rfl, hw⟩; rw [hw]; clear hw w'
  go_wp2_with fail
  refine Calls.mono H3.out ?_
  rintro e w' ⟨rfl, hw⟩; rw [hw]; clear hw w'
  go_wp2_with fail
  go_ret
  refine ⟨ret_int ?_, rfl⟩
  omega

/-- The disk's sector of a number. -/
def LSt.place (s : LSt) (n : Nat) : Nat := s.from_ + 2 + n % s.room
set_option maxHeartbeats 1000000 in
theorem place_any (h : LogAt w g d s) (n : Nat) (h1 : 0 < s.room) (h2 : s.room < 1000000) (h3 : s.from_ < 1000000) (hn : n < 18446744073709551616) : Calls Try.prog 43 #[lptr g, .int .u64 (n : Int)] w fun e w' => e = .returned (.int .i64 (s.place n : Int)) ∧ w' = w.drew := by
  have c1 : w.drew.cell? ⟨g, 1, none⟩ = some (.int .i64 (s.from_ : Int)) := Blk.cell h 1
  have c2 : w.drew.cell? ⟨g, 2, none⟩ = some (.int .i64 (s.room : Int)) := Blk.cell h 2
  have hr : IntKind.u64.wrap (s.room : Int) = (s.room : Int) := by rw [IntKind.wrap_u64]; omega
  have hne : ((s.room : Int) == 0) = false := by simp; omega
  have hm1 : (n : Int) % (s.room : Int) < 1000000 := by have := Int.emod_lt_of_pos (n : Int) (show (0 : Int) < (s.room : Int) by omega); omega
  have hm2 : 0 ≤ (n : Int) % (s.room : Int) := Int.emod_nonneg _ (by omega)
  clear h
  unfold lptr
  go_enter Try.func43, Try.ntmps43
  go_wp2_with fail
  have l1 := cellW1 c1
  have l2 := cellW1 c2
  haveI nA := cls_one1 w.drew
  refine wp_region_seg (fun x => x = w.drew) (by kernel_rfl) ?_
  refine wpAnyH_seg (by kernel_rfl) (fun _ _ _ h => h) [0, 1, 2, 3, 4, 5, 6, 7, 8, 9, 10, 11, 12, 13, 14] 0 _ _ _ rfl (by kernel_rfl) ?_
  simp only [opsAt, List.getElem?_toArray, List.getElem?_cons_zero, List.getElem?_cons_succ, List.cons_append, List.nil_append]
  repeat (go_big_quiet_step (fail))
  refine wpQuiet_nil ?_
  refine wpAnyH_done (by kernel_rfl) (NoPanic.normal ?_) 0
  go_wp2_with fail
  go_ret
  refine ⟨ret_int ?_, rfl⟩
  unfold LSt.place
  push_cast
  first | rfl | omega
end
end Go.Proofs.Ytepfckckplbjjaa
