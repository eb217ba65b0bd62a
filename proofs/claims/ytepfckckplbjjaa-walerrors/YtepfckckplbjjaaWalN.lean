/- The log: a nil one; a disk without power. Own lemmas, no statement. -/
import Derived.Test.YtepfckckplbjjaaWalB
import Derived.Test.YtepfckckplbjjaaWalC
import Derived.Test.YtepfckckplbjjaaWHead05
namespace Go.Proofs.Ytepfckckplbjjaa
open Go.ChangeShapes Go.WideShapes Go.ChangeAt Go.RowKit Go Go.Shelf
attribute [local go_sem] Oper.semAt_some

theorem start_nil (w : World) : Calls Try.prog 24 #[.pointer none] w fun e w' => e = .returned (.int .u64 0) ∧ w' = w := by
  go_enter Try.func24, Try.ntmps24
  go_wp2_with fail
  go_ret
  exact ⟨rfl, rfl⟩
theorem next_nil (w : World) : Calls Try.prog 25 #[.pointer none] w fun e w' => e = .returned (.int .u64 0) ∧ w' = w := by
  go_enter Try.func25, Try.ntmps25
  go_wp2_with fail
  go_ret
  exact ⟨rfl, rfl⟩
theorem safe_nil (w : World) : Calls Try.prog 31 #[.pointer none] w fun e w' => e = .returned (.int .u64 0) ∧ w' = w := by
  go_enter Try.func31, Try.ntmps31
  go_wp2_with fail
  go_ret
  exact ⟨rfl, rfl⟩
theorem life_nil (w : World) : Calls Try.prog 28 #[.pointer none] w fun e w' => e = .returned (.int .u64 0) ∧ w' = w := by
  go_enter Try.func28, Try.ntmps28
  go_wp2_with fail
  go_ret
  exact ⟨rfl, rfl⟩
theorem room_nil (w : World) : Calls Try.prog 27 #[.pointer none] w fun e w' => e = .returned (.int .i64 0) ∧ w' = w := by
  go_enter Try.func27, Try.ntmps27
  go_wp2_with fail
  go_ret
  exact ⟨rfl, rfl⟩
theorem free_nil (w : World) : Calls Try.prog 26 #[.pointer none] w fun e w' => e = .returned (.int .i64 0) ∧ w' = w := by
  go_enter Try.func26, Try.ntmps26
  go_wp2_with fail
  refine (room_nil w).mono ?_
  rintro e w' ⟨rfl, hw⟩; rw [hw]; clear hw w'
  go_wp2_with fail
  refine (next_nil w).mono ?_
  rintro e w' ⟨rfl, hw⟩; rw [hw]; clear hw w'
  go_wp2_with fail
  refine (start_nil w).mono ?_
  rintro e w' ⟨rfl, hw⟩; rw [hw]; clear hw w'
  go_wp2_with fail
  go_ret
  exact ⟨rfl, rfl⟩
theorem allN_any (n : Int) (w : World) : Calls Try.prog 36 #[.pointer none, .int .u64 n] w fun e w' => e = .returned (.func (.func 53) #[] #[.pointer (some ⟨w.heap.size, 0, none⟩), .pointer (some ⟨w.heap.size + 1, 0, none⟩)]) ∧ w' = (w.alloc (.cells #[.pointer none] 28)).alloc (.cells #[.int .u64 n] 34) := by
  go_enter Try.func36, Try.ntmps36
  go_wp2_with fail
  go_ret
  exact ⟨rfl, rfl⟩
set_option maxRecDepth 100000 in
set_option maxHeartbeats 1000000 in
theorem allN_good {n : Nat} (_hn : 1 ≤ n) {b0 b1 : Nat} {w : World} (hx0 : Boxed w b0 28 (.pointer none)) :
    SeqGood Fence.wide n Try.prog 53 #[.pointer (some ⟨b0, 0, none⟩), .pointer (some ⟨b1, 0, none⟩)] encE (fun _ _ => False) (fun _ _ _ => True) (fun xs => xs = []) (fun _ => False) 0 w := fun l J Jx W hb hJ _ h0 _ => by
  have c0 := Boxed.cell ((hb.block _ hx0.lt).trans hx0)
  have H0 : Hid (J [] W) := h0
  clear h0 hx0 hb
  show CallsIn Fence.wide n Try.prog 53 #[.func (.yield l) #[] #[], .pointer (some ⟨b0, 0, none⟩), .pointer (some ⟨b1, 0, none⟩)] W fun e W' => (∃ v, e = .returned v) ∧ ((∃ xs : List Ent, xs = [] ∧ J xs W') ∨ (∃ pre : List Ent, False ∧ Jx pre W'))
  refine callsIn_of_wp Try.func53 rfl trivial ?_ rfl
  simp only [Try.ntmps53, List.size_toArray, List.length_cons, List.length_nil, Nat.reduceAdd, Nat.reduceSub, Array.replicate_succ, Array.replicate_zero, List.push_toArray, List.append_toArray, List.nil_append, List.cons_append]
  gi_wp2
  refine bodyPost_ret (results_none rfl _ _ _) rfl ?_
  exact ⟨⟨_, rfl⟩, H0.out⟩
/-- A disk without power. -/
theorem open_down {w : World} {f : Foot} {st : DSt} (h : DiskAt w f st) (hd : st.down = true) (from_ room : Nat) (hr : 0 < room) (hfit : from_ + 2 + room ≤ st.now.length) (hst : st.steps < 4611686018427387000) (hwl : st.waits.length < 1099511627000) :
    Calls Try.prog 16 #[dptr f.g, .int .i64 (from_ : Int), .int .i64 (room + 2 : Int)] w fun e w' => e = .returned (.tuple #[.pointer none, .int .i64 8]) ∧ Below w.heap.size w w' := by
  have hlat : latTo (s00 from_ room) st 2 = .error 8 := by
    have hg : st.got (from_ + 0) = .error 8 := by
      unfold DSt.got
      rw [List.getElem?_eq_getElem (by omega)]
      simp only
      rw [if_pos hd]
    have e1 : latTo (s00 from_ room) st 1 = latStep (s00 from_ room) st 0 m0 := rfl
    have e2 : latTo (s00 from_ room) st 2 = match latTo (s00 from_ room) st 1 with | .error c => .error c | .ok m => latStep (s00 from_ room) st 1 m := rfl
    have e3 : latStep (s00 from_ room) st 0 m0 = .error 8 := by
      unfold latStep
      rw [show (s00 from_ room).from_ + 0 = from_ + 0 from rfl, hg]
      rfl
    rw [e2, e1, e3]
  have hop : openL from_ room st = .error 8 := by
    unfold openL
    rw [hlat]
  refine (open_any h from_ room hr hfit hst hwl (fun m hm => by rw [hlat] at hm; cases hm)).mono ?_
  rintro e w' hp
  rw [hop] at hp
  exact hp
end Go.Proofs.Ytepfckckplbjjaa
