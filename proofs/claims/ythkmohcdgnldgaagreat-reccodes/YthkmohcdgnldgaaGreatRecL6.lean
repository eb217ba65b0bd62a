/- rec: what makes a record right, place by place. Own lemmas, no statement. -/
import Derived.Test.YthkmohcdgnldgaaGreatRecL4
import Derived.Test.YthkmohcdgnldgaaGreatRecB3
import Derived.Test.YthkmohcdgnldgaaGreatSrcSeg
set_option linter.unusedSimpArgs false
set_option linter.unusedVariables false
namespace Go.Proofs.YthkmohcdgnldgaaGreat
open Go.ChangeShapes Go.WideShapes Go.ChangeAt Go.RowKit

theorem rno {R : Bool} {P : Prop} (h : R = true → P) (hn : ¬ P) : R = false := by
  cases R with
  | false => rfl
  | true => exact absurd (h rfl) hn
theorem sz0 {s : ByteArray} (h : s = .empty) : s.size = 0 := by rw [h]; rfl
theorem emp0 {s : ByteArray} (h : s.size = 0) : s = .empty := by
  obtain ⟨d⟩ := s
  have : d.size = 0 := h
  have e : d = #[] := Array.eq_empty_of_size_eq_zero this
  rw [e]
  rfl
theorem empY : ByteArray.empty.toList.isEmpty = true := by kernel_rfl
theorem nil0 {α : Type} {l : List α} (h : l.length = 0) : l = [] := List.eq_nil_of_length_eq_zero h
theorem len0 {α : Type} {l : List α} (h : l = []) : l.length = 0 := by rw [h]; rfl
theorem fits0 {α : Type} {r : α → Bool} {a : α → α → Bool} {d : α} {m : Nat} {l : List α} (h : l.length = 0) : fitsB r a d m l = true := by
  rw [nil0 h]
  exact fits_nil
theorem tid_is (x y : Int) (b : Bool) (w : World) (h : tidOk x y = b) : Calls Tryz.prog 22 #[.agg #[.int .u64 x, .int .i64 y]] w (BoolP b w) := by
  have h1 := tid11_any x y w
  rw [h] at h1
  exact h1
theorem elder_is (x y x' y' : Int) (b : Bool) (w : World) (h : elderT x y x' y' = b) : Calls Tryz.prog 26 #[.agg #[.int .u64 x, .int .i64 y], .agg #[.int .u64 x', .int .i64 y']] w (BoolP b w) := by
  have h1 := elderT_any x y x' y' w
  rw [h] at h1
  exact h1
theorem page_is (p : Pg) (kv vv dv : Value) (b : Bool) (w : World) (hp : PgAt w p kv vv dv) (hok : p.Ok) (h : rightPg p = b) : Calls Tryz.prog 25 #[pgv p kv vv dv] w (BoolP b w) := by
  have h1 := right_any p kv vv dv w hp hok
  rw [h] at h1
  exact h1
theorem keys_is (u : Value) (ss : List ByteArray) (b : Bool) (w : World) (hu : Rd w u (sv ss)) (h : readsOk ss = b) : Calls Tryz.prog 24 #[u] w (BoolP b w) := by
  have h1 := keys_any u ss w hu
  rw [h] at h1
  exact h1
theorem rising_is (u : Value) (ns : List Int) (b : Bool) (w : World) (hu : Rd w u (iv ns)) (h : nodesOk ns = b) : Calls Tryz.prog 23 #[u] w (BoolP b w) := by
  have h1 := rising_any u ns w hu
  rw [h] at h1
  exact h1
theorem chg_no {q : ChgV} (h : q.n < 0 ∨ 65535 < q.n ∨ rightPg q.p = false) : chgOk q = false := by
  cases e : chgOk q with
  | false => rfl
  | true =>
    obtain ⟨⟨h1, h2⟩, h3⟩ := chg_parts e
    rcases h with h | h | h
    · omega
    · omega
    · rw [h3] at h; cases h
theorem chg_yes {q : ChgV} (h1 : ¬ q.n < 0) (h2 : ¬ 65535 < q.n) (h3 : rightPg q.p = true) : chgOk q = true := by
  unfold chgOk
  rw [decide_eq_true (show (0 : Int) ≤ q.n by omega), decide_eq_true (show q.n < 65536 by omega), h3]
  rfl
theorem open_tid {q : OpenV} (h : openOk q = true) : tidOk q.num q.node = true := by
  unfold openOk at h
  simp only [Bool.and_eq_true] at h
  exact h.1.1.1.1.1
theorem done_tid {q : DoneV} (h : doneOk q = true) : tidOk q.num q.node = true := by
  unfold doneOk at h
  rw [Bool.and_eq_true] at h
  exact h.1
theorem open_no {q : OpenV} (h : tidOk q.num q.node = false ∨ 4611686018427387904 < q.last ∨ 4611686018427387904 < q.first ∨ q.count < 0 ∨ 1073741824 < q.count ∨ readsOk q.rs = false) : openOk q = false := by
  cases e : openOk q with
  | false => rfl
  | true =>
    have h0 := open_tid e
    obtain ⟨h1, h2⟩ := open_parts e
    rcases h with h | h | h | h | h | h
    · rw [h0] at h; cases h
    · omega
    · omega
    · omega
    · omega
    · rw [h2] at h; cases h
theorem open_yes {q : OpenV} (h0 : tidOk q.num q.node = true) (h1 : ¬ 4611686018427387904 < q.last) (h2 : ¬ 4611686018427387904 < q.first) (h3 : ¬ q.count < 0) (h4 : ¬ 1073741824 < q.count) (h5 : readsOk q.rs = true) : openOk q = true := by
  unfold openOk
  rw [h0, h5, decide_eq_true (show q.last ≤ 4611686018427387904 by omega), decide_eq_true (show q.first ≤ 4611686018427387904 by omega), decide_eq_true (show (0 : Int) ≤ q.count by omega), decide_eq_true (show q.count ≤ 1073741824 by omega)]
  rfl
theorem done_no {q : DoneV} (h : tidOk q.num q.node = false ∨ nodesOk q.ns = false) : doneOk q = false := by
  cases e : doneOk q with
  | false => rfl
  | true =>
    rcases h with h | h
    · rw [done_tid e] at h; cases h
    · rw [done_parts e] at h; cases h
theorem done_yes {q : DoneV} (h0 : tidOk q.num q.node = true) (h1 : nodesOk q.ns = true) : doneOk q = true := by
  unfold doneOk
  rw [h0, h1]
  rfl
theorem parts_right {x : RecV} (h1 : 1 ≤ x.kind) (h8 : x.kind ≤ 8) (P : Parts x) : rightRec x = true := by
  have e1 : rtTid x = true := by
    unfold rtTid
    split
    · rename_i h
      rw [(P.t8 h).1, (P.t8 h).2]
      rfl
    · exact P.tid
  have e2 : rtOld x = true := by
    unfold rtOld
    split
    · rename_i h
      obtain ⟨p1, p2, p3⟩ := P.p1 h
      rw [(keyOk_iff _).2 p1, decide_eq_true p2]
      rcases p3 with p3 | p3
      · rw [p3]; rfl
      · rw [emp0 p3, empY]; cases x.was <;> rfl
    · rename_i h
      obtain ⟨p1, p2, p3⟩ := P.n1 h
      rw [p1, p2, p3, empY]
      rfl
  have e3 : rtTurn x = true := by
    unfold rtTurn
    split
    · rw [decide_eq_true P.pr, P.gs]; rfl
    · rename_i h
      obtain ⟨p1, p2⟩ := P.n2 (fun e => h (.inl e)) (fun e => h (.inr e))
      rw [p1, p2]
      rfl
  have e4 : rtReads x = true := by
    unfold rtReads
    by_cases h : x.kind = 3
    · rw [decide_eq_true h, P.rs]; simp
    · rw [P.n3 h]; rfl
  have e5 : rtNodes x = true := by
    unfold rtNodes
    by_cases h : x.kind = 6
    · rw [decide_eq_true h, P.ns]; simp
    · rw [P.n6 h]; rfl
  have e6 : rtOpens x = true := by
    unfold rtOpens
    by_cases h : x.kind = 8
    · rw [decide_eq_true h, P.os]; simp
    · rw [(P.n8 h).1]; rfl
  have e7 : rtDones x = true := by
    unfold rtDones
    by_cases h : x.kind = 8
    · rw [decide_eq_true h, P.ds]; simp
    · rw [(P.n8 h).2]; rfl
  unfold rightRec rtLists
  rw [decide_eq_true h1, decide_eq_true h8, e1, e2, e3, e4, e5, e6, e7]
  rfl
end Go.Proofs.YthkmohcdgnldgaaGreat
