/- rec's Encode, of every record. Own lemmas, no statement. -/
import Derived.Test.YtbgofajldkblmaaGreatRec10
import Derived.Test.YtbgofajldkblmaaGreatPgLen
set_option linter.unusedSimpArgs false
set_option linter.unusedVariables false
namespace Go.Proofs.YtbgofajldkblmaaGreat
open Go.ChangeShapes Go.WideShapes Go.ChangeAt Go.RowKit

/-- What the types themselves say of a record's numbers. -/
structure RecV.Wf (x : RecV) : Prop where
  num : 0 ≤ x.num ∧ x.num < 18446744073709551616
  prev : 0 ≤ x.prev ∧ x.prev < 18446744073709551616
  os : ∀ o ∈ x.os, (0 ≤ o.num ∧ o.num < 18446744073709551616) ∧ (0 ≤ o.last ∧ o.last < 18446744073709551616) ∧ (0 ≤ o.first ∧ o.first < 18446744073709551616)
  ds : ∀ d ∈ x.ds, 0 ≤ d.num ∧ d.num < 18446744073709551616
theorem fits_mem {α : Type} {r : α → Bool} {a : α → α → Bool} {d : α} {m : Nat} {l : List α} (h : fitsB r a d m l = true) : l.length ≤ m ∧ ∀ x ∈ l, r x = true := by
  unfold fitsB at h
  rw [Bool.and_eq_true, decide_eq_true_eq, allB_iff] at h
  refine ⟨h.1, fun x hx => ?_⟩
  obtain ⟨i, hi, rfl⟩ := List.mem_iff_getElem.1 hx
  have := h.2 i hi
  unfold fitAt at this
  rw [Bool.and_eq_true, getD_of hi] at this
  exact this.1
theorem empty_size {s : ByteArray} (h : s.toList.isEmpty = true) : s.size = 0 := by
  have h1 : (s.toList == ByteArray.empty.toList) = true := by
    rw [List.isEmpty_iff] at h
    rw [h]
    kernel_rfl
  rw [beq_str] at h1
  have h2 : s = ByteArray.empty := of_decide_eq_true h1
  rw [h2]
  rfl
theorem right_all {x : RecV} (h : rightRec x = true) : (1 ≤ x.kind ∧ x.kind ≤ 8) ∧ rtTid x = true ∧ rtOld x = true ∧ rtTurn x = true ∧ rtReads x = true ∧ rtNodes x = true ∧ rtOpens x = true ∧ rtDones x = true := by
  unfold rightRec rtLists at h
  simp only [Bool.and_eq_true, decide_eq_true_eq] at h
  obtain ⟨⟨⟨⟨⟨h1, h2⟩, h3⟩, h4⟩, h5⟩, ⟨⟨h6, h7⟩, h8⟩, h9⟩ := h
  exact ⟨⟨h1, h2⟩, h3, h4, h5, h6, h7, h8, h9⟩
theorem keyOk_size {s : ByteArray} (h : keyOk s = true) : s.size ≤ 24 := by
  unfold keyOk at h
  simp only [Bool.and_eq_true, decide_eq_true_eq] at h
  exact h.2
theorem nodeOk_bounds {n : Int} (h : nodeOk n = true) : 0 ≤ n ∧ n < 64 := by
  unfold nodeOk at h
  simpa only [Bool.and_eq_true, decide_eq_true_eq] using h
theorem or_empty {α : Type} {l : List α} {p q : Bool} (h : (decide (l.length = 0) || p && q) = true) : l = [] ∨ q = true := by
  rw [Bool.or_eq_true, decide_eq_true_eq, Bool.and_eq_true] at h
  rcases h with h | h
  · exact .inl (List.eq_nil_of_length_eq_zero h)
  · exact .inr h.2
theorem reads_bounds {l : List ByteArray} (h : readsOk l = true) : l.length ≤ 100 ∧ ∀ s ∈ l, s.size ≤ 24 := by
  obtain ⟨h1, h2⟩ := fits_mem h
  exact ⟨h1, fun s hs => keyOk_size (h2 s hs)⟩
theorem nodes_bounds {l : List Int} (h : nodesOk l = true) : l.length ≤ 64 ∧ ∀ n ∈ l, 0 ≤ n ∧ n < 64 := by
  obtain ⟨h1, h2⟩ := fits_mem h
  exact ⟨h1, fun s hs => nodeOk_bounds (h2 s hs)⟩
theorem flat_bound {α : Type} {f : α → List UInt8} {b : Nat} : ∀ {l : List α}, (∀ x ∈ l, (f x).length ≤ b) → (l.map f).flatten.length ≤ b * l.length
  | [], _ => by simp
  | x :: t, h => by
    have h1 := h x List.mem_cons_self
    have h2 := flat_bound (l := t) fun y hy => h y (List.mem_cons_of_mem _ hy)
    simp only [List.map_cons, List.flatten_cons, List.length_append, List.length_cons, Nat.mul_add, Nat.mul_one]
    omega
theorem all_bound {α : Type} {f : α → List UInt8} {b m : Nat} {l : List α} (h : ∀ x ∈ l, (f x).length ≤ b) (hl : l.length ≤ m) : (allB8 f l).length ≤ 10 + b * m := by
  unfold allB8
  have h1 := enc_length l.length
  have h2 := flat_bound h
  have h3 : b * l.length ≤ b * m := Nat.mul_le_mul_left b hl
  rw [List.length_append]
  omega
theorem text_bound {s : ByteArray} {b : Nat} (h : s.size ≤ b) : (textB s).length ≤ 10 + b := by
  unfold textB
  have h1 := enc_length s.size
  have h2 : s.data.toList.length = s.size := rfl
  rw [List.length_append, h2]
  omega
theorem tid_bound (x y : Int) : (tidB x y).length ≤ 20 := by
  unfold tidB
  have h1 := enc_length x.toNat
  have h2 := enc_length (uns y)
  rw [List.length_append]
  omega
theorem int_bound (n : Int) : (intB n).length ≤ 10 := enc_length _
theorem chg_bound {c : ChgV} (h : rightPg c.p = true) : (chgB c).length ≤ 600 := by
  unfold chgB
  have h1 := int_bound c.n
  have h2 := encP_length (lsn := 0) h
  have h3 : (imageB c.p).size ≤ 512 := by unfold imageB; exact h2
  have h4 := text_bound h3
  rw [List.length_append]
  omega
theorem open_bound {o : OpenV} (h : readsOk o.rs = true) : (openB o).length ≤ 4000 := by
  unfold openB
  obtain ⟨h1, h2⟩ := reads_bounds h
  have h3 := all_bound (f := textB) (b := 34) (fun s hs => text_bound (h2 s hs)) h1
  have h4 := tid_bound o.num o.node
  have h5 := int_bound o.last
  have h6 := int_bound o.first
  have h7 := int_bound o.count
  have h8 := enc_length (flagN o.ready)
  simp only [List.length_append]
  omega
theorem done_bound {o : DoneV} (h : nodesOk o.ns = true) : (doneB o).length ≤ 700 := by
  unfold doneB
  obtain ⟨h1, h2⟩ := nodes_bounds h
  have h3 := all_bound (f := intB) (b := 10) (fun s _ => int_bound s) h1
  have h4 := tid_bound o.num o.node
  simp only [List.length_append]
  omega
theorem open_parts {o : OpenV} (h : openOk o = true) : (o.last ≤ 4611686018427387904 ∧ o.first ≤ 4611686018427387904 ∧ 0 ≤ o.count ∧ o.count ≤ 1073741824) ∧ readsOk o.rs = true := by
  unfold openOk at h
  simp only [Bool.and_eq_true, decide_eq_true_eq] at h
  exact ⟨⟨h.1.1.1.1.2, h.1.1.1.2, h.1.1.2, h.1.2⟩, h.2⟩
theorem chg_parts {c : ChgV} (h : chgOk c = true) : (0 ≤ c.n ∧ c.n < 65536) ∧ rightPg c.p = true := by
  unfold chgOk at h
  simp only [Bool.and_eq_true, decide_eq_true_eq] at h
  exact ⟨⟨h.1.1, h.1.2⟩, h.2⟩
theorem done_parts {o : DoneV} (h : doneOk o = true) : nodesOk o.ns = true := by
  unfold doneOk at h
  rw [Bool.and_eq_true] at h
  exact h.2
/-- A right record lies within the bounds that laying wants. -/
theorem right_fit {x : RecV} (h : rightRec x = true) (hw : x.Wf) : x.Fit ∧ (recB x).length ≤ 2000000 := by
  obtain ⟨hk, h3, h4, h5, h6, h7, h8, h9⟩ := right_all h
  have hold : x.key.size ≤ 24 ∧ x.old.size ≤ 48 := by
    unfold rtOld at h4
    split at h4
    · simp only [Bool.and_eq_true, decide_eq_true_eq] at h4
      exact ⟨keyOk_size h4.1.1, h4.1.2⟩
    · simp only [Bool.and_eq_true] at h4
      have e1 := empty_size h4.1.1
      have e2 := empty_size h4.2
      exact ⟨by omega, by omega⟩
  have hgs : x.gs.length ≤ 30 ∧ ∀ c ∈ x.gs, chgOk c = true := by
    unfold rtTurn at h5
    split at h5
    · rw [Bool.and_eq_true] at h5
      exact fits_mem h5.2
    · simp only [Bool.and_eq_true, decide_eq_true_eq] at h5
      have e := List.eq_nil_of_length_eq_zero h5.2
      exact ⟨by omega, fun c hc => by rw [e] at hc; cases hc⟩
  have hrs : x.rs.length ≤ 100 ∧ ∀ s ∈ x.rs, s.size ≤ 24 := by
    rcases or_empty h6 with e | e
    · rw [e]; exact ⟨by simp, fun s hs => by cases hs⟩
    · exact reads_bounds e
  have hns : x.ns.length ≤ 64 ∧ ∀ n ∈ x.ns, 0 ≤ n ∧ n < 64 := by
    rcases or_empty h7 with e | e
    · rw [e]; exact ⟨by simp, fun s hs => by cases hs⟩
    · exact nodes_bounds e
  have hos : x.os.length ≤ 200 ∧ ∀ o ∈ x.os, openOk o = true := by
    rcases or_empty h8 with e | e
    · rw [e]; exact ⟨by simp, fun s hs => by cases hs⟩
    · exact fits_mem e
  have hds : x.ds.length ≤ 200 ∧ ∀ o ∈ x.ds, doneOk o = true := by
    rcases or_empty h9 with e | e
    · rw [e]; exact ⟨by simp, fun s hs => by cases hs⟩
    · exact fits_mem e
  refine ⟨⟨hw.prev, by omega, by omega, fun c hc => ?_, by omega, fun s hs => by have := hrs.2 s hs; omega, by omega, hns.2, by omega, fun o ho => ?_, by omega, fun d hd => ?_, by omega⟩, ?_⟩
  · obtain ⟨e1, e2⟩ := chg_parts (hgs.2 c hc)
    have := chg_bound e2
    exact ⟨⟨e1.1, by omega⟩, e2, by omega⟩
  · obtain ⟨e1, e2⟩ := open_parts (hos.2 o ho)
    obtain ⟨f1, f2, f3⟩ := hw.os o ho
    have := open_bound e2
    obtain ⟨e3, e4⟩ := reads_bounds e2
    exact ⟨⟨f1.1, f1.2, f2.1, f2.2, f3.1, f3.2, e1.2.2.1, by omega⟩, fun s hs => by have := e4 s hs; omega, by omega, by omega⟩
  · have e2 := done_parts (hds.2 d hd)
    have := done_bound e2
    obtain ⟨e3, e4⟩ := nodes_bounds e2
    exact ⟨hw.ds d hd, e4, by omega, by omega⟩
  · have b1 := text_bound hold.1
    have b2 := text_bound hold.2
    have b3 := enc_length (flagN x.was)
    have b4 : (turnB x).length ≤ 20000 := by
      unfold turnB
      have e1 := int_bound x.prev
      have e2 := all_bound (f := chgB) (b := 600) (fun c hc => chg_bound (chg_parts (hgs.2 c hc)).2) hgs.1
      rw [List.length_append]
      omega
    have b5 := all_bound (f := textB) (b := 34) (fun s hs => text_bound (hrs.2 s hs)) hrs.1
    have b6 := all_bound (f := intB) (b := 10) (fun s _ => int_bound s) hns.1
    have b7 := all_bound (f := openB) (b := 4000) (fun o ho => open_bound (open_parts (hos.2 o ho)).2) hos.1
    have b8 := all_bound (f := doneB) (b := 700) (fun o ho => done_bound (done_parts (hds.2 o ho))) hds.1
    unfold recB
    split
    · simp only [List.length_append]; omega
    · split
      · omega
      · split
        · omega
        · split
          · omega
          · split
            · rw [List.length_append]; omega
            · simp
end Go.Proofs.YtbgofajldkblmaaGreat
