/- DueRuns: the queue and the law's own list, side by side. Own lemmas, no statement. -/
import Derived.Test.YtgoejoiomjmfaaaRunsM
namespace Go.Proofs.Ytgoejoiomjmfaaa
open Go.ChangeShapes Go.WideShapes Go.ChangeAt Go.RowKit

def oC (o : OpE) : Array Value := #[.int .i64 o.k, .int .i64 o.e.kind, .int .u64 o.e.num, .int .i64 o.e.node, .int .i64 o.e.at_]

/-- Ahead of each round. -/
structure RunsAt (w : World) (B : Nat) (wr : World) (g N : Nat) (x : Addr) (cap : Nat) (l : List Ent) (T : Key → Option Int) : Prop where
  q : QS (fun k => B ≤ k) wr g N l.length T
  t : Tab T l
  r : RowE wr B x cap l
  bel : Below w.heap.size w wr
  le : w.heap.size ≤ B
  size : B ≤ wr.heap.size
/-- Behind a call of the queue's. -/
structure AftAt (w : World) (B : Nat) (wr : World) (g N n : Nat) (T : Key → Option Int) (x : Addr) (cap : Nat) (l : List Ent) (bo : Nat) (o : OpE) : Prop where
  q : QS (fun k => B ≤ k) wr g N n T
  r : RowE wr B x cap l
  bel : Below w.heap.size w wr
  le : w.heap.size ≤ B
  size : B ≤ wr.heap.size
  bo : Blk wr bo (oC o) 31

section
variable {w : World} {B : Nat} {wr w2 w3 : World} {g N n : Nat} {T T2 : Key → Option Int} {x x2 : Addr} {cap cap2 : Nat} {l l2 : List Ent} {bo : Nat} {o : OpE}
theorem RunsAt.below (h : RunsAt w B wr g N x cap l T) (hb : Below wr.heap.size wr w2) : RunsAt w B w2 g N x cap l T :=
  ⟨h.q.below hb, h.t, h.r.below hb, bel_trans h.bel hb, h.le, Nat.le_trans h.size hb.size⟩
theorem RunsAt.aft (h : RunsAt w B wr g N x cap l T) (hb : Blk wr bo (oC o) 31) : AftAt w B wr g N l.length T x cap l bo o := ⟨h.q, h.r, h.bel, h.le, h.size, hb⟩
theorem AftAt.below (h : AftAt w B wr g N n T x cap l bo o) (hb : Below wr.heap.size wr w2) : AftAt w B w2 g N n T x cap l bo o :=
  ⟨h.q.below hb, h.r.below hb, bel_trans h.bel hb, h.le, Nat.le_trans h.size hb.size, h.bo.bel hb⟩
theorem AftAt.sharp (h : AftAt w B wr g N n T x cap l bo o) : QS (fun k => (B ≤ k ∧ k ≠ x.block) ∧ k ≠ bo) wr g N n T := by
  obtain ⟨cs, hr⟩ := h.r.blk
  exact (h.q.other hr (by decide) (by decide) (by decide)).other h.bo (by decide) (by decide) (by decide)
/-- The queue's call turned none of the law's own. -/
theorem AftAt.step {n2 N2 : Nat} (h : AftAt w B wr g N n T x cap l bo o) (hq : QS (fun k => B ≤ k) w2 g N2 n2 T2) (hc : Chg (fun k => (B ≤ k ∧ k ≠ x.block) ∧ k ≠ bo) wr w2) : AftAt w B w2 g N2 n2 T2 x cap l bo o :=
  ⟨hq, h.r.chg hc (fun e => e.1.2 rfl), h.bel.trans (hc.below h.bel.size (fun _ e => Nat.le_trans h.le e.1.1)), h.le, Nat.le_trans h.size hc.size, h.bo.chg hc (fun e => e.2 rfl)⟩
/-- The list has caught up. -/
theorem AftAt.done (h : AftAt w B wr g N l2.length T x cap l bo o) (ht : Tab T l2) (hc : Chg (fun k => k = x.block) wr w2) (hr : RowE w2 B x2 cap2 l2) : RunsAt w B w2 g N x2 cap2 l2 T := by
  refine ⟨h.sharp.chg hc (fun _ hk e => hk.1.2 e) |>.mono (Nat.le_refl _) (fun k _ hk => hk.1.1), ht, hr, h.bel.trans (hc.below h.bel.size (fun k e => ?_)), h.le, Nat.le_trans h.size hc.size⟩
  have := h.r.low
  have := h.le
  have : k = x.block := e
  omega
theorem AftAt.same (h : AftAt w B wr g N l.length T x cap l bo o) (ht : Tab T l) : RunsAt w B wr g N x cap l T := ⟨h.q, ht, h.r, h.bel, h.le, h.size⟩
theorem AftAt.new (h : AftAt w B wr g N l2.length T x cap l bo o) (ht : Tab T l2) (hb : Below wr.heap.size wr w2) (hr : RowE w2 B x2 cap2 l2) : RunsAt w B w2 g N x2 cap2 l2 T :=
  ⟨h.q.below hb, ht, hr, bel_trans h.bel hb, h.le, Nat.le_trans h.size hb.size⟩

theorem aft_set (h : AftAt w B wr g N n T x cap l bo o) (e : Ent) (hw : e.key.wf) (hN : N < 1000000) (hn : n < 1000000) :
    Calls Try.prog 10 #[iptr g, .int .i64 e.kind, .agg #[.int .u64 e.num, .int .i64 e.node], .int .i64 e.at_] wr fun r w2 => r = .returned (.tuple #[]) ∧ AftAt w B w2 g (N + 1) (if (T e.key).isSome then n else n + 1) (putT T e.key e.at_) x cap l bo o := by
  refine (qs_set h.sharp e hw hN hn).mono ?_
  rintro r w2 ⟨rfl, hq, hc⟩
  refine ⟨rfl, h.step (hq.mono (Nat.le_refl _) (fun k _ hk => ?_)) hc⟩
  rcases hk with e | e
  · exact e.1.1
  · exact Nat.le_trans h.size e
theorem aft_drop (h : AftAt w B wr g N n T x cap l bo o) (q : Key) (hw : q.wf) (hn : n < 1000000) :
    Calls Try.prog 11 #[iptr g, .int .i64 q.kind, .agg #[.int .u64 q.num, .int .i64 q.node]] wr fun r w2 => r = .returned (.bool (T q).isSome) ∧ AftAt w B w2 g N (if (T q).isSome then n - 1 else n) (delT T q) x cap l bo o := by
  refine (qs_drop h.sharp q hw hn).mono ?_
  rintro r w2 ⟨rfl, hq, hc⟩
  exact ⟨rfl, h.step (hq.mono (Nat.le_refl _) (fun k _ hk => hk.1.1)) hc⟩
theorem aft_when (h : AftAt w B wr g N n T x cap l bo o) (q : Key) (hw : q.wf) :
    Calls Try.prog 12 #[iptr g, .int .i64 q.kind, .agg #[.int .u64 q.num, .int .i64 q.node]] wr fun r w2 => r = .returned (.tuple #[.int .i64 ((T q).getD 0), .bool (T q).isSome]) ∧ AftAt w B w2 g N n T x cap l bo o := by
  refine (qs_when h.q q hw).mono ?_
  rintro r w2 ⟨rfl, hb⟩
  exact ⟨rfl, h.below hb⟩
def NextA (w : World) (B : Nat) (g N n : Nat) (T : Key → Option Int) (x : Addr) (cap : Nat) (l : List Ent) (bo : Nat) (o : OpE) (now : Int) (r : Ending) (w2 : World) : Prop :=
  (r = .returned (.tuple #[.agg #[.int .i64 0, .int .i64 0, .int .u64 0, .int .i64 0], .bool false]) ∧ (∀ q a, T q = some a → now < a) ∧ AftAt w B w2 g N n T x cap l bo o) ∨
  ∃ (e : Ent) (m : Nat), r = .returned (.tuple #[.agg #[.int .i64 e.at_, .int .i64 e.kind, .int .u64 e.num, .int .i64 e.node], .bool true]) ∧ n = m + 1 ∧ T e.key = some e.at_ ∧ e.at_ ≤ now ∧ (∀ q a, T q = some a → lessE (entOf q a) e = false) ∧ AftAt w B w2 g N m (delT T e.key) x cap l bo o
theorem aft_next (h : AftAt w B wr g N n T x cap l bo o) (now : Int) (hn : n < 1000000) : Calls Try.prog 14 #[iptr g, .int .i64 now] wr (NextA w B g N n T x cap l bo o now) := by
  refine (qs_next h.sharp now hn).mono ?_
  rintro r w2 hN
  rcases hN with ⟨hr, hT, hq, hb⟩ | ⟨e, m, hr, hn, ht, ha, hm, hq, hc⟩
  · exact .inl ⟨hr, hT, h.below hb⟩
  · exact .inr ⟨e, m, hr, hn, ht, ha, hm, h.step (hq.mono (Nat.le_refl _) (fun k _ hk => hk.1.1)) hc⟩
theorem aft_len (h : AftAt w B wr g N n T x cap l bo o) : Calls Try.prog 15 #[iptr g] wr fun e w' => e = .returned (.int .i64 (n : Int)) ∧ w' = wr := qs_len h.q
end

def cutAt (x : Addr) (cap i : Nat) : Addr := if cap = i + 1 then x else x.add ((i + 1) * 4)

/-- 'append(append(new, own[:i]...), own[i+1:]...)'. -/
theorem RowE.erase {w : World} {B : Nat} {x : Addr} {cap i : Nat} {l : List Ent} {e : Ent} (h : RowE w B x cap l) (he : l[i]? = some e) (hB : B ≤ w.heap.size) (hl : l.length ≤ 1000) (ty : TypeId) :
    ∃ x1 c1 w2 x2 c2 w3, (Builtin.append_ #[26, 26] ty #[.slice (some ⟨w.heap.size, 0, none⟩) 0 0, .slice (some x) i cap]).run Try.prog (w.drew.alloc (.cells #[] 34)) = .ok (.slice (some x1) i c1) w2 ∧
      (Builtin.append_ #[26, 26] ty #[.slice (some x1) i c1, .slice (some (cutAt x cap i)) (l.length - (i + 1)) (cap - (i + 1))]).run Try.prog w2 = .ok (.slice (some x2) (l.eraseIdx i).length c2) w3 ∧ RowE w3 B x2 c2 (l.eraseIdx i) ∧ Below w.heap.size w w3 := by
  have hi := (List.getElem?_eq_some_iff.1 he).1
  have hd : Below w.heap.size w (w.drew.alloc (.cells #[] 34)) := ((Below.refl _ _).drew).alloc (Nat.le_refl _) _
  have hsz : (w.drew.alloc (.cells #[] 34)).heap.size = w.heap.size + 1 := by show (w.alloc _).heap.size = _; simp
  have r0 : RowE (w.drew.alloc (.cells #[] 34)) B ⟨w.heap.size, 0, none⟩ 0 [] := RowE.new w.drew hB
  have rx : RowE (w.drew.alloc (.cells #[] 34)) B x cap l := h.below hd
  have hxb : x.block < w.heap.size := by obtain ⟨cs, hb⟩ := h.blk; exact hb.lt
  obtain ⟨x1, c1, w2, a1, a2, a3, a4⟩ := r0.append (y := x) (c := cap) (m := l.take i) (fun j u hu => rx.cells j u (by
    rw [← cE_take (Nat.le_of_lt hi), List.getElem?_take] at hu
    split at hu
    · exact hu
    · cases hu)) (by rw [hsz]; omega) (by simp; omega) ty
  rw [List.nil_append] at a1 a2
  have hti : (l.take i).length = i := by rw [List.length_take, Nat.min_eq_left (Nat.le_of_lt hi)]
  have b1 : w.heap.size ≤ x1.block := by
    rcases a4 with e1 | e1
    · rw [e1]; exact Nat.le_refl _
    · rw [e1, hsz]; omega
  have d1 : Below w.heap.size w w2 := hd.trans (a3.below (by rw [hsz]; omega) (fun k e1 => by have : k = w.heap.size := e1; omega))
  have rx2 : RowE w2 B x cap l := h.below d1
  obtain ⟨x2, c2, w3, p1, p2, p3, p4⟩ := a2.append (y := cutAt x cap i) (c := cap - (i + 1)) (m := l.drop (i + 1)) (fun j u hu => by
    have hj := (List.getElem?_eq_some_iff.1 hu).1
    rw [cE_length, List.length_drop] at hj
    have hle := h.le.1
    unfold cutAt
    rw [if_neg (by omega), addr_add2]
    refine rx2.cells _ _ ?_
    rw [← cE_drop (by omega), List.getElem?_drop] at hu
    exact hu) (Nat.le_trans hB d1.size) (by simp; omega) ty
  rw [hti] at a1 p1
  rw [← List.eraseIdx_eq_take_drop_succ] at p1 p2
  rw [List.length_drop] at p1
  exact ⟨x1, c1, w2, x2, c2, w3, a1, p1, p2, d1.trans (p3.below d1.size (fun k e1 => by have : k = x1.block := e1; omega))⟩
end Go.Proofs.Ytgoejoiomjmfaaa
