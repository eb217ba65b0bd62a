/- The log: its entries, gone through. Own lemmas, no statement. -/
import Derived.Test.YtepfckckplbjjaaWal14
import Derived.Test.YtepfckckplbjjaaRangeG
namespace Go.Proofs.Ytepfckckplbjjaa
open Go.ChangeShapes Go.WideShapes Go.ChangeAt Go.RowKit Go Go.Shelf
attribute [local go_sem] Oper.semAt_some

theorem grow_below {w w' : World} (h : Below w.heap.size w w') : w.grownBy w' none := ⟨h.os, h.tape, h.output, h.size, fun k hk _ => h.block k hk⟩
/-- The entries from a number on, of lives not below least: their numbers and bytes; the number behind them, and the last one's life. -/
def Chain (s : LSt) (st : DSt) : Nat → Nat → List (Nat × List UInt8) → Nat → Nat → Prop
  | n, least, [], m, lf => n = m ∧ least = lf
  | n, least, e :: t, m, lf => e.1 = n ∧ ∃ l nx, entAt s st n least = some (e.2, l, nx) ∧ n < nx ∧ l < 18446744073709551616 ∧ Chain s st nx l t m lf
theorem Chain.le {s : LSt} {st : DSt} : ∀ {es : List (Nat × List UInt8)} {n least m lf : Nat}, Chain s st n least es m lf → n ≤ m ∧ (es ≠ [] → n < m)
  | [], n, least, m, lf, h => ⟨by have := h.1; omega, fun e => absurd rfl e⟩
  | e :: t, n, least, m, lf, h => by
    obtain ⟨_, l, nx, _, h2, _, h3⟩ := h
    have := h3.le.1
    exact ⟨by omega, fun _ => by omega⟩
/-- What comes of a log: a number, bytes in a row, and the block of the entry that has them. -/
abbrev Ent := Nat × Value × List UInt8 × Nat
def Ent.two (x : Ent) : Nat × List UInt8 := (x.1, x.2.2.1)
def encE (x : Ent) : Array Value := #[.int .u64 (x.1 : Int), x.2.1]
def goodE (x : Ent) (W : World) : Prop := Src W x.2.1 x.2.2.1 ∧ ∃ c, Blk W x.2.2.2 c 95
/-- What a round keeps: the log and its disk, which lie below n₀; the log's box; the entry. -/
def KpL (n₀ b0 : Nat) (x : Ent) (W W' : World) : Prop := Below n₀ W W' ∧ W'.heap[b0]? = W.heap[b0]? ∧ W'.heap[x.2.2.2]? = W.heap[x.2.2.2]?
/-- While a log is gone through. -/
structure AllS (wr : World) (b0 n₀ g : Nat) (f : Foot) (s : LSt) (st : DSt) (lf : Nat) (es : List (Nat × List UInt8)) (J : List Ent → World → Prop) (pre : List Ent) (rest : List (Nat × List UInt8)) (k lst : Nat) : Prop where
  w : WL wr g f s st
  x0 : Boxed wr b0 28 (lptr g)
  n : n₀ ≤ wr.heap.size
  c : Chain s st k lst rest s.next lf
  e : pre.map Ent.two ++ rest = es
  j : J pre wr
  f : s.first ≤ k

theorem AllS.below {wr w2 : World} {b0 n₀ g B : Nat} {f : Foot} {s : LSt} {st : DSt} {lf : Nat} {es : List (Nat × List UInt8)} {J : List Ent → World → Prop} {pre : List Ent} {rest : List (Nat × List UInt8)} {k lst : Nat} (hJ : AbidesFrom B J) (h : AllS wr b0 n₀ g f s st lf es J pre rest k lst) (hb : Below wr.heap.size wr w2) :
    AllS w2 b0 n₀ g f s st lf es J pre rest k lst :=
  ⟨h.w.below hb, (hb.block _ h.x0.lt).trans h.x0, Nat.le_trans h.n hb.size, h.c, h.e, hJ pre wr w2 none h.j (grow_below hb) (fun r e => by cases e), h.f⟩
theorem WL.keepB {w w' : World} {g B : Nat} {f : Foot} {s : LSt} {st : DSt} (h : WL w g f s st) (hb : Below B w w') (hl : g < B ∧ ∀ i, f.has i → i < B) : WL w' g f s st :=
  h.chg (S := fun k => B ≤ k) (Chg.of_below hb (fun _ _ e => e)) (by omega) (fun i hi => by have := hl.2 i hi; omega)
set_option maxRecDepth 100000 in
set_option maxHeartbeats 4000000 in
theorem all1_in (n : Nat) (hn : 1 ≤ n) (l b0 b1 n₀ g : Nat) (f : Foot) (s : LSt) (st : DSt) (from_ lf : Nat) (es : List (Nat × List UInt8)) (J Jx : List Ent → World → Prop) (W : World)
    (hW : WL W g f s st) (hlow : Hid (g < n₀ ∧ ∀ i, f.has i → i < n₀)) (hn₀ : n₀ ≤ W.heap.size) (hx0 : Boxed W b0 28 (lptr g)) (hx1 : Boxed W b1 34 (.int .u64 (from_ : Int))) (hC : Chain s st from_ s.least es s.next lf) (hfirst : s.first ≤ from_) (hnx : s.next < 9223372036853000000)
    (hl64 : s.least < 18446744073709551616)
    (hJ : Hid (AbidesFrom W.heap.size J)) (h0 : J [] W)
    (hY : Hid (∀ pre x W1, J pre W1 → goodE x W1 → (pre ++ [x]).map Ent.two <+: es → YieldAt Fence.wide (n - 1) Try.prog l (encE x) W1 fun e W' => (e = .returned (.bool true) ∧ J (pre ++ [x]) W' ∧ KpL n₀ b0 x W1 W') ∨ (e = .returned (.bool false) ∧ Jx (pre ++ [x]) W'))) :
    CallsIn Fence.wide n Try.prog 53 #[.func (.yield l) #[] #[], .pointer (some ⟨b0, 0, none⟩), .pointer (some ⟨b1, 0, none⟩)] W fun e W' => (∃ v, e = .returned v) ∧
      ((∃ xs, xs.map Ent.two = es ∧ J xs W') ∨ (∃ pre, pre.map Ent.two <+: es ∧ Jx pre W')) := by
  have c0 := hx0.cell
  have c1 := hx1.cell
  have c6 : W.cell? ⟨g, 6, none⟩ = some (.int .u64 (s.least : Int)) := Blk.cell hW.l 6
  have HS : Hid (AllS W b0 n₀ g f s st lf es J [] es from_ s.least) := ⟨hW, hx0, hn₀, hC, rfl, h0, hfirst⟩
  clear hW hx0 hx1 hC h0 hn₀ hfirst
  unfold lptr at *
  refine callsIn_of_wp Try.func53 rfl trivial ?_ rfl
  simp only [Try.ntmps53, List.size_toArray, List.length_cons, List.length_nil, Nat.reduceAdd, Nat.reduceSub, Array.replicate_succ, Array.replicate_zero, List.push_toArray, List.append_toArray, List.nil_append, List.cons_append]
  gi_wp2
  gi_loopw [4, 5] (fun vl va wr => ∃ (pre : List Ent) (rest : List (Nat × List UInt8)) (k lst : Nat), vl = .int .u64 (lst : Int) ∧ va = .int .u64 (k : Int) ∧ lst < 18446744073709551616 ∧ AllS wr b0 n₀ g f s st lf es J pre rest k lst)
    (fun _ va _ => s.next - (intOf va).toNat)
  case atStart => exact ⟨[], es, from_, s.least, rfl, rfl, hl64, HS.out⟩
  case round =>
    clear HS c0 c1 c6
    obtain ⟨pre, rest, k, lst, rfl, rfl, hl64', hS⟩ := hrel
    have HS : Hid (AllS wr b0 n₀ g f s st lf es J pre rest k lst) := hS
    have c0 : wr.cell? ⟨b0, 0, none⟩ = some (.pointer (some ⟨g, 0, none⟩)) := hS.x0.cell
    have c5 : wr.cell? ⟨g, 5, none⟩ = some (.int .u64 (s.first : Int)) := Blk.cell hS.w.l 5
    have c7 : wr.cell? ⟨g, 7, none⟩ = some (.int .u64 (s.next : Int)) := Blk.cell hS.w.l 7
    have hf1 : s.first ≤ k := hS.f
    have hle := hS.c.le
    clear hS
    cases rest with
    | nil =>
      obtain rfl : k = s.next := HS.out.c.1
      clear hle
      gi_wp2
      go_end0
      exact ⟨⟨_, rfl⟩, .inl ⟨pre, by have := HS.out.e; simpa using this, HS.out.j⟩⟩
    | cons e rest =>
      have hk2 : k < s.next := hle.2 (by simp)
      obtain ⟨h1, l', nx, h2, h3, h3', h4⟩ := HS.out.c
      have HEN : Hid (Calls _ _ _ _ _) := entry_any HS.out.w k lst (by omega)
      have HC4 : Hid (e.1 = k ∧ Chain s st nx l' rest s.next lf) := ⟨h1, h4⟩
      have hent : entW (look s st) k lst (s.room + 1) k [] 0 = some (e.2, l', nx) := h2
      rw [hent] at HEN
      clear hle h1 h2 h4 hent
      unfold lptr at HEN
      gi_wp2_with (refine ⟨trivial, ?_⟩; gi_at_call 54; refine (callsIn_wide.2 HEN.out).mono ?_; rintro x w2 ⟨hb2, v, rfl, ho2⟩; obtain ⟨ao, cc, rfl, q1, q2, q3⟩ := ho2.src)
      have hS2 := HS.out.below hJ.out hb2
      have hbA := (Below.refl w2.heap.size w2).alloc (Nat.le_refl _) (.cells #[.slice ao e.2.length cc, .int .u64 (l' : Int), .int .u64 (nx : Int)] 95)
      have HS3 : Hid (AllS (w2.alloc (.cells #[.slice ao e.2.length cc, .int .u64 (l' : Int), .int .u64 (nx : Int)] 95)) b0 n₀ g f s st lf es J pre (e :: rest) k lst) := hS2.below hJ.out hbA
      have HE3 : Hid (Blk (w2.alloc (.cells #[.slice ao e.2.length cc, .int .u64 (l' : Int), .int .u64 (nx : Int)] 95)) w2.heap.size #[.slice ao e.2.length cc, .int .u64 (l' : Int), .int .u64 (nx : Int)] 95) := Blk.new _ _ _
      obtain ⟨fn, tmps, assign, body, hy, hR⟩ := hY.out pre (k, .slice ao e.2.length cc, e.2, w2.heap.size) _ HS3.out.j ⟨ho2.src.below hbA, _, HE3.out⟩ ⟨rest, by rw [← HS3.out.e]; simp [Ent.two, ← HC4.out.1]⟩
      have HR : Hid (RoundIn _ _ _ _ _ _ _ _ _ _) := hR
      dsimp only [encE] at hy
      clear hb2 ho2 q1 q2 q3 hS2 hbA hR HS c0 c5 c7 HEN
      rw [hy]
      gi_wp2
      refine (HR.out).mono ?_
      rintro x W3 (⟨rfl, hJ3, hk3⟩ | ⟨rfl, hJx3⟩)
      · have hE4 : Blk W3 w2.heap.size #[.slice ao e.2.length cc, .int .u64 (l' : Int), .int .u64 (nx : Int)] 95 := HE3.out.of hk3.2.2
        have m1' : W3.cell? ⟨w2.heap.size, 1, none⟩ = some (.int .u64 (l' : Int)) := hE4.cell 1
        have m2' : W3.cell? ⟨w2.heap.size, 2, none⟩ = some (.int .u64 (nx : Int)) := hE4.cell 2
        have HS4 : Hid (AllS W3 b0 n₀ g f s st lf es J (pre ++ [(k, .slice ao e.2.length cc, e.2, w2.heap.size)]) rest nx l') :=
          ⟨HS3.out.w.keepB hk3.1 hlow.out, (show _ = _ from hk3.2.1).trans HS3.out.x0, Nat.le_trans HS3.out.n hk3.1.size, HC4.out.2, by rw [← HS3.out.e]; simp [Ent.two, ← HC4.out.1], hJ3, by omega⟩
        clear hE4 hJ3 hk3 HS3 HE3 HR hy
        have HS5 : Hid (AllS W3.drew b0 n₀ g f s st lf es J (pre ++ [(k, .slice ao e.2.length cc, e.2, w2.heap.size)]) rest nx l') := HS4.out.below hJ.out (Below.refl _ _).drew
        gi_wp2
        gi_region
        all_goals
          gi_wp2
          go_roundw
          case rel => exact ⟨_, rest, nx, l', rfl, rfl, h3', HS5.out⟩
          case measure => simp [intOf]; omega
      · gi_wp2
        refine bodyPost_ret (results_none rfl _ _ _) rfl ?_
        exact ⟨⟨_, rfl⟩, .inr ⟨pre ++ [(k, .slice ao e.2.length cc, e.2, w2.heap.size)], ⟨rest, by rw [← HS3.out.e]; simp [Ent.two, ← HC4.out.1]⟩, hJx3⟩⟩
end Go.Proofs.Ytepfckckplbjjaa
