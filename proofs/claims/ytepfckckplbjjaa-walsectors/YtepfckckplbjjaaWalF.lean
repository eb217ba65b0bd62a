/- The log's entries from one on; a row of numbers beside a log. Own lemmas, no statement. -/
import Derived.Test.YtepfckckplbjjaaWWalRounds
namespace Go.Proofs.Ytepfckckplbjjaa
open Go.ChangeShapes Go.WideShapes Go.ChangeAt Go.RowKit

theorem entW_above {lk : Nat → Option Pc} {n0 least : Nat} : ∀ {m k life : Nat} {acc t : List UInt8} {l nx : Nat}, entW lk n0 least m k acc life = some (t, l, nx) → least ≤ l
  | 0, k, life, acc, t, l, nx, h => by cases h
  | m + 1, k, life, acc, t, l, nx, h => by
    unfold entW at h
    split at h
    · cases h
    · rename_i p hp
      split at h
      · cases h
      · rename_i hb
        split at h
        · cases h
          omega
        · exact entW_above h
theorem Chain.least {s : LSt} {st : DSt} {n least least' m lf : Nat} {es : List (Nat × List UInt8)} (h : Chain s st n least es m lf) (hne : es ≠ []) (hle : least' ≤ least) : Chain s st n least' es m lf := by
  cases es with
  | nil => exact absurd rfl hne
  | cons e t =>
    obtain ⟨h1, l, nx, h2, h3⟩ := h
    exact ⟨h1, l, nx, entW_least hle h2, h3⟩
theorem Chain.drop {s : LSt} {st : DSt} : ∀ {es : List (Nat × List UInt8)} {n least m lf : Nat}, Chain s st n least es m lf → ∀ {k : Nat} {x : Nat × List UInt8}, es[k]? = some x → n ≤ x.1 ∧ ∃ least', least ≤ least' ∧ Chain s st x.1 least' (es.drop k) m lf
  | [], _, _, _, _, _, k, x, hk => by simp at hk
  | e :: t, n, least, m, lf, h, 0, x, hk => by
    simp only [List.getElem?_cons_zero, Option.some.injEq] at hk
    subst hk
    have h1 := h.1
    subst h1
    exact ⟨Nat.le_refl _, least, Nat.le_refl _, h⟩
  | e :: t, n, least, m, lf, h, k + 1, x, hk => by
    obtain ⟨_, l, nx, h2, h3, _, h4⟩ := h
    rw [List.getElem?_cons_succ] at hk
    obtain ⟨a1, l', a2, a3⟩ := h4.drop hk
    have := entW_above h2
    exact ⟨by omega, l', by omega, by rw [List.drop_succ_cons]; exact a3⟩
theorem Chain.from {s : LSt} {st : DSt} {es : List (Nat × List UInt8)} {n least m lf k : Nat} {x : Nat × List UInt8} (h : Chain s st n least es m lf) (hk : es[k]? = some x) : n ≤ x.1 ∧ Chain s st x.1 least (es.drop k) m lf := by
  obtain ⟨h1, l', h2, h3⟩ := h.drop hk
  refine ⟨h1, h3.least (fun e => ?_) h2⟩
  have := List.drop_eq_nil_iff.1 e
  have := (List.getElem?_eq_some_iff.1 hk).1
  omega

section
variable {w0 w w' : World} {B g : Nat} {f : Foot} {s : LSt} {st : DSt}
/-- No block of a log's holds numbers, or a row of them. -/
theorem WL.types (h : WL w g f s st) (k : Nat) (hk : k = g ∨ f.has k) : ∃ c T, Blk w k c T ∧ T ≠ 34 ∧ T ≠ 33 := by
  obtain ⟨wv, hh, hw, xs, hown, -⟩ := h.d.head
  rcases hk with rfl | (rfl | rfl | rfl | hk) | hk
  · exact ⟨_, _, h.l, by decide, by decide⟩
  · exact ⟨_, _, hh, by decide, by decide⟩
  · obtain ⟨c, h1, _⟩ := h.d.now
    exact ⟨_, _, h1, by decide, by decide⟩
  · obtain ⟨c, h1, _⟩ := h.d.safe
    exact ⟨_, _, h1, by decide, by decide⟩
  · obtain ⟨c, h1⟩ := own_block hown (hw.trans hk)
    exact ⟨_, _, h1, by decide, by decide⟩
  · obtain ⟨c, h1⟩ := h.d.ty k hk
    exact ⟨_, _, h1, by decide, by decide⟩
theorem WS.kept (h : WS w0 B w g f s st) (hb : Below B w w') (hk : ∀ k c T, Blk w k c T → T ≠ 34 → T ≠ 33 → w'.heap[k]? = w.heap[k]?) : WS w0 B w' g f s st := by
  refine ⟨h.wl.chg (S := fun k => ¬ (k = g ∨ f.has k)) ⟨hb.os, hb.tape, hb.output, hb.size, fun k _ hn => ?_⟩ (fun e => e (.inl rfl)) (fun i hi e => e (.inr hi)), h.own, h.gB, h.bel.trans hb, h.le⟩
  obtain ⟨c, T, h1, h2, h3⟩ := h.wl.types k (Classical.not_not.1 hn)
  exact hk k c T h1 h2 h3
/-- As ws_append; and what a call on the log may turn. -/
theorem ws_appendT {ao : Option Addr} {n c n1 : Nat} {l : List UInt8} {es : List (Nat × List UInt8)} {lf : Nat} (h : WS w0 B w g f s st) (hL : LW s st es lf) (hb : Src w (.slice ao n c) l) (hn1 : (∀ k, f.has k → k < n1) ∧ g < n1) (hap : ∀ ad, ao = some ad → 0 < l.length → ad.block < B ∨ n1 ≤ ad.block)
    (hn : l.length ≤ 16384) (hr : needN l.length ≤ s.room - (s.next - s.first)) (hnx : s.next < 4611686018427387904 + 1000000) (hlf : s.life ≤ 1099511627776) (hst : st.steps < 4611686018427387000) (hwl : st.waits.length < 1099511627000) :
    Calls Try.prog 18 #[lptr g, .slice ao n c] w fun e w' => ∃ f', e = .returned (.tuple #[.int .u64 (s.next : Int), .int .i64 0]) ∧ WS w0 B w' g f' { s with next := s.next + needN l.length } (apTo s l (needN l.length) st (needN l.length)).2 ∧
      LW { s with next := s.next + needN l.length } (apTo s l (needN l.length) st (needN l.length)).2 (es ++ [(s.next, l)]) s.life ∧ LTurn g f w f' w' := by
  obtain ⟨e0, e1⟩ := hL.append l hr (by omega) hlf
  refine (append_any h.wl ao n c l hb (fun ad e h0 => ⟨fun hk => ?_, fun hk => ?_⟩) hn hL.le1 hL.le2 hr hnx hlf hst hwl).mono ?_
  · have := h.own _ hk
    have := hn1.1 _ hk
    rcases hap ad e h0 with x | x <;> omega
  · have := h.gB
    have := hn1.2
    rcases hap ad e h0 with x | x <;> omega
  · rintro e w' ⟨f', rfl, k1, k2⟩
    rw [e0] at k1 ⊢
    exact ⟨f', rfl, h.turn k1 k2, e1, k2⟩
theorem LTurn.kept {f' : Foot} (h : LTurn g f w f' w') (hW : WL w g f s st) {k : Nat} {c : Array Value} {T : TypeId} (hk : Blk w k c T) (hT : T = 34 ∨ T = 33) : w'.heap[k]? = w.heap[k]? := by
  refine h.chg.block k hk.lt fun e => ?_
  obtain ⟨c', T', h1, h2, h3⟩ := hW.types k e
  have := (hk.inj h1).2
  rcases hT with rfl | rfl
  · exact h2 this.symm
  · exact h3 this.symm
end
def zOf (zs : List Int) (k : Nat) : Nat := (bits .and .i64 (zs.getD k 0) 1023).toNat
theorem zOf_is (zs : List Int) (k : Nat) : bits .and .i64 (zs.getD k 0) 1023 = (zOf zs k : Int) ∧ zOf zs k ≤ 1023 := by
  obtain ⟨i, h1, h2⟩ := and_leW (zs.getD k 0) 1023 (by omega)
  have h2' : bits .and .i64 (zs.getD k 0) 1023 = (i : Int) := h2
  unfold zOf
  rw [h2']
  exact ⟨by simp, by simpa using h1⟩
def numE (x : Nat × List UInt8) : Value := .int .u64 (x.1 : Int)
/-- The entries that the law lays. -/
def lays (zs : List Int) (n : Nat) : List (List UInt8) := (List.range n).map fun k => bytesL (zOf zs k) k
theorem lays_succ (zs : List Int) (n : Nat) : lays zs (n + 1) = lays zs n ++ [bytesL (zOf zs n) n] := by simp [lays, List.range_succ]
theorem needN_1023 {n : Nat} (h : n ≤ 1023) : needN n ≤ 3 := by
  unfold needN
  split <;> omega
/-- While the entries are laid: the log, and the row of their numbers, in a box. -/
structure AlS (zs : List Int) (W0 wr : World) (nb g : Nat) (v : Value) (f : Foot) (nx : Nat) (st : DSt) (es : List (Nat × List UInt8)) (lf i : Nat) : Prop where
  ws : WS W0 W0.heap.size wr g f ⟨0, 98, 1, 1, 0, 1, nx, 0⟩ st
  lw : LW ⟨0, 98, 1, 1, 0, 1, nx, 0⟩ st es lf
  bx : Boxed wr nb 33 v
  ow : wr.ownsRow W0.heap.size 34 1 v i (es.map numE)
  nb : W0.heap.size ≤ nb
  nx : nx ≤ 3 * i
  stp : st.steps ≤ 2 + 3 * i
  wts : st.waits.length ≤ 3 * i
  by_ : es.map (·.2) = lays zs i
section
variable {zs : List Int} {W0 w w' : World} {nb g nx lf i : Nat} {v : Value} {f : Foot} {st : DSt} {es : List (Nat × List UInt8)}
theorem AlS.len (h : AlS zs W0 w nb g v f nx st es lf i) : es.length = i := by
  have := congrArg List.length h.by_
  simpa [lays] using this
theorem AlS.below (h : AlS zs W0 w nb g v f nx st es lf i) (hb : Below w.heap.size w w') : AlS zs W0 w' nb g v f nx st es lf i :=
  ⟨h.ws.below hb, h.lw, (hb.block _ h.bx.lt).trans h.bx, own_keptW h.ow (fun k hk => by obtain ⟨c, hc⟩ := own_block h.ow hk; exact hb.block _ hc.lt), h.nb, h.nx, h.stp, h.wts, h.by_⟩
theorem AlS.push {f' : Foot} {nx' lf' : Nat} {st' : DSt} {W w1 : World} {v' : Value} {L : List UInt8} {tmp : Obj} (h : AlS zs W0 w nb g v f nx st es lf i) (hW : WS W0 W0.heap.size W g f' ⟨0, 98, 1, 1, 0, 1, nx', 0⟩ st') (hL : LW ⟨0, 98, 1, 1, 0, 1, nx', 0⟩ st' (es ++ [(nx, L)]) lf') (hT : LTurn g f w f' W)
    (hn : nx' ≤ nx + 3) (hs : st'.steps ≤ st.steps + 3) (hw : st'.waits.length ≤ st.waits.length + 3) (hl : L = bytesL (zOf zs i) i) (ho : w1.ownsRow W0.heap.size 34 1 v' (i + 1) (es.map numE ++ [.int .u64 (nx : Int)])) (hg : (W.alloc tmp).grownBy w1 v.ownBlock) :
    AlS zs W0 (w1.setCell ⟨nb, 0, none⟩ v') nb g v' f' nx' st' (es ++ [(nx, L)]) lf' (i + 1) ∧ Boxed w1 nb 33 v := by
  have b1 : Boxed W nb 33 v := (hT.kept h.ws.wl h.bx (.inr rfl)).trans h.bx
  have o1 : W.ownsRow W0.heap.size 34 1 v i (es.map numE) := own_keptW h.ow (fun k hk => by obtain ⟨c, hc⟩ := own_block h.ow hk; exact hT.kept h.ws.wl hc (.inl rfl))
  obtain ⟨a1, a2, a3, a4, a5⟩ := b1.appended (by decide) o1 hW.sz h.nb ho hg
  refine ⟨⟨hW.kept a5 fun k c T hk h1 h2 => app_other o1 hg hk h1 (fun e => ?_) _, hL, a2, by rw [List.map_append]; exact a3, h.nb, by have := h.nx; omega, by have := h.stp; omega, by have := h.wts; omega, ?_⟩, a1⟩
  · subst e
    exact h2 (hk.inj b1).2
  · rw [List.map_append, h.by_, lays_succ, hl]
    rfl
end
end Go.Proofs.Ytepfckckplbjjaa
