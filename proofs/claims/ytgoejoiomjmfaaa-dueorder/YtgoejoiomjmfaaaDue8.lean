/- The line's Push, and the heap's. Own lemmas, no statement. -/
import Derived.Test.YtgoejoiomjmfaaaDue7
import Derived.Maps.AppendAt
namespace Go.Proofs.Ytgoejoiomjmfaaa
open Go.ChangeShapes Go.WideShapes Go.ChangeAt Go.RowKit

/-- A line that may be nil. -/
def LineO (w : World) (v : Value) (n : Nat) (A : Nat → It) : Prop := (v = .slice none 0 0 ∧ n = 0) ∨ ∃ b cap, v = lineV b n cap ∧ Line w b n cap A
structure HO (w : World) (g : Nat) (v m : Value) (n : Nat) (A : Nat → It) : Prop where
  q : Blk w g #[v, m] 53
  l : LineO w v n A
theorem HL.ho {w : World} {g b n cap : Nat} {m : Value} {A : Nat → It} (h : HL w g b n cap m A) : HO w g (lineV b n cap) m n A := ⟨h.q, .inr ⟨b, cap, rfl, h.l⟩⟩
theorem LineO.form {w : World} {v : Value} {n : Nat} {A : Nat → It} (h : LineO w v n A) : ∃ ao c, v = .slice ao n c := by
  rcases h with ⟨rfl, rfl⟩ | ⟨b, cap, rfl, _⟩
  · exact ⟨none, 0, rfl⟩
  · exact ⟨_, cap, rfl⟩
/-- Blocks of a line that may be nil. -/
def OB (v : Value) (n : Nat) (A : Nat → It) (k : Nat) : Prop := v.ownBlock = some k ∨ ∃ i, i < n ∧ k = (A i).blk
theorem HO.apart {w : World} {g : Nat} {v m : Value} {n : Nat} {A : Nat → It} (h : HO w g v m n A) : ¬ OB v n A g := by
  rcases h with ⟨q, ⟨rfl, rfl⟩ | ⟨b, cap, rfl, l⟩⟩
  · rintro (e | ⟨i, hi, _⟩)
    · cases e
    · omega
  · have := HL.apart (w := w) (g := g) (b := b) (n := n) (cap := cap) (m := m) (A := A) ⟨q, l⟩
    rintro (e | e)
    · simp only [lineV, Value.ownBlock, Option.some.injEq] at e
      exact this (.inl e.symm)
    · exact this (.inr e)

def ptrs (n : Nat) (A : Nat → It) : List Value := (List.range n).map fun i => iptr (A i).blk
theorem LineO.owns {w : World} {v : Value} {n : Nat} {A : Nat → It} (h : LineO w v n A) : w.ownsRow 0 56 1 v n (ptrs n A) := by
  refine ⟨by simp [ptrs], ?_⟩
  rcases h with ⟨rfl, rfl⟩ | ⟨b, cap, rfl, l⟩
  · exact .inl ⟨rfl, rfl⟩
  · obtain ⟨cs, h1, h2, h3⟩ := l.row
    refine .inr ⟨b, cap, cs, rfl, Nat.zero_le _, h1, l.le, l.max, by omega, ?_⟩
    apply List.ext_getElem?
    intro i
    have := l.le
    rw [Nat.mul_one, List.getElem?_take]
    split
    · rename_i hi
      rw [Array.getElem?_toList, h3 i hi]
      simp [ptrs, hi]
    · rename_i hi
      rw [List.getElem?_eq_none]
      simp [ptrs]; omega

theorem infoP : (Try.prog.info? 56).map (fun i => (i.zero, i.size, i.bytes)) = some (some (.pointer none), 1, 8) := by kernel_rfl

/-- One more, in memory. -/
def snocA (n : Nat) (A : Nat → It) (x : It) : Nat → It := fun k => if k = n then x else A k
theorem snocA_lt {n k : Nat} (A : Nat → It) (x : It) (h : k < n) : snocA n A x k = A k := by unfold snocA; rw [if_neg (by omega)]
theorem snocA_at (n : Nat) (A : Nat → It) (x : It) : snocA n A x n = x := by unfold snocA; rw [if_pos rfl]

theorem pushed {w w1 : World} {v v' : Value} {n nb : Nat} {e : Ent} {A : Nat → It} (hO : LineO w v n A) (hn : ∀ i, i < n → (A i).blk ≠ nb) (hi : ∀ i, i < n → Blk w1 (A i).blk (icells (A i).e i) 59) (hb : Blk w1 nb (icells e n) 59)
    (ho : w1.ownsRow 0 56 1 v' (n + 1) (ptrs n A ++ [iptr nb])) : ∃ b cap, v' = lineV b (n + 1) cap ∧ Line w1 b (n + 1) cap (snocA n A ⟨nb, e⟩) := by
  obtain ⟨-, hc⟩ := ho
  rcases hc with ⟨_, h0⟩ | ⟨b, cap, cs, rfl, -, h1, h2, h3, h4, h5⟩
  · omega
  · refine ⟨b, cap, rfl, ⟨cs, h1, by omega, fun i hi' => ?_⟩, h2, h3, fun i hi' => ?_, fun i j hi' hj e' => ?_⟩
    · have : (cs.toList.take ((n + 1) * 1))[i]? = cs[i]? := by rw [List.getElem?_take, if_pos (by omega), Array.getElem?_toList]
      rw [← this, h5]
      rcases Nat.lt_or_ge i n with h | h
      · rw [List.getElem?_append_left (by simpa [ptrs] using h), snocA_lt A _ h]
        simp [ptrs, h]
      · obtain rfl : i = n := by omega
        rw [List.getElem?_append_right (by simp [ptrs]), snocA_at]
        simp [ptrs]
    · rcases Nat.lt_or_ge i n with h | h
      · rw [snocA_lt A _ h]; exact hi i h
      · obtain rfl : i = n := by omega
        rw [snocA_at]; exact hb
    · have hinj : Inj It.blk n A := by
        rcases hO with ⟨_, rfl⟩ | ⟨_, _, _, l⟩
        · intro a b ha; omega
        · exact l.inj
      rcases Nat.lt_or_ge i n with h | h
      · rcases Nat.lt_or_ge j n with k | k
        · rw [snocA_lt A _ h, snocA_lt A _ k] at e'
          exact hinj i j h k e'
        · obtain rfl : j = n := by omega
          rw [snocA_lt A _ h, snocA_at] at e'
          exact absurd e' (hn i h)
      · obtain rfl : i = n := by omega
        rcases Nat.lt_or_ge j i with k | k
        · rw [snocA_lt A _ k, snocA_at] at e'
          exact absurd e'.symm (hn j k)
        · omega

theorem LineO.item {w : World} {v : Value} {n : Nat} {A : Nat → It} (h : LineO w v n A) {i : Nat} (hi : i < n) : Blk w (A i).blk (icells (A i).e i) 59 := by
  rcases h with ⟨_, rfl⟩ | ⟨b, cap, _, l⟩
  · omega
  · exact l.item i hi
theorem LineO.rowBlk {w : World} {v : Value} {n k : Nat} {A : Nat → It} (h : LineO w v n A) (hk : v.ownBlock = some k) : ∃ cs, Blk w k cs 56 := by
  rcases h with ⟨rfl, rfl⟩ | ⟨b, cap, rfl, l⟩
  · cases hk
  · simp only [lineV, Value.ownBlock, Option.some.injEq] at hk
    subst hk
    obtain ⟨cs, h1, _⟩ := l.row
    exact ⟨cs, h1⟩

/-- What a new one leaves. -/
structure Pushed (w w' : World) (g : Nat) (v m : Value) (n : Nat) (A A' : Nat → It) (nb : Nat) (b cap : Nat) : Prop where
  hl : HL w' g b (n + 1) cap m A'
  chg : Chg (fun k => k = g ∨ k = nb ∨ OB v n A k) w w'
  row : v.ownBlock = some b ∨ w.heap.size ≤ b

theorem HL.of {w : World} {g b n cap : Nat} {v m : Value} {A : Nat → It} (hq : Blk w g #[v, m] 53) (hl : Line w b n cap A) : HL (w.setCell ⟨g, 0, none⟩ (lineV b n cap)) g b n cap m A := by
  refine ⟨by simpa using hq.set 0 (lineV b n cap), hl.chg (Chg.setCell (S := fun k => k = g) (Chg.refl _ w) ⟨g, 0, none⟩ (fun _ => rfl) _) (fun e => ?_) (fun i hi e => ?_)⟩
  · obtain ⟨cs, h1, _⟩ := hl.row
    exact (hq.ne h1 (by decide)) e.symm
  · exact (hq.ne (hl.item i hi) (by decide)) e.symm
theorem push_mid {w w4 : World} {g : Nat} {v m : Value} {n : Nat} {A : Nat → It} {nb : Nat} {e : Ent} {p : Nat} {o : Obj} (h : HO w g v m n A) (hb : Blk w nb (icells e p) 59) (hnew : ∀ i, i < n → (A i).blk ≠ nb)
    (hg : ((w.setCell ⟨nb, 4, none⟩ (.int .i64 (n : Int))).alloc o).grownBy w4 v.ownBlock) :
    Chg (fun k => k = g ∨ k = nb ∨ OB v n A k) w w4 ∧ Blk w4 g #[v, m] 53 ∧ Blk w4 nb (icells e n) 59 ∧ ∀ i, i < n → Blk w4 (A i).blk (icells (A i).e i) 59 := by
  have c1 : Chg (fun k => k = nb ∨ v.ownBlock = some k) w w4 := (((Chg.refl _ w).setCell ⟨nb, 4, none⟩ (fun _ => .inl rfl) _).alloc o).grown hg (fun k e _ => .inr e)
  have c2 : Chg (fun k => v.ownBlock = some k) (w.setCell ⟨nb, 4, none⟩ (.int .i64 (n : Int))) w4 := ((Chg.refl _ _).alloc o).grown hg (fun k e _ => e)
  refine ⟨c1.mono (fun i _ hh => ?_), h.q.chg c1 ?_, ?_, fun i hi => (h.l.item hi).chg c1 ?_⟩
  · rcases hh with e | e
    · exact .inr (.inl e)
    · exact .inr (.inr (.inl e))
  · rintro (e | e)
    · exact h.q.ne hb (by decide) e
    · exact h.apart (.inl e)
  · have := (hb.set 4 (.int .i64 (n : Int))).chg c2 (fun e => by obtain ⟨cs, hc⟩ := h.l.rowBlk e; exact hb.ne hc (by decide) rfl)
    simpa [icells] using this
  · rintro (e | e)
    · exact hnew i hi e
    · obtain ⟨cs, hc⟩ := h.l.rowBlk e
      exact (h.l.item hi).ne hc (by decide) rfl

theorem assertItem (w : World) (nb : Nat) : (Instr.typeAssert (.iface 56 (.pointer (some ⟨nb, 0, none⟩))) 20 56 true).run Try.prog w = .ok (.tuple #[.pointer (some ⟨nb, 0, none⟩), .bool true]) w := by kernel_rfl

set_option maxHeartbeats 2000000 in
theorem linePush_any (g : Nat) (v m : Value) (n : Nat) (A : Nat → It) (nb : Nat) (e : Ent) (p : Nat) (w : World) (h : HO w g v m n A) (hb : Blk w nb (icells e p) 59) (hnew : ∀ i, i < n → (A i).blk ≠ nb) (hn : n < 1099511627776) :
    Calls Try.prog 44 #[.pointer (some ⟨g, 0, none⟩), .iface 56 (iptr nb)] w fun r w' => r = .returned (.tuple #[]) ∧ ∃ b cap, Pushed w w' g v m n A (snocA n A ⟨nb, e⟩) nb b cap := by
  obtain ⟨i0, hi, hz0, hz1, hz2⟩ := info_parts infoP
  have H : Hid (HO w g v m n A) := h
  have HB : Hid (Blk w nb (icells e p) 59) := hb
  have HN : Hid (∀ i, i < n → (A i).blk ≠ nb) := hnew
  obtain ⟨ao, c, rfl⟩ := h.l.form
  have hgn : g ≠ nb := h.q.ne hb (by decide)
  have c0 : w.cell? ⟨g, 0, none⟩ = some (.slice ao n c) := h.q.cell 0
  have c4 : w.cell? ⟨nb, 4, none⟩ = some (.int .i64 (p : Int)) := hb.cell 4
  have f4 := hb.frozen 4
  have q1 := h.q.setOther (b' := nb) 4 (.int .i64 (n : Int)) hgn
  have c1 : (w.setCell ⟨nb, 4, none⟩ (.int .i64 (n : Int))).cell? ⟨g, 0, none⟩ = some (.slice ao n c) := q1.cell 0
  have hown : (w.setCell ⟨nb, 4, none⟩ (.int .i64 (n : Int))).ownsRow 0 56 1 (.slice ao n c) n (ptrs n A) := by
    have := h.l.owns
    refine ⟨this.1, ?_⟩
    rcases this.2 with h' | ⟨g', cap, cur, e1, e2, e3, e4⟩
    · exact .inl h'
    · refine .inr ⟨g', cap, cur, e1, e2, ?_, e4⟩
      have hne : g' ≠ nb := Blk.ne (w := w) (c := cur) e3 hb (by decide)
      rw [Below.heap_setCell _ _ _ _ hne]
      exact e3
  have HO1 : Hid (World.ownsRow _ 0 56 1 (.slice ao n c) n (ptrs n A)) := hown.alloc (.cells #[iptr nb] 56)
  clear h hb hnew q1 hown
  unfold iptr at *
  have hta := assertItem w nb
  go_enter Try.func44, Try.ntmps44
  go_wp2_with (first | (at_builtin; refine wpList_append_own_at _ rfl _ _ 51 rfl 0 56 i0 (.pointer none) 1 8 Try.underlying51 hi hz0 hz1 hz2 rfl (by decide) (.slice ao n c) n (ptrs n A) ?_ HO1.out ⟨w.heap.size, 0, none⟩ 1 1 [.pointer (some ⟨nb, 0, none⟩)] ?_ ?_ ?_ ?_ ?_ ?_ (Nat.zero_le _) ?_))
  · rfl
  · rfl
  · rfl
  · intro j z hj
    rw [Addr.add_mid, Nat.zero_add]
    have hsz : w.heap.size = (w.setCell ⟨nb, 4, none⟩ (.int .i64 (n : Int))).heap.size := by simp [World.setCell]
    rw [hsz, (Blk.new _ _ _).cell, List.getElem?_toArray]
    exact hj
  · intro u hu; simp at hu; subst hu; rfl
  · unfold maxLen; omega
  · omega
  intro v4 w4 k1 k2 _ k4
  obtain ⟨hch, hq4, hb4, hi4⟩ := push_mid (e := e) (p := p) H.out HB.out HN.out k2
  obtain ⟨b4, cap4, rfl, hl4⟩ := pushed H.out.l HN.out hi4 hb4 k1
  have K1 : Hid (HL (w4.setCell ⟨g, 0, none⟩ (lineV b4 (n + 1) cap4)) g b4 (n + 1) cap4 m (snocA n A ⟨nb, e⟩)) := HL.of hq4 hl4
  have K2 : Hid (Chg (fun k => k = g ∨ k = nb ∨ OB (.slice ao n c) n A k) w (w4.setCell ⟨g, 0, none⟩ (lineV b4 (n + 1) cap4))) := hch.setCell _ (fun _ => .inl rfl) _
  have K3 : Hid ((Value.slice ao n c).ownBlock = some b4 ∨ w.heap.size ≤ b4) := by
    rcases k4 with e' | e'
    · exact .inl e'.symm
    · simp only [lineV, Value.ownBlock, Option.some.injEq] at e'
      exact .inr (by omega)
  have c6 : w4.cell? ⟨g, 0, none⟩ = some (.slice ao n c) := hq4.cell 0
  have f6 := hq4.frozen 0
  clear k1 k2 k4 hch hq4 hb4 hi4 hl4 hta HO1 H HB HN c0 c1 c4 f4
  unfold lineV at *
  go_wp2_with fail
  go_end0
  exact ⟨rfl, b4, cap4, K1.out, K2.out, K3.out⟩

theorem snocA_heap {n : Nat} {A : Nat → It} (h : IsHeap ltI n A) (x : It) : UpInv ltI (n + 1) (snocA n A x) n := h.push x

/-- What the heap's Push leaves. -/
structure Pushed2 (w w' : World) (g : Nat) (v m : Value) (n : Nat) (A : Nat → It) (x : It) (b cap : Nat) (A' : Nat → It) : Prop where
  hl : HL w' g b (n + 1) cap m A'
  heap : IsHeap ltI (n + 1) A'
  same : SameOn (n + 1) (snocA n A x) A'
  chg : Chg (fun k => k = g ∨ k = x.blk ∨ OB v n A k) w w'
  row : v.ownBlock = some b ∨ w.heap.size ≤ b

theorem pushed2 {w w1 w' : World} {g : Nat} {v m : Value} {n : Nat} {A A' : Nat → It} {nb : Nat} {e : Ent} {b cap : Nat} (h : Pushed w w1 g v m n A (snocA n A ⟨nb, e⟩) nb b cap) (hW : Walked w1 w' g b (n + 1) (n + 1) cap m (snocA n A ⟨nb, e⟩) A') (hI : IsHeap ltI (n + 1) A') : Pushed2 w w' g v m n A ⟨nb, e⟩ b cap A' := by
  refine ⟨hW.hl, hI, hW.same, h.chg.trans hW.chg (fun k hk hh => ?_), h.row⟩
  rcases hh with e' | ⟨i, hi, e'⟩
  · rcases h.row with r | r
    · exact .inr (.inr (.inl (by rw [e']; exact r)))
    · omega
  · rcases Nat.lt_or_ge i n with hl | hl
    · rw [snocA_lt A _ hl] at e'
      exact .inr (.inr (.inr ⟨i, hl, e'⟩))
    · obtain rfl : i = n := by omega
      rw [snocA_at] at e'
      exact .inr (.inl e')

set_option maxHeartbeats 2000000 in
theorem heapPush_any (g : Nat) (v m : Value) (n : Nat) (A : Nat → It) (nb : Nat) (e : Ent) (p : Nat) (w : World) (h : HO w g v m n A) (hH : IsHeap ltI n A) (hb : Blk w nb (icells e p) 59) (hnew : ∀ i, i < n → (A i).blk ≠ nb) (hn : n < 1099511627776) :
    Calls Try.prog 17 #[qp g, .iface 56 (iptr nb)] w fun r w' => r = .returned (.tuple #[]) ∧ ∃ b cap A', Pushed2 w w' g v m n A ⟨nb, e⟩ b cap A' := by
  have hm := meth_Push w g
  have HP : Hid (Calls _ _ _ _ _) := linePush_any g v m n A nb e p w h hb hnew hn
  have HH : Hid (IsHeap ltI n A) := hH
  clear h hb hnew hH
  unfold qp at *
  go_enter Try.func17, Try.ntmps17
  go_wp2_with fail
  refine Calls.mono HP.out ?_
  rintro r w1 ⟨rfl, b, cap, hp⟩
  have K : Hid (Pushed w w1 g v m n A (snocA n A ⟨nb, e⟩) nb b cap) := hp
  have hm2 := meth_Len hp.hl.cell
  have HU : Hid (Calls _ _ _ _ _) := up_any g b (n + 1) (n + 1) cap m (snocA n A ⟨nb, e⟩) n w1 hp.hl (snocA_heap HH.out _) (Nat.le_refl _) (by unfold maxLen; omega)
  clear hp HP hm
  go_wp2_with fail
  refine (lineLen_any _ _ _ _).mono ?_
  rintro r w' ⟨rfl, hw⟩; rw [hw]; clear hw w'
  go_wp2_with fail
  refine Calls.mono HU.out ?_
  rintro r w2 ⟨rfl, A2, hW, hI⟩
  have K2 : Hid (∃ b cap A', Pushed2 w w2 g v m n A ⟨nb, e⟩ b cap A') := ⟨b, cap, A2, pushed2 K.out hW hI⟩
  clear hW hI HU K
  go_wp2_with fail
  go_end0
  exact ⟨rfl, K2.out⟩
end Go.Proofs.Ytgoejoiomjmfaaa
