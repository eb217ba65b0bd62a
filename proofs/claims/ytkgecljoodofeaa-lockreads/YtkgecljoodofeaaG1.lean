import Derived.Test.YtkgecljoodofeaaLkH1
/- lock: the law's right, of lists that are so. Own lemmas, no statement. -/
set_option linter.unusedSimpArgs false
set_option linter.unusedVariables false
namespace Go.Proofs.Ytkgecljoodofeaa
open Go.ChangeShapes Go.WideShapes Go.ChangeAt Go.RowKit

/-- No two that have a key are against each other; who waits is elder than those for whom it waits. -/
structure RightL (has waits : List Wn) : Prop where
  hh : ∀ i j (hi : i < has.length) (hj : j < has.length), i ≠ j → has[i].mode ≠ 2 ∧ has[j].mode ≠ 2
  wh : ∀ w ∈ waits, ∀ h ∈ has, h.t ≠ w.t → (h.mode = 2 ∨ w.mode = 2) → eldT w.t h.t = true
  ww : ∀ i j (hi : i < waits.length) (hj : j < i), (waits[j].mode = 2 ∨ waits[i].mode = 2) → eldT waits[i].t waits[j].t = true
end Go.Proofs.Ytkgecljoodofeaa
/- lock: nobody waits round and round, plainly: kept by each answer and each Free. Own lemmas, no statement. -/
set_option linter.unusedSimpArgs false
set_option linter.unusedVariables false
namespace Go.Proofs.Ytkgecljoodofeaa
open Go.ChangeShapes Go.WideShapes Go.ChangeAt Go.RowKit

structure Good (has waits : List Wn) : Prop where
  srt : Srt has
  hh : ∀ a ∈ has, ∀ b ∈ has, a.t ≠ b.t → a.mode ≠ 2 ∧ b.mode ≠ 2
  wh : ∀ w ∈ waits, ∀ h ∈ has, h.t ≠ w.t → (h.mode = 2 ∨ w.mode = 2) → eldT w.t h.t = true
  ww : waits.Pairwise fun h w => (h.mode = 2 ∨ w.mode = 2) → eldT w.t h.t = true
  wd : waits.Pairwise fun h w => h.t ≠ w.t
theorem Srt.ne {ls : List Wn} (h : Srt ls) {i j : Nat} (hi : i < ls.length) (hj : j < ls.length) (hij : i ≠ j) : ls[i].t ≠ ls[j].t := by
  rcases Nat.lt_or_gt_of_ne hij with h1 | h1
  · exact eldT_ne (h.get h1 hj)
  · exact fun e => eldT_ne (h.get h1 hi) e.symm
theorem Good.right {has waits : List Wn} (g : Good has waits) : RightL has waits :=
  ⟨fun i j hi hj hij => g.hh _ (List.getElem_mem _) _ (List.getElem_mem _) (g.srt.ne hi hj hij), g.wh, fun i j hi hj => (List.pairwise_iff_getElem.1 g.ww) j i (by omega) hi hj⟩
theorem Good.nil : Good [] [] := ⟨List.Pairwise.nil, (fun a h => by cases h), (fun a h => by cases h), List.Pairwise.nil, List.Pairwise.nil⟩
/-- In a list in order a transaction stands once. -/
theorem Srt.uniq {ls : List Wn} (h : Srt ls) {a b : Wn} (ha : a ∈ ls) (hb : b ∈ ls) (e : a.t = b.t) : a = b := by
  obtain ⟨i, hi, rfl⟩ := List.getElem_of_mem ha
  obtain ⟨j, hj, rfl⟩ := List.getElem_of_mem hb
  by_cases hij : i = j
  · subst hij; rfl
  · exact absurd e (h.ne hi hj hij)
theorem giveL_mem {x y : Wn} {ls : List Wn} (hs : Srt ls) (h : y ∈ giveL x ls) : y = x ∨ (y ∈ ls ∧ y.t ≠ x.t) := by
  by_cases e : y.t = x.t
  · exact .inl ((giveL_srt hs).uniq h (self_giveL x ls) e)
  · rcases mem_giveL h with h1 | h1
    · exact .inl h1
    · exact .inr ⟨h1, e⟩
theorem agB_no {x o : Wn} (h : agB x o = false) (hne : o.t ≠ x.t) : x.mode ≠ 2 ∧ o.mode ≠ 2 := by
  unfold agB at h
  rw [eqT_ne (fun e => hne e.symm)] at h
  simp at h
  exact h
theorem agB_yes {x o : Wn} (hne : o.t ≠ x.t) (h : x.mode = 2 ∨ o.mode = 2) : agB x o = true := by
  unfold agB
  rw [eqT_ne (fun e => hne e.symm)]
  simpa using h
theorem Good.give {has ws : List Wn} {x : Wn} (g : Good has ws) (h1 : ∀ o ∈ has, agB x o = false) (h2 : ∀ w ∈ ws, w.t ≠ x.t → (x.mode = 2 ∨ w.mode = 2) → eldT w.t x.t = true) : Good (giveL x has) ws := by
  refine ⟨giveL_srt g.srt, fun a ha b hb hne => ?_, fun w hw h hh hne hm => ?_, g.ww, g.wd⟩
  · rcases giveL_mem g.srt ha with e1 | ⟨ha2, hat⟩
    · rcases giveL_mem g.srt hb with e2 | ⟨hb2, hbt⟩
      · exact absurd (by rw [e1, e2]) hne
      · rw [e1]; exact agB_no (h1 b hb2) hbt
    · rcases giveL_mem g.srt hb with e2 | ⟨hb2, hbt⟩
      · rw [e2]; exact (agB_no (h1 a ha2) hat).symm
      · exact g.hh a ha2 b hb2 hne
  · rcases giveL_mem g.srt hh with rfl | ⟨hh, _⟩
    · exact h2 w hw (fun e => hne e.symm) hm
    · exact g.wh w hw h hh hne hm
/-- What is so where a wish is laid. -/
theorem askL_more (t : Td) (m : Int) (has waits : List Wn) (hl : (askL t m has waits).laid = true) :
    (∀ w ∈ waits, w.t ≠ t) ∧ ∃ p ≤ waits.length, ((waits.drop p).any (bad1 ⟨t.num, t.node, m⟩) = false ∧ (has ++ waits.take p).any (bad2 ⟨t.num, t.node, m⟩) = false) ∧
    (((has ++ waits.take p).any (agB ⟨t.num, t.node, m⟩) = false ∧ (askL t m has waits).has = giveL ⟨t.num, t.node, m⟩ has ∧ (askL t m has waits).waits = waits) ∨
    ((askL t m has waits).has = has ∧ (askL t m has waits).waits = waits.take p ++ ⟨t.num, t.node, m⟩ :: waits.drop p)) := by
  unfold askL at hl ⊢
  split at hl
  · cases hl
  · rename_i h1
    rw [if_neg h1]
    split at hl
    · cases hl
    · rename_i h2
      rw [if_neg h2]
      refine ⟨fun w hw e => h2 (List.any_eq_true.2 ⟨w, hw, eqT_iff.2 e⟩), placeN (modeT t has) has waits, placeN_le _ _ _, ?_⟩
      unfold wantL at hl ⊢
      split at hl
      · cases hl
      · rename_i h3
        rw [if_neg h3]
        have h5 := judgeN_123 has waits ⟨t.num, t.node, m⟩ (placeN (modeT t has) has waits)
        have hb : (waits.drop (placeN (modeT t has) has waits)).any (bad1 ⟨t.num, t.node, m⟩) = false ∧ (has ++ waits.take (placeN (modeT t has) has waits)).any (bad2 ⟨t.num, t.node, m⟩) = false := by
          unfold judgeN at h3
          split at h3
          · exact absurd rfl h3
          · rename_i a1
            split at h3
            · exact absurd rfl h3
            · rename_i a2
              exact ⟨by simpa using a1, by simpa using a2⟩
        refine ⟨hb, ?_⟩
        split at hl
        · rename_i h4
          rw [if_pos h4]
          refine .inl ⟨?_, rfl, rfl⟩
          unfold judgeN at h4
          rw [if_neg (by rw [hb.1]; decide), if_neg (by rw [hb.2]; decide)] at h4
          unfold ansN at h4
          split at h4
          · cases h4
          · rename_i a; simpa using a
        · rename_i h4
          rw [if_neg h4]
          exact .inr ⟨rfl, rfl⟩
theorem Good.ask {t : Td} {m : Int} {has waits : List Wn} (g : Good has waits) (hl : (askL t m has waits).laid = true) : Good (askL t m has waits).has (askL t m has waits).waits := by
  obtain ⟨hnt, p, hp, ⟨hb1, hb2⟩, hc⟩ := askL_more t m has waits hl
  obtain ⟨x, hx⟩ : ∃ x : Wn, x = ⟨t.num, t.node, m⟩ := ⟨_, rfl⟩
  have hxt : x.t = t := by rw [hx]; rfl
  rw [← hx] at hb1 hb2 hc
  have hd : ∀ w ∈ waits.drop p, (x.mode = 2 ∨ w.mode = 2) → eldT w.t x.t = true := fun w hw hm => by
    have h1 := List.any_eq_false.1 hb1 w hw
    have hne : w.t ≠ x.t := by rw [hxt]; exact hnt w (List.mem_of_mem_drop hw)
    unfold bad1 at h1
    rw [agB_yes hne hm] at h1
    simpa using h1
  have ht : ∀ o ∈ has ++ waits.take p, o.t ≠ x.t → (x.mode = 2 ∨ o.mode = 2) → eldT x.t o.t = true := fun o ho hne hm => by
    have h1 := List.any_eq_false.1 hb2 o ho
    unfold bad2 at h1
    rw [agB_yes hne hm] at h1
    simpa using h1
  rcases hc with ⟨ha, e1, e2⟩ | ⟨e1, e2⟩
  · rw [e1, e2]
    refine g.give (fun o ho => by simpa using List.any_eq_false.1 ha o (List.mem_append.2 (.inl ho))) fun w hw hne hm => ?_
    rw [← List.take_append_drop p waits] at hw
    rcases List.mem_append.1 hw with h | h
    · have h1 : agB x w = false := by simpa using List.any_eq_false.1 ha w (List.mem_append.2 (.inr h))
      have h2 := agB_no h1 hne
      rcases hm with hm | hm
      · exact absurd hm h2.1
      · exact absurd hm h2.2
    · exact hd w h hm
  · rw [e1, e2]
    have hsp : ∀ R : Wn → Wn → Prop, waits.Pairwise R → (waits.take p).Pairwise R ∧ (waits.drop p).Pairwise R ∧ ∀ a ∈ waits.take p, ∀ b ∈ waits.drop p, R a b := fun R h => by
      rw [← List.take_append_drop p waits] at h
      exact List.pairwise_append.1 h
    refine ⟨g.srt, g.hh, fun w hw h hh hne hm => ?_, ?_, ?_⟩
    · rcases List.mem_append.1 hw with h1 | h1
      · exact g.wh w (List.mem_of_mem_take h1) h hh hne hm
      · rcases List.mem_cons.1 h1 with rfl | h1
        · exact ht h (List.mem_append.2 (.inl hh)) hne hm.symm
        · exact g.wh w (List.mem_of_mem_drop h1) h hh hne hm
    · obtain ⟨a1, a2, a3⟩ := hsp _ g.ww
      refine List.pairwise_append.2 ⟨a1, List.pairwise_cons.2 ⟨fun w hw hm => hd w hw hm, a2⟩, fun a ha b hb => ?_⟩
      rcases List.mem_cons.1 hb with rfl | hb
      · exact fun hm => ht a (List.mem_append.2 (.inr ha)) (by rw [hxt]; exact hnt a (List.mem_of_mem_take ha)) hm.symm
      · exact a3 a ha b hb
    · obtain ⟨a1, a2, a3⟩ := hsp _ g.wd
      refine List.pairwise_append.2 ⟨a1, List.pairwise_cons.2 ⟨fun w hw e => hnt w (List.mem_of_mem_drop hw) (by rw [← e, hxt]), a2⟩, fun a ha b hb => ?_⟩
      rcases List.mem_cons.1 hb with rfl | hb
      · rw [hxt]; exact hnt a (List.mem_of_mem_take ha)
      · exact a3 a ha b hb
theorem Good.leave {has waits : List Wn} (g : Good has waits) (t : Td) : Good (leaveL t has) (leaveL t waits) :=
  ⟨leave_srt g.srt, fun a ha b hb => g.hh a (mem_leave.1 ha).1 b (mem_leave.1 hb).1, fun w hw h hh => g.wh w (mem_leave.1 hw).1 h (mem_leave.1 hh).1, List.Pairwise.filter _ g.ww, List.Pairwise.filter _ g.wd⟩
theorem Good.serve : ∀ (ls has : List Wn), Good has ls → Good (serveN has ls).1 (ls.drop (serveN has ls).2)
  | [], has, g => by simpa [serveN] using g
  | x :: r, has, g => by
    unfold serveN
    split
    · simpa using g
    · rename_i hb
      simp only [List.drop_succ_cons]
      have h1 := List.pairwise_cons.1 g.ww
      have h2 := List.pairwise_cons.1 g.wd
      have g2 : Good has r := ⟨g.srt, g.hh, fun w hw => g.wh w (List.mem_cons_of_mem _ hw), h1.2, h2.2⟩
      refine Good.serve r (giveL x has) (g2.give (fun o ho => ?_) fun w hw _ hm => h1.1 w hw hm)
      have := List.any_eq_false.1 (Bool.not_eq_true _ ▸ hb) o ho
      simpa using this
theorem Good.free {has waits : List Wn} (g : Good has waits) (t : Td) : Good (freeH t has waits) (freeW t has waits) := Good.serve _ _ (g.leave t)
/-- So it is with a whole table. -/
def GoodS (S : Say) : Prop := ∀ k, Good (S.has k) (S.waits k)
theorem GoodS.zero : GoodS say0 := fun k => Good.nil
theorem GoodS.askM {S : Say} (g : GoodS S) (t : Td) (m : Int) (k : ByteArray) : GoodS (S.askM t m k) := fun q => by
  unfold Say.askM
  split
  · show Good (if q = k then (askL t m (S.has k) (S.waits k)).has else S.has q) (if q = k then (askL t m (S.has k) (S.waits k)).waits else S.waits q)
    split
    · cases hl : (askL t m (S.has k) (S.waits k)).laid with
      | true => exact (g k).ask hl
      | false =>
        obtain ⟨e1, e2⟩ := askL_still hl
        rw [e1, e2]
        exact g k
    · exact g q
  · exact g q
theorem GoodS.free {S : Say} (g : GoodS S) (t : Td) : GoodS (S.free t) := fun q => by
  show Good (if inT t (S.has q) (S.waits q) then freeH t (S.has q) (S.waits q) else S.has q) (if inT t (S.has q) (S.waits q) then freeW t (S.has q) (S.waits q) else S.waits q)
  split
  · exact (g q).free t
  · exact g q
/-- Something is laid under keys of L alone. -/
def InL (S : Say) (L : List ByteArray) : Prop := ∀ k, (S.has k ≠ [] ∨ S.waits k ≠ []) → k ∈ L
theorem InL.zero (L : List ByteArray) : InL say0 L := fun k h => by rcases h with h | h <;> exact absurd rfl h
theorem InL.more {S : Say} {L L' : List ByteArray} (h : InL S L) (hs : ∀ q ∈ L, q ∈ L') : InL S L' := fun k hk => hs k (h k hk)
theorem InL.askM {S : Say} {L : List ByteArray} (h : InL S L) (t : Td) (m : Int) {k : ByteArray} (hk : k ∈ L) : InL (S.askM t m k) L := fun q hq => by
  unfold Say.askM at hq
  split at hq
  · have hq2 : (if q = k then (askL t m (S.has k) (S.waits k)).has else S.has q) ≠ [] ∨ (if q = k then (askL t m (S.has k) (S.waits k)).waits else S.waits q) ≠ [] := hq
    by_cases e : q = k
    · rw [e]; exact hk
    · rw [if_neg e, if_neg e] at hq2
      exact h q hq2
  · exact h q hq
theorem InL.at_ {S : Say} {L : List ByteArray} (h : InL S L) {t : Td} {q : ByteArray} (hq : inT t (S.has q) (S.waits q) = true) : q ∈ L := by
  obtain ⟨x, hx, _⟩ := inT_iff.1 hq
  refine h q ?_
  rcases hx with hx | hx
  · exact .inl (fun e => by rw [e] at hx; cases hx)
  · exact .inr (fun e => by rw [e] at hx; cases hx)
theorem InL.free {S : Say} {L : List ByteArray} (h : InL S L) (t : Td) : InL (S.free t) L := fun q hq => by
  have hq2 : (if inT t (S.has q) (S.waits q) then freeH t (S.has q) (S.waits q) else S.has q) ≠ [] ∨ (if inT t (S.has q) (S.waits q) then freeW t (S.has q) (S.waits q) else S.waits q) ≠ [] := hq
  by_cases hb : inT t (S.has q) (S.waits q) = true
  · exact h.at_ hb
  · rw [if_neg hb, if_neg hb] at hq2
    exact h q hq2
end Go.Proofs.Ytkgecljoodofeaa
