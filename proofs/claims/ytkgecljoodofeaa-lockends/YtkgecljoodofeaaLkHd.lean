/- lock: who waits first waits for somebody; whose wishes lie in a table, plainly. Own lemmas, no statement. -/
import Derived.Test.YtkgecljoodofeaaLkLS
set_option linter.unusedSimpArgs false
set_option linter.unusedVariables false
namespace Go.Proofs.Ytkgecljoodofeaa
open Go.ChangeShapes Go.WideShapes Go.ChangeAt Go.RowKit

def Modes (has : List Wn) : Prop := ∀ x ∈ has, x.mode = 1 ∨ x.mode = 2
/-- Who waits first waits for somebody. -/
def Hd (has waits : List Wn) : Prop := ∀ x r, waits = x :: r → has.any (agB x) = true
theorem mode_self2 {x : Wn} {ls : List Wn} (hs : Srt ls) (hx : x ∈ ls) : modeT x.t ls = x.mode := by
  obtain ⟨i, hi, rfl⟩ := List.getElem_of_mem hx
  have hp := posT_mem hs hi rfl
  have hh : hasT ls[i].t ls = true := (hasT_mem hs).2 ⟨_, List.getElem_mem _, rfl⟩
  rw [modeT_at (hasT_lt hh) hh]
  congr 1
  exact getElem_congr rfl hp (hasT_lt hh)
theorem Hd.ask {t : Td} {m : Int} {has waits : List Wn} (h : Hd has waits) (hs : Srt has) (hm : m = 1 ∨ m = 2) (hmo : Modes has) (hl : (askL t m has waits).laid = true) : Hd (askL t m has waits).has (askL t m has waits).waits := by
  have hmode : ¬ (modeT t has = m ∨ modeT t has = 2) := fun e => by
    unfold askL at hl
    rw [if_pos e] at hl
    cases hl
  rcases askL_parts t m has waits hl with ⟨_, e1, e2⟩ | ⟨_, e1, p, hp, e2, ha⟩
  · rw [e1, e2]
    intro y r hy
    obtain ⟨o, ho, hag⟩ := List.any_eq_true.1 (h y r hy)
    by_cases hot : o.t = t
    · refine List.any_eq_true.2 ⟨⟨t.num, t.node, m⟩, self_giveL _ _, ?_⟩
      have h1 := mode_self2 hs ho
      rw [hot] at h1
      have h2 : m = 2 := by
        rcases hmo o ho with h3 | h3
        · rcases hm with h4 | h4
          · exact absurd (.inl (by rw [h1, h3, h4])) hmode
          · exact h4
        · exact absurd (.inr (by rw [h1, h3])) hmode
      have hne : o.t ≠ y.t := fun e => by
        unfold agB at hag
        rw [e, eqT_self] at hag
        cases hag
      refine agB_yes (o := ⟨t.num, t.node, m⟩) ?_ (.inr h2)
      rw [hot] at hne
      exact hne
    · exact List.any_eq_true.2 ⟨o, old_giveL ho hot, hag⟩
  · rw [e1, e2]
    intro y r hy
    cases p with
    | zero =>
      simp only [List.take_zero, List.nil_append, List.append_nil] at hy ha
      injection hy with hy1 hy2
      rw [← hy1]
      exact ha
    | succ p =>
      cases waits with
      | nil => simp at hp
      | cons z s =>
        simp only [List.take_succ_cons, List.cons_append] at hy
        injection hy with hy1 hy2
        rw [← hy1]
        exact h z s rfl
theorem Hd.serve : ∀ (ls has : List Wn), Hd (serveN has ls).1 (ls.drop (serveN has ls).2)
  | [], has => fun x r h => by simp [serveN] at h
  | y :: s, has => by
    unfold serveN
    split
    · rename_i hb
      intro x r h
      simp only [List.drop_zero] at h
      injection h with h1 h2
      rw [← h1]
      exact hb
    · simp only [List.drop_succ_cons]
      exact Hd.serve s (giveL y has)
theorem Hd.free (t : Td) (has waits : List Wn) : Hd (freeH t has waits) (freeW t has waits) := Hd.serve _ _
def HdS (S : Say) : Prop := ∀ k, Hd (S.has k) (S.waits k)
theorem HdS.zero : HdS say0 := fun k x r h => by cases h
theorem HdS.askM {S : Say} (h : HdS S) (g : GoodS S) (hmo : ∀ k, Modes (S.has k)) (t : Td) (m : Int) (k : ByteArray) : HdS (S.askM t m k) := fun q => by
  unfold Say.askM
  split
  · rename_i hm
    show Hd (if q = k then (askL t m (S.has k) (S.waits k)).has else S.has q) (if q = k then (askL t m (S.has k) (S.waits k)).waits else S.waits q)
    split
    · cases hl : (askL t m (S.has k) (S.waits k)).laid with
      | true => exact (h k).ask (g k).srt hm (hmo k) hl
      | false =>
        obtain ⟨e1, e2⟩ := askL_still hl
        rw [e1, e2]
        exact h k
    · exact h q
  · exact h q
theorem HdS.free {S : Say} (h : HdS S) (t : Td) : HdS (S.free t) := fun q => by
  show Hd (if inT t (S.has q) (S.waits q) then freeH t (S.has q) (S.waits q) else S.has q) (if inT t (S.has q) (S.waits q) then freeW t (S.has q) (S.waits q) else S.waits q)
  split
  · exact Hd.free t _ _
  · exact h q
theorem TT.modes {B : Nat} {w : World} {g n : Nat} {S : Say} {T : Tab} (h : TT B w g n S T) (k : ByteArray) : Modes (S.has k) := fun x hx => h.inv.modes k x (.inl (by rw [← h.has k]; exact hx))
/-- Whose wishes lie in a table. -/
def Tids (S : Say) (P : Td → Prop) : Prop := ∀ k x, (x ∈ S.has k ∨ x ∈ S.waits k) → P x.t
theorem Tids.zero (P : Td → Prop) : Tids say0 P := fun k x h => by rcases h with h | h <;> cases h
theorem Tids.mono {S : Say} {P Q : Td → Prop} (h : Tids S P) (hq : ∀ u, P u → Q u) : Tids S Q := fun k x hx => hq _ (h k x hx)
theorem Tids.askM {S : Say} {P : Td → Prop} (h : Tids S P) {t : Td} (ht : P t) (m : Int) (k : ByteArray) : Tids (S.askM t m k) P := fun q x hx => by
  unfold Say.askM at hx
  split at hx
  · have hx2 : x ∈ (if q = k then (askL t m (S.has k) (S.waits k)).has else S.has q) ∨ x ∈ (if q = k then (askL t m (S.has k) (S.waits k)).waits else S.waits q) := hx
    by_cases e : q = k
    · rw [if_pos e, if_pos e] at hx2
      cases hl : (askL t m (S.has k) (S.waits k)).laid with
      | false =>
        obtain ⟨e1, e2⟩ := askL_still hl
        rw [e1, e2] at hx2
        exact h k x hx2
      | true =>
        rcases askL_parts t m _ _ hl with ⟨_, e1, e2⟩ | ⟨_, e1, p, hp, e2, _⟩
        · rw [e1, e2] at hx2
          rcases hx2 with h1 | h1
          · rcases mem_giveL h1 with rfl | h2
            · exact ht
            · exact h k x (.inl h2)
          · exact h k x (.inr h1)
        · rw [e1, e2] at hx2
          rcases hx2 with h1 | h1
          · exact h k x (.inl h1)
          · rcases List.mem_append.1 h1 with h2 | h2
            · exact h k x (.inr (List.mem_of_mem_take h2))
            · rcases List.mem_cons.1 h2 with rfl | h2
              · exact ht
              · exact h k x (.inr (List.mem_of_mem_drop h2))
    · rw [if_neg e, if_neg e] at hx2
      exact h q x hx2
  · exact h q x hx
theorem Tids.free {S : Say} {P : Td → Prop} (h : Tids S P) (t : Td) : Tids (S.free t) (fun u => P u ∧ u ≠ t) := fun q x hx => by
  have hx2 : x ∈ (if inT t (S.has q) (S.waits q) then freeH t (S.has q) (S.waits q) else S.has q) ∨ x ∈ (if inT t (S.has q) (S.waits q) then freeW t (S.has q) (S.waits q) else S.waits q) := hx
  by_cases hb : inT t (S.has q) (S.waits q) = true
  · rw [if_pos hb, if_pos hb] at hx2
    exact ⟨h q x (free_mem hx2), ((free_ts x.t).1 ⟨x, hx2, rfl⟩).1⟩
  · rw [if_neg hb, if_neg hb] at hx2
    exact ⟨h q x hx2, fun e => hb (inT_iff.2 ⟨x, hx2, e⟩)⟩
/-- Where one alone has wishes nobody waits. -/
theorem HdS.alone {S : Say} {u : Td} (h : HdS S) (ht : Tids S (fun t => t = u)) (k : ByteArray) : S.waits k = [] := by
  cases hw : S.waits k with
  | nil => rfl
  | cons x r =>
    obtain ⟨o, ho, hag⟩ := List.any_eq_true.1 (h k x r hw)
    have h1 := ht k o (.inl ho)
    have h2 := ht k x (.inr (by rw [hw]; exact List.mem_cons_self))
    unfold agB at hag
    rw [h1, h2, eqT_self] at hag
    cases hag
end Go.Proofs.Ytkgecljoodofeaa
