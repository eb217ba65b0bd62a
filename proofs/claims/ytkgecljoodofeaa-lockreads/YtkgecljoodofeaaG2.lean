import Derived.Test.YtkgecljoodofeaaLkLS
/- lock: who waits first waits for somebody; whose wishes lie in a table, plainly. Own lemmas, no statement. -/
set_option linter.unusedSimpArgs false
set_option linter.unusedVariables false
namespace Go.Proofs.Ytkgecljoodofeaa
open Go.ChangeShapes Go.WideShapes Go.ChangeAt Go.RowKit

def Modes (has : List Wn) : Prop := ∀ x ∈ has, x.mode = 1 ∨ x.mode = 2
/-- Who waits first waits for somebody. -/
def Hd (has waits : List Wn) : Prop := ∀ x r, waits = x :: r → has.any (agB x) = true
theorem mode_self2 {x : Wn} {ls : List Wn} (hs : Srt ls) (hx : x ∈ ls) : modeT x.t ls = x.mode := by
  obtain ⟨i, hi, rfl⟩ := List.getElem_of_mem hx
  have hp := posT_mem hs hi rfl
  have hh : hasT ls[i].t ls = true := (hasT_mem hs).2 ⟨_, List.getElem_mem _, rfl⟩
  rw [modeT_at (hasT_lt hh) hh]
  congr 1
  exact getElem_congr rfl hp (hasT_lt hh)
theorem Hd.ask {t : Td} {m : Int} {has waits : List Wn} (h : Hd has waits) (hs : Srt has) (hm : m = 1 ∨ m = 2) (hmo : Modes has) (hl : (askL t m has waits).laid = true) : Hd (askL t m has waits).has (askL t m has waits).waits := by
  have hmode : ¬ (modeT t has = m ∨ modeT t has = 2) := fun e => by
    unfold askL at hl
    rw [if_pos e] at hl
    cases hl
  rcases askL_parts t m has waits hl with ⟨_, e1, e2⟩ | ⟨_, e1, p, hp, e2, ha⟩
  · rw [e1, e2]
    intro y r hy
    obtain ⟨o, ho, hag⟩ := List.any_eq_true.1 (h y r hy)
    by_cases hot : o.t = t
    · refine List.any_eq_true.2 ⟨⟨t.num, t.node, m⟩, self_giveL _ _, ?_⟩
      have h1 := mode_self2 hs ho
      rw [hot] at h1
      have h2 : m = 2 := by
        rcases hmo o ho with h3 | h3
        · rcases hm with h4 | h4
          · exact absurd (.inl (by rw [h1, h3, h4])) hmode
          · exact h4
        · exact absurd (.inr (by rw [h1, h3])) hmode
      have hne : o.t ≠ y.t := fun e => by
        unfold agB at hag
        rw [e, eqT_self] at hag
        cases hag
      refine agB_yes (o := ⟨t.num, t.node, m⟩) ?_ (.inr h2)
      rw [hot] at hne
      exact hne
    · exact List.any_eq_true.2 ⟨o, old_giveL ho hot, hag⟩
  · rw [e1, e2]
    intro y r hy
    cases p with
    | zero =>
      simp only [List.take_zero, List.nil_append, List.append_nil] at hy ha
      injection hy with hy1 hy2
      rw [← hy1]
      exact ha
    | succ p =>
      cases waits with
      | nil => simp at hp
      | cons z s =>
        simp only [List.take_succ_cons, List.cons_append] at hy
        injection hy with hy1 hy2
        rw [← hy1]
        exact h z s rfl
theorem Hd.serve : ∀ (ls has : List Wn), Hd (serveN has ls).1 (ls.drop (serveN has ls).2)
  | [], has => fun x r h => by simp [serveN] at h
  | y :: s, has => by
    unfold serveN
    split
    · rename_i hb
      intro x r h
      simp only [List.drop_zero] at h
      injection h with h1 h2
      rw [← h1]
      exact hb
    · simp only [List.drop_succ_cons]
      exact Hd.serve s (giveL y has)
theorem Hd.free (t : Td) (has waits : List Wn) : Hd (freeH t has waits) (freeW t has waits) := Hd.serve _ _
def HdS (S : Say) : Prop := ∀ k, Hd (S.has k) (S.waits k)
theorem HdS.zero : HdS say0 := fun k x r h => by cases h
theorem HdS.askM {S : Say} (h : HdS S) (g : GoodS S) (hmo : ∀ k, Modes (S.has k)) (t : Td) (m : Int) (k : ByteArray) : HdS (S.askM t m k) := fun q => by
  unfold Say.askM
  split
  · rename_i hm
    show Hd (if q = k then (askL t m (S.has k) (S.waits k)).has else S.has q) (if q = k then (askL t m (S.has k) (S.waits k)).waits else S.waits q)
    split
    · cases hl : (askL t m (S.has k) (S.waits k)).laid with
      | true => exact (h k).ask (g k).srt hm (hmo k) hl
      | false =>
        obtain ⟨e1, e2⟩ := askL_still hl
        rw [e1, e2]
        exact h k
    · exact h q
  · exact h q
theorem HdS.free {S : Say} (h : HdS S) (t : Td) : HdS (S.free t) := fun q => by
  show Hd (if inT t (S.has q) (S.waits q) then freeH t (S.has q) (S.waits q) else S.has q) (if inT t (S.has q) (S.waits q) then freeW t (S.has q) (S.waits q) else S.waits q)
  split
  · exact Hd.free t _ _
  · exact h q
theorem TT.modes {B : Nat} {w : World} {g n : Nat} {S : Say} {T : Tab} (h : TT B w g n S T) (k : ByteArray) : Modes (S.has k) := fun x hx => h.inv.modes k x (.inl (by rw [← h.has k]; exact hx))
/-- Whose wishes lie in a table. -/
def Tids (S : Say) (P : Td → Prop) : Prop := ∀ k x, (x ∈ S.has k ∨ x ∈ S.waits k) → P x.t
theorem Tids.zero (P : Td → Prop) : Tids say0 P := fun k x h => by rcases h with h | h <;> cases h
theorem Tids.mono {S : Say} {P Q : Td → Prop} (h : Tids S P) (hq : ∀ u, P u → Q u) : Tids S Q := fun k x hx => hq _ (h k x hx)
theorem Tids.askM {S : Say} {P : Td → Prop} (h : Tids S P) {t : Td} (ht : P t) (m : Int) (k : ByteArray) : Tids (S.askM t m k) P := fun q x hx => by
  unfold Say.askM at hx
  split at hx
  · have hx2 : x ∈ (if q = k then (askL t m (S.has k) (S.waits k)).has else S.has q) ∨ x ∈ (if q = k then (askL t m (S.has k) (S.waits k)).waits else S.waits q) := hx
    by_cases e : q = k
    · rw [if_pos e, if_pos e] at hx2
      cases hl : (askL t m (S.has k) (S.waits k)).laid with
      | false =>
        obtain ⟨e1, e2⟩ := askL_still hl
        rw [e1, e2] at hx2
        exact h k x hx2
      | true =>
        rcases askL_parts t m _ _ hl with ⟨_, e1, e2⟩ | ⟨_, e1, p, hp, e2, _⟩
        · rw [e1, e2] at hx2
          rcases hx2 with h1 | h1
          · rcases mem_giveL h1 with rfl | h2
            · exact ht
            · exact h k x (.inl h2)
          · exact h k x (.inr h1)
        · rw [e1, e2] at hx2
          rcases hx2 with h1 | h1
          · exact h k x (.inl h1)
          · rcases List.mem_append.1 h1 with h2 | h2
            · exact h k x (.inr (List.mem_of_mem_take h2))
            · rcases List.mem_cons.1 h2 with rfl | h2
              · exact ht
              · exact h k x (.inr (List.mem_of_mem_drop h2))
    · rw [if_neg e, if_neg e] at hx2
      exact h q x hx2
  · exact h q x hx
theorem Tids.free {S : Say} {P : Td → Prop} (h : Tids S P) (t : Td) : Tids (S.free t) (fun u => P u ∧ u ≠ t) := fun q x hx => by
  have hx2 : x ∈ (if inT t (S.has q) (S.waits q) then freeH t (S.has q) (S.waits q) else S.has q) ∨ x ∈ (if inT t (S.has q) (S.waits q) then freeW t (S.has q) (S.waits q) else S.waits q) := hx
  by_cases hb : inT t (S.has q) (S.waits q) = true
  · rw [if_pos hb, if_pos hb] at hx2
    exact ⟨h q x (free_mem hx2), ((free_ts x.t).1 ⟨x, hx2, rfl⟩).1⟩
  · rw [if_neg hb, if_neg hb] at hx2
    exact ⟨h q x hx2, fun e => hb (inT_iff.2 ⟨x, hx2, e⟩)⟩
/-- Where one alone has wishes nobody waits. -/
theorem HdS.alone {S : Say} {u : Td} (h : HdS S) (ht : Tids S (fun t => t = u)) (k : ByteArray) : S.waits k = [] := by
  cases hw : S.waits k with
  | nil => rfl
  | cons x r =>
    obtain ⟨o, ho, hag⟩ := List.any_eq_true.1 (h k x r hw)
    have h1 := ht k o (.inl ho)
    have h2 := ht k x (.inr (by rw [hw]; exact List.mem_cons_self))
    unfold agB at hag
    rw [h1, h2, eqT_self] at hag
    cases hag
end Go.Proofs.Ytkgecljoodofeaa
/- lock: Keys of a table that a law holds. Own lemmas, no statement. -/
set_option linter.unusedSimpArgs false
set_option linter.unusedVariables false
namespace Go.Proofs.Ytkgecljoodofeaa
open Go.ChangeShapes Go.WideShapes Go.ChangeAt Go.RowKit

end Go.Proofs.Ytkgecljoodofeaa
/- lock: many who read, one who would write, plainly. Own lemmas, no statement. -/
set_option linter.unusedSimpArgs false
set_option linter.unusedVariables false
namespace Go.Proofs.Ytkgecljoodofeaa
open Go.ChangeShapes Go.WideShapes Go.ChangeAt Go.RowKit

/-- Those of ts read k, ws wait for it; nothing else is locked. -/
structure RS (S : Say) (k : ByteArray) (ts : List Td) (ws : List Wn) : Prop where
  waits : S.waits k = ws
  srt : Srt (S.has k)
  mem : ∀ x ∈ S.has k, x.mode = 1 ∧ x.t ∈ ts
  all : ∀ t ∈ ts, ∃ x ∈ S.has k, x.t = t
  rest : ∀ q, q ≠ k → S.has q = [] ∧ S.waits q = []
theorem RS.zero (k : ByteArray) : RS say0 k [] [] := ⟨rfl, List.Pairwise.nil, (fun x h => by cases h), (fun t h => by cases h), fun q _ => ⟨rfl, rfl⟩⟩
theorem askM_rest (S : Say) (t : Td) (m : Int) {k q : ByteArray} (hq : q ≠ k) : (S.askM t m k).has q = S.has q ∧ (S.askM t m k).waits q = S.waits q := by
  unfold Say.askM
  split
  · unfold Say.ask
    simp [hq]
  · exact ⟨rfl, rfl⟩
section
variable {S : Say} {k : ByteArray} {ts : List Td} {t w : Td}
theorem RS.asked {ws : List Wn} {m : Int} (h : RS S k ts ws) (hm : m = 1 ∨ m = 2) {A : AnsL} (ha : askL t m (S.has k) (S.waits k) = A) {ts' : List Td} {ws' : List Wn} (h1 : A.waits = ws') (h2 : Srt A.has) (h3 : ∀ x ∈ A.has, x.mode = 1 ∧ x.t ∈ ts') (h4 : ∀ u ∈ ts', ∃ x ∈ A.has, x.t = u) : ansM t m S k = A.ans ∧ RS (S.askM t m k) k ts' ws' := by
  have e1 := askM_has S t m k hm
  have e2 := askM_waits S t m k hm
  rw [ha] at e1 e2
  refine ⟨by rw [ansM_is _ _ _ _ hm, ha], ⟨by rw [e2]; exact h1, by rw [e1]; exact h2, by rw [e1]; exact h3, by rw [e1]; exact h4, fun q hq => ?_⟩⟩
  rw [(askM_rest S t m hq).1, (askM_rest S t m hq).2]
  exact h.rest q hq
theorem RS.mode_in {ws : List Wn} (h : RS S k ts ws) (ht : t ∈ ts) : modeT t (S.has k) = 1 := by
  obtain ⟨x, hx, e⟩ := h.all t ht
  rw [← e, mode_self2 h.srt hx]
  exact (h.mem x hx).1
theorem RS.mode_out {ws : List Wn} (h : RS S k ts ws) (ht : t ∉ ts) : modeT t (S.has k) = 0 := by
  refine modeT_no ?_
  cases hb : hasT t (S.has k) with
  | false => rfl
  | true =>
    obtain ⟨y, hy, e⟩ := (hasT_mem h.srt).1 hb
    exact absurd (by rw [← e]; exact (h.mem y hy).2) ht
theorem RS.ask_old (h : RS S k ts []) (ht : t ∈ ts) : ansM t 1 S k = 1 ∧ RS (S.askM t 1 k) k ts [] := by
  have ha : askL t 1 (S.has k) (S.waits k) = ⟨1, S.has k, S.waits k, false⟩ := by
    unfold askL
    rw [if_pos (.inl (h.mode_in ht))]
  exact h.asked (.inl rfl) ha h.waits h.srt h.mem h.all
theorem RS.ask_new (h : RS S k ts []) (ht : t ∉ ts) : ansM t 1 S k = 1 ∧ RS (S.askM t 1 k) k (ts ++ [t]) [] := by
  have hag : ∀ o ∈ S.has k, agB ⟨t.num, t.node, 1⟩ o = false := fun o ho => by
    unfold agB
    rw [(h.mem o ho).1]
    simp
  have ha : askL t 1 (S.has k) (S.waits k) = ⟨1, giveL ⟨t.num, t.node, 1⟩ (S.has k), [], true⟩ := by
    unfold askL
    rw [h.mode_out ht, h.waits, if_neg (by decide), if_neg (by simp)]
    have hj : judgeN (S.has k) [] ⟨t.num, t.node, 1⟩ (placeN 0 (S.has k) []) = 1 := by
      unfold judgeN
      have h2 : ((S.has k) ++ ([] : List Wn).take (placeN 0 (S.has k) [])).any (bad2 ⟨t.num, t.node, 1⟩) = false := List.any_eq_false.2 fun o ho => by
        rw [List.take_nil, List.append_nil] at ho
        unfold bad2
        rw [hag o ho]
        simp
      rw [if_neg (by simp), if_neg (by rw [h2]; decide)]
      unfold ansN
      have h3 : ((S.has k) ++ ([] : List Wn).take (placeN 0 (S.has k) [])).any (agB ⟨t.num, t.node, 1⟩) = false := List.any_eq_false.2 fun o ho => by
        rw [List.take_nil, List.append_nil] at ho
        rw [hag o ho]
        simp
      rw [h3]
      rfl
    unfold wantL
    rw [hj, if_neg (by decide), if_pos rfl]
  refine h.asked (.inl rfl) ha rfl (giveL_srt h.srt) (fun x hx => ?_) fun u hu => ?_
  · rcases mem_giveL hx with rfl | hx
    · exact ⟨rfl, by simp [Wn.t]⟩
    · exact ⟨(h.mem x hx).1, List.mem_append.2 (.inl (h.mem x hx).2)⟩
  · refine (ts_giveL u).2 ?_
    rcases List.mem_append.1 hu with h1 | h1
    · exact .inr (h.all u h1)
    · exact .inl (List.mem_singleton.1 h1)
theorem RS.len {ws : List Wn} (h : RS S k ts ws) (hn : ts.Nodup) : (S.has k).length = ts.length := by
  haveI : DecidableEq Td := fun _ _ => Classical.propDecidable _
  have h1 : ((S.has k).map Wn.t).Nodup := List.pairwise_map.2 (h.srt.imp fun {a b} e => eldT_ne e)
  have h2 := nodup_le ((S.has k).map Wn.t) ts h1 fun u hu => by
    obtain ⟨x, hx, rfl⟩ := List.mem_map.1 hu
    exact (h.mem x hx).2
  have h3 := nodup_le ts ((S.has k).map Wn.t) hn fun u hu => by
    obtain ⟨x, hx, e⟩ := h.all u hu
    exact List.mem_map.2 ⟨x, hx, e⟩
  rw [List.length_map] at h2 h3
  omega
def w2 (w : Td) : Wn := ⟨w.num, w.node, 2⟩
theorem RS.ag (ws : List Wn) (h : RS S k ts ws) (hw : w ∉ ts) : ∀ o ∈ S.has k, agB (w2 w) o = true := fun o ho => agB_yes (x := w2 w) (fun e => hw (by have := (h.mem o ho).2; rw [e] at this; exact this)) (.inl rfl)
theorem RS.askw_is (h : RS S k ts []) (hw : w ∉ ts) : askL w 2 (S.has k) (S.waits k) = wantL w 2 (S.has k) [] 0 := by
  unfold askL
  rw [h.mode_out hw, h.waits, if_neg (by decide), if_neg (by simp)]
  rfl
theorem RS.askw_none (h : RS S k [] []) : ansM w 2 S k = 1 := by
  have h0 : S.has k = [] := by
    cases hh : S.has k with
    | nil => rfl
    | cons x r => have := (h.mem x (by rw [hh]; exact List.mem_cons_self)).2; cases this
  rw [ansM_is _ _ _ _ (.inr rfl), h.askw_is List.not_mem_nil, h0]
  rfl
theorem RS.askw_dies (h : RS S k ts []) (hw : w ∉ ts) {u : Td} (hu : u ∈ ts) (hy : eldT w u = false) : ansM w 2 S k = 3 ∧ RS (S.askM w 2 k) k ts [] := by
  have ha : askL w 2 (S.has k) (S.waits k) = ⟨3, S.has k, [], false⟩ := by
    rw [h.askw_is hw]
    have hj : judgeN (S.has k) [] (w2 w) 0 = 3 := by
      unfold judgeN
      obtain ⟨x, hx, e⟩ := h.all u hu
      have h2 : ((S.has k) ++ ([] : List Wn).take 0).any (bad2 (w2 w)) = true := List.any_eq_true.2 ⟨x, by simp [hx], by
        unfold bad2
        rw [RS.ag [] h hw x hx, e]
        show (true && !eldT w u) = true
        rw [hy]; rfl⟩
      rw [if_neg (by simp), if_pos h2]
    unfold wantL
    rw [show (⟨w.num, w.node, 2⟩ : Wn) = w2 w from rfl, hj, if_pos rfl]
  exact h.asked (.inr rfl) ha rfl h.srt h.mem h.all
theorem RS.askw_waits (h : RS S k ts []) (hw : w ∉ ts) (hne : ts ≠ []) (hy : ∀ u ∈ ts, eldT w u = true) : ansM w 2 S k = 2 ∧ RS (S.askM w 2 k) k ts [w2 w] := by
  have ha : askL w 2 (S.has k) (S.waits k) = ⟨2, S.has k, [w2 w], true⟩ := by
    rw [h.askw_is hw]
    have hj : judgeN (S.has k) [] (w2 w) 0 = 2 := by
      unfold judgeN
      have h2 : ((S.has k) ++ ([] : List Wn).take 0).any (bad2 (w2 w)) = false := List.any_eq_false.2 fun o ho => by
        rw [List.take_nil, List.append_nil] at ho
        unfold bad2
        have h3 : eldT (w2 w).t o.t = true := hy o.t (h.mem o ho).2
        rw [h3]
        simp
      rw [if_neg (by simp), if_neg (by rw [h2]; decide)]
      unfold ansN
      obtain ⟨u, r, hu⟩ : ∃ u r, ts = u :: r := by
        cases ts with
        | nil => exact absurd rfl hne
        | cons u r => exact ⟨u, r, rfl⟩
      obtain ⟨x, hx, _⟩ := h.all u (by rw [hu]; exact List.mem_cons_self)
      rw [if_pos (List.any_eq_true.2 ⟨x, by simp [hx], RS.ag [] h hw x hx⟩)]
    unfold wantL
    rw [show (⟨w.num, w.node, 2⟩ : Wn) = w2 w from rfl, hj, if_neg (by decide), if_neg (by decide)]
    rfl
  exact h.asked (.inr rfl) ha rfl h.srt h.mem h.all
theorem RS.askw_again (h : RS S k ts [w2 w]) (hw : w ∉ ts) : ansM w 2 S k = 2 ∧ RS (S.askM w 2 k) k ts [w2 w] := by
  have ha : askL w 2 (S.has k) (S.waits k) = ⟨2, S.has k, S.waits k, false⟩ := by
    unfold askL
    rw [h.mode_out hw, if_neg (by decide), if_pos]
    rw [h.waits]
    simp only [List.any_cons, List.any_nil, Bool.or_false]
    exact eqT_self w
  exact h.asked (.inr rfl) ha h.waits h.srt h.mem h.all
theorem RS.free_in {r : List Td} (h : RS S k (t :: r) [w2 w]) (q : ByteArray) : inT t (S.has q) (S.waits q) = true ↔ q = k := by
  rw [inT_iff]
  constructor
  · rintro ⟨x, hx, _⟩
    by_cases hq : q = k
    · exact hq
    · rw [(h.rest q hq).1, (h.rest q hq).2] at hx
      rcases hx with hx | hx <;> cases hx
  · rintro rfl
    obtain ⟨x, hx, e⟩ := h.all t List.mem_cons_self
    exact ⟨x, .inl hx, e⟩
theorem RS.leaveW {r : List Td} (h : RS S k (t :: r) [w2 w]) (hw : w ∉ t :: r) : leaveL t (S.waits k) = [w2 w] := by
  rw [h.waits]
  have : eqT (w2 w).t t = false := eqT_ne (fun e => hw (by rw [show w = t from e]; exact List.mem_cons_self))
  simp [leaveL, this]
theorem RS.freed {r : List Td} (h : RS S k (t :: r) [w2 w]) (hw : w ∉ t :: r) (hn : (t :: r).Nodup) (hr : r ≠ []) : freeG t k (S.has k) (S.waits k) = [] ∧ RS (S.free t) k r [w2 w] := by
  have hl := h.leaveW hw
  obtain ⟨u, r', hu⟩ : ∃ u r', r = u :: r' := by
    cases r with
    | nil => exact absurd rfl hr
    | cons u r' => exact ⟨u, r', rfl⟩
  have hnt := List.nodup_cons.1 hn
  obtain ⟨x, hx, hxu⟩ := h.all u (by rw [hu]; simp)
  have hxl : x ∈ leaveL t (S.has k) := mem_leave.2 ⟨hx, fun e => hnt.1 (by rw [← e, hxu, hu]; exact List.mem_cons_self)⟩
  have hs : serveN (leaveL t (S.has k)) [w2 w] = (leaveL t (S.has k), 0) := by
    show (if (leaveL t (S.has k)).any (agB (w2 w)) then _ else _) = _
    rw [if_pos (List.any_eq_true.2 ⟨x, hxl, RS.ag _ h hw x hx⟩)]
  have hi := (h.free_in k).2 rfl
  refine ⟨by unfold freeG freeM; rw [hl, hs]; rfl, ?_⟩
  have e1 : (S.free t).has k = leaveL t (S.has k) := by
    show (if inT t (S.has k) (S.waits k) then freeH t (S.has k) (S.waits k) else S.has k) = _
    rw [if_pos hi]
    unfold freeH
    rw [hl, hs]
  have e2 : (S.free t).waits k = [w2 w] := by
    show (if inT t (S.has k) (S.waits k) then freeW t (S.has k) (S.waits k) else S.waits k) = _
    rw [if_pos hi]
    unfold freeW freeM
    rw [hl, hs]
    rfl
  refine ⟨e2, by rw [e1]; exact leave_srt h.srt, fun y hy => ?_, fun v hv => ?_, fun q hq => ?_⟩
  · rw [e1] at hy
    obtain ⟨h1, h2⟩ := mem_leave.1 hy
    have h3 := h.mem y h1
    refine ⟨h3.1, ?_⟩
    rcases List.mem_cons.1 h3.2 with h4 | h4
    · exact absurd h4 h2
    · exact h4
  · obtain ⟨y, hy, e⟩ := h.all v (List.mem_cons_of_mem _ hv)
    rw [e1]
    exact ⟨y, mem_leave.2 ⟨hy, fun e3 => hnt.1 (by rw [← e3, e]; exact hv)⟩, e⟩
  · have h1 := h.rest q hq
    have hb : ¬ inT t (S.has q) (S.waits q) = true := fun e => hq ((h.free_in q).1 e)
    show (if inT t (S.has q) (S.waits q) then _ else S.has q) = [] ∧ (if inT t (S.has q) (S.waits q) then _ else S.waits q) = []
    rw [if_neg hb, if_neg hb]
    exact h1
theorem RS.freed_last (h : RS S k [t] [w2 w]) (hw : w ∉ [t]) : freeG t k (S.has k) (S.waits k) = [⟨w.num, w.node, k, 2⟩] ∧ (S.free t).has k = [w2 w] := by
  have hl := h.leaveW hw
  have h0 : leaveL t (S.has k) = [] := by
    cases hh : leaveL t (S.has k) with
    | nil => rfl
    | cons x r =>
      obtain ⟨h1, h2⟩ := mem_leave.1 (show x ∈ leaveL t (S.has k) by rw [hh]; exact List.mem_cons_self)
      have h3 := (h.mem x h1).2
      exact absurd (List.mem_singleton.1 h3) h2
  have hs : serveN (leaveL t (S.has k)) [w2 w] = ([w2 w], 1) := by rw [h0]; rfl
  have hi := (h.free_in k).2 rfl
  refine ⟨by unfold freeG freeM; rw [hl, hs]; rfl, ?_⟩
  show (if inT t (S.has k) (S.waits k) then freeH t (S.has k) (S.waits k) else S.has k) = _
  rw [if_pos hi]
  unfold freeH
  rw [hl, hs]
end
end Go.Proofs.Ytkgecljoodofeaa
