/- lock: what Free turns, plainly. Own lemmas, no statement. -/
import Derived.Test.YtkgecljoodofeaaLkS
import Derived.Test.YtkgecljoodofeaaLkY
import Derived.Test.YtkgecljoodofeaaLkZ
import Derived.Test.YtkgecljoodofeaaLkV
import Derived.Test.YtkgecljoodofeaaLkKs
set_option linter.unusedSimpArgs false
set_option linter.unusedVariables false
namespace Go.Proofs.Ytkgecljoodofeaa
open Go.ChangeShapes Go.WideShapes Go.ChangeAt Go.RowKit

theorem mem_leave {t : Td} {ls : List Wn} {x : Wn} : x ∈ leaveL t ls ↔ x ∈ ls ∧ x.t ≠ t := by
  unfold leaveL
  rw [List.mem_filter]
  constructor
  · rintro ⟨h, e⟩
    exact ⟨h, fun he => by rw [he, eqT_self] at e; cases e⟩
  · rintro ⟨h, e⟩
    exact ⟨h, by rw [eqT_ne e]; rfl⟩
theorem leave_srt {t : Td} {ls : List Wn} (h : Srt ls) : Srt (leaveL t ls) := List.Pairwise.filter _ h
theorem leave_len (t : Td) (ls : List Wn) : (leaveL t ls).length ≤ ls.length := List.length_filter_le _ _
theorem serve_len : ∀ (ls has : List Wn), (serveN has ls).1.length ≤ has.length + (serveN has ls).2
  | [], has => Nat.le_refl _
  | x :: r, has => by
    have ih := serve_len r (giveL x has)
    have := @giveL_len x has
    unfold serveN
    split
    · exact Nat.le_refl _
    · simp only; omega
theorem mem_serve : ∀ (ls has : List Wn) (x : Wn), x ∈ (serveN has ls).1 → x ∈ has ∨ x ∈ ls.take (serveN has ls).2
  | [], has, x, h => .inl h
  | y :: r, has, x, h => by
    unfold serveN at h ⊢
    split at h
    · rename_i hb; rw [if_pos hb]; exact .inl h
    · rename_i hb
      rw [if_neg hb]
      simp only [List.take_succ_cons]
      rcases mem_serve r (giveL y has) x h with h1 | h1
      · rcases mem_giveL h1 with rfl | h2
        · exact .inr List.mem_cons_self
        · exact .inl h2
      · exact .inr (List.mem_cons_of_mem _ h1)
theorem ts_serve : ∀ (ls has : List Wn) (u : Td), (∃ y ∈ (serveN has ls).1, y.t = u) ↔ (∃ y ∈ has, y.t = u) ∨ ∃ y ∈ ls.take (serveN has ls).2, y.t = u
  | [], has, u => by simp [serveN]
  | y :: r, has, u => by
    unfold serveN
    split
    · simp
    · simp only [List.take_succ_cons]
      rw [ts_serve r (giveL y has) u, ts_giveL]
      simp only [List.mem_cons]
      constructor
      · rintro ((rfl | h) | ⟨z, hz, e⟩)
        · exact .inr ⟨y, .inl rfl, rfl⟩
        · exact .inl h
        · exact .inr ⟨z, .inr hz, e⟩
      · rintro (h | ⟨z, rfl | hz, e⟩)
        · exact .inl (.inr h)
        · exact .inl (.inl e.symm)
        · exact .inr ⟨z, hz, e⟩
theorem serve_ne : ∀ (ls has : List Wn), has ≠ [] → (serveN has ls).1 ≠ []
  | [], has, h => h
  | x :: r, has, h => by
    unfold serveN
    split
    · exact h
    · exact serve_ne r _ (fun e => by have := self_giveL x has; rw [e] at this; cases this)
theorem serve_nil {ls has : List Wn} (h : (serveN has ls).1 = []) : ls = [] ∧ has = [] := by
  cases ls with
  | nil => exact ⟨rfl, h⟩
  | cons x r =>
    unfold serveN at h
    split at h
    · rename_i hb
      simp only at h
      rw [h] at hb
      simp at hb
    · exact absurd h (serve_ne r _ (fun e => by have := self_giveL x has; rw [e] at this; cases this))
/-- A line behind a Free. -/
def freeH (t : Td) (has waits : List Wn) : List Wn := (serveN (leaveL t has) (leaveL t waits)).1
def freeM (t : Td) (has waits : List Wn) : Nat := (serveN (leaveL t has) (leaveL t waits)).2
def freeW (t : Td) (has waits : List Wn) : List Wn := (leaveL t waits).drop (freeM t has waits)
def toG (k : ByteArray) (x : Wn) : Gr := ⟨x.num, x.node, k, x.mode⟩
def freeG (t : Td) (k : ByteArray) (has waits : List Wn) : List Gr := ((leaveL t waits).take (freeM t has waits)).map (toG k)
def inT (t : Td) (has waits : List Wn) : Bool := (has ++ waits).any fun x => eqT x.t t
theorem inT_iff {t : Td} {has waits : List Wn} : inT t has waits = true ↔ ∃ x, (x ∈ has ∨ x ∈ waits) ∧ x.t = t := by
  unfold inT
  rw [List.any_eq_true]
  constructor
  · rintro ⟨x, hx, e⟩
    exact ⟨x, List.mem_append.1 hx, eqT_iff.1 e⟩
  · rintro ⟨x, hx, e⟩
    exact ⟨x, List.mem_append.2 hx, eqT_iff.2 e⟩
theorem free_len (t : Td) (has waits : List Wn) : (freeH t has waits).length + (freeW t has waits).length ≤ has.length + waits.length := by
  have h1 := serve_len (leaveL t waits) (leaveL t has)
  have h2 := serveN_le (leaveL t waits) (leaveL t has)
  have h3 := leave_len t has
  have h4 := leave_len t waits
  unfold freeH freeW freeM
  rw [List.length_drop]
  omega
theorem free_mem {t : Td} {has waits : List Wn} {x : Wn} (h : x ∈ freeH t has waits ∨ x ∈ freeW t has waits) : x ∈ has ∨ x ∈ waits := by
  rcases h with h | h
  · rcases mem_serve _ _ _ h with h | h
    · exact .inl (mem_leave.1 h).1
    · exact .inr (mem_leave.1 (List.mem_of_mem_take h)).1
  · exact .inr (mem_leave.1 (List.mem_of_mem_drop h)).1
theorem free_ts {t : Td} {has waits : List Wn} (u : Td) : (∃ x, (x ∈ freeH t has waits ∨ x ∈ freeW t has waits) ∧ x.t = u) ↔ u ≠ t ∧ ∃ x, (x ∈ has ∨ x ∈ waits) ∧ x.t = u := by
  constructor
  · rintro ⟨x, hx, rfl⟩
    refine ⟨?_, x, free_mem hx, rfl⟩
    rcases hx with h | h
    · rcases mem_serve _ _ _ h with h | h
      · exact (mem_leave.1 h).2
      · exact (mem_leave.1 (List.mem_of_mem_take h)).2
    · exact (mem_leave.1 (List.mem_of_mem_drop h)).2
  · rintro ⟨hne, x, hx, rfl⟩
    rcases hx with h | h
    · obtain ⟨y, hy, e⟩ := (ts_serve (leaveL t waits) (leaveL t has) x.t).2 (.inl ⟨x, mem_leave.2 ⟨h, hne⟩, rfl⟩)
      exact ⟨y, .inl hy, e⟩
    · have h1 : x ∈ leaveL t waits := mem_leave.2 ⟨h, hne⟩
      rw [← List.take_append_drop (freeM t has waits) (leaveL t waits)] at h1
      rcases List.mem_append.1 h1 with h2 | h2
      · obtain ⟨y, hy, e⟩ := (ts_serve (leaveL t waits) (leaveL t has) x.t).2 (.inr ⟨x, h2, rfl⟩)
        exact ⟨y, .inl hy, e⟩
      · exact ⟨x, .inr h2, rfl⟩
theorem free_nil {t : Td} {has waits : List Wn} (h : freeH t has waits = []) : freeW t has waits = [] := by
  unfold freeW
  rw [(serve_nil h).1]
  simp

/-- A table where a line is laid, or dropped, of one who asked; where one who asked is dropped. -/
def Tab.put (T : Tab) (k : ByteArray) (l : LnV) : Tab := ⟨T.g, T.mb, T.ab, putF cLn T.F k l, T.A, T.K, T.N + 1⟩
def Tab.cut (T : Tab) (k : ByteArray) : Tab := ⟨T.g, T.mb, T.ab, delF cLn T.F k, T.A, T.K, T.N + 1⟩
def Tab.off (T : Tab) (t : Td) : Tab := ⟨T.g, T.mb, T.ab, T.F, delF cAs T.A t, fun u => if eqT u t then fun _ => none else T.K u, T.N⟩
theorem Tab.put_ln (T : Tab) (k : ByteArray) (l : LnV) (q : ByteArray) : (T.put k l).ln q = if q = k then l else T.ln q := by
  show ((putF cLn T.F k l) q).getD ln0 = _
  by_cases h : q = k
  · rw [h, putF_same cLn_ok, if_pos rfl]; rfl
  · rw [putF_other cLn_ok _ _ h, if_neg h]; rfl
theorem Tab.cut_ln (T : Tab) (k : ByteArray) (q : ByteArray) : (T.cut k).ln q = if q = k then ln0 else T.ln q := by
  show ((delF cLn T.F k) q).getD ln0 = _
  by_cases h : q = k
  · rw [h, delF_same cLn_ok, if_pos rfl]; rfl
  · rw [delF_other cLn_ok _ h, if_neg h]; rfl
/-- The table T' where j keys of ks have been freed; os was given. -/
structure FreeR (T : Tab) (t : Td) (ks : List ByteArray) (j : Nat) (T' : Tab) (os : List Gr) : Prop where
  g : T'.g = T.g
  mb : T'.mb = T.mb
  ab : T'.ab = T.ab
  A : T'.A = T.A
  K : T'.K = T.K
  n : T'.N = T.N + j
  out : ∀ q, q ∉ ks.take j → T'.F q = T.F q
  fr : ∀ q, q ∈ ks.take j → (T'.ln q).has = freeH t (T.ln q).has (T.ln q).waits ∧ (T'.ln q).waits = freeW t (T.ln q).has (T.ln q).waits
  ne : ∀ q, q ∈ ks.take j → ∀ l, T'.F q = some l → l.has ≠ []
  os : os = (ks.take j).flatMap fun q => freeG t q (T.ln q).has (T.ln q).waits
theorem FreeR.start (T : Tab) (t : Td) (ks : List ByteArray) : FreeR T t ks 0 T [] :=
  ⟨rfl, rfl, rfl, rfl, rfl, rfl, fun _ _ => rfl, (fun q h => absurd h (by rw [List.take_zero]; exact List.not_mem_nil)), (fun q h => absurd h (by rw [List.take_zero]; exact List.not_mem_nil)), rfl⟩
section
variable {T T' : Tab} {t : Td} {ks : List ByteArray} {j : Nat} {os : List Gr}
theorem keys_nodup (h : ks.Pairwise fun a b => ltK a b = true) : ks.Nodup := h.imp fun {a b} hab e => by subst e; rw [ltK_irrefl] at hab; cases hab
theorem keys_new (h : ks.Pairwise fun a b => ltK a b = true) (hj : j < ks.length) : ks[j] ∉ ks.take j := fun hm => by
  have hnd := keys_nodup h
  rw [← List.take_append_drop j ks, List.drop_eq_getElem_cons hj] at hnd
  exact (List.nodup_append.1 hnd).2.2 _ hm _ List.mem_cons_self rfl
theorem FreeR.same (h : FreeR T t ks j T' os) (hp : ks.Pairwise fun a b => ltK a b = true) (hj : j < ks.length) : T'.ln ks[j] = T.ln ks[j] := by
  unfold Tab.ln
  rw [h.out _ (keys_new hp hj)]
theorem FreeR.put (h : FreeR T t ks j T' os) (hp : ks.Pairwise fun a b => ltK a b = true) (hj : j < ks.length) {l : LnV} (h1 : l.has = freeH t (T.ln ks[j]).has (T.ln ks[j]).waits) (h2 : l.waits = freeW t (T.ln ks[j]).has (T.ln ks[j]).waits) (hne : l.has ≠ []) :
    FreeR T t ks (j + 1) (T'.put ks[j] l) (os ++ freeG t ks[j] (T.ln ks[j]).has (T.ln ks[j]).waits) := by
  have ht : ks.take (j + 1) = ks.take j ++ [ks[j]] := List.take_succ_eq_append_getElem hj
  refine ⟨h.g, h.mb, h.ab, h.A, h.K, ?_, fun q hq => ?_, fun q hq => ?_, fun q hq l' hl => ?_, ?_⟩
  · show T'.N + 1 = _; rw [h.n]; omega
  · rw [ht] at hq
    have hqk : q ≠ ks[j] := fun e => hq (List.mem_append.2 (.inr (by rw [e]; exact List.mem_singleton.2 rfl)))
    exact (putF_other cLn_ok _ _ hqk).trans (h.out q fun e => hq (List.mem_append.2 (.inl e)))
  · rw [Tab.put_ln]
    by_cases hqk : q = ks[j]
    · rw [if_pos hqk, hqk]; exact ⟨h1, h2⟩
    · rw [if_neg hqk]
      rw [ht] at hq
      rcases List.mem_append.1 hq with hq | hq
      · exact h.fr q hq
      · exact absurd (by simpa using hq) hqk
  · have hl2 : putF cLn T'.F ks[j] l q = some l' := hl
    by_cases hqk : q = ks[j]
    · rw [hqk, putF_same cLn_ok] at hl2
      cases hl2
      exact hne
    · rw [putF_other cLn_ok _ _ hqk] at hl2
      rw [ht] at hq
      rcases List.mem_append.1 hq with hq | hq
      · exact h.ne q hq l' hl2
      · exact absurd (by simpa using hq) hqk
  · rw [ht, List.flatMap_append, ← h.os]; simp
theorem FreeR.cut (h : FreeR T t ks j T' os) (hp : ks.Pairwise fun a b => ltK a b = true) (hj : j < ks.length) (h1 : freeH t (T.ln ks[j]).has (T.ln ks[j]).waits = []) :
    FreeR T t ks (j + 1) (T'.cut ks[j]) (os ++ freeG t ks[j] (T.ln ks[j]).has (T.ln ks[j]).waits) := by
  have ht : ks.take (j + 1) = ks.take j ++ [ks[j]] := List.take_succ_eq_append_getElem hj
  refine ⟨h.g, h.mb, h.ab, h.A, h.K, ?_, fun q hq => ?_, fun q hq => ?_, fun q hq l' hl => ?_, ?_⟩
  · show T'.N + 1 = _; rw [h.n]; omega
  · rw [ht] at hq
    have hqk : q ≠ ks[j] := fun e => hq (List.mem_append.2 (.inr (by rw [e]; exact List.mem_singleton.2 rfl)))
    exact (delF_other cLn_ok _ hqk).trans (h.out q fun e => hq (List.mem_append.2 (.inl e)))
  · rw [Tab.cut_ln]
    by_cases hqk : q = ks[j]
    · rw [if_pos hqk, hqk, h1, free_nil h1]; exact ⟨rfl, rfl⟩
    · rw [if_neg hqk]
      rw [ht] at hq
      rcases List.mem_append.1 hq with hq | hq
      · exact h.fr q hq
      · exact absurd (by simpa using hq) hqk
  · have hl2 : delF cLn T'.F ks[j] q = some l' := hl
    by_cases hqk : q = ks[j]
    · rw [hqk, delF_same cLn_ok] at hl2
      cases hl2
    · rw [delF_other cLn_ok _ hqk] at hl2
      rw [ht] at hq
      rcases List.mem_append.1 hq with hq | hq
      · exact h.ne q hq l' hl2
      · exact absurd (by simpa using hq) hqk
  · rw [ht, List.flatMap_append, ← h.os]; simp
/-- Behind all keys: each line, freed where it has the transaction. -/
theorem FreeR.ln (h : FreeR T t ks ks.length T' os) (hi : TInv T) (hk : KeysIn (T.K t) ks) (q : ByteArray) : (T'.ln q).has = (if inT t (T.ln q).has (T.ln q).waits then freeH t (T.ln q).has (T.ln q).waits else (T.ln q).has) ∧ (T'.ln q).waits = (if inT t (T.ln q).has (T.ln q).waits then freeW t (T.ln q).has (T.ln q).waits else (T.ln q).waits) := by
  have hq : q ∈ ks.take ks.length ↔ inT t (T.ln q).has (T.ln q).waits = true := by rw [List.take_length, hk.2 q, hi.asked t q, inT_iff]
  by_cases hb : inT t (T.ln q).has (T.ln q).waits = true
  · rw [if_pos hb, if_pos hb]; exact h.fr q (hq.2 hb)
  · rw [if_neg hb, if_neg hb]
    have := h.out q (fun e => hb (hq.1 e))
    unfold Tab.ln
    rw [this]
    exact ⟨rfl, rfl⟩
theorem FreeR.inv (h : FreeR T t ks ks.length T' os) (hi : TInv T) (hk : KeysIn (T.K t) ks) : TInv (T'.off t) := by
  have hln : ∀ q, (T'.off t).ln q = T'.ln q := fun q => rfl
  refine ⟨fun q => ?_, fun q l hl => ?_, fun q x hx => ?_, fun q => ?_, fun u q => ?_, fun u hu q => ?_⟩
  · rw [hln, (h.ln hi hk q).1]
    split
    · exact serveN_srt _ _ (leave_srt (hi.srt q))
    · exact hi.srt q
  · have hl2 : T'.F q = some l := hl
    by_cases hq : q ∈ ks.take ks.length
    · exact h.ne q hq l hl2
    · rw [h.out q hq] at hl2
      exact hi.ne q l hl2
  · rw [hln, (h.ln hi hk q).1, (h.ln hi hk q).2] at hx
    split at hx
    · exact hi.modes q x (free_mem hx)
    · exact hi.modes q x hx
  · rw [hln, (h.ln hi hk q).1, (h.ln hi hk q).2]
    have h0 := hi.len q
    have h1 := free_len t (T.ln q).has (T.ln q).waits
    have h2 : (T'.off t).N = T.N + ks.length := h.n
    rw [h2]
    split <;> omega
  · rw [hln, (h.ln hi hk q).1, (h.ln hi hk q).2]
    have hK : (T'.off t).K u = if eqT u t then fun _ => none else T'.K u := rfl
    rw [hK, h.K]
    by_cases hu : u = t
    · subst hu
      rw [eqT_self, if_pos rfl]
      constructor
      · intro e; cases e
      · intro e
        split at e
        · exact absurd rfl ((free_ts u).1 e).1
        · rename_i hb; exact absurd (inT_iff.2 e) hb
    · rw [eqT_ne hu]
      simp only [Bool.false_eq_true, if_false]
      rw [hi.asked u q]
      split
      · rw [free_ts]
        exact ⟨fun e => ⟨hu, e⟩, fun e => e.2⟩
      · exact Iff.rfl
  · have hA : delF cAs T'.A t u = none := hu
    have hK : (T'.off t).K u = if eqT u t then fun _ => none else T'.K u := rfl
    rw [hK, h.K]
    by_cases e : u = t
    · rw [e, eqT_self, if_pos rfl]
    · rw [eqT_ne e]
      simp only [Bool.false_eq_true, if_false]
      rw [delF_other cAs_ok _ e, h.A] at hA
      exact hi.nosets u hA q
end
def Say.free (S : Say) (t : Td) : Say := ⟨fun q => if inT t (S.has q) (S.waits q) then freeH t (S.has q) (S.waits q) else S.has q, fun q => if inT t (S.has q) (S.waits q) then freeW t (S.has q) (S.waits q) else S.waits q⟩
end Go.Proofs.Ytkgecljoodofeaa
