/- Disks as lists: what the document says of them, in plain words. Own lemmas, no statement. -/
import Derived.Test.YtepfckckplbjjaaRows
namespace Go.Proofs.Ytepfckckplbjjaa

/-- A sector: its 512 bytes, whether it is torn. -/
abbrev Sec := List UInt8 × Bool
def zeros : List UInt8 := List.replicate 512 0
def pad (b : List UInt8) : List UInt8 := b ++ List.replicate (512 - b.length) 0
theorem zeros_length : zeros.length = 512 := List.length_replicate
theorem pad_length {b : List UInt8} (h : b.length ≤ 512) : (pad b).length = 512 := by unfold pad; rw [List.length_append, List.length_replicate]; omega
theorem pad_full {b : List UInt8} (h : b.length = 512) : pad b = b := by unfold pad; rw [h]; exact List.append_nil b
theorem pad_nil : pad [] = zeros := rfl

structure DSt where
  now : List Sec
  safe : List Sec
  waits : List (Nat × List UInt8)
  fuse : Nat
  down : Bool
  steps : Nat

def DSt.stepped (s : DSt) : DSt := if s.fuse = 1 then { s with down := true } else { s with fuse := s.fuse - 1, steps := s.steps + 1 }
def DSt.stepErr (s : DSt) : Int := if s.fuse = 1 then 8 else 0
def DSt.written (s : DSt) (i : Nat) (b : List UInt8) : DSt := { s with now := s.now.set i (b, false), waits := s.waits ++ [(i, b)] }
def DSt.synced (s : DSt) : DSt := { s with safe := s.now, waits := [] }

/-- Of each write the sector is taken over: the first k of them. -/
def copyTo (src dst : List Sec) (ws : List (Nat × List UInt8)) : Nat → List Sec
  | 0 => dst
  | k + 1 => match ws[k]? with
    | none => copyTo src dst ws k
    | some p => (copyTo src dst ws k).set p.1 (src.getD p.1 (zeros, false))
/-- What stays of the first k writes. -/
def staysTo (keep : List Bool) (tear : Int) (safe : List Sec) (ws : List (Nat × List UInt8)) : Nat → List Sec
  | 0 => safe
  | k + 1 => match ws[k]? with
    | none => staysTo keep tear safe ws k
    | some p => if keep.getD k false = true then (staysTo keep tear safe ws k).set p.1 (p.2, false) else if (k : Int) = tear then (staysTo keep tear safe ws k).set p.1 (zeros, true) else staysTo keep tear safe ws k
def DSt.stays (s : DSt) (keep : List Bool) (tear : Int) : List Sec := staysTo keep tear s.safe s.waits s.waits.length
def DSt.on (s : DSt) (keep : List Bool) (tear : Int) : DSt := { now := s.stays keep tear, safe := s.stays keep tear, waits := [], fuse := 0, down := false, steps := s.steps }

/-- What is kept of a disk, whatever is done to it. -/
structure DSt.Inv (s : DSt) : Prop where
  len : s.safe.length = s.now.length
  ats : ∀ p ∈ s.waits, p.1 < s.now.length
  rest : ∀ i, (∀ p ∈ s.waits, p.1 ≠ i) → s.now[i]? = s.safe[i]?
  nows : ∀ p ∈ s.now, p.1.length = 512
  safes : ∀ p ∈ s.safe, p.1.length = 512
  wlen : ∀ p ∈ s.waits, p.2.length = 512

theorem copyTo_length (src dst : List Sec) (ws : List (Nat × List UInt8)) : ∀ k, (copyTo src dst ws k).length = dst.length
  | 0 => rfl
  | k + 1 => by
    unfold copyTo
    split
    · exact copyTo_length src dst ws k
    · rw [List.length_set]; exact copyTo_length src dst ws k
theorem staysTo_length (keep : List Bool) (tear : Int) (safe : List Sec) (ws : List (Nat × List UInt8)) : ∀ k, (staysTo keep tear safe ws k).length = safe.length
  | 0 => rfl
  | k + 1 => by
    unfold staysTo
    split
    · exact staysTo_length keep tear safe ws k
    · split
      · rw [List.length_set]; exact staysTo_length keep tear safe ws k
      · split
        · rw [List.length_set]; exact staysTo_length keep tear safe ws k
        · exact staysTo_length keep tear safe ws k

theorem copyTo_get (src dst : List Sec) (ws : List (Nat × List UInt8)) (hl : src.length = dst.length) (i : Nat) : ∀ k, (copyTo src dst ws k)[i]? = if ∃ j, j < k ∧ ∃ p, ws[j]? = some p ∧ p.1 = i then src[i]? else dst[i]?
  | 0 => by
    rw [if_neg (fun ⟨j, hj, _⟩ => by omega)]
    rfl
  | k + 1 => by
    have ih := copyTo_get src dst ws hl i k
    unfold copyTo
    split
    · rename_i hn
      rw [ih]
      congr 1
      rw [eq_iff_iff]
      constructor
      · rintro ⟨j, hj, h⟩; exact ⟨j, by omega, h⟩
      · rintro ⟨j, hj, p, hp, h⟩
        rcases (show j < k ∨ j = k by omega) with h' | rfl
        · exact ⟨j, h', p, hp, h⟩
        · rw [hn] at hp; cases hp
    · rename_i p hp
      by_cases hi : p.1 = i
      · subst hi
        rw [if_pos ⟨k, by omega, p, hp, rfl⟩, List.getElem?_set]
        simp only [if_true, copyTo_length]
        split
        · rename_i hlt
          rw [List.getD_eq_getElem?_getD, List.getElem?_eq_getElem (by omega)]
          simp
        · rw [List.getElem?_eq_none (by omega)]
      · rw [List.getElem?_set, if_neg hi, ih]
        congr 1
        rw [eq_iff_iff]
        constructor
        · rintro ⟨j, hj, h⟩; exact ⟨j, by omega, h⟩
        · rintro ⟨j, hj, q, hq, h⟩
          rcases (show j < k ∨ j = k by omega) with h' | rfl
          · exact ⟨j, h', q, hq, h⟩
          · rw [hp] at hq; cases hq; exact absurd h hi
theorem staysTo_out (keep : List Bool) (tear : Int) (safe : List Sec) (ws : List (Nat × List UInt8)) (i : Nat) (hi : ∀ p ∈ ws, p.1 ≠ i) : ∀ k, (staysTo keep tear safe ws k)[i]? = safe[i]?
  | 0 => rfl
  | k + 1 => by
    have ih := staysTo_out keep tear safe ws i hi k
    unfold staysTo
    split
    · exact ih
    · rename_i p hp
      have hne := hi p (List.mem_of_getElem? hp)
      split
      · rw [List.getElem?_set, if_neg hne]; exact ih
      · split
        · rw [List.getElem?_set, if_neg hne]; exact ih
        · exact ih

theorem touched {ws : List (Nat × List UInt8)} {i : Nat} : (∃ j, j < ws.length ∧ ∃ p, ws[j]? = some p ∧ p.1 = i) ↔ ¬ ∀ p ∈ ws, p.1 ≠ i := by
  constructor
  · rintro ⟨j, _, p, hp, h⟩ hh
    exact hh p (List.mem_of_getElem? hp) h
  · intro h
    simp only [Classical.not_forall, Classical.not_not] at h
    obtain ⟨p, hp, rfl⟩ := h
    obtain ⟨j, hj, hg⟩ := List.getElem_of_mem hp
    exact ⟨j, hj, p, by rw [List.getElem?_eq_getElem hj, hg], rfl⟩

/-- A Sync takes all over: what is safe is what is. -/
theorem DSt.Inv.sync {s : DSt} (h : s.Inv) : copyTo s.now s.safe s.waits s.waits.length = s.now := by
  apply List.ext_getElem?
  intro i
  rw [copyTo_get _ _ _ h.len.symm]
  by_cases ht : ∀ p ∈ s.waits, p.1 ≠ i
  · rw [if_neg (fun e => (touched.1 e) ht)]; exact (h.rest i ht).symm
  · rw [if_pos (touched.2 ht)]
/-- Behind On: what is is what is safe. -/
theorem DSt.Inv.onNow {s : DSt} (h : s.Inv) (keep : List Bool) (tear : Int) : copyTo (s.stays keep tear) s.now s.waits s.waits.length = s.stays keep tear := by
  apply List.ext_getElem?
  intro i
  rw [copyTo_get _ _ _ (by unfold DSt.stays; rw [staysTo_length]; exact h.len)]
  by_cases ht : ∀ p ∈ s.waits, p.1 ≠ i
  · rw [if_neg (fun e => (touched.1 e) ht), h.rest i ht]
    unfold DSt.stays
    rw [staysTo_out _ _ _ _ _ ht]
  · rw [if_pos (touched.2 ht)]

theorem staysTo_ok (keep : List Bool) (tear : Int) (safe : List Sec) (ws : List (Nat × List UInt8)) (hs : ∀ p ∈ safe, p.1.length = 512) (hw : ∀ p ∈ ws, p.2.length = 512) : ∀ k, ∀ p ∈ staysTo keep tear safe ws k, p.1.length = 512
  | 0, p, hp => hs p hp
  | k + 1, p, hp => by
    have ih := staysTo_ok keep tear safe ws hs hw k
    unfold staysTo at hp
    split at hp
    · exact ih p hp
    · rename_i q hq
      split at hp
      · rcases List.mem_or_eq_of_mem_set hp with h | rfl
        · exact ih p h
        · exact hw q (List.mem_of_getElem? hq)
      · split at hp
        · rcases List.mem_or_eq_of_mem_set hp with h | rfl
          · exact ih p h
          · exact zeros_length
        · exact ih p hp

theorem copyTo_ok (src dst : List Sec) (ws : List (Nat × List UInt8)) (hs : ∀ p ∈ src, p.1.length = 512) (hd : ∀ p ∈ dst, p.1.length = 512) : ∀ k, ∀ p ∈ copyTo src dst ws k, p.1.length = 512
  | 0, p, hp => hd p hp
  | k + 1, p, hp => by
    have ih := copyTo_ok src dst ws hs hd k
    unfold copyTo at hp
    split at hp
    · exact ih p hp
    · rename_i q hq
      rcases List.mem_or_eq_of_mem_set hp with h | rfl
      · exact ih p h
      · rw [List.getD_eq_getElem?_getD]
        cases hg : src[q.1]? with
        | none => exact zeros_length
        | some x => exact hs x (List.mem_of_getElem? hg)
/-- While a Sync goes on. -/
theorem DSt.Inv.syncing {s : DSt} (h : s.Inv) (k : Nat) : ({ s with safe := copyTo s.now s.safe s.waits k } : DSt).Inv :=
  ⟨by show (copyTo _ _ _ _).length = _; rw [copyTo_length]; exact h.len, h.ats, fun i hi => by
    show s.now[i]? = (copyTo _ _ _ _)[i]?
    rw [copyTo_get _ _ _ h.len.symm]
    split
    · rfl
    · exact h.rest i hi, h.nows, copyTo_ok _ _ _ h.nows h.safes k, h.wlen⟩
theorem DSt.Inv.staying {s : DSt} (h : s.Inv) (keep : List Bool) (tear : Int) (k : Nat) : ({ s with safe := staysTo keep tear s.safe s.waits k } : DSt).Inv :=
  ⟨by show (staysTo _ _ _ _ _).length = _; rw [staysTo_length]; exact h.len, h.ats, fun i hi => by
    show s.now[i]? = (staysTo _ _ _ _ _)[i]?
    rw [staysTo_out _ _ _ _ _ hi]
    exact h.rest i hi, h.nows, staysTo_ok _ _ _ _ h.safes h.wlen k, h.wlen⟩
theorem DSt.Inv.coming {s : DSt} (h : s.Inv) (k : Nat) : ({ s with now := copyTo s.safe s.now s.waits k } : DSt).Inv :=
  ⟨by show _ = (copyTo _ _ _ _).length; rw [copyTo_length]; exact h.len, fun p hp => by show _ < (copyTo _ _ _ _).length; rw [copyTo_length]; exact h.ats p hp, fun i hi => by
    show (copyTo _ _ _ _)[i]? = s.safe[i]?
    rw [copyTo_get _ _ _ h.len]
    split
    · rfl
    · exact h.rest i hi, copyTo_ok _ _ _ h.safes h.nows k, h.safes, h.wlen⟩

theorem DSt.Inv.stepped {s : DSt} (h : s.Inv) : s.stepped.Inv := by
  unfold DSt.stepped
  split <;> exact ⟨h.len, h.ats, h.rest, h.nows, h.safes, h.wlen⟩
theorem DSt.Inv.synced {s : DSt} (h : s.Inv) : s.synced.Inv := ⟨rfl, fun p hp => (by cases hp), fun _ _ => rfl, h.nows, h.nows, fun p hp => (by cases hp)⟩
theorem DSt.Inv.on {s : DSt} (h : s.Inv) (keep : List Bool) (tear : Int) : (s.on keep tear).Inv :=
  ⟨rfl, fun p hp => (by cases hp), fun _ _ => rfl, staysTo_ok _ _ _ _ h.safes h.wlen _, staysTo_ok _ _ _ _ h.safes h.wlen _, fun p hp => (by cases hp)⟩
theorem DSt.Inv.written {s : DSt} (h : s.Inv) {i : Nat} (hi : i < s.now.length) {b : List UInt8} (hb : b.length = 512) : (s.written i b).Inv := by
  refine ⟨by simp [DSt.written, h.len], ?_, ?_, ?_, h.safes, ?_⟩
  · intro p hp
    simp only [DSt.written, List.mem_append, List.mem_singleton] at hp ⊢
    rw [List.length_set]
    rcases hp with hp | rfl
    · exact h.ats p hp
    · exact hi
  · intro j hj
    simp only [DSt.written, List.mem_append, List.mem_singleton] at hj ⊢
    rw [List.getElem?_set, if_neg (hj (i, b) (.inr rfl))]
    exact h.rest j (fun p hp => hj p (.inl hp))
  · intro p hp
    rcases List.mem_or_eq_of_mem_set hp with h' | rfl
    · exact h.nows p h'
    · exact hb
  · intro p hp
    simp only [DSt.written, List.mem_append, List.mem_singleton] at hp
    rcases hp with hp | rfl
    · exact h.wlen p hp
    · exact hb
def DSt.fresh (n : Nat) : DSt := { now := List.replicate n (zeros, false), safe := List.replicate n (zeros, false), waits := [], fuse := 0, down := false, steps := 0 }
theorem DSt.fresh_inv (n : Nat) : (DSt.fresh n).Inv :=
  ⟨rfl, fun p hp => (by cases hp), fun _ _ => rfl, fun p hp => by rw [(List.mem_replicate.1 hp).2]; exact zeros_length, fun p hp => by rw [(List.mem_replicate.1 hp).2]; exact zeros_length, fun p hp => (by cases hp)⟩
end Go.Proofs.Ytepfckckplbjjaa
