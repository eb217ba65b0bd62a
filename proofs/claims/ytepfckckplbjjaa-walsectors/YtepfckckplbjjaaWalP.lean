/- The log, plainly: what is laid is read again; calm disks. Own lemmas, no statement. -/
import Derived.Test.YtepfckckplbjjaaWal11
namespace Go.Proofs.Ytepfckckplbjjaa

theorem rnum_at (A most : Nat) (hA : A < 18446744073709551616) (hm : A ≤ most) (r : List UInt8) : rnum (enc A ++ r) 0 most = (A, r, 0) := by
  have h := first_enc A hA r
  unfold rnum
  rw [if_neg (by omega), h]
  simp only
  rw [if_neg (by simp), if_neg (by omega)]
  simp
theorem rtext_at (t : List UInt8) (M : Nat) (hs : t.length ≤ M) (hb : M < 18446744073709551616) (r : List UInt8) : rtext (enc t.length ++ (t ++ r)) 0 M = (t, r, 0) := by
  unfold rtext
  rw [rnum_at t.length M (by omega) hs]
  simp only
  rw [if_neg (by simp), if_neg (by rw [List.length_append]; omega), List.take_left, List.drop_left]
theorem enc0 : enc 0 = [0] := by rfl
theorem zeros_enc : zeros = enc 0 ++ List.replicate 511 0 := by rw [enc0]; rfl

theorem pc_parts (n life : Nat) (last : Bool) (t r r1 r2 r3 : List UInt8) (hn : n + 1 < 18446744073709551616) (hl : life ≤ 1099511627776) (ht : t.length ≤ 480) (b : List UInt8)
    (hb : b = enc (n + 1) ++ r1) (hb1 : r1 = enc life ++ r2) (hb2 : r2 = enc (if last then 1 else 0) ++ r3) (hb3 : r3 = enc t.length ++ (t ++ r)) : (pc1 b).1 = n + 1 ∧ (pc2 b).1 = life ∧ (pc3 b).1 = (if last then 1 else 0) ∧ (pc4 b).1 = t ∧ (pc4 b).2.2 = 0 := by
  have h1 : pc1 b = (n + 1, r1, 0) := by unfold pc1; rw [hb]; exact rnum_at (n + 1) _ hn (by omega) _
  have h2 : pc2 b = (life, r2, 0) := by unfold pc2; rw [h1, hb1]; exact rnum_at life _ (by omega) hl _
  have h3 : pc3 b = ((if last then 1 else 0), r3, 0) := by unfold pc3; rw [h2, hb2]; exact rnum_at _ _ (by split <;> omega) (by split <;> omega) _
  have h4 : pc4 b = (t, r, 0) := by unfold pc4; rw [h3, hb3]; exact rtext_at t 480 ht (by omega) r
  rw [h1, h2, h3, h4]
  exact ⟨rfl, rfl, rfl, rfl, rfl⟩
theorem pcBytes_app (n life : Nat) (last : Bool) (t : List UInt8) : pad (pcBytes n life last t) = enc (n + 1) ++ (enc life ++ (enc (if last then 1 else 0) ++ (enc t.length ++ (t ++ List.replicate (512 - (pcBytes n life last t).length) 0)))) := by
  unfold pad pcBytes join
  simp only [List.append_assoc, List.nil_append]
theorem readPc_laid (n life : Nat) (last : Bool) (t : List UInt8) (hn : n + 1 < 18446744073709551616) (hl : life ≤ 1099511627776) (ht : t.length ≤ 480) (hlt : last = true ∨ t.length = 480) : readPc (pad (pcBytes n life last t)) n = some ⟨life, last, t⟩ := by
  obtain ⟨h1, h2, h3, h4, h5⟩ := pc_parts n life last t _ _ _ _ hn hl ht _ (pcBytes_app n life last t) rfl rfl rfl
  unfold readPc
  rw [h1, h2, h3, h4, h5]
  rw [if_pos ⟨rfl, rfl, by
    rcases hlt with rfl | h
    · exact .inl rfl
    · exact .inr (by omega)⟩]
  cases last <;> rfl
theorem readPc_ne (n life : Nat) (last : Bool) (t : List UInt8) (hn : n + 1 < 18446744073709551616) (hl : life ≤ 1099511627776) (ht : t.length ≤ 480) (k : Nat) (hk : k ≠ n) : readPc (pad (pcBytes n life last t)) k = none := by
  obtain ⟨h1, _⟩ := pc_parts n life last t _ _ _ _ hn hl ht _ (pcBytes_app n life last t) rfl rfl rfl
  cases h : readPc (pad (pcBytes n life last t)) k with
  | none => rfl
  | some p => have := readPc_num h; omega
theorem readPc_zeros (n : Nat) : readPc zeros n = none := by
  cases h : readPc zeros n with
  | none => rfl
  | some p =>
    have h1 := readPc_num h
    have h2 : pc1 zeros = (0, List.replicate 511 0, 0) := by unfold pc1; rw [zeros_enc]; exact rnum_at 0 _ (by omega) (by omega) _
    rw [h2] at h1
    simp only at h1
    omega
theorem mBytes_app (m : Mst) : pad (mBytes m) = enc dockL.length ++ (dockL ++ (enc m.writing ++ (enc m.life ++ (enc m.first ++ (enc m.least ++ List.replicate (512 - (mBytes m).length) 0))))) := by
  unfold pad mBytes join
  simp only [List.append_assoc, List.nil_append]
  rfl
def Mst.good (m : Mst) : Prop := 0 < m.writing ∧ m.writing < 18446744073709551616 ∧ m.life ≤ 1099511627776 ∧ m.first ≤ 4611686018427387903 ∧ m.least ≤ 1099511627776
theorem readM_laid (m : Mst) (h : m.good) (k : Nat) (hk : m.writing % 2 = k) : readM (pad (mBytes m)) k = some m := by
  obtain ⟨g1, g2, g3, g4, g5⟩ := h
  have hb := mBytes_app m
  generalize pad (mBytes m) = b at *
  generalize hr4 : List.replicate (512 - (mBytes m).length) (0 : UInt8) = r4 at *
  generalize hr3 : enc m.least ++ r4 = r3 at *
  generalize hr2 : enc m.first ++ r3 = r2 at *
  generalize hr1 : enc m.life ++ r2 = r1 at *
  generalize hr0 : enc m.writing ++ r1 = r0 at *
  have h0 : mr0 b = (dockL, r0, 0) := by unfold mr0; rw [hb]; exact rtext_at dockL 4 (by decide) (by omega) _
  have h1 : mr1 b = (m.writing, r1, 0) := by unfold mr1; rw [h0, ← hr0]; exact rnum_at _ _ g2 (by omega) _
  have h2 : mr2 b = (m.life, r2, 0) := by unfold mr2; rw [h1, ← hr1]; exact rnum_at _ _ (by omega) g3 _
  have h3 : mr3 b = (m.first, r3, 0) := by unfold mr3; rw [h2, ← hr2]; exact rnum_at _ _ (by omega) g4 _
  have h4 : mr4 b = (m.least, r4, 0) := by unfold mr4; rw [h3, ← hr3]; exact rnum_at _ _ (by omega) g5 _
  unfold readM
  rw [h0, h1, h2, h3, h4]
  rw [if_pos ⟨rfl, rfl, by simp only; omega, hk⟩]
theorem readM_zeros (k : Nat) : readM zeros k = none := by
  have h0 : mr0 zeros = ([], List.replicate 511 0, 0) := by unfold mr0; rw [zeros_enc]; exact rtext_at [] 4 (by decide) (by omega) _
  unfold readM
  rw [h0, if_neg]
  rintro ⟨_, h, _⟩
  cases h

/-- A disk that is up, with no fuse. -/
def DSt.calm (st : DSt) : Prop := st.fuse = 0 ∧ st.down = false
theorem wr_calm {st : DSt} (h : st.calm) (i : Nat) (b : List UInt8) : st.wr i b = (0, ⟨st.now.set i (pad b, false), st.safe, st.waits ++ [(i, pad b)], 0, false, st.steps + 1⟩) := by
  obtain ⟨now, safe, waits, fuse, down, steps⟩ := st
  obtain ⟨h1, h2⟩ := h
  simp only at h1 h2
  subst h1
  subst h2
  rfl
theorem sy_calm {st : DSt} (h : st.calm) : st.sy = (0, ⟨st.now, st.now, [], 0, false, st.steps + 1⟩) := by
  obtain ⟨now, safe, waits, fuse, down, steps⟩ := st
  obtain ⟨h1, h2⟩ := h
  simp only at h1 h2
  subst h1
  subst h2
  rfl
theorem got_calm {st : DSt} (h : st.calm) {i : Nat} {b : List UInt8} (hi : st.now[i]? = some (b, false)) : st.got i = .ok b := by
  unfold DSt.got
  rw [hi]
  simp only
  rw [if_neg (by rw [h.2]; simp), if_neg (by simp)]
theorem staysTo_none (safe : List Sec) (ws : List (Nat × List UInt8)) : ∀ k, staysTo [] (-1) safe ws k = safe
  | 0 => rfl
  | k + 1 => by
    unfold staysTo
    split
    · exact staysTo_none safe ws k
    · rw [if_neg (by simp), if_neg (by omega)]
      exact staysTo_none safe ws k
theorem on_none (st : DSt) : st.on [] (-1) = ⟨st.safe, st.safe, [], 0, false, st.steps⟩ := by
  unfold DSt.on DSt.stays
  rw [staysTo_none]
theorem leadS_calm {s : LSt} {st : DSt} {m : Mst} (h : st.calm) : leadS s st m = (0, ⟨s.from_, s.room, m.writing + 1, m.life, m.first, m.least, s.next, s.next⟩,
    ⟨st.now.set (s.from_ + (m.writing + 1) % 2) (pad (mBytes m.next), false), st.now.set (s.from_ + (m.writing + 1) % 2) (pad (mBytes m.next), false), [], 0, false, st.steps + 2⟩) := by
  refine leadS_3 (wr_calm h _ _) ?_
  exact sy_calm ⟨rfl, rfl⟩
/-- The masters: one counts, the other is older, or says nothing. -/
def Masters (from_ : Nat) (now : List Sec) (m : Mst) : Prop := m.good ∧ now[from_ + m.writing % 2]? = some (pad (mBytes m), false) ∧
  ∃ b t, now[from_ + (m.writing + 1) % 2]? = some (b, t) ∧ (t = true ∨ readM b ((m.writing + 1) % 2) = none ∨ ∃ m', readM b ((m.writing + 1) % 2) = some m' ∧ m'.writing < m.writing)
theorem latStep_mine {s : LSt} {st : DSt} {k : Nat} {cur m : Mst} (h : st.calm) (hm : m.good) (hk : m.writing % 2 = k) (hi : st.now[s.from_ + k]? = some (pad (mBytes m), false)) (hc : cur.writing < m.writing) : latStep s st k cur = .ok m := by
  unfold latStep
  rw [got_calm h hi]
  simp only
  rw [readM_laid m hm k hk]
  simp only
  rw [if_pos hc]
theorem latStep_other {s : LSt} {st : DSt} {k : Nat} {cur m : Mst} (h : st.calm) {b : List UInt8} {t : Bool} (hi : st.now[s.from_ + k]? = some (b, t)) (ho : t = true ∨ readM b k = none ∨ ∃ m', readM b k = some m' ∧ m'.writing < m.writing) (hw : 0 < m.writing) (hc : cur = m ∨ cur = m0) :
    ∃ c, latStep s st k cur = .ok c ∧ (c.writing < m.writing ∨ c = m) ∧ (cur = m → c = m) := by
  unfold latStep
  cases t with
  | true =>
    have hg : st.got (s.from_ + k) = .error 9 := by
      unfold DSt.got
      rw [hi]
      simp only
      rw [if_neg (by rw [h.2]; simp)]
      rfl
    rw [hg]
    refine ⟨cur, rfl, ?_, fun e => e⟩
    rcases hc with rfl | rfl
    · exact .inr rfl
    · exact .inl hw
  | false =>
    rw [got_calm h hi]
    simp only
    rcases ho with ho | ho | ⟨m', ho, hlt⟩
    · cases ho
    · rw [ho]
      refine ⟨cur, rfl, ?_, fun e => e⟩
      rcases hc with rfl | rfl
      · exact .inr rfl
      · exact .inl hw
    · rw [ho]
      simp only
      rcases hc with rfl | rfl
      · rw [if_neg (by omega)]
        exact ⟨_, rfl, .inr rfl, fun e => e⟩
      · split
        · exact ⟨_, rfl, .inl hlt, fun e => by subst e; omega⟩
        · exact ⟨_, rfl, .inl hw, fun e => by subst e; exact absurd hw (by unfold m0; simp)⟩
theorem latTo_of {s : LSt} {st : DSt} {m : Mst} (h : st.calm) (hM : Masters s.from_ st.now m) : latTo s st 2 = .ok m := by
  obtain ⟨hg, h1, b, t, h2, ho⟩ := hM
  have hw : 0 < m.writing := hg.1
  have e1 : latTo s st 1 = latStep s st 0 m0 := rfl
  have e2 : latTo s st 2 = match latTo s st 1 with | .error c => .error c | .ok m => latStep s st 1 m := rfl
  rw [e2, e1]
  rcases Nat.mod_two_eq_zero_or_one m.writing with he | he
  · have he' : (m.writing + 1) % 2 = 1 := by omega
    rw [he] at h1
    rw [he'] at h2 ho
    rw [latStep_mine h hg he h1 (by unfold m0; exact hw)]
    simp only
    obtain ⟨c, k1, _, k3⟩ := latStep_other (s := s) (cur := m) (m := m) h h2 ho hw (.inl rfl)
    rw [k1, k3 rfl]
  · have he' : (m.writing + 1) % 2 = 0 := by omega
    rw [he] at h1
    rw [he'] at h2 ho
    obtain ⟨c, k1, k2, _⟩ := latStep_other (s := s) (cur := m0) (m := m) h h2 ho hw (.inr rfl)
    rw [k1]
    simp only
    rcases k2 with k2 | rfl
    · exact latStep_mine h hg he h1 k2
    · unfold latStep
      rw [got_calm h h1]
      simp only
      rw [readM_laid c hg 1 he]
      simp only
      rw [if_neg (Nat.lt_irrefl _)]
end Go.Proofs.Ytepfckckplbjjaa
