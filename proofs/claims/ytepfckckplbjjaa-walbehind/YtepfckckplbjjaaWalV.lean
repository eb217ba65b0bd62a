/- The log, plainly: what a loss of power leaves, where the first sector is lost. Own lemmas, no statement. -/
import Derived.Test.YtepfckckplbjjaaWalC
namespace Go.Proofs.Ytepfckckplbjjaa

theorem stays_at {keep : List Bool} {tear : Int} {safe : List Sec} {T : Nat} {pl : Nat → Nat} {q : Nat → List UInt8} (hinj : ∀ i j, i < T → j < T → pl i = pl j → i = j) (hlt : ∀ i, i < T → pl i < safe.length) :
    ∀ k, k ≤ T → (∀ p, (∀ i, i < k → p ≠ pl i) → (staysTo keep tear safe ((List.range T).map fun i => (pl i, q i)) k)[p]? = safe[p]?) ∧
      (∀ i, i < k → (staysTo keep tear safe ((List.range T).map fun i => (pl i, q i)) k)[pl i]? = if keep.getD i false = true then some (q i, false) else if (i : Int) = tear then some (zeros, true) else safe[pl i]?)
  | 0, _ => ⟨fun p _ => rfl, fun i hi => by omega⟩
  | k + 1, hk => by
    obtain ⟨h1, h2⟩ := stays_at (keep := keep) (tear := tear) (q := q) hinj hlt k (by omega)
    have hw : ((List.range T).map fun i => (pl i, q i))[k]? = some (pl k, q k) := by
      rw [List.getElem?_map, List.getElem?_range (by omega)]
      rfl
    have hlen : pl k < (staysTo keep tear safe ((List.range T).map fun i => (pl i, q i)) k).length := by rw [staysTo_length]; exact hlt k (by omega)
    have hk1 := h1 (pl k) fun i hi e => by have := hinj k i (by omega) (by omega) e; omega
    have key : ∀ x : Sec, (∀ p, (∀ i, i < k + 1 → p ≠ pl i) → ((staysTo keep tear safe ((List.range T).map fun i => (pl i, q i)) k).set (pl k) x)[p]? = safe[p]?) ∧
        (∀ i, i < k → ((staysTo keep tear safe ((List.range T).map fun i => (pl i, q i)) k).set (pl k) x)[pl i]? = if keep.getD i false = true then some (q i, false) else if (i : Int) = tear then some (zeros, true) else safe[pl i]?) ∧ ((staysTo keep tear safe ((List.range T).map fun i => (pl i, q i)) k).set (pl k) x)[pl k]? = some x := fun x =>
      ⟨fun p hp => by rw [List.getElem?_set_ne (fun e => hp k (by omega) e.symm)]; exact h1 p fun i hi => hp i (by omega), fun i hi => by
        rw [List.getElem?_set_ne (fun e => by have := hinj k i (by omega) (by omega) e; omega)]
        exact h2 i hi, List.getElem?_set_self hlen⟩
    unfold staysTo
    rw [hw]
    simp only
    by_cases hkp : keep.getD k false = true
    · rw [if_pos hkp]
      obtain ⟨a1, a2, a3⟩ := key (q k, false)
      refine ⟨a1, fun i hi => ?_⟩
      rcases (show i < k ∨ i = k by omega) with h' | rfl
      · exact a2 i h'
      · rw [a3, if_pos hkp]
    · rw [if_neg hkp]
      by_cases ht : (k : Int) = tear
      · rw [if_pos ht]
        obtain ⟨a1, a2, a3⟩ := key (zeros, true)
        refine ⟨a1, fun i hi => ?_⟩
        rcases (show i < k ∨ i = k by omega) with h' | rfl
        · exact a2 i h'
        · rw [a3, if_neg hkp, if_pos ht]
      · rw [if_neg ht]
        refine ⟨fun p hp => h1 p fun i hi => hp i (by omega), fun i hi => ?_⟩
        rcases (show i < k ∨ i = k by omega) with h' | rfl
        · exact h2 i h'
        · rw [hk1, if_neg hkp, if_neg ht]
theorem readPc_life {n life : Nat} {last : Bool} {t : List UInt8} (hn : n + 1 < 18446744073709551616) (hl : life ≤ 1099511627776) (ht : t.length ≤ 480) {k : Nat} {p : Pc} (h : readPc (pad (pcBytes n life last t)) k = some p) : p.life = life := by
  obtain ⟨_, h2, _⟩ := pc_parts n life last t _ _ _ _ hn hl ht _ (pcBytes_app n life last t) rfl rfl rfl
  unfold readPc at h
  split at h
  · cases h
    exact h2
  · cases h
/-- Behind a loss of power that takes the first sector that wasn't forced the entries are those that were there. -/
theorem LW.lost {s : LSt} {st0 st : DSt} {es : List (Nat × List UInt8)} {keep : List Bool} {T : Nat} {la : Nat → Bool} {tx : Nat → List UInt8} (h : LW s st0 es s.life) (hsafe : st.safe = st0.now)
    (hw : st.waits = (List.range T).map fun i => (s.place (s.next + i), pad (pcBytes (s.next + i) s.life (la i) (tx i)))) (hT : T ≤ s.room - (s.next - s.first)) (htx : ∀ i, (tx i).length ≤ 480) (hk : keep.getD 0 false = false)
    (hwr : s.writing + 1 < 18446744073709551616) (hlf : s.life < 1099511627776) (hnx : s.next + 100000 < 18446744073709551616) :
    Finds s.from_ s.room (st.on keep (-1)) ⟨s.writing, s.life, s.first, s.least⟩ es s.next s.life := by
  have hr0 := h.r0
  have hr1 := h.r1
  have hl1 := h.le1
  have hl2 := h.le2
  have hfit := h.fit
  have hpl : ∀ k, s.place k < st.safe.length := fun k => by
    have := Nat.mod_lt k hr0
    rw [hsafe]
    show s.from_ + 2 + k % s.room < _
    omega
  have hinj : ∀ i j, i < T → j < T → s.place (s.next + i) = s.place (s.next + j) → i = j := fun i j hi hj e => by
    unfold LSt.place at e
    have := mod_window (a := s.next) (r := s.room) (x := s.next + i) (y := s.next + j) (by omega) (by omega) (by omega)
    omega
  obtain ⟨n1, n2⟩ := stays_at (keep := keep) (tear := -1) (safe := st.safe) (T := T) (pl := fun i => s.place (s.next + i)) (q := fun i => pad (pcBytes (s.next + i) s.life (la i) (tx i))) hinj (fun i _ => hpl _) T (Nat.le_refl _)
  have hnow : (st.on keep (-1)).now = staysTo keep (-1) st.safe ((List.range T).map fun i => (s.place (s.next + i), pad (pcBytes (s.next + i) s.life (la i) (tx i)))) T := by
    show st.stays keep (-1) = _
    unfold DSt.stays
    rw [hw, List.length_map, List.length_range]
  have hcalm : (st.on keep (-1)).calm := ⟨rfl, rfl⟩
  have hout : ∀ p, (∀ i, i < T → p ≠ s.place (s.next + i)) → (st.on keep (-1)).now[p]? = st0.now[p]? := fun p hp => by rw [hnow, n1 p hp, hsafe]
  have hin : ∀ i, i < T → (st.on keep (-1)).now[s.place (s.next + i)]? = st0.now[s.place (s.next + i)]? ∨ (0 < i ∧ (st.on keep (-1)).now[s.place (s.next + i)]? = some (pad (pcBytes (s.next + i) s.life (la i) (tx i)), false)) := fun i hi => by
    rw [hnow, n2 i hi]
    by_cases hki : keep.getD i false = true
    · rw [if_pos hki]
      refine .inr ⟨?_, rfl⟩
      rcases Nat.eq_zero_or_pos i with rfl | h0
      · rw [hk] at hki; cases hki
      · exact h0
    · rw [if_neg hki, if_neg (fun e : (i : Int) = -1 => by omega), hsafe]
      exact .inl rfl
  have hsame : ∀ k, (st.on keep (-1)).now[s.place k]? = st0.now[s.place k]? → look (s00 s.from_ s.room) (st.on keep (-1)) k = look s st0 k := fun k e => look_now rfl rfl (by rw [hcalm.2, h.calm.2]) e
  have hcase : ∀ k, look (s00 s.from_ s.room) (st.on keep (-1)) k = look s st0 k ∨ ∀ p, look (s00 s.from_ s.room) (st.on keep (-1)) k = some p → p.life = s.life := fun k => by
    by_cases hp : ∃ i, i < T ∧ s.place k = s.place (s.next + i)
    · obtain ⟨i, hi, e⟩ := hp
      rcases hin i hi with e2 | ⟨_, e2⟩
      · exact .inl (hsame k (by rw [e]; exact e2))
      · refine .inr fun p hp => ?_
        unfold look at hp
        rw [show (s00 s.from_ s.room).place k = s.place (s.next + i) from e, got_calm hcalm e2] at hp
        exact readPc_life (by omega) (Nat.le_of_lt hlf) (htx i) hp
    · exact .inl (hsame k (hout _ fun i hi e => hp ⟨i, hi, e⟩))
  have hM : Masters s.from_ (st.on keep (-1)).now ⟨s.writing, s.life, s.first, s.least⟩ := h.mst.keep fun i hi => hout _ fun j _ e => by
    have e' : s.from_ + i = s.from_ + 2 + (s.next + j) % s.room := e
    omega
  refine ⟨hcalm, latTo_of hcalm hM, Chain.same (s := s) (s' := s00 s.from_ s.room) (st := st0) rfl h.ch fun j a c => hsame j (hout _ fun i hi e => ?_), entAt_none fun p hp => ?_, fun k p hp => ?_, hwr, hlf, h.mst.1.2.2.2.1, h.lsl, Nat.le_refl _, hl2, hr0, hr1, ?_, ?_⟩
  · unfold LSt.place at e
    have := mod_window (a := s.first) (r := s.room) (x := j) (y := s.next + i) ⟨a, by have c' : j < s.next := c; omega⟩ (by omega) (by omega)
    have c' : j < s.next := c
    omega
  · have e : (st.on keep (-1)).now[s.place s.next]? = st0.now[s.place s.next]? := by
      by_cases h0 : 0 < T
      · rcases hin 0 h0 with e | ⟨e, _⟩
        · exact e
        · omega
      · exact hout _ fun i hi => by omega
    rw [hsame _ e] at hp
    exact h.new _ p (Nat.le_refl _) hp
  · rcases hcase k with e | e
    · rw [e] at hp
      exact h.all k p hp
    · exact Nat.le_of_eq (e p hp)
  · rw [hnow, staysTo_length, hsafe]
    exact hfit
  · refine ⟨pad (mBytes ⟨s.writing, s.life, s.first, s.least⟩), false, ?_, .inr (.inr ⟨⟨s.writing, s.life, s.first, s.least⟩, readM_laid _ hM.1 _ ?_, Nat.lt_succ_self _⟩)⟩
    · rw [show (s.writing + 1 + 1) % 2 = s.writing % 2 by omega]
      exact hM.2.1
    · show s.writing % 2 = (s.writing + 1 + 1) % 2
      omega
/-- Two entries, one behind the other: their sectors. -/
theorem range_two {α : Type} (f g : Nat → α) (a b : Nat) : (List.range a).map f ++ (List.range b).map g = (List.range (a + b)).map fun i => if i < a then f i else g (i - a) := by
  rw [List.range_add, List.map_append, List.map_map]
  congr 1
  · refine List.map_congr_left fun i hi => ?_
    rw [if_pos (List.mem_range.1 hi)]
  · refine List.map_congr_left fun i _ => ?_
    show g i = if a + i < a then f (a + i) else g (a + i - a)
    rw [if_neg (by omega), Nat.add_sub_cancel_left]
theorem two_waits (s : LSt) (a b : List UInt8) (ka kb : Nat) :
    (List.range ka).map (fun i => (s.place (s.next + i), pad (pcBytes (s.next + i) s.life (decide (i + 1 = ka)) (chunkL a i)))) ++ (List.range kb).map (fun i => (s.place (s.next + ka + i), pad (pcBytes (s.next + ka + i) s.life (decide (i + 1 = kb)) (chunkL b i)))) =
      (List.range (ka + kb)).map fun i => (s.place (s.next + i), pad (pcBytes (s.next + i) s.life (if i < ka then decide (i + 1 = ka) else decide (i - ka + 1 = kb)) (if i < ka then chunkL a i else chunkL b (i - ka)))) := by
  rw [range_two]
  refine List.map_congr_left fun i _ => ?_
  by_cases h : i < ka
  · rw [if_pos h, if_pos h, if_pos h]
  · rw [if_neg h, if_neg h, if_neg h, show s.next + ka + (i - ka) = s.next + i by omega]
end Go.Proofs.Ytepfckckplbjjaa
