/- The log, plainly: entries stay while others are laid. Own lemmas, no statement. -/
import Derived.Test.YtepfckckplbjjaaWalP
import Derived.Test.YtepfckckplbjjaaWal13
import Derived.Test.YtepfckckplbjjaaWal15
namespace Go.Proofs.Ytepfckckplbjjaa

theorem entW_same {lk lk' : Nat → Option Pc} {n0 least : Nat} : ∀ {m k life : Nat} {acc t : List UInt8} {l nx : Nat}, entW lk n0 least m k acc life = some (t, l, nx) → (∀ j, k ≤ j → j < nx → lk' j = lk j) → entW lk' n0 least m k acc life = some (t, l, nx)
  | 0, k, life, acc, t, l, nx, h, _ => by cases h
  | m + 1, k, life, acc, t, l, nx, h, hs => by
    have hk := (entW_all h).1
    unfold entW at h ⊢
    rw [hs k (Nat.le_refl _) hk]
    split at h
    · cases h
    · rename_i p hp
      split at h
      · cases h
      · rename_i hb
        rw [if_neg hb]
        split at h
        · rename_i hl
          rw [if_pos hl]
          exact h
        · rename_i hl
          rw [if_neg hl]
          exact entW_same h fun j h1 h2 => hs j (by omega) h2
/-- Of lives not below less. -/
theorem entW_least {lk : Nat → Option Pc} {n0 least least' : Nat} (hle : least' ≤ least) : ∀ {m k life : Nat} {acc t : List UInt8} {l nx : Nat}, entW lk n0 least m k acc life = some (t, l, nx) → entW lk n0 least' m k acc life = some (t, l, nx)
  | 0, k, life, acc, t, l, nx, h => by cases h
  | m + 1, k, life, acc, t, l, nx, h => by
    unfold entW at h ⊢
    split at h
    · cases h
    · rename_i p hp
      split at h
      · cases h
      · rename_i hb
        rw [if_neg (by omega)]
        split at h
        · rename_i hl
          rw [if_pos hl]
          exact h
        · rename_i hl
          rw [if_neg hl]
          exact entW_least hle h
theorem chunk_take (b : List UInt8) (i : Nat) : join (b.take (i * 480)) (chunkL b i) = b.take ((i + 1) * 480) := by
  unfold join chunkL
  rw [Nat.add_mul, Nat.one_mul, List.take_add]
theorem entW_laid {lk : Nat → Option Pc} {n least life : Nat} {b : List UInt8} (hle : least ≤ life) (hlk : ∀ i, i < needN b.length → lk (n + i) = some ⟨life, decide (i + 1 = needN b.length), chunkL b i⟩) :
    ∀ (d i m l0 : Nat), i + d + 1 = needN b.length → needN b.length ≤ i + m → (i = 0 ∨ l0 = life) → entW lk n least m (n + i) (b.take (i * 480)) l0 = some (b, life, n + needN b.length)
  | 0, i, m, l0, h1, h2, h3 => by
    have hp := hlk i (by omega)
    rw [entW_last (p := ⟨life, decide (i + 1 = needN b.length), chunkL b i⟩) (by omega) hp (by rintro (h | ⟨h, h'⟩); simp only at h; omega; rcases h3 with h3 | h3; omega; exact h' h3.symm) (decide_eq_true (by omega)), chunk_take]
    have hn : b.length ≤ (i + 1) * 480 := by
      rw [show i + 1 = needN b.length by omega]
      unfold needN
      split <;> omega
    rw [List.take_of_length_le hn, show n + i + 1 = n + needN b.length by omega]
  | d + 1, i, m, l0, h1, h2, h3 => by
    have hp := hlk i (by omega)
    rw [entW_more (p := ⟨life, decide (i + 1 = needN b.length), chunkL b i⟩) (by omega) hp (by rintro (h | ⟨h, h'⟩); simp only at h; omega; rcases h3 with h3 | h3; omega; exact h' h3.symm) (decide_eq_false (by omega)), chunk_take]
    exact entW_laid hle hlk d (i + 1) (m - 1) life (by omega) (by omega) (.inr rfl)
theorem mod_window {a r x y : Nat} (hx : a ≤ x ∧ x < a + r) (hy : a ≤ y ∧ y < a + r) (h : x % r = y % r) : x = y := by
  rcases Nat.lt_trichotomy x y with h' | h' | h'
  · exfalso
    have h1 : (y - x) % r = 0 := Nat.sub_mod_eq_zero_of_mod_eq h.symm
    have h2 : y - x < r := by omega
    rw [Nat.mod_eq_of_lt h2] at h1
    omega
  · exact h'
  · exfalso
    have h1 : (x - y) % r = 0 := Nat.sub_mod_eq_zero_of_mod_eq h
    have h2 : x - y < r := by omega
    rw [Nat.mod_eq_of_lt h2] at h1
    omega
theorem got_now {st st' : DSt} (hd : st'.down = st.down) {i : Nat} (h : st'.now[i]? = st.now[i]?) : st'.got i = st.got i := by
  unfold DSt.got
  rw [h, hd]
theorem look_now {s s' : LSt} {st st' : DSt} (hf : s'.from_ = s.from_) (hr : s'.room = s.room) (hd : st'.down = st.down) {k : Nat} (h : st'.now[s.place k]? = st.now[s.place k]?) : look s' st' k = look s st k := by
  have hp : s'.place k = s.place k := by unfold LSt.place; rw [hf, hr]
  unfold look
  rw [hp, got_now hd h]
theorem Chain.same {s s' : LSt} {st st' : DSt} (hr : s'.room = s.room) : ∀ {es : List (Nat × List UInt8)} {n least m lf : Nat}, Chain s st n least es m lf → (∀ j, n ≤ j → j < m → look s' st' j = look s st j) → Chain s' st' n least es m lf
  | [], n, least, m, lf, h, _ => h
  | e :: t, n, least, m, lf, h, hs => by
    obtain ⟨h1, l, nx, h2, h3, h4, h5⟩ := h
    have hle := h5.le.1
    refine ⟨h1, l, nx, ?_, h3, h4, h5.same hr fun j a b => hs j (by omega) b⟩
    unfold entAt at h2 ⊢
    rw [hr]
    exact entW_same h2 fun j a b => hs j a (by omega)
theorem Chain.snoc {s : LSt} {st : DSt} {b : List UInt8} {l nx : Nat} : ∀ {es : List (Nat × List UInt8)} {n least m lf : Nat}, Chain s st n least es m lf → entAt s st m lf = some (b, l, nx) → m < nx → l < 18446744073709551616 → Chain s st n least (es ++ [(m, b)]) nx l
  | [], n, least, m, lf, h, h1, h2, h3 => by
    obtain ⟨rfl, rfl⟩ := h
    exact ⟨rfl, l, nx, h1, h2, h3, rfl, rfl⟩
  | e :: t, n, least, m, lf, h, h1, h2, h3 => by
    obtain ⟨k1, l', nx', k2, k3, k4, k5⟩ := h
    exact ⟨k1, l', nx', k2, k3, k4, k5.snoc h1 h2 h3⟩
theorem Chain.len {s : LSt} {st : DSt} : ∀ {es : List (Nat × List UInt8)} {n least m lf : Nat}, Chain s st n least es m lf → n + es.length ≤ m
  | [], n, least, m, lf, h => by have := h.1; simp; omega
  | e :: t, n, least, m, lf, h => by
    obtain ⟨_, l, nx, _, h3, _, h5⟩ := h
    have := h5.len
    simp only [List.length_cons]
    omega

/-- The disk behind k sectors of an entry: those are laid, all else is as it was. -/
theorem apTo_calm {s : LSt} {l : List UInt8} {need : Nat} {st : DSt} (h : st.calm) (hr : 0 < s.room) (hn : need ≤ s.room) (hfit : s.from_ + 2 + s.room ≤ st.now.length) : ∀ k, k ≤ need → (apTo s l need st k).1 = 0 ∧ (apTo s l need st k).2.calm ∧ (apTo s l need st k).2.safe = st.safe ∧ (apTo s l need st k).2.now.length = st.now.length ∧
    (∀ i, i < k → (apTo s l need st k).2.now[s.place (s.next + i)]? = some (pad (pcBytes (s.next + i) s.life (decide (i + 1 = need)) (chunkL l i)), false)) ∧
    (∀ p, (∀ i, i < k → p ≠ s.place (s.next + i)) → (apTo s l need st k).2.now[p]? = st.now[p]?) ∧ (apTo s l need st k).2.waits = st.waits ++ (List.range k).map (fun i => (s.place (s.next + i), pad (pcBytes (s.next + i) s.life (decide (i + 1 = need)) (chunkL l i)))) ∧ (apTo s l need st k).2.steps = st.steps + k
  | 0, _ => ⟨rfl, h, rfl, rfl, fun i hi => by omega, fun p _ => rfl, by simp [apTo], rfl⟩
  | k + 1, hk => by
    obtain ⟨h1, h2, h3, h4, h5, h6, h7, h8⟩ := apTo_calm h hr hn hfit k (by omega)
    rw [apTo_succ h1, wr_calm h2]
    have hlt : s.place (s.next + k) < (apTo s l need st k).2.now.length := by
      have := Nat.mod_lt (s.next + k) hr
      unfold LSt.place
      omega
    refine ⟨rfl, ⟨rfl, rfl⟩, h3, by show (List.set _ _ _).length = _; rw [List.length_set]; exact h4, fun i hi => ?_, fun p hp => ?_, ?_, by show _ + 1 = _; omega⟩
    · show (List.set _ _ _)[_]? = _
      by_cases hik : i = k
      · subst hik
        rw [List.getElem?_set_self hlt]
      · have hne : s.place (s.next + k) ≠ s.place (s.next + i) := fun e => by
          unfold LSt.place at e
          have := mod_window (a := s.next) (r := s.room) (x := s.next + k) (y := s.next + i) (by omega) (by omega) (by omega)
          omega
        rw [List.getElem?_set_ne hne]
        exact h5 i (by omega)
    · show (List.set _ _ _)[_]? = _
      rw [List.getElem?_set_ne (fun e => hp k (by omega) e.symm)]
      exact h6 p fun i hi => hp i (by omega)
    · show _ ++ _ = _
      rw [h7, List.range_succ, List.map_append, List.append_assoc]
      rfl

/-- A log that is well: on a disk that is up, its master counts, its entries stand, and what stands behind them is of elder lives. -/
structure LW (s : LSt) (st : DSt) (es : List (Nat × List UInt8)) (lf : Nat) : Prop where
  calm : st.calm
  mst : Masters s.from_ st.now ⟨s.writing, s.life, s.first, s.least⟩
  ch : Chain s st s.first s.least es s.next lf
  lfl : lf ≤ s.life
  lsl : s.least ≤ s.life
  le1 : s.first ≤ s.next
  le2 : s.next ≤ s.first + s.room
  r0 : 0 < s.room
  r1 : s.room < 65536
  fit : s.from_ + 2 + s.room ≤ st.now.length
  all : ∀ k p, look s st k = some p → p.life ≤ s.life
  new : ∀ k p, s.next ≤ k → look s st k = some p → p.life < s.life
  stop : entAt s st s.next lf = none
theorem Masters.keep {f : Nat} {now now' : List Sec} {m : Mst} (h : Masters f now m) (hk : ∀ i, i < 2 → now'[f + i]? = now[f + i]?) : Masters f now' m := by
  obtain ⟨h1, h2, b, t, h3, h4⟩ := h
  exact ⟨h1, by rw [hk _ (Nat.mod_lt _ (by omega))]; exact h2, b, t, by rw [hk _ (Nat.mod_lt _ (by omega))]; exact h3, h4⟩
theorem entAt_none {s : LSt} {st : DSt} {n least : Nat} (h : ∀ p, look s st n = some p → p.life < least) : entAt s st n least = none := by
  unfold entAt
  cases hl : look s st n with
  | none => exact entW_none (by omega) hl
  | some p => exact entW_bad (by omega) hl (.inl (h p hl))
/-- An entry more. -/
theorem LW.append {s : LSt} {st : DSt} {es : List (Nat × List UInt8)} {lf : Nat} (h : LW s st es lf) (b : List UInt8) (hroom : needN b.length ≤ s.room - (s.next - s.first)) (hnx : s.next + 100000 < 18446744073709551616) (hlf : s.life ≤ 1099511627776) :
    (apTo s b (needN b.length) st (needN b.length)).1 = 0 ∧ LW { s with next := s.next + needN b.length } (apTo s b (needN b.length) st (needN b.length)).2 (es ++ [(s.next, b)]) s.life := by
  have hr0 := h.r0
  have hr1 := h.r1
  have hl1 := h.le1
  have hl2 := h.le2
  have hn0 := needN_pos b.length
  obtain ⟨h1, h2, h3, h4, h5, h6, h7, h8⟩ := apTo_calm (s := s) (l := b) h.calm h.r0 (need := needN b.length) (by omega) h.fit (needN b.length) (Nat.le_refl _)
  generalize hst : (apTo s b (needN b.length) st (needN b.length)).2 = st' at *
  have hdn : st'.down = st.down := by rw [h2.2, h.calm.2]
  have hold : ∀ (s' : LSt), s'.from_ = s.from_ → s'.room = s.room → ∀ j, s.first ≤ j → j < s.next → look s' st' j = look s st j := fun s' e1 e2 j a c => by
    refine look_now e1 e2 hdn (h6 _ fun i hi e => ?_)
    unfold LSt.place at e
    have := mod_window (a := s.first) (r := s.room) (x := j) (y := s.next + i) (by omega) (by omega) (by omega)
    omega
  have hck : ∀ i, (chunkL b i).length ≤ 480 := fun i => by unfold chunkL; rw [List.length_take]; omega
  have hlast : ∀ i, i < needN b.length → decide (i + 1 = needN b.length) = true ∨ (chunkL b i).length = 480 := fun i hi => by
    by_cases he : i + 1 = needN b.length
    · exact .inl (decide_eq_true he)
    · refine .inr ?_
      unfold chunkL
      rw [List.length_take, List.length_drop]
      unfold needN at hi he
      by_cases h0 : b.length = 0
      · rw [if_pos h0] at hi he
        omega
      · rw [if_neg h0] at hi he
        omega
  have hget : ∀ i, i < needN b.length → ∀ k, s.place k = s.place (s.next + i) → look s st' k = readPc (pad (pcBytes (s.next + i) s.life (decide (i + 1 = needN b.length)) (chunkL b i))) k := fun i hi k hk => by
    unfold look
    rw [hk, got_calm h2 (h5 i hi)]
  have hnew : ∀ i, i < needN b.length → look s st' (s.next + i) = some ⟨s.life, decide (i + 1 = needN b.length), chunkL b i⟩ := fun i hi => by
    rw [hget i hi _ rfl]
    exact readPc_laid _ _ _ _ (by omega) hlf (hck i) (hlast i hi)
  -- any number's sector: as it was, or of the new entry
  have hany : ∀ k, look s st' k = look s st k ∨ (∃ i, i < needN b.length ∧ k = s.next + i) ∨ look s st' k = none := fun k => by
    by_cases hp : ∃ i, i < needN b.length ∧ s.place k = s.place (s.next + i)
    · obtain ⟨i, hi, e⟩ := hp
      by_cases hk : k = s.next + i
      · exact .inr (.inl ⟨i, hi, hk⟩)
      · refine .inr (.inr ?_)
        rw [hget i hi k e]
        exact readPc_ne _ _ _ _ (by omega) hlf (hck i) k hk
    · exact .inl (look_now rfl rfl hdn (h6 _ fun i hi e => hp ⟨i, hi, e⟩))
  have hn' : ∀ k p, s.next + needN b.length ≤ k → look s st' k = some p → p.life < s.life := fun k p hk hp => by
    rcases hany k with e | ⟨i, hi, e⟩ | e
    · rw [e] at hp
      exact h.new k p (by omega) hp
    · omega
    · rw [e] at hp
      cases hp
  refine ⟨h1, h2, h.mst.keep fun i hi => h6 _ fun j _ e => by have e' : s.from_ + i = s.from_ + 2 + (s.next + j) % s.room := e; omega, ?_, Nat.le_refl _, h.lsl, by show s.first ≤ s.next + needN b.length; omega, by show s.next + needN b.length ≤ s.first + s.room; omega, h.r0, h.r1, by rw [h4]; exact h.fit, fun k p hp => ?_, fun k p hk hp => hn' k p hk hp, ?_⟩
  · have hch : Chain { s with next := s.next + needN b.length } st' s.first s.least es s.next lf   := Chain.same (s := s) (s' := { s with next := s.next + needN b.length }) (st := st) rfl h.ch fun j a c => hold { s with next := s.next + needN b.length } rfl rfl j a c
    refine Chain.snoc (m := s.next) (lf := lf) hch ?_ (by show s.next < s.next + needN b.length; omega) (by omega)
    have := entW_laid (lk := look s st') (n := s.next) (least := lf) (life := s.life) (b := b) h.lfl hnew (needN b.length - 1) 0 (s.room + 1) 0 (by omega) (by omega) (.inl rfl)
    rw [Nat.zero_mul, List.take_zero] at this
    exact this
  · have hp' : look s st' k = some p := hp
    rcases hany k with e | ⟨i, hi, e⟩ | e
    · rw [e] at hp'
      exact h.all k p hp'
    · subst e
      rw [hnew i hi] at hp'
      cases hp'
      exact Nat.le_refl _
    · rw [e] at hp'
      cases hp'
  · exact entAt_none fun p hp => hn' _ p (Nat.le_refl _) hp
/-- What does not touch the disk's sectors. -/
theorem LW.turn {s s' : LSt} {st st' : DSt} {es : List (Nat × List UInt8)} {lf : Nat} (h : LW s st es lf) (hc : st'.calm) (hn : st'.now = st.now) (hs : ∃ x, s' = { s with safe := x }) : LW s' st' es lf := by
  obtain ⟨x, rfl⟩ := hs
  have hlk : ∀ k, look { s with safe := x } st' k = look s st k := fun k => look_now rfl rfl (by rw [hc.2, h.calm.2]) (by rw [hn])
  have hch : Chain { s with safe := x } st' s.first s.least es s.next lf := Chain.same (s := s) (s' := { s with safe := x }) (st := st) rfl h.ch fun j _ _ => hlk j
  refine ⟨hc, by show Masters s.from_ st'.now _; rw [hn]; exact h.mst, hch, h.lfl, h.lsl, h.le1, h.le2, h.r0, h.r1, by rw [hn]; exact h.fit, fun k p hp => h.all k p (by rw [← hlk]; exact hp), fun k p hk hp => h.new k p hk (by rw [← hlk]; exact hp), ?_⟩
  have := h.stop
  unfold entAt at this ⊢
  rw [show look { s with safe := x } st' = look s st from funext hlk]
  exact this
theorem LW.force {s : LSt} {st : DSt} {es : List (Nat × List UInt8)} {lf : Nat} (h : LW s st es lf) : (forceS s st).1 = 0 ∧ (forceS s st).2.1 = { s with safe := s.next } ∧ LW (forceS s st).2.1 (forceS s st).2.2 es lf ∧ (s.safe ≠ s.next → (forceS s st).2.2.safe = st.now ∧ (forceS s st).2.2.waits = []) ∧ (forceS s st).2.2.now = st.now ∧ (forceS s st).2.2.steps ≤ st.steps + 1 := by
  unfold forceS
  by_cases he : s.safe = s.next
  · rw [if_pos he]
    exact ⟨rfl, by cases s; simp only at he; subst he; rfl, h, fun hn => absurd he hn, rfl, Nat.le_succ _⟩
  · rw [if_neg he, sy_calm h.calm]
    exact ⟨rfl, rfl, h.turn ⟨rfl, rfl⟩ rfl ⟨_, rfl⟩, fun _ => ⟨rfl, rfl⟩, rfl, Nat.le_refl _⟩
end Go.Proofs.Ytepfckckplbjjaa
