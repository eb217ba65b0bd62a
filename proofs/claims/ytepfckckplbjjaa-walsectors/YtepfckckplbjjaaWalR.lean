/- The log, plainly: what an opening comes to. Own lemmas, no statement. -/
import Derived.Test.YtepfckckplbjjaaWalQ
namespace Go.Proofs.Ytepfckckplbjjaa

theorem endW_chain {s : LSt} {st : DSt} : ∀ {es : List (Nat × List UInt8)} {n least m lf : Nat} (fuel life0 : Nat), Chain s st n least es m lf → entAt s st m lf = none → es.length < fuel → endW s st fuel n life0 least = (m, if es = [] then life0 else lf)
  | [], n, least, m, lf, fuel, life0, h, hs, _ => by
    obtain ⟨rfl, rfl⟩ := h
    rw [endW_none hs, if_pos rfl]
  | e :: t, n, least, m, lf, fuel, life0, h, hs, hf => by
    obtain ⟨_, l, nx, h2, _, _, h5⟩ := h
    simp only [List.length_cons] at hf
    rw [endW_some (by omega) h2, endW_chain (fuel - 1) l h5 hs (by omega)]
    cases t with
    | nil => rw [if_pos rfl, if_neg (List.cons_ne_nil _ _), h5.2]
    | cons a t => rw [if_neg (List.cons_ne_nil _ _), if_neg (List.cons_ne_nil _ _)]
/-- What an opening finds: the master that counts, the entries from its first one on. -/
structure Finds (from_ room : Nat) (st : DSt) (m : Mst) (es : List (Nat × List UInt8)) (nx lf : Nat) : Prop where
  calm : st.calm
  lat : latTo (s00 from_ room) st 2 = .ok m
  ch : Chain (s00 from_ room) st m.first m.least es nx lf
  stop : entAt (s00 from_ room) st nx lf = none
  all : ∀ k p, look (s00 from_ room) st k = some p → p.life ≤ m.life
  b1 : m.writing + 1 < 18446744073709551616
  b2 : m.life < 1099511627776
  b3 : m.first ≤ 4611686018427387903
  b4 : m.least ≤ m.life
  b5 : lf ≤ m.life
  b6 : nx ≤ m.first + room
  r0 : 0 < room
  r1 : room < 65536
  fit : from_ + 2 + room ≤ st.now.length
  old : ∃ b t, st.now[from_ + (m.writing + 1 + 1) % 2]? = some (b, t) ∧ (t = true ∨ readM b ((m.writing + 1 + 1) % 2) = none ∨ ∃ m', readM b ((m.writing + 1 + 1) % 2) = some m' ∧ m'.writing < m.writing + 1)
/-- The log, opened. -/
def opS (from_ room : Nat) (m : Mst) (nx : Nat) : LSt := ⟨from_, room, m.writing + 1, m.life + 1, m.first, if nx = m.first then m.life + 1 else m.least, nx, nx⟩
def opD (from_ : Nat) (m : Mst) (nx : Nat) (st : DSt) : DSt :=
  ⟨st.now.set (from_ + (m.writing + 1) % 2) (pad (mBytes ⟨m.writing + 1, m.life + 1, m.first, if nx = m.first then m.life + 1 else m.least⟩), false),
   st.now.set (from_ + (m.writing + 1) % 2) (pad (mBytes ⟨m.writing + 1, m.life + 1, m.first, if nx = m.first then m.life + 1 else m.least⟩), false), [], 0, false, st.steps + 2⟩
theorem Finds.open {from_ room : Nat} {st : DSt} {m : Mst} {es : List (Nat × List UInt8)} {nx lf : Nat} (h : Finds from_ room st m es nx lf) :
    ∃ s1 m1, openL from_ room st = .ok (s1, m1) ∧ leadS s1 st m1 = (0, opS from_ room m nx, opD from_ m nx st) := by
  have hlen := h.ch.len
  have hend : endAt (s00 from_ room) st m.first m.least = (nx, if es = [] then 0 else lf) := endW_chain (room + 1) 0 h.ch h.stop (by have := h.b6; omega)
  have hmax : max (max m.life m.least) (if es = [] then 0 else lf) = m.life := by
    have := h.b4
    have := h.b5
    split <;> omega
  have hop : openL from_ room st = .ok (⟨from_, room, m.writing, m.life, m.first, m.least, nx, 0⟩, reb ⟨from_, room, m.writing, m.life, m.first, m.least, nx, 0⟩ (m.life + 1)) := by
    unfold openL
    rw [h.lat]
    simp only
    rw [hend]
    simp only
    rw [hmax, if_neg (by have := h.b2; omega)]
  refine ⟨_, _, hop, ?_⟩
  rw [leadS_calm h.calm]
  rfl
theorem opS_next (from_ room : Nat) (m : Mst) (nx : Nat) : (opS from_ room m nx).next = nx := rfl
theorem Finds.well {from_ room : Nat} {st : DSt} {m : Mst} {es : List (Nat × List UInt8)} {nx lf : Nat} (h : Finds from_ room st m es nx lf) : ∃ lf', LW (opS from_ room m nx) (opD from_ m nx st) es lf' := by
  have hb1 := h.b1
  have hb2 := h.b2
  have hb3 := h.b3
  have hb4 := h.b4
  have hr0 := h.r0
  have hfit := h.fit
  have hle := h.ch.le
  have hdn : (opD from_ m nx st).down = st.down := h.calm.2.symm
  have hlk : ∀ s' : LSt, s'.from_ = from_ → s'.room = room → ∀ k, look s' (opD from_ m nx st) k = look (s00 from_ room) st k := fun s' e1 e2 k => by
    refine look_now e1 e2 hdn ?_
    show (List.set _ _ _)[_]? = _
    refine List.getElem?_set_ne fun e => ?_
    have e' : from_ + (m.writing + 1) % 2 = from_ + 2 + k % room := e
    omega
  have hal : ∀ k p, look (opS from_ room m nx) (opD from_ m nx st) k = some p → p.life ≤ m.life := fun k p hp => h.all k p (by rw [← hlk (opS from_ room m nx) rfl rfl]; exact hp)
  have hli : from_ + (m.writing + 1) % 2 < st.now.length := by omega
  have hM : Masters from_ (opD from_ m nx st).now ⟨m.writing + 1, m.life + 1, m.first, if nx = m.first then m.life + 1 else m.least⟩ := by
    refine ⟨⟨by show 0 < m.writing + 1; omega, hb1, by show m.life + 1 ≤ _; omega, hb3, by show (if nx = m.first then m.life + 1 else m.least) ≤ _; split <;> omega⟩, ?_, ?_⟩
    · show (List.set _ _ _)[_]? = _
      exact List.getElem?_set_self hli
    · obtain ⟨b, t, h1, h2⟩ := h.old
      refine ⟨b, t, ?_, h2⟩
      show (List.set _ _ _)[_]? = _
      rw [List.getElem?_set_ne (by show from_ + (m.writing + 1) % 2 ≠ from_ + (m.writing + 1 + 1) % 2; omega)]
      exact h1
  by_cases he : es = []
  · subst he
    have hnx : nx = m.first := h.ch.1.symm
    have hopl : (opS from_ room m nx).least = m.life + 1 := if_pos hnx
    refine ⟨m.life + 1, ⟨rfl, rfl⟩, hM, ⟨hnx.symm, hopl⟩, Nat.le_refl _, by rw [hopl]; exact Nat.le_refl _, by show m.first ≤ nx; omega, by show nx ≤ m.first + room; omega, hr0, h.r1, by show _ ≤ (List.set _ _ _).length; rw [List.length_set]; exact hfit, fun k p hp => Nat.le_trans (hal k p hp) (Nat.le_succ _), fun k p _ hp => Nat.lt_succ_of_le (hal k p hp), ?_⟩
    exact entAt_none fun p hp => Nat.lt_succ_of_le (hal _ p hp)
  · have hlt := hle.2 he
    have hopl : (opS from_ room m nx).least = m.least := if_neg (by omega)
    refine ⟨lf, ⟨rfl, rfl⟩, hM, ?_, Nat.le_trans h.b5 (Nat.le_succ _), by rw [hopl]; exact Nat.le_trans hb4 (Nat.le_succ _), hle.1, h.b6, hr0, h.r1, by show _ ≤ (List.set _ _ _).length; rw [List.length_set]; exact hfit, fun k p hp => Nat.le_trans (hal k p hp) (Nat.le_succ _), fun k p _ hp => Nat.lt_succ_of_le (hal k p hp), ?_⟩
    · rw [hopl]
      exact Chain.same (s := s00 from_ room) (s' := opS from_ room m nx) (st := st) rfl h.ch fun j _ _ => hlk _ rfl rfl j
    · have := h.stop
      unfold entAt at this ⊢
      rw [show look (opS from_ room m nx) (opD from_ m nx st) = look (s00 from_ room) st from funext (hlk _ rfl rfl)]
      exact this
/-- A new disk. -/
theorem finds_fresh (N from_ room : Nat) (hr : 0 < room) (hr1 : room < 65536) (hfit : from_ + 2 + room ≤ N) : Finds from_ room (DSt.fresh N) m0 [] 0 0 := by
  have hz : ∀ i, i < N → (DSt.fresh N).now[i]? = some (zeros, false) := fun i hi => by
    show (List.replicate N (zeros, false))[i]? = _
    rw [List.getElem?_replicate, if_pos hi]
  have hlk : ∀ k, look (s00 from_ room) (DSt.fresh N) k = none := fun k => by
    unfold look
    have hp : (s00 from_ room).place k < N := by
      have := Nat.mod_lt k hr
      show from_ + 2 + k % room < N
      omega
    rw [got_calm ⟨rfl, rfl⟩ (hz _ hp)]
    exact readPc_zeros k
  have hst : ∀ k, k < 2 → ∀ c, latStep (s00 from_ room) (DSt.fresh N) k c = .ok c := fun k hk c => by
    unfold latStep
    rw [got_calm ⟨rfl, rfl⟩ (hz _ (by show from_ + k < N; omega))]
    simp only
    rw [readM_zeros]
  refine ⟨⟨rfl, rfl⟩, ?_, ⟨rfl, rfl⟩, entAt_none (fun p hp => by rw [hlk] at hp; cases hp), (fun k p hp => by rw [hlk] at hp; cases hp), by decide, by decide, by decide, by decide, by decide, by show 0 ≤ 0 + room; omega, hr, hr1, by show _ ≤ (List.replicate N (zeros, false)).length; rw [List.length_replicate]; exact hfit, ⟨zeros, false, hz _ (by show from_ + (0 + 1 + 1) % 2 < N; omega), .inr (.inl (readM_zeros _))⟩⟩
  have e1 : latTo (s00 from_ room) (DSt.fresh N) 1 = latStep (s00 from_ room) (DSt.fresh N) 0 m0 := rfl
  have e2 : latTo (s00 from_ room) (DSt.fresh N) 2 = match latTo (s00 from_ room) (DSt.fresh N) 1 with | .error c => .error c | .ok m => latStep (s00 from_ room) (DSt.fresh N) 1 m := rfl
  rw [e2, e1, hst 0 (by omega)]
  exact hst 1 (by omega) m0
/-- A log that is well, opened anew. -/
theorem LW.finds {s : LSt} {st st' : DSt} {es : List (Nat × List UInt8)} {lf : Nat} (h : LW s st es lf) (hc : st'.calm) (hn : st'.now = st.now) (hw : s.writing + 1 < 18446744073709551616) (hl : s.life < 1099511627776) : Finds s.from_ s.room st' ⟨s.writing, s.life, s.first, s.least⟩ es s.next lf := by
  have hlk : ∀ k, look (s00 s.from_ s.room) st' k = look s st k := fun k => look_now rfl rfl (by rw [hc.2, h.calm.2]) (by rw [hn])
  have hM : Masters s.from_ st'.now ⟨s.writing, s.life, s.first, s.least⟩ := by rw [hn]; exact h.mst
  refine ⟨hc, latTo_of hc hM, Chain.same (s := s) (s' := s00 s.from_ s.room) (st := st) rfl h.ch fun j _ _ => hlk j, ?_, fun k p hp => h.all k p (by rw [← hlk]; exact hp), hw, hl, h.mst.1.2.2.2.1, h.lsl, h.lfl, h.le2, h.r0, h.r1, by rw [hn]; exact h.fit, ?_⟩
  · have := h.stop
    unfold entAt at this ⊢
    rw [show look (s00 s.from_ s.room) st' = look s st from funext hlk]
    exact this
  · refine ⟨pad (mBytes ⟨s.writing, s.life, s.first, s.least⟩), false, ?_, .inr (.inr ⟨⟨s.writing, s.life, s.first, s.least⟩, readM_laid _ hM.1 _ ?_, Nat.lt_succ_self _⟩)⟩
    · rw [show (s.writing + 1 + 1) % 2 = s.writing % 2 by omega]
      exact hM.2.1
    · show s.writing % 2 = (s.writing + 1 + 1) % 2
      omega
end Go.Proofs.Ytepfckckplbjjaa
