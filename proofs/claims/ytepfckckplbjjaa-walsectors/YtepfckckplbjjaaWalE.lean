/- The log: what stands on the sectors behind two entries. Own lemmas, no statement. -/
import Derived.Test.YtepfckckplbjjaaWalF
namespace Go.Proofs.Ytepfckckplbjjaa
open Go.ChangeShapes Go.WideShapes Go.ChangeAt Go.RowKit

/-- The n-th sector of two entries. -/
def secL (la lb : List UInt8) (ka kb n : Nat) : List UInt8 := pcBytes n 1 (if n < ka then decide (n + 1 = ka) else decide (n - ka + 1 = kb)) (if n < ka then chunkL la n else chunkL lb (n - ka))
theorem two_secs {st : DSt} {la lb : List UInt8} {ka kb w r : Nat} (hc : st.calm) (hr : ka + kb ≤ r) (hka : 0 < ka) (hfit : 2 + r ≤ st.now.length) :
    (apTo ⟨0, r, w, 1, 0, 1, 0 + ka, 0⟩ lb kb (apTo (s10 0 r) la ka st ka).2 kb).2.calm ∧ ∀ n, n < ka + kb → (apTo ⟨0, r, w, 1, 0, 1, 0 + ka, 0⟩ lb kb (apTo (s10 0 r) la ka st ka).2 kb).2.now[2 + n]? = some (pad (secL la lb ka kb n), false) := by
  obtain ⟨-, a2, -, a4, a5, a6, -, -⟩ := apTo_calm (s := s10 0 r) (l := la) (need := ka) hc (by show 0 < r; omega) (by show ka ≤ r; omega) (by show 0 + 2 + r ≤ _; omega) ka (Nat.le_refl _)
  generalize (apTo (s10 0 r) la ka st ka).2 = st1 at *
  obtain ⟨-, b2, -, -, b5, b6, -, -⟩ := apTo_calm (s := ⟨0, r, w, 1, 0, 1, 0 + ka, 0⟩) (l := lb) (need := kb) a2 (by show 0 < r; omega) (by show kb ≤ r; omega) (by show 0 + 2 + r ≤ _; omega) kb (Nat.le_refl _)
  refine ⟨b2, fun n hn => ?_⟩
  have hpl : ∀ k, k < r → 0 + 2 + k % r = 2 + k := fun k hk => by rw [Nat.mod_eq_of_lt hk]
  by_cases h : n < ka
  · rw [b6 (2 + n) (fun i hi e => ?_)]
    · have := a5 n h
      rw [show (s10 0 r).place ((s10 0 r).next + n) = 2 + n by show 0 + 2 + (0 + n) % r = 2 + n; rw [Nat.zero_add n]; exact hpl n (by omega)] at this
      rw [this]
      unfold secL
      rw [if_pos h, if_pos h]
      show some (pad (pcBytes (0 + n) 1 _ _), false) = _
      rw [Nat.zero_add]
    · have e' : 2 + n = 0 + 2 + (0 + ka + i) % r := e
      rw [hpl _ (by omega)] at e'
      omega
  · have := b5 (n - ka) (by omega)
    rw [show (⟨0, r, w, 1, 0, 1, 0 + ka, 0⟩ : LSt).place ((⟨0, r, w, 1, 0, 1, 0 + ka, 0⟩ : LSt).next + (n - ka)) = 2 + n by show 0 + 2 + (0 + ka + (n - ka)) % r = 2 + n; rw [show 0 + ka + (n - ka) = n by omega]; exact hpl n (by omega)] at this
    rw [this]
    unfold secL
    rw [if_neg h, if_neg h]
    show some (pad (pcBytes (0 + ka + (n - ka)) 1 _ _), false) = _
    rw [show 0 + ka + (n - ka) = n by omega]
theorem Src.upto {w : World} {aj : Option Addr} {m c : Nat} {l : List UInt8} (h : Src w (.slice aj m c) l) (k : Nat) (hk : k ≤ m) : Src w (.slice aj k c) (l.take k) := by
  obtain ⟨rfl, h1, h2, h3⟩ := h.at
  have e : (l.take k).length = k := by rw [List.length_take]; omega
  refine ⟨aj, c, by rw [e], by omega, h2, fun hn => ?_, fun ad had j u hu => ?_⟩
  · obtain ⟨ha, hb⟩ := h3.1 hn
    exact ⟨by rw [ha]; simp, hb⟩
  · refine h3.2 ad had j u ?_
    unfold bv at hu ⊢
    rw [List.getElem?_map, List.getElem?_take] at hu
    rw [List.getElem?_map]
    split at hu
    · exact hu
    · cases hu
theorem slice8_to (uk : Option Addr) (km kc i : Nat) (h1 : i ≤ km) (h2 : km ≤ kc) (hn : uk = none → kc = 0) (W : World) : (Instr.slice 41 (.slice uk km kc) none (some (.int .i64 (i : Int))) none).run Try.prog W = .ok (.slice uk i kc) W := by
  cases uk with
  | none =>
    have := hn rfl
    subst this
    have : km = 0 := by omega
    subst this
    have : i = 0 := by omega
    subst this
    go_simp
  | some ad =>
    have a1 : (i : Int) ≤ (kc : Int) := by omega
    go_simp


theorem slice8_from (uk : Option Addr) (km kc i : Nat) (h1 : i ≤ km) (h2 : km ≤ kc) (hn : uk = none → kc = 0) (W : World) : (Instr.slice 41 (.slice uk km kc) (some (.int .i64 (i : Int))) none none).run Try.prog W = .ok (.slice (if kc = i then uk else uk.map (·.add i)) (km - i) (kc - i)) W := by
  cases uk with
  | none =>
    have := hn rfl
    subst this
    have : km = 0 := by omega
    subst this
    have : i = 0 := by omega
    subst this
    go_simp
  | some ad =>
    have a1 : (i : Int) ≤ (kc : Int) := by omega
    go_simp
theorem pad_take (b : List UInt8) : (pad b).take b.length = b := by unfold pad; rw [List.take_left]
/-- What the law lays, in its own words. -/
theorem pcBytes_law (q : Nat) (T : List UInt8) (last : Bool) : join (join (snoc (join (join [] (enc (q + 1))) (enc 1)) (if last then 1 else 0)) (enc T.length)) T = pcBytes q 1 last T := by
  cases last <;> rfl
theorem chunk_of (L : List UInt8) (j k : Nat) (h : k = min (L.length - 480 * j) 480) : (L.drop (480 * j)).take k = chunkL L j := by
  unfold chunkL
  rw [Nat.mul_comm j 480, h, List.take_eq_take_iff, List.length_drop]
  omega
/-- A sector that was read: its first bytes. -/
theorem read_first {w : World} {b : Nat} {s : List UInt8} (h : Blk w b (bv (pad s)).toArray 5) (hs : s.length ≤ 512) : Src w (.slice (some ⟨b, 0, none⟩) s.length 512) s := by
  have hl := pad_length hs
  have h0 : Src w (.slice (some ⟨b, 0, none⟩) 512 512) (pad s) := by
    have := Blk.src (k := 512) (c := 512) (l := pad s) h (by omega) (Nat.le_refl _) (by unfold maxLen; omega)
    rw [List.take_of_length_le (by omega)] at this
    exact this
  have := h0.upto s.length hs
  rw [pad_take] at this
  exact this
theorem needN_2000 {n : Nat} (h : n ≤ 2000) : needN n ≤ 5 := by
  unfold needN
  split <;> omega
theorem mBytes_nine : (pad (mBytes ⟨1, 1, 0, 1⟩)).take 9 = [4, 100, 111, 99, 107, 1, 1, 0, 1] := by rfl
end Go.Proofs.Ytepfckckplbjjaa
