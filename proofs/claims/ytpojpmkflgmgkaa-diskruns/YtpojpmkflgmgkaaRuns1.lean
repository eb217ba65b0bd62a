/- DiskRuns: the law's own lists of sectors and of operations. Own lemmas, no statement. -/
import Derived.Test.YtpojpmkflgmgkaaTwo
namespace Go.Proofs.Ytpojpmkflgmgkaa
open Go.ChangeShapes Go.WideShapes Go.ChangeAt Go.RowKit

abbrev LSec := ByteArray × Bool
def lv (xs : List LSec) : List Value := xs.flatMap fun p => [.string p.1, .bool p.2]
theorem lv_length (xs : List LSec) : (lv xs).length = xs.length * 2 := by
  induction xs with
  | nil => rfl
  | cons p t ih => simp [lv] at ih ⊢; omega
theorem lv_at (xs : List LSec) : ∀ (i : Nat) (p : LSec), xs[i]? = some p → (lv xs)[i * 2]? = some (.string p.1) ∧ (lv xs)[i * 2 + 1]? = some (.bool p.2) := by
  induction xs with
  | nil => intro i p h; simp at h
  | cons q t ih =>
    intro i p h
    cases i with
    | zero => simp at h; subst h; exact ⟨rfl, rfl⟩
    | succ i =>
      have := ih i p (by simpa using h)
      rw [show (i + 1) * 2 = i * 2 + 2 by omega]
      exact this
theorem lv_one (xs : List LSec) : ∀ u ∈ lv xs, u.oneCell' = true := by
  intro u hu
  simp only [lv, List.mem_flatMap] at hu
  obtain ⟨p, _, hp⟩ := hu
  simp at hp
  rcases hp with rfl | rfl <;> rfl

/-- A list of the law's sectors, in a block that M says. -/
structure LSecs (w : World) (M : Nat → Prop) (b n c : Nat) (xs : List LSec) : Prop where
  len : xs.length = n
  le : n ≤ c
  cm : c ≤ maxLen
  mine : M b
  cells : ∃ cur, Blk w b cur 33 ∧ ∀ i p, xs[i]? = some p → cur[i * 2]? = some (.string p.1) ∧ cur[i * 2 + 1]? = some (.bool p.2)
section
variable {w w' : World} {M M' S : Nat → Prop} {b n c : Nat} {xs : List LSec}
theorem LSecs.lt (h : LSecs w M b n c xs) : b < w.heap.size := by obtain ⟨cur, hB, _⟩ := h.cells; exact hB.lt
theorem LSecs.chg (h : LSecs w M b n c xs) (k : Chg S w w') (hS : ¬ S b) : LSecs w' M b n c xs := by
  obtain ⟨cur, hB, hc⟩ := h.cells
  exact ⟨h.len, h.le, h.cm, h.mine, cur, hB.chg k hS, hc⟩
theorem LSecs.below (h : LSecs w M b n c xs) (k : Below w.heap.size w w') : LSecs w' M b n c xs := by
  obtain ⟨cur, hB, hc⟩ := h.cells
  exact ⟨h.len, h.le, h.cm, h.mine, cur, hB.of (k.block _ hB.lt), hc⟩
theorem LSecs.mono (h : LSecs w M b n c xs) (hM : M' b) : LSecs w M' b n c xs := ⟨h.len, h.le, h.cm, hM, h.cells⟩
theorem LSecs.get (h : LSecs w M b n c xs) {i : Nat} {p : LSec} (hi : xs[i]? = some p) : w.cell? ⟨b, i * 2, none⟩ = some (.string p.1) ∧ w.cell? ⟨b, i * 2 + 1, none⟩ = some (.bool p.2) := by
  obtain ⟨cur, hB, hc⟩ := h.cells
  obtain ⟨h1, h2⟩ := hc i p hi
  exact ⟨(hB.cell _).trans h1, (hB.cell _).trans h2⟩
end
theorem infoL : (Try.prog.info? 33).map (fun i => (i.zero, i.size, i.bytes)) = some (some (.agg #[.string ByteArray.empty, .bool false]), 2, 24) := by kernel_rfl
theorem infoO : (Try.prog.info? 30).map (fun i => (i.zero, i.size, i.bytes)) = some (some (.agg #[.int .i64 0, .int .i64 0, .slice none 0 0, .slice none 0 0, .int .i64 0]), 5, 72) := by kernel_rfl
def blanksL (n : Nat) : Array Value := madeCells #[.string ByteArray.empty, .bool false] (n * 2)
theorem blanksL_at (n i : Nat) (h : i < n) : (blanksL n)[i * 2]? = some (.string ByteArray.empty) ∧ (blanksL n)[i * 2 + 1]? = some (.bool false) := by
  unfold blanksL madeCells
  refine ⟨?_, ?_⟩
  · rw [Array.getElem?_map, Array.getElem?_range, if_pos (by omega)]
    simp only [Option.map_some]
    rw [show i * 2 % (#[(.string ByteArray.empty), (.bool false)] : Array Value).size = 0 by simp]
    rfl
  · rw [Array.getElem?_map, Array.getElem?_range, if_pos (by omega)]
    simp only [Option.map_some]
    rw [show (i * 2 + 1) % (#[(.string ByteArray.empty), (.bool false)] : Array Value).size = 1 by simp]
    rfl
theorem run_makeL (n : Nat) (hn : n ≤ 15) (w : World) : (Instr.makeSlice 26 (.int .i64 (n : Int)) (.int .i64 (n : Int))).run Try.prog w = .ok (.slice (some ⟨w.heap.size, 0, none⟩) n n) (w.alloc (.cells (blanksL n) 33)) := by
  obtain ⟨i0, hi, hz0, hz1, hz2⟩ := info_parts infoL
  have := run_make (P := Try.prog) w 26 33 i0 (.agg #[.string ByteArray.empty, .bool false]) Try.underlying26 hi hz0 .i64 .i64 n n (by omega) (by omega) (by rw [hz2]; omega) (by omega)
  rw [this, hz1]
  rfl
theorem blanksL_secs {w : World} {b n : Nat} {M : Nat → Prop} (h : Blk w b (blanksL n) 33) (hM : M b) (hn : n ≤ 15) : LSecs w M b n n (List.replicate n (ByteArray.empty, false)) := by
  refine ⟨by simp, Nat.le_refl _, by unfold maxLen; omega, hM, _, h, fun i p hp => ?_⟩
  have hi : i < n := by have := (List.getElem?_eq_some_iff.1 hp).1; simpa using this
  rw [List.getElem?_replicate, if_pos hi] at hp
  cases hp
  exact blanksL_at n i hi

set_option maxHeartbeats 1000000 in
theorem lput_any {M : Nat → Prop} (b n c : Nat) (xs : List LSec) (i : Nat) (s : ByteArray) (t : Bool) (w : World) (h : LSecs w M b n c xs) (hi : i < n) (hn : n ≤ 15) :
    Calls Try.prog 11 #[.slice (some ⟨b, 0, none⟩) n c, .int .i64 (i : Int), .agg #[.string s, .bool t]] w fun e w' => ∃ b' c', e = .returned (.slice (some ⟨b', 0, none⟩) n c') ∧ LSecs w' (fun k => w.heap.size ≤ k) b' n c' (xs.set i (s, t)) ∧ Below w.heap.size w w' := by
  obtain ⟨i0, hinf, hz0, hz1, hz2⟩ := info_parts infoL
  have hbe : Below w.heap.size w ((w.alloc (.cells #[.string s, .bool t] 33)).alloc (.cells #[] 33)) := ((Below.refl _ _).alloc (Nat.le_refl _) _).alloc (by simp) _
  have hrow : ((w.alloc (.cells #[.string s, .bool t] 33)).alloc (.cells #[] 33)).ownsRow 0 33 2 (.slice (some ⟨w.heap.size + 1, 0, none⟩) 0 0) 0 [] := by
    have := World.ownsRow_made (base := 0) (e := 33) (size := 2) (w.alloc (.cells #[.string s, .bool t] 33)) #[] 0 (Nat.zero_le _) (Nat.zero_le _) rfl
    simpa using this
  have hb1 : Blk ((w.alloc (.cells #[.string s, .bool t] 33)).alloc (.cells #[] 33)) w.heap.size #[.string s, .bool t] 33 := (Blk.new w _ _).alloc _
  have h' := h.below hbe
  have hlen := h.len
  have hnews : ∀ j u, (lv xs)[j]? = some u → ((w.alloc (.cells #[.string s, .bool t] 33)).alloc (.cells #[] 33)).cell? ((⟨b, 0, none⟩ : Addr).add j) = some u := by
    intro j u hj
    rw [Addr.add_mid, Nat.zero_add]
    have hjl : j < xs.length * 2 := by have := (List.getElem?_eq_some_iff.1 hj).1; rw [lv_length] at this; exact this
    have hq : j / 2 < xs.length := by omega
    obtain ⟨p1, p2⟩ := h'.get (List.getElem?_eq_getElem hq)
    obtain ⟨q1, q2⟩ := lv_at xs (j / 2) _ (List.getElem?_eq_getElem hq)
    rcases (show j = j / 2 * 2 ∨ j = j / 2 * 2 + 1 by omega) with e | e
    · rw [← e] at p1 q1
      rw [hj] at q1; cases q1; exact p1
    · rw [← e] at p2 q2
      rw [hj] at q2; cases q2; exact p2
  have HL : Hid (xs.length = n) := hlen
  have hcm := h.cm
  have HC : Hid (n ≤ c) := h.le
  clear h h' hlen
  go_enter Try.func11, Try.ntmps11
  go_wp2_with (first | (at_builtin; refine wpList_append_own_at _ rfl _ _ 26 rfl 0 33 i0 (.agg #[.string ByteArray.empty, .bool false]) 2 24 Try.underlying26 hinf hz0 hz1 hz2 rfl (by decide) (.slice (some ⟨w.heap.size + 1, 0, none⟩) 0 0) 0 [] rfl hrow ⟨b, 0, none⟩ n c (lv xs) rfl (by rw [lv_length, HL.out]) hnews (lv_one xs) (by unfold maxLen; omega) (by omega) (Nat.zero_le _) ?_))
  intro v2 w2 o2 hg2 hnil2 hat2
  obtain ⟨g2, c2, hv2, hcap2, hB2⟩ : ∃ g2 c2, v2 = .slice (some ⟨g2, 0, none⟩) n c2 ∧ (n ≤ c2 ∧ c2 ≤ maxLen) ∧ ∃ cur, Blk w2 g2 cur 33 ∧ cur.size = c2 * 2 ∧ cur.toList.take (n * 2) = lv xs := by
    rcases o2.2 with ⟨_, hn0⟩ | ⟨g, cap, cur, e, _, hg, h3, h4, h5, h6⟩
    · omega
    · exact ⟨g, cap, by simpa using e, ⟨by simpa using h3, h4⟩, cur, hg, h5, by simpa using h6⟩
  subst hv2
  obtain ⟨cur, hB2, hcs, htk⟩ := hB2
  have hg2n : g2 = w.heap.size + 1 ∨ g2 = w.heap.size + 1 + 1 := by
    rcases hat2 with e | e
    · have : some g2 = some (w.heap.size + 1) := e
      exact .inl (Option.some.inj this)
    · have h2 : some g2 = some _ := e
      exact .inr (by have := Option.some.inj h2; simpa using this)
  have hch2 : Chg (fun k => k = w.heap.size + 1) ((w.alloc (.cells #[.string s, .bool t] 33)).alloc (.cells #[] 33)) w2 := (Chg.refl _ _).grown hg2 (fun k e _ => by have : some (w.heap.size + 1) = some k := e; exact (Option.some.inj this).symm)
  have hb2 : Blk w2 w.heap.size #[.string s, .bool t] 33 := hb1.chg hch2 (by omega)
  have d0 : w2.cell? ⟨w.heap.size, 0, none⟩ = some (.string s) := hb2.cell 0
  have d1 : w2.cell? ⟨w.heap.size, 1, none⟩ = some (.bool t) := hb2.cell 1
  have hat : ∀ j p, xs[j]? = some p → cur[j * 2]? = some (.string p.1) ∧ cur[j * 2 + 1]? = some (.bool p.2) := by
    intro j p hp
    have hj : j < n := by have := (List.getElem?_eq_some_iff.1 hp).1; have := HL.out; omega
    obtain ⟨q1, q2⟩ := lv_at xs j p hp
    rw [← htk, List.getElem?_take, if_pos (by omega)] at q1
    rw [← htk, List.getElem?_take, if_pos (by omega)] at q2
    exact ⟨by rw [← Array.getElem?_toList]; exact q1, by rw [← Array.getElem?_toList]; exact q2⟩
  have hxi : i < xs.length := by rw [HL.out]; exact hi
  obtain ⟨p1, p2⟩ := hat i _ (List.getElem?_eq_getElem hxi)
  have s0 := (hB2.cell (i * 2)).trans p1
  have s1 := (hB2.cell (i * 2 + 1)).trans p2
  have hfz := hB2.frozen
  have HB2 : Hid (Blk w2 g2 cur 33) := hB2
  have HAT : Hid (_) := hat
  have HE2 : Hid (Below w.heap.size w w2) := hbe.trans (hch2.below (by simp; omega) (fun k e => by omega))
  have hi' : (i : Int) < (n : Int) := by omega
  have hxl := HL.out
  clear hB2 hat hb2 hch2 hb1 hrow hnews hbe o2 hg2 hnil2 hat2 htk p1 p2 hinf hz0 hz1 hz2 hxl
  go_wp2
  go_ret
  have hcap := hcap2
  refine ⟨g2, c2, rfl, ⟨by rw [List.length_set]; exact HL.out, hcap.1, hcap.2, by omega, _, (HB2.out.set _ _).set _ _, fun j p hp => ?_⟩, (HE2.out.setCell (by show _ ≤ g2; omega) _).setCell (by show _ ≤ g2; omega) _⟩
  have hcz : i * 2 + 1 < cur.size := by omega
  rw [List.getElem?_set] at hp
  by_cases hij : i = j
  · subst hij
    rw [if_pos rfl, if_pos hxi] at hp
    cases hp
    refine ⟨?_, ?_⟩
    · rw [Array.getElem?_setIfInBounds, if_neg (by omega), Array.getElem?_setIfInBounds, if_pos rfl, if_pos (by omega)]
    · rw [Array.getElem?_setIfInBounds, if_pos rfl, if_pos (by simp; omega)]
  · rw [if_neg hij] at hp
    obtain ⟨a1, a2⟩ := HAT.out j p hp
    refine ⟨?_, ?_⟩
    · rw [Array.getElem?_setIfInBounds, if_neg (by omega), Array.getElem?_setIfInBounds, if_neg (by omega)]; exact a1
    · rw [Array.getElem?_setIfInBounds, if_neg (by omega), Array.getElem?_setIfInBounds, if_neg (by omega)]; exact a2
end Go.Proofs.Ytpojpmkflgmgkaa
