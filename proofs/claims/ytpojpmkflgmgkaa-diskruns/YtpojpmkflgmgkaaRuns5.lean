/- DiskRuns: an operation that waits; the frame in the midst of a round. Own lemmas, no statement. -/
import Derived.Test.YtpojpmkflgmgkaaRuns4
namespace Go.Proofs.Ytpojpmkflgmgkaa
open Go.ChangeShapes Go.WideShapes Go.ChangeAt Go.RowKit
set_option maxRecDepth 100000 in
def fr2 (T : Nat → Value) (v0 v1 v4 v5 v6 v7 v8 v9 v10 v11 v12 v13 v15 : Value) : Array Value := #[v0, v1, T 2, T 3, v4, v5, v6, v7, v8, v9, v10, v11, v12, v13, T 14, v15, T 16, T 17, T 18, T 19, T 20, T 21, T 22, T 23, T 24, T 25, T 26, T 27, T 28, T 29, T 30, T 31, T 32, T 33, T 34, T 35, T 36, T 37, T 38, T 39, T 40, T 41, T 42, T 43, T 44, T 45, T 46, T 47, T 48, T 49, T 50, T 51, T 52, T 53, T 54, T 55, T 56, T 57, T 58, T 59, T 60, T 61, T 62, T 63, T 64, T 65, T 66, T 67, T 68, T 69, T 70, T 71, T 72, T 73, T 74, T 75, T 76, T 77, T 78, T 79, T 80, T 81, T 82, T 83, T 84, T 85, T 86, T 87, T 88, T 89, T 90, T 91, T 92, T 93, T 94, T 95, T 96, T 97, T 98, T 99, T 100, T 101, T 102, T 103, T 104, T 105, T 106, T 107, T 108, T 109, T 110, T 111, T 112, T 113, T 114, T 115, T 116, T 117, T 118, T 119, T 120, T 121, T 122, T 123, T 124, T 125, T 126, T 127, T 128, T 129, T 130, T 131, T 132, T 133, T 134, T 135, T 136, T 137, T 138, T 139, T 140, T 141, T 142, T 143, T 144, T 145, T 146, T 147, T 148, T 149, T 150, T 151, T 152, T 153, T 154, T 155, T 156, T 157, T 158, T 159, T 160, T 161, T 162, T 163, T 164, T 165, T 166, T 167, T 168, T 169, T 170, T 171, T 172, T 173, T 174, T 175, T 176, T 177, T 178, T 179, T 180, T 181, T 182, T 183, T 184, T 185, T 186, T 187, T 188, T 189, T 190, T 191, T 192, T 193, T 194, T 195, T 196, T 197, T 198, T 199, T 200, T 201, T 202, T 203, T 204, T 205, T 206, T 207, T 208, T 209, T 210, T 211, T 212, T 213, T 214, T 215, T 216, T 217, T 218, T 219, T 220, T 221, T 222, T 223, T 224, T 225, T 226, T 227, T 228, T 229, T 230, T 231, T 232, T 233, T 234, T 235, T 236, T 237, T 238, T 239, T 240, T 241, T 242, T 243, T 244, T 245, T 246, T 247, T 248, T 249, T 250, T 251, T 252, T 253, T 254, T 255, T 256, T 257, T 258, T 259, T 260, T 261, T 262, T 263, T 264, T 265, T 266, T 267, T 268, T 269, T 270, T 271, T 272, T 273, T 274, T 275, T 276, T 277, T 278, T 279, T 280, T 281, T 282, T 283, T 284, T 285, T 286, T 287, T 288, T 289, T 290, T 291, T 292, T 293, T 294, T 295, T 296, T 297, T 298, T 299, T 300, T 301, T 302, T 303, T 304, T 305, T 306, T 307, T 308, T 309, T 310, T 311, T 312, T 313, T 314, T 315, T 316, T 317, T 318, T 319, T 320, T 321, T 322, T 323, T 324, T 325, T 326, T 327, T 328, T 329, T 330, T 331, T 332, T 333, T 334, T 335, T 336, T 337, T 338, T 339, T 340]
set_option maxRecDepth 100000 in
theorem fr2_all (T : Nat → Value) : fr2 T (T 0) (T 1) (T 4) (T 5) (T 6) (T 7) (T 8) (T 9) (T 10) (T 11) (T 12) (T 13) (T 15) = ((List.range 341).map T).toArray := by rfl
def Slots2 (a : Act) (v0 v1 v5 v6 v7 v8 v9 v10 v11 v12 v13 v15 : Value) : Prop :=
  Slots a v0 v1 v5 v6 v7 v8 v9 v10 v11 v12 ∧ a.tmps.getD 13 undef = v13 ∧ a.tmps.getD 15 undef = v15
theorem Slots2.lit {a : Act} {v0 v1 v5 v6 v7 v8 v9 v10 v11 v12 v13 v15 : Value} (h : Slots2 a v0 v1 v5 v6 v7 v8 v9 v10 v11 v12 v13 v15) : a = ⟨fr2 (fun i => a.tmps.getD i undef) v0 v1 (.bool false) v5 v6 v7 v8 v9 v10 v11 v12 v13 v15, []⟩ := by
  obtain ⟨⟨hs, hd, rfl, rfl, h4, rfl, rfl, rfl, rfl, rfl, rfl, rfl, rfl⟩, rfl, rfl⟩ := h
  have e := arr_all a.tmps 341 hs
  have e2 := fr2_all (fun i => a.tmps.getD i undef)
  rw [← e] at e2
  obtain ⟨t, d⟩ := a
  simp only at hd h4 e2 ⊢
  subst hd
  rw [← h4, e2]

section
variable {P : Program} {ops : Array Oper} {Q : Exit → Act → World → Prop} {K : Act → World → Prop} {i : Nat} {o : Oper} {a : Act} {w w' : World}
/-- An operation that yields a value, when it comes up. -/
theorem wpOp_value {v : Value} (d : Tmp) (ho : ops[i]? = some o) (hw : Region.wanted o (yielded ops a.tmps) = true) (hd : o.dst = some d) (hx : (execOp a.eval o).run P w = .ok (.value v) w') (h : K (a.put (some d) v) w') : wpOp P ops Q i K a w := by
  unfold wpOp
  simp only [ho, hw, if_true]
  refine .inl ?_
  unfold Oper.wp
  rw [hx]
  simp only [Oper.upon]
  rw [hd]
  exact h
end
theorem exec_append {ρ : Operand → Value} {o : Oper} {w w' : World} {s x : Operand} {t : TypeId} {v vx v' : Value} (ho : o.op = .call { callee := .builtin .append, args := #[s, x], argTypes := #[t, t] }) (hs : ρ s = v) (hx : ρ x = vx) (hr : (Builtin.append_ #[t, t] o.type #[v, vx]).run Try.prog w = .ok v' w') : (execOp ρ o).run Try.prog w = .ok (.value v') w' := by
  unfold execOp
  simp only [ho, resolve, invoke, builtin, Sem.run_bind, Sem.run_pure, Result.andThen_ok, List.map_toArray, List.map_cons, List.map_nil, hs, hx, hr]
theorem exec_build0 {ρ : Operand → Value} {o : Oper} {w : World} (ho : o.op = .buildSlice 22 0 #[]) : (execOp ρ o).run Try.prog w = .ok (.value (.slice (some ⟨w.heap.size, 0, none⟩) 0 0)) (w.alloc (.cells #[] 30)) := by
  unfold execOp
  rw [ho]
  go_simp
theorem exec_build1 {ρ : Operand → Value} {o : Oper} {w : World} {x : Operand} {q : OpV} (ho : o.op = .buildSlice 22 1 #[(0, x)]) (hx : ρ x = .agg #[.int .i64 q.k, .int .i64 q.at_, .slice q.bo q.bn q.bc, .slice q.ko q.kn q.kc, .int .i64 q.tear]) : (execOp ρ o).run Try.prog w = .ok (.value (.slice (some ⟨w.heap.size, 0, none⟩) 1 1)) (w.alloc (.cells (opv q).toArray 30)) := by
  unfold execOp
  rw [ho]
  simp only [opv]
  go_simp

theorem Ext.un {w v : World} (h : Ext w.drew v) : Below w.heap.size w v := by
  have h' : Below w.drew.heap.size w.drew v := h
  exact ⟨h'.os, h'.tape, h'.output, h'.size, h'.block⟩
/-- 'append([]Op{}, waits...)'. -/
theorem run_app1 {w : World} {M : Nat → Prop} {b1 : Nat} {ao : Option Addr} {n c : Nat} {os : List OpV} (ty : TypeId) (hB : Blk w b1 #[] 30) (h : LOps w M ao n c os) (hn : n ≤ 100) :
    ∃ g cap w', (Builtin.append_ #[22, 22] ty #[.slice (some ⟨b1, 0, none⟩) 0 0, .slice ao n c]).run Try.prog w = .ok (.slice (some ⟨g, 0, none⟩) n cap) w' ∧ w'.ownsRow 0 30 5 (.slice (some ⟨g, 0, none⟩) n cap) n (ov os) ∧ Chg (fun k => k = b1) w w' ∧ (g = b1 ∨ g = w.heap.size) := by
  obtain ⟨i0, hi, hz0, hz1, hz2⟩ := info_parts infoO
  have hrow : w.ownsRow 0 30 5 (.slice (some ⟨b1, 0, none⟩) 0 0) 0 [] := ⟨rfl, .inr ⟨b1, 0, #[], rfl, Nat.zero_le _, hB, Nat.le_refl _, Nat.zero_le _, rfl, rfl⟩⟩
  cases ao with
  | none =>
    obtain ⟨rfl, rfl⟩ := h.nil rfl
    have hn0 := h.len
    simp at hn0
    subst hn0
    exact ⟨b1, 0, w, run_append_owned_none (P := Try.prog) w 0 _ ty 30 i0 5 Try.underlying22 hi _ 0 [] hrow, hrow, Chg.refl _ _, .inl rfl⟩
  | some a =>
    obtain ⟨b, rfl, m, cur, hb, hc⟩ := h.cells a rfl
    have hlen := h.len
    obtain ⟨v', w', hr, k1, k2, k3, k4⟩ := run_append_own_at (P := Try.prog) w 0 22 ty 30 i0 (.agg #[.int .i64 0, .int .i64 0, .slice none 0 0, .slice none 0 0, .int .i64 0]) 5 72 Try.underlying22 hi hz0 hz1 hz2 rfl (by decide) _ 0 [] hrow ⟨b, 0, none⟩ n c (ov os) (by rw [ov_length, hlen]) (fun j u hj => by rw [Addr.add_mid, Nat.zero_add, hb.cell]; exact hc j u hj) (ov_one os) (by unfold maxLen; omega) (by omega) (Nat.zero_le _)
    have hnn : ¬ v' = .slice none 0 0 := fun e => by have := (k3.1 e).1; simp at this
    rcases k1.2 with ⟨e, _⟩ | ⟨g, cap, cur', rfl, r⟩
    · exact absurd e hnn
    · refine ⟨g, cap, w', by simpa using hr, by simpa using k1, (Chg.refl _ _).grown k2 (fun k e _ => by have : some b1 = some k := e; exact (Option.some.inj this).symm), ?_⟩
      rcases k4 with e | e
      · have : some g = some b1 := e
        exact .inl (Option.some.inj this)
      · have : some g = some w.heap.size := e
        exact .inr (Option.some.inj this)
/-- .. and one more. -/
theorem run_app2 {w : World} {g n cap b2 : Nat} {os : List OpV} {q : OpV} (ty : TypeId) (hown : w.ownsRow 0 30 5 (.slice (some ⟨g, 0, none⟩) n cap) n (ov os)) (hB : Blk w b2 (opv q).toArray 30) (hn : n ≤ 100) (hos : os.length = n) :
    ∃ g' cap' w', (Builtin.append_ #[22, 22] ty #[.slice (some ⟨g, 0, none⟩) n cap, .slice (some ⟨b2, 0, none⟩) 1 1]).run Try.prog w = .ok (.slice (some ⟨g', 0, none⟩) (n + 1) cap') w' ∧ Chg (fun k => k = g) w w' ∧ ∀ M : Nat → Prop, M g → M w.heap.size → LOps w' M (some ⟨g', 0, none⟩) (n + 1) cap' (os ++ [q]) := by
  obtain ⟨i0, hi, hz0, hz1, hz2⟩ := info_parts infoO
  obtain ⟨v', w', hr, k1, k2, k3, k4⟩ := run_append_own_at (P := Try.prog) w 0 22 ty 30 i0 (.agg #[.int .i64 0, .int .i64 0, .slice none 0 0, .slice none 0 0, .int .i64 0]) 5 72 Try.underlying22 hi hz0 hz1 hz2 rfl (by decide) _ n (ov os) hown ⟨b2, 0, none⟩ 1 1 (opv q) rfl (fun j u hj => by rw [Addr.add_mid, Nat.zero_add, hB.cell, List.getElem?_toArray]; exact hj) (fun u hu => ov_one [q] u (by simpa [ov] using hu)) (by unfold maxLen; omega) (by omega) (Nat.zero_le _)
  have hnn : ¬ v' = .slice none 0 0 := fun e => by have := (k3.1 e).1; simp at this
  rcases k1.2 with ⟨e, _⟩ | ⟨g', cap', cur', rfl, _, hg', hc1, hc2, hcs, htk⟩
  · exact absurd e hnn
  · refine ⟨g', cap', w', hr, (Chg.refl _ _).grown k2 (fun k e _ => by have : some g = some k := e; exact (Option.some.inj this).symm), fun M hM1 hM2 => ⟨by simp [hos], hc1, hc2, fun e => (by cases e), fun a e => ?_⟩⟩
    cases e
    refine ⟨g', rfl, ?_, cur', hg', fun j u hj => ?_⟩
    · rcases k4 with e | e
      · have h1 : some g' = some g := e
        rw [Option.some.inj h1]; exact hM1
      · have h1 : some g' = some w.heap.size := e
        rw [Option.some.inj h1]; exact hM2
    · rw [ov_append, show ov [q] = opv q from by simp [ov], ← htk, List.getElem?_take] at hj
      split at hj
      · rw [← Array.getElem?_toList]; exact hj
      · cases hj
end Go.Proofs.Ytpojpmkflgmgkaa
