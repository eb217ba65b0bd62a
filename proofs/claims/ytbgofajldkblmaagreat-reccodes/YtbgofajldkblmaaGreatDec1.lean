/- Reading pages: readPage, noughts; single operations of drawn regions that read into a page's lists. Own lemmas, no statement. -/
import Derived.Test.YtbgofajldkblmaaGreatReader
import Derived.Test.YtbgofajldkblmaaGreatBox
import Derived.Test.YtbgofajldkblmaaGreatOps
import Derived.Test.YtbgofajldkblmaaGreatPg7
namespace Go.Proofs.YtbgofajldkblmaaGreat
open Go.ChangeShapes Go.WideShapes Go.ChangeAt Go.RowKit

set_option maxHeartbeats 1000000 in
theorem readPage_any (g b : Nat) (l : List UInt8) (err : Nat) (w : World) (h : Rdr w g b l err) :
    Calls Tryz.prog 113 #[.pointer (some ⟨g, 0, none⟩)] w fun e w' => e = .returned (.int .i64 ((rnum l err 65535).1 : Int)) ∧ Rdr w' g b (rnum l err 65535).2.1 (rnum l err 65535).2.2 ∧ w.grownBy w' (some g) := by
  have hle : (rnum l err 65535).1 ≤ 65535 := by
    have hf := rnum_facts l err 65535
    by_cases h0 : (rnum l err 65535).2.2 = 0
    · exact hf.2.1 h0
    · unfold rnum at h0 ⊢
      split
      · simp
      · split
        · simp
        · split
          · simp
          · rename_i a b c; simp [a, b, c] at h0
  have HC : Hid (Calls _ _ _ _ _) := num_any g b l err 65535 w h
  generalize (rnum l err 65535).1 = N at *
  generalize (rnum l err 65535).2.1 = L at *
  generalize (rnum l err 65535).2.2 = E at *
  clear h
  go_enter Tryz.func113, Tryz.ntmps113
  go_wp2_with fail
  refine HC.out.mono ?_
  rintro e w1 ⟨rfl, h1, h2⟩
  have H1 : Hid (Rdr w1 g b L E) := h1
  have H2 : Hid (w.grownBy w1 (some g)) := h2
  clear h1 h2
  go_wp2
  go_ret
  exact ⟨rfl, H1.out, H2.out⟩

def noughtsB (l : List UInt8) : Bool := l.all (· == 0)

set_option maxHeartbeats 1000000 in
theorem noughts_any (v : Value) (l : List UInt8) (w : World) (h : Src w v l) : Calls Tryz.prog 114 #[v] w fun e w' => e = .returned (.bool (noughtsB l)) ∧ w' = w := by
  obtain ⟨ao, c, rfl, a1, a2, a3⟩ := h
  have A3 : Hid (SrcAt w ao c l) := a3
  clear a3
  unfold maxLen at a2
  obtain ⟨n, hn⟩ : ∃ n, l.length = n := ⟨_, rfl⟩
  rw [hn] at a1 ⊢
  have HN : Hid (l.length = n) := hn
  clear hn
  go_enter Tryz.func114, Tryz.ntmps114
  go_wp2
  go_loop [4, 7] (fun _ i => ∃ k : Nat, i = .int .i64 k ∧ k ≤ n ∧ noughtsB (l.take k) = true) (fun _ i => n - (intOf i).toNat)
  case atStart => exact ⟨0, rfl, Nat.zero_le _, rfl⟩
  case round =>
    obtain ⟨k, rfl, hk, hall⟩ := hrel
    have HA : Hid (noughtsB (l.take k) = true) := hall
    clear hall
    by_cases hlt : k < n
    · have hlt1 : k < l.length := by have := HN.out; omega
      obtain ⟨ad, had⟩ : ∃ ad, ao = some ad := by
        cases ao with
        | none => have := (A3.out.1 rfl).1; subst this; simp at hlt1
        | some ad => exact ⟨ad, rfl⟩
      subst had
      have y1 : w.cell? (ad.add k) = some (.int .u8 (l[k].toNat : Int)) := A3.out.2 ad rfl k _ (by simp [bv, hlt1])
      have HS : Hid (l.take (k + 1) = l.take k ++ [l[k]]) := List.take_succ_eq_append_getElem hlt1
      have HF : Hid (l[k] ≠ 0 → noughtsB l = false) := fun hne => by
        unfold noughtsB
        rw [← Bool.not_eq_true, List.all_eq_true]
        intro h
        have := h l[k] (List.getElem_mem _)
        simp at this
        exact hne this
      have HZ : Hid (l[k].toNat = 0 ↔ l[k] = 0) := ⟨fun h => UInt8.toNat_inj.1 h, fun h => by rw [h]; rfl⟩
      generalize l[k] = x at *
      clear hlt1
      by_cases h0 : x.toNat = 0
      · have hb : ((x.toNat : Int) != 0) = false := by rw [bne_eq_false_iff_eq]; omega
        go_wp2
        go_round
        case rel => exact ⟨k + 1, by go_num, by omega, by rw [HS.out, noughtsB, List.all_append]; have := HA.out; unfold noughtsB at this; rw [this, HZ.out.1 h0]; rfl⟩
        case measure => simp [intOf]; omega
      · have hb : ((x.toNat : Int) != 0) = true := by rw [bne_iff_ne]; omega
        go_wp2
        go_ret
        exact ⟨ret_bool (by rw [HF.out (fun e => h0 (HZ.out.2 e))]), rfl⟩
    · have hkn : k = n := by omega
      subst hkn
      have := HA.out
      rw [List.take_of_length_le (by have := HN.out; omega)] at this
      have HR : Hid (noughtsB l = true) := this
      clear this
      go_wp2
      go_ret
      exact ⟨ret_bool (by rw [HR.out]), rfl⟩

theorem exec_buildS {ρ : Operand → Value} {o : Oper} {w : World} {x : Operand} {s : ByteArray} (ho : o.op = .buildSlice 26 1 #[(0, x)]) (hx : ρ x = .string s) : (execOp ρ o).run Tryz.prog w = .ok (.value (.slice (some ⟨w.heap.size, 0, none⟩) 1 1)) (w.alloc (.cells #[.string s] 9)) := by
  unfold execOp
  rw [ho]
  go_simp
theorem exec_buildI {ρ : Operand → Value} {o : Oper} {w : World} {x : Operand} {s : Int} (ho : o.op = .buildSlice 25 1 #[(0, x)]) (hx : ρ x = .int .i64 s) : (execOp ρ o).run Tryz.prog w = .ok (.value (.slice (some ⟨w.heap.size, 0, none⟩) 1 1)) (w.alloc (.cells #[.int .i64 s] 3)) := by
  unfold execOp
  rw [ho]
  go_simp
theorem exec_app {ρ : Operand → Value} {o : Oper} {w w' : World} {s x : Operand} {t : TypeId} {v vx v' : Value} (ho : o.op = .call { callee := .builtin .append, args := #[s, x], argTypes := #[t, t] }) (hs : ρ s = v) (hx : ρ x = vx) (hr : (Builtin.append_ #[t, t] o.type #[v, vx]).run Tryz.prog w = .ok v' w') : (execOp ρ o).run Tryz.prog w = .ok (.value v') w' := by
  unfold execOp
  simp only [ho, resolve, invoke, builtin, Sem.run_bind, Sem.run_pure, Result.andThen_ok, List.map_toArray, List.map_cons, List.map_nil, hs, hx, hr]

/-- What an append of one text does. -/
theorem run_pushS (W : World) (ty : TypeId) (B : Nat) (v : Value) (ks : List ByteArray) (k : ByteArray) (hown : OwnV W B 9 v (sv ks)) (hl : ks.length < 1099511627776) (hB : B ≤ W.heap.size) :
    ∃ a' n' c' W', (Builtin.append_ #[26, 26] ty #[v, .slice (some ⟨W.heap.size, 0, none⟩) 1 1]).run Tryz.prog (W.alloc (.cells #[.string k] 9)) = .ok (.slice a' n' c') W' ∧ OwnV W' B 9 (.slice a' n' c') (sv (ks ++ [k])) ∧ (W.alloc (.cells #[.string k] 9)).grownBy W' v.ownBlock ∧ ((Value.slice a' n' c').ownBlock = v.ownBlock ∨ (Value.slice a' n' c').ownBlock = some (W.heap.size + 1)) := by
  obtain ⟨i0, hi, hz0, hz1, hz2⟩ := info_parts infoS
  obtain ⟨v', w', hr, h1, h2, _, h4⟩ := run_append_own_at (P := Tryz.prog) (W.alloc (.cells #[.string k] 9)) B 26 ty 9 i0 (.string ⟨#[]⟩) 1 16 Tryz.underlying26 hi hz0 hz1 hz2 rfl (by decide) v (sv ks).length (sv ks) (World.ownsRow.alloc hown _) ⟨W.heap.size, 0, none⟩ 1 1 [.string k] rfl (cell_one_new _ _ _) (by intro u hu; simp at hu; subst hu; rfl) (by rw [sv_length]; unfold maxLen; omega) (by rw [sv_length]; omega) (by simp; omega)
  have h5 : OwnV w' B 9 v' (sv (ks ++ [k])) := by
    unfold OwnV
    simpa [sv] using h1
  obtain ⟨a', c', rfl⟩ := h5.rd.form
  exact ⟨a', _, c', w', hr, h5, h2, by simpa using h4⟩
theorem run_pushI (W : World) (ty : TypeId) (B : Nat) (v : Value) (ks : List Int) (k : Int) (hown : OwnV W B 3 v (iv ks)) (hl : ks.length < 1099511627776) (hB : B ≤ W.heap.size) :
    ∃ a' n' c' W', (Builtin.append_ #[25, 25] ty #[v, .slice (some ⟨W.heap.size, 0, none⟩) 1 1]).run Tryz.prog (W.alloc (.cells #[.int .i64 k] 3)) = .ok (.slice a' n' c') W' ∧ OwnV W' B 3 (.slice a' n' c') (iv (ks ++ [k])) ∧ (W.alloc (.cells #[.int .i64 k] 3)).grownBy W' v.ownBlock ∧ ((Value.slice a' n' c').ownBlock = v.ownBlock ∨ (Value.slice a' n' c').ownBlock = some (W.heap.size + 1)) := by
  obtain ⟨i0, hi, hz0, hz1, hz2⟩ := info_parts infoI
  obtain ⟨v', w', hr, h1, h2, _, h4⟩ := run_append_own_at (P := Tryz.prog) (W.alloc (.cells #[.int .i64 k] 3)) B 25 ty 3 i0 (.int .i64 0) 1 8 Tryz.underlying25 hi hz0 hz1 hz2 rfl (by decide) v (iv ks).length (iv ks) (World.ownsRow.alloc hown _) ⟨W.heap.size, 0, none⟩ 1 1 [.int .i64 k] rfl (cell_one_new _ _ _) (by intro u hu; simp at hu; subst hu; rfl) (by rw [iv_length]; unfold maxLen; omega) (by rw [iv_length]; omega) (by simp; omega)
  have h5 : OwnV w' B 3 v' (iv (ks ++ [k])) := by
    unfold OwnV
    simpa [iv] using h1
  obtain ⟨a', c', rfl⟩ := h5.rd.form
  exact ⟨a', _, c', w', hr, h5, h2, by simpa using h4⟩

/-- A page that is read, and its reader, apart. -/
structure RBox (W : World) (B b : Nat) (p : Pg) (kv vv dv : Value) (g rb : Nat) (l : List UInt8) (err : Nat) : Prop where
  box : Box W B b p kv vv dv
  rdr : Rdr W g rb l err
  ng : ¬ fp b kv vv dv g
  nr : ¬ fp b kv vv dv rb
  hg : B ≤ g
section
variable {W W' : World} {B b g rb : Nat} {p : Pg} {kv vv dv v' : Value} {l l' : List UInt8} {err err' : Nat} {o : Obj}
theorem RBox.read (h : RBox W B b p kv vv dv g rb l err) (hr : Rdr W' g rb l' err') (hg : W.grownBy W' (some g)) : RBox W' B b p kv vv dv g rb l' err' :=
  ⟨h.box.keep fun k hk => hg.block k (h.box.lt hk).2 (fun e => h.ng (by simp at e; rw [← e]; exact hk)), hr, h.ng, h.nr, h.hg⟩
theorem RBox.drew (h : RBox W B b p kv vv dv g rb l err) : RBox W.drew B b p kv vv dv g rb l err :=
  ⟨h.box.keep fun _ _ => rfl, h.rdr.kept (Nat.le_refl _) rfl rfl, h.ng, h.nr, h.hg⟩
theorem RBox.pushK (h : RBox W B b p kv vv dv g rb l err) {ks : List ByteArray} (ho : OwnV W' B 9 v' (sv ks)) (hg : (W.alloc o).grownBy W' kv.ownBlock) (hat : v'.ownBlock = kv.ownBlock ∨ v'.ownBlock = some (W.heap.size + 1)) :
    RBox (W'.setCell ⟨b, 1, none⟩ v') B b { p with keys := ks } v' vv dv g rb l err := by
  have hgl := h.rdr.lt
  have hrl := h.rdr.2.1
  have hs := hg.size
  simp at hs
  have hn : ∀ x, x < W.heap.size → ¬ fp b kv vv dv x → ¬ fp b v' vv dv x := fun x hx hf hf' => hf (by
    rcases hf' with e | e | e | e
    · exact .inl e
    · rcases hat with e' | e'
      · rw [e'] at e; exact .inr (.inl e)
      · rw [e'] at e; simp at e; omega
    · exact .inr (.inr (.inl e))
    · exact .inr (.inr (.inr e)))
  exact ⟨h.box.pushK ho hg hat, h.rdr.kept (by simp [World.setCell]; omega) (turn_kept hg g hgl (fun e => h.ng (.inr (.inl e))) (fun e => h.ng (.inl e)) _) (turn_kept hg rb hrl (fun e => h.nr (.inr (.inl e))) (fun e => h.nr (.inl e)) _), hn g hgl h.ng, hn rb hrl h.nr, h.hg⟩
theorem RBox.pushV (h : RBox W B b p kv vv dv g rb l err) {ks : List ByteArray} (ho : OwnV W' B 9 v' (sv ks)) (hg : (W.alloc o).grownBy W' vv.ownBlock) (hat : v'.ownBlock = vv.ownBlock ∨ v'.ownBlock = some (W.heap.size + 1)) :
    RBox (W'.setCell ⟨b, 2, none⟩ v') B b { p with vals := ks } kv v' dv g rb l err := by
  have hgl := h.rdr.lt
  have hrl := h.rdr.2.1
  have hs := hg.size
  simp at hs
  have hn : ∀ x, x < W.heap.size → ¬ fp b kv vv dv x → ¬ fp b kv v' dv x := fun x hx hf hf' => hf (by
    rcases hf' with e | e | e | e
    · exact .inl e
    · exact .inr (.inl e)
    · rcases hat with e' | e'
      · rw [e'] at e; exact .inr (.inr (.inl e))
      · rw [e'] at e; simp at e; omega
    · exact .inr (.inr (.inr e)))
  exact ⟨h.box.pushV ho hg hat, h.rdr.kept (by simp [World.setCell]; omega) (turn_kept hg g hgl (fun e => h.ng (.inr (.inr (.inl e)))) (fun e => h.ng (.inl e)) _) (turn_kept hg rb hrl (fun e => h.nr (.inr (.inr (.inl e)))) (fun e => h.nr (.inl e)) _), hn g hgl h.ng, hn rb hrl h.nr, h.hg⟩
theorem RBox.pushD (h : RBox W B b p kv vv dv g rb l err) {ks : List Int} (ho : OwnV W' B 3 v' (iv ks)) (hg : (W.alloc o).grownBy W' dv.ownBlock) (hat : v'.ownBlock = dv.ownBlock ∨ v'.ownBlock = some (W.heap.size + 1)) :
    RBox (W'.setCell ⟨b, 3, none⟩ v') B b { p with kids := ks } kv vv v' g rb l err := by
  have hgl := h.rdr.lt
  have hrl := h.rdr.2.1
  have hs := hg.size
  simp at hs
  have hn : ∀ x, x < W.heap.size → ¬ fp b kv vv dv x → ¬ fp b kv vv v' x := fun x hx hf hf' => hf (by
    rcases hf' with e | e | e | e
    · exact .inl e
    · exact .inr (.inl e)
    · exact .inr (.inr (.inl e))
    · rcases hat with e' | e'
      · rw [e'] at e; exact .inr (.inr (.inr e))
      · rw [e'] at e; simp at e; omega)
  exact ⟨h.box.pushD ho hg hat, h.rdr.kept (by simp [World.setCell]; omega) (turn_kept hg g hgl (fun e => h.ng (.inr (.inr (.inr e)))) (fun e => h.ng (.inl e)) _) (turn_kept hg rb hrl (fun e => h.nr (.inr (.inr (.inr e)))) (fun e => h.nr (.inl e)) _), hn g hgl h.ng, hn rb hrl h.nr, h.hg⟩
end
end Go.Proofs.YtbgofajldkblmaaGreat
