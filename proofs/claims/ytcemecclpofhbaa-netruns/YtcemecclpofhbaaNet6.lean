/- net: Twice, Spoil, walked; those of a nil net. Own lemmas, no statement. -/
import Derived.Test.YtcemecclpofhbaaNet5
set_option linter.unusedSimpArgs false
set_option linter.unusedVariables false
namespace Go.Proofs.Ytcemecclpofhbaa
open Go.ChangeShapes Go.WideShapes Go.ChangeAt Go.RowKit

theorem xor_u8 (a b : UInt8) : bits .xor .u8 (a.toNat : Int) (b.toNat : Int) = ((a ^^^ b).toNat : Int) := by
  have h1 : (a ^^^ b).toNat = a.toNat ^^^ b.toNat := UInt8.toNat_xor a b
  have h2 : (BitVec.ofInt 8 (a.toNat : Int) ^^^ BitVec.ofInt 8 (b.toNat : Int)).toNat = a.toNat ^^^ b.toNat := by
    rw [BitVec.toNat_xor, BitVec.ofInt_natCast, BitVec.ofInt_natCast, BitVec.toNat_ofNat, BitVec.toNat_ofNat, Nat.mod_eq_of_lt a.toNat_lt, Nat.mod_eq_of_lt b.toNat_lt]
  have h3 := (a ^^^ b).toNat_lt
  show IntKind.u8.wrap ((BitVec.ofInt 8 (a.toNat : Int) ^^^ BitVec.ofInt 8 (b.toNat : Int)).toNat : Int) = _
  rw [h2, ← h1, IntKind.wrap_u8]
  omega
theorem bv_set (l : List UInt8) (i : Nat) (c : UInt8) : bv (l.set i c) = (bv l).set i (.int .u8 (c.toNat : Int)) := by
  unfold bv
  rw [List.map_set]
/-- A row of bytes of the call's own, with one byte turned. -/
theorem own_set {W : World} {B : Nat} {v : Value} {l : List UInt8} {i : Nat} (h : Own W B v l) (hi : i < l.length) :
    ∃ g cap, v = .slice (some ⟨g, 0, none⟩) l.length cap ∧ l.length ≤ cap ∧ cap ≤ maxLen ∧ (∃ ob : UInt8, l[i]? = some ob ∧ W.cell? ⟨g, i, none⟩ = some (.int .u8 (ob.toNat : Int))) ∧ W.frozen? ⟨g, i, none⟩ = false ∧ ∀ c : UInt8, Own (W.setCell ⟨g, i, none⟩ (.int .u8 (c.toNat : Int))) B v (l.set i c) := by
  rcases h.2 with ⟨_, hn⟩ | ⟨g, cap, cur, rfl, hb, hg, hnc, hcm, hcs, ht⟩
  · omega
  · have hG : Blk W g cur 5 := hg
    have hcell := h.cells rfl i (.int .u8 (l[i].toNat : Int)) (by simp [bv, hi])
    rw [Addr.add_mid, Nat.zero_add] at hcell
    refine ⟨g, cap, rfl, hnc, hcm, ⟨l[i], List.getElem?_eq_getElem hi, hcell⟩, hG.frozen i, fun c => ⟨by rw [bv_length, Nat.mul_one], .inr ⟨g, cap, cur.setIfInBounds i (.int .u8 (c.toNat : Int)), by rw [List.length_set], hb, hG.set i _, by rw [List.length_set]; exact hnc, hcm, by simpa using hcs, ?_⟩⟩⟩
    rw [List.length_set, Array.toList_setIfInBounds, List.take_set, ht, bv_set]
/-- What Twice hands back. -/
def TwiceP (B p : Nat) (v : Value) (ls : List LetV) (at_ : Int) (w : World) (e : Ending) (w' : World) : Prop :=
  (inB at_ ls.length = false ∧ e = .returned (.int .i64 4) ∧ Below w.heap.size w w') ∨
  (∃ (x : LetV) (i : Nat), at_ = (i : Int) ∧ ls[i]? = some x ∧ ((2000 ≤ ls.length ∧ e = .returned (.int .i64 3) ∧ Below w.heap.size w w') ∨ (ls.length < 2000 ∧ e = .returned (.int .i64 0) ∧ ∃ v' y, y.dst = x.dst ∧ y.bs = x.bs ∧ NetI w' B p v' (ls ++ [y]) ∧ Chg (fun i => i = p ∨ v.ownBlock = some i) w w' ∧ ∀ i, FP p v' (ls ++ [y]) i → FP p v ls i ∨ w.heap.size ≤ i)))
set_option maxRecDepth 100000 in
set_option maxHeartbeats 4000000 in
theorem twice_any (B p : Nat) (v : Value) (ls : List LetV) (at_ : Int) (w : World) (h : NetI w B p v ls) :
    Calls Try.prog 11 #[.pointer (some ⟨p, 0, none⟩), .int .i64 at_] w (TwiceP B p v ls at_ w) := by
  have HN : Hid (NetI w B p v ls) := h
  have HX : Hid (Calls _ _ _ _ _) := at_any B p v ls at_ w h
  clear h
  go_enter Try.func11, Try.ntmps11
  go_wp2_with fail
  refine HX.out.mono ?_
  rintro e w1 ⟨hh, y⟩
  have HY1 : Hid (Below w.heap.size w w1) := y
  clear HX y
  rcases hh with ⟨hin, rfl⟩ | ⟨x, i, a', c', hi, hx, rfl, ho⟩
  · have HIN : Hid (inB at_ ls.length = false) := hin
    clear hin
    have HY2 : Hid (Below w.heap.size w (w1.alloc (.cells #[.int .i64 0, .slice none 0 0] 34))) := HY1.out.alloc HY1.out.size _
    go_wp2
    go_ret
    exact .inl ⟨HIN.out, rfl, HY2.out⟩
  · subst hi
    have HXI : Hid (ls[i]? = some x) := hx
    have hxm : x ∈ ls := List.mem_of_getElem? hx
    have HXE : Hid (x.bs.length ≤ 200 ∧ 0 ≤ x.dst ∧ x.dst < 64) := (HN.out.el x hxm).2
    clear hx hxm
    obtain ⟨bl, hbl⟩ : ∃ bl, bl = x.bs.length := ⟨_, rfl⟩
    have HBL : Hid (bl = x.bs.length) := hbl
    rw [← hbl] at ho ⊢
    clear hbl
    obtain ⟨w2, hw2⟩ : ∃ w2, w2 = w1.alloc (.cells #[.int .i64 x.dst, .slice a' bl c'] 34) := ⟨_, rfl⟩
    have HO2 : Hid (Own w2 w.heap.size (.slice a' bl c') x.bs) := by rw [hw2]; exact ho.alloc _
    have HY2 : Hid (Below w.heap.size w w2) := by rw [hw2]; exact HY1.out.alloc HY1.out.size _
    have HT2 : Hid (Blk w2 w1.heap.size #[.int .i64 x.dst, .slice a' bl c'] 34) := by rw [hw2]; exact Blk.new _ _ _
    clear ho
    go_upto_region 4 with fail
    rw [← hw2]
    clear hw2
    generalize w1.heap.size = q at *
    have t0 : w2.cell? ⟨q, 0, none⟩ = some (.int .i64 x.dst) := HT2.out.cell 0
    have t1 : w2.cell? ⟨q, 1, none⟩ = some (.slice a' bl c') := HT2.out.cell 1
    have HX : Hid (Calls _ _ _ _ _) := send_any B p v ls x.dst a' bl c' x.bs w2 (HN.out.below HY2.out) HO2.out.src (by have := HXE.out.1; omega)
    go_wp2_with fail
    refine HX.out.mono ?_
    rintro e w3 hs
    clear HX t0 t1
    have hno : ¬ (x.dst < 0 ∨ 64 ≤ x.dst ∨ 200 < x.bs.length) := by have := HXE.out; omega
    rcases hs with ⟨hb, _⟩ | ⟨_, hl, rfl, hw⟩ | ⟨_, hl, rfl, v', yy, hd, hbs, hNI, hCH, hFP⟩
    · exact absurd hb hno
    · rw [hw]
      have HL : Hid (2000 ≤ ls.length) := hl
      clear hl hw hno
      go_wp2
      go_ret
      exact .inr ⟨x, i, rfl, HXI.out, .inl ⟨HL.out, rfl, HY2.out⟩⟩
    · have HRES : Hid (ls.length < 2000 ∧ ∃ v' y, y.dst = x.dst ∧ y.bs = x.bs ∧ NetI w3 B p v' (ls ++ [y]) ∧ Chg (fun i => i = p ∨ v.ownBlock = some i) w w3 ∧ ∀ i, FP p v' (ls ++ [y]) i → FP p v ls i ∨ w.heap.size ≤ i) := ⟨hl, v', yy, hd, hbs, hNI, Chg.trans (Chg.of_below HY2.out (fun j hj hb => by omega)) hCH (fun _ _ e => e), fun j hj => by
        rcases hFP j hj with e | e
        · exact .inl e
        · exact .inr (Nat.le_trans HY2.out.size e)⟩
      clear hl hd hbs hNI hCH hFP hno
      go_wp2
      go_ret
      exact .inr ⟨x, i, rfl, HXI.out, .inr ⟨HRES.out.1, rfl, HRES.out.2⟩⟩
/-- What Spoil hands back. -/
def SpoilP (B p : Nat) (v : Value) (ls : List LetV) (at_ i : Int) (bt : UInt8) (w : World) (e : Ending) (w' : World) : Prop :=
  (¬ (∃ (x : LetV) (k j : Nat), at_ = (k : Int) ∧ ls[k]? = some x ∧ i = (j : Int) ∧ j < x.bs.length) ∧ e = .returned (.int .i64 4) ∧ w' = w) ∨
  (∃ (x : LetV) (k j : Nat) (ob : UInt8), at_ = (k : Int) ∧ ls[k]? = some x ∧ i = (j : Int) ∧ x.bs[j]? = some ob ∧ e = .returned (.int .i64 0) ∧ NetI w' B p v (ls.set k { x with bs := x.bs.set j (ob ^^^ bt) }) ∧ Chg (fun b => x.v.ownBlock = some b) w w')
theorem NetI.spoil {W : World} {B p k : Nat} {v : Value} {ls : List LetV} {x y : LetV} (h : NetI W B p v ls) (hk : k < ls.length) (hx : ls[k] = x) (hy : y.v = x.v) (hd : y.dst = x.dst) (hl : y.bs.length = x.bs.length) {W' : World} (ho : Own W' B x.v y.bs) (hc : Chg (fun b => x.v.ownBlock = some b) W W') :
    NetI W' B p v (ls.set k y) := by
  have hxm : x ∈ ls := by rw [← hx]; exact List.getElem_mem _
  have hxo := h.el x hxm
  have hxu : ∀ b, x.v.ownBlock = some b → ∃ cur, Blk W b cur 5 := fun b e => by
    rcases hxo.1.2 with ⟨e2, _⟩ | ⟨g3, cap3, cur3, e2, _, hg', _⟩
    · rw [e2] at e; cases e
    · rw [e2] at e
      simp [Value.ownBlock] at e
      subst e
      exact ⟨cur3, hg'⟩
  have hcs : (ls.set k y).map LetV.cs = ls.map LetV.cs := by
    rw [List.map_set]
    refine List.ext_getElem (by simp) fun j h1 h2 => ?_
    by_cases e : k = j
    · subst e
      simp only [List.getElem_set_self, List.getElem_map]
      rw [hx]
      unfold LetV.v at hy
      simp only [Value.slice.injEq] at hy
      unfold LetV.cs
      rw [hd, hy.1, hy.2.1, hy.2.2]
    · rw [List.getElem_set_ne e]
  have hap : ∀ j (hj : j < ls.length), j ≠ k → ∀ b, ls[j].v.ownBlock = some b → x.v.ownBlock ≠ some b := fun j hj hjk b e e2 => by
    rcases Nat.lt_or_gt_of_ne hjk with e3 | e3
    · exact List.pairwise_iff_getElem.1 h.apart j k hj hk e3 b e (by rw [hx]; exact e2)
    · exact List.pairwise_iff_getElem.1 h.apart k j hk hj e3 b (by rw [hx]; exact e2) e
  refine ⟨h.blk.chg hc (fun e => ?_), h.base, ?_, fun z hz => ?_, ?_, by rw [List.length_set]; exact h.len⟩
  · obtain ⟨cur, hb⟩ := hxu p e
    exact absurd (h.blk.inj hb).2 (by decide)
  · rw [List.length_set, hcs]
    refine owns_kept h.own fun g e => hc.block g (h.own.lt g e).2 (fun e2 => ?_)
    obtain ⟨cur, hb⟩ := hxu g e2
    rcases h.own.2 with ⟨e4, _⟩ | ⟨g2, cap2, cur2, e4, _, hg2, _⟩
    · rw [e4] at e; cases e
    · rw [e4] at e
      simp [Value.ownBlock] at e
      subst e
      exact absurd (Blk.inj (show Blk W g2 cur2 34 from hg2) hb).2 (by decide)
  · obtain ⟨j, hj, rfl⟩ := List.getElem_of_mem hz
    rw [List.length_set] at hj
    by_cases e : k = j
    · subst e
      rw [List.getElem_set_self]
      exact ⟨by rw [hy]; exact ho, by rw [hl]; exact hxo.2.1, by rw [hd]; exact hxo.2.2⟩
    · rw [List.getElem_set_ne e]
      have hm := h.el ls[j] (List.getElem_mem _)
      exact ⟨owns_kept hm.1 fun b e2 => hc.block b (World.ownsRow.lt hm.1 b e2).2 (hap j hj (Ne.symm e) b e2), hm.2⟩
  · refine List.pairwise_iff_getElem.2 fun i j hi hj hij => ?_
    rw [List.length_set] at hi hj
    have h0 := List.pairwise_iff_getElem.1 h.apart i j hi hj hij
    intro b e1 e2
    have g1 : ls[i].v.ownBlock = some b := by
      by_cases e : k = i
      · subst e
        rw [List.getElem_set_self] at e1
        rw [hx, ← hy]; exact e1
      · rw [List.getElem_set_ne e] at e1
        exact e1
    have g2 : ls[j].v.ownBlock = some b := by
      by_cases e : k = j
      · subst e
        rw [List.getElem_set_self] at e2
        rw [hx, ← hy]; exact e2
      · rw [List.getElem_set_ne e] at e2
        exact e2
    exact h0 b g1 g2
set_option maxRecDepth 100000 in
set_option maxHeartbeats 4000000 in
theorem spoil_any (B p : Nat) (v : Value) (ls : List LetV) (at_ i : Int) (bt : UInt8) (w : World) (h : NetI w B p v ls) :
    Calls Try.prog 12 #[.pointer (some ⟨p, 0, none⟩), .int .i64 at_, .int .i64 i, .int .u8 (bt.toNat : Int)] w (SpoilP B p v ls at_ i bt w) := by
  have HN : Hid (NetI w B p v ls) := h
  have HX : Hid (Calls _ _ _ _ _) := has_any B p v ls at_ w h
  clear h
  go_enter Try.func12, Try.ntmps12
  go_wp2_with fail
  refine HX.out.mono ?_
  rintro e w1 ⟨rfl, hw⟩
  rw [hw]
  clear HX hw w1
  obtain ⟨b, hb⟩ : ∃ b, inB at_ ls.length = b := ⟨_, rfl⟩
  rw [hb]
  have HB : Hid (inB at_ ls.length = b) := hb
  clear hb
  cases b with
  | false =>
    have HNO : Hid (¬ (∃ (x : LetV) (k j : Nat), at_ = (k : Int) ∧ ls[k]? = some x ∧ i = (j : Int) ∧ j < x.bs.length)) := by
      rintro ⟨x, k, j, rfl, hx, _⟩
      have h1 := (List.getElem?_eq_some_iff.1 hx).1
      have h2 := of_decide_eq_false HB.out
      omega
    go_wp2
    go_ret
    exact .inl ⟨HNO.out, rfl, rfl⟩
  | true =>
    have hbb := of_decide_eq_true HB.out
    obtain ⟨k, hk⟩ : ∃ k : Nat, at_ = (k : Int) := ⟨at_.toNat, by omega⟩
    subst hk
    have hkl : k < ls.length := by omega
    obtain ⟨a, cap, hv, hlk, hkm, hnn, hga⟩ := HN.out.form
    obtain ⟨ad, had⟩ : ∃ ad, a = some ad := by
      cases a with
      | none => have := hnn rfl; rw [this] at hkl; simp at hkl
      | some ad => exact ⟨ad, rfl⟩
    obtain ⟨g, hg⟩ := hga ad had
    subst had
    subst hg
    subst hv
    obtain ⟨n, hn⟩ : ∃ n, n = ls.length := ⟨_, rfl⟩
    have c0 : w.cell? ⟨p, 0, none⟩ = some (.slice (some ⟨g, 0, none⟩) n cap) := by rw [hn]; exact HN.out.blk.cell 0
    obtain ⟨k0, k1⟩ := HN.out.cell hkl
    obtain ⟨x, hx⟩ : ∃ x, x = ls[k] := ⟨_, rfl⟩
    rw [← hx] at k0 k1
    have HXI : Hid (ls[k]? = some x) := by show _ = _; rw [List.getElem?_eq_getElem hkl, hx]
    have hxe := HN.out.el x (by rw [hx]; exact List.getElem_mem _)
    have HXO : Hid (Own w B x.v x.bs) := hxe.1
    have hxn : x.n = x.bs.length := by
      obtain ⟨a, c, e⟩ := hxe.1.any
      unfold LetV.v at e
      simp only [Value.slice.injEq] at e
      exact e.2.1
    have HXN : Hid (x.n = x.bs.length) := hxn
    have HXL : Hid (x.bs.length ≤ 200) := hxe.2.1
    have HKL : Hid (k < ls.length) := hkl
    have hx200 : x.n ≤ 200 := by rw [hxn]; exact hxe.2.1
    have hk0 : (k : Int) < (n : Int) := by omega
    have hkn : k < n := by omega
    have hlk2 : n ≤ cap := by omega
    clear hx hbb hnn hxe hxn hkl hlk hn
    unfold maxLen at hkm
    by_cases hi0 : i < 0
    · have HNO : Hid (¬ (∃ (x : LetV) (k' j : Nat), (k : Int) = (k' : Int) ∧ ls[k']? = some x ∧ i = (j : Int) ∧ j < x.bs.length)) := by
        rintro ⟨x, k, j, _, _, rfl, _⟩
        omega
      go_wp2
      go_ret
      exact .inl ⟨HNO.out, rfl, rfl⟩
    obtain ⟨j, hj⟩ : ∃ j : Nat, i = (j : Int) := ⟨i.toNat, by omega⟩
    subst hj
    clear hi0
    by_cases hjn : x.n ≤ j
    · have HNO : Hid (¬ (∃ (x : LetV) (k' j' : Nat), (k : Int) = (k' : Int) ∧ ls[k']? = some x ∧ (j : Int) = (j' : Int) ∧ j' < x.bs.length)) := by
        rintro ⟨x', k', j', e1, hx', e2, hj⟩
        have e3 : k' = k := by omega
        subst e3
        have h1 := HXI.out
        rw [h1] at hx'
        cases hx'
        have := HXN.out
        omega
      have hge : (x.n : Int) ≤ (j : Int) := by omega
      go_wp2
      go_ret
      exact .inl ⟨HNO.out, rfl, rfl⟩
    have hjb : j < x.bs.length := by have := HXN.out; omega
    have hjx : j < x.n := by omega
    obtain ⟨gb, capb, hvb, hlc, hcm, ⟨ob, hob, hcell⟩, hfz, hset⟩ := own_set HXO.out hjb
    have HOB : Hid (x.bs[j]? = some ob) := hob
    unfold LetV.v at hvb
    simp only [Value.slice.injEq] at hvb
    obtain ⟨va, vn, vc⟩ := hvb
    rw [va, vc] at k1
    have HVB : Hid (x.v = .slice (some ⟨gb, 0, none⟩) x.bs.length capb) := by show _ = _; unfold LetV.v; rw [va, vn, vc]
    have hxor := xor_u8 ob bt
    have HSET : Hid (Own (w.setCell ⟨gb, j, none⟩ (.int .u8 ((ob ^^^ bt).toNat : Int))) B x.v (x.bs.set j (ob ^^^ bt))) := hset _
    have hxc : x.n ≤ capb := by rw [vn]; exact hlc
    unfold maxLen at hcm
    have HJ : Hid (j < x.bs.length) := hjb
    have HCH : Hid (Chg (fun b => x.v.ownBlock = some b) w (w.setCell ⟨gb, j, none⟩ (.int .u8 ((ob ^^^ bt).toNat : Int)))) := Chg.setCell (Chg.refl _ _) _ (fun _ => by rw [HVB.out]; rfl) _
    have HNI : Hid (NetI (w.setCell ⟨gb, j, none⟩ (.int .u8 ((ob ^^^ bt).toNat : Int))) B p _ (ls.set k { x with bs := x.bs.set j (ob ^^^ bt) })) := HN.out.spoil (List.getElem?_eq_some_iff.1 HXI.out).1 (List.getElem?_eq_some_iff.1 HXI.out).2 (y := { x with bs := x.bs.set j (ob ^^^ bt) }) rfl rfl (List.length_set ..) HSET.out HCH.out
    have HRES : Hid (∀ e, e = .returned (.int .i64 0) → SpoilP B p (.slice (some ⟨g, 0, none⟩) ls.length cap) ls (k : Int) (j : Int) bt w e (w.setCell ⟨gb, j, none⟩ (.int .u8 ((ob ^^^ bt).toNat : Int)))) := fun e he => .inr ⟨x, k, j, ob, rfl, HXI.out, rfl, HOB.out, he, HNI.out, HCH.out⟩
    clear hset hlc vn va vc HNI HCH HSET
    obtain ⟨nb, hnb⟩ : ∃ nb, nb = ob ^^^ bt := ⟨_, rfl⟩
    rw [← hnb] at hxor HRES
    clear hob hnb HVB HJ hjb
    go_wp2
    go_ret
    exact HRES.out _ rfl
end Go.Proofs.Ytcemecclpofhbaa
