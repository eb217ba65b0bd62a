/- KeyMaps: the walk of the law's Go text. -/
import Derived.Test.YtopnblhedankcaaMapD
import Derived.Maps.AppendAt
namespace Go.Proofs.Ytopnblhedankcaa
open Go.ChangeShapes Go.WideShapes Go.ChangeAt Go.RowKit

theorem same_is (b : Bool) (ao bo : Option Addr) (n c n' c' : Nat) (m o : List KV) (w : World) (hp : Pairs w (.slice ao n c) m) (hq : Pairs w (.slice bo n' c') o) (h : decide (m = o) = b) :
    Calls Try.prog 37 #[.slice ao n c, .slice bo n' c'] w fun e w' => e = .returned (.bool b) ∧ Ext w w' := by
  have := same_any ao bo n c n' c' m o w hp hq
  rw [h] at this
  exact this
theorem cell_next2 {w : World} {a : Addr} {i : Nat} {v : Value} (h : w.cell? (a.add (i + 2)) = some v) : w.cell? ⟨(a.add i).block, (a.add i).off + 2, none⟩ = some v := by
  unfold Addr.add at h ⊢
  rw [if_neg (by omega)] at h
  split
  · rename_i h0; subst h0; simpa using h
  · simpa [Nat.add_assoc] using h
theorem GMap.more {w : World} {b n n' : Nat} {m : List KV} (h : GMap w b n m) (hn : n ≤ n') : GMap w b n' m := by
  obtain ⟨D, h1, h2⟩ := h
  exact ⟨D, h1.mono hn, h2⟩
theorem ins_keys {k v : ByteArray} : ∀ {m : List KV}, (∀ p ∈ m, p.1.size ≤ maxLen) → k.size ≤ maxLen → ∀ p ∈ ins k v m, p.1.size ≤ maxLen
  | [], _, hk, p, hp => by simp [ins] at hp; rw [hp]; exact hk
  | q :: t, hm, hk, p, hp => by
    unfold ins at hp
    split at hp
    · rcases List.mem_cons.1 hp with rfl | hp
      · exact hm _ List.mem_cons_self
      · exact ins_keys (fun p hp => hm p (List.mem_cons_of_mem _ hp)) hk p hp
    · split at hp
      · rcases List.mem_cons.1 hp with rfl | hp
        · exact hk
        · exact hm _ hp
      · rcases List.mem_cons.1 hp with rfl | hp
        · exact hk
        · exact hm _ (List.mem_cons_of_mem _ hp)

theorem cell_far {w w' : World} {row : Option Nat} {a : Addr} {v : Value} (h : w.cell? a = some v) (hg : w.grownBy w' row) (hne : row ≠ some a.block) : w'.cell? a = some v :=
  (World.cell?_of_block (hg.block a.block (cell_lt h) (fun e => hne e.symm))).trans h
theorem wpList_joinMAt {ops : Array Oper} {rest : List Oper} {o : Oper} {a : Act} {Q : Exit → Act → World → Prop} (w : World) (hgd : o.guard = none) (s x : Operand)
    (ho : o.op = .call { callee := .builtin .append, args := #[s, x], argTypes := #[60, 60] })
    (B : Nat) (v : Value) (l m : List KV) (hown : OwnM w B v l) (hs : a.eval s = v) (gx cx : Nat) (hsrc : Pairs w (.slice (some ⟨gx, 0, none⟩) m.length cx) m) (hx : a.eval x = .slice (some ⟨gx, 0, none⟩) m.length cx)
    (hl : l.length + m.length < 1099511627776) (hB : B ≤ w.heap.size)
    (hK : ∀ v' w', OwnM w' B v' (mcat l m) → w.grownBy w' v.ownBlock → (v' = .slice none 0 0 → v = .slice none 0 0) → (v'.ownBlock = v.ownBlock ∨ v'.ownBlock = some w.heap.size) → wpList Try.prog ops Q rest (a.put o.dst v') w') :
    wpList Try.prog ops Q (o :: rest) a w := by
  obtain ⟨i0, hi, hz0, hz1, hz2⟩ := info_parts infoP
  obtain ⟨_, h1, h2, h3, h4⟩ := hsrc.at
  refine wpList_append_own_at _ hgd s x 60 ho B 70 i0 (.agg #[.string ByteArray.empty, .string ByteArray.empty]) 2 32 Try.underlying60 hi hz0 hz1 hz2 rfl (by decide) v l.length (pv l) hs hown ⟨gx, 0, none⟩ m.length cx (pv m) hx (pv_length m) (h4 _ rfl) (pv_one m) (by unfold maxLen; omega) (by omega) hB ?_
  intro v' w' k1 k2 k3 k4
  refine hK v' w' ?_ k2 (fun h => (k3.1 h).1) k4
  unfold OwnM mcat
  rw [List.length_append, pv_append]
  exact k1

set_option maxRecDepth 100000 in
set_option maxHeartbeats 16000000 in
theorem walk_KeyMaps (oa : Option Addr) (n c : Nat) (os : List (Int × ByteArray × ByteArray)) (w : World) (ho : IsOps w oa n os) :
    Calls Try.prog 13 #[.slice oa n c] w fun e w' => e = .returned (.bool true) ∧ Below w.heap.size w w' := by
  obtain ⟨rfl, hn, hnil, hcs⟩ := ho
  have HC : Hid (_) := hcs
  unfold maxLen at hn
  clear hcs
  have hmm := @run_makeMap Try.prog
  go_enter Try.func13, Try.ntmps13
  go_wp2_with (first | (go_at_call 29; refine (head2_any _).mono ?_; rintro e w' ⟨rfl, hw⟩; rw [hw]; clear hw w'))
  have HO1 : Hid (OwnM ((w.alloc (.cells #[] 70)).alloc (.map #[] 0)) w.heap.size (.slice (some ⟨w.heap.size, 0, none⟩) 0 0) []) := World.ownsRow.alloc (World.ownsRow_made w #[] 0 (Nat.le_refl _) (Nat.zero_le _) rfl) _
  have HG1 : Hid (GMap ((w.alloc (.cells #[] 70)).alloc (.map #[] 0)) (w.heap.size + 1) 0 []) := by
    show GMap _ _ _ _
    have := GMap.made (w.alloc (.cells #[] 70))
    simpa using this
  have HE1 : Hid (Below w.heap.size w ((w.alloc (.cells #[] 70)).alloc (.map #[] 0))) := ((Below.refl _ _).alloc (Nat.le_refl _) _).alloc (by simp) _
  clear hmm
  obtain ⟨b0, hb0⟩ : ∃ b0, b0 = w.heap.size + 1 := ⟨_, rfl⟩
  rw [← hb0] at HG1 ⊢
  have hb0' : w.heap.size ≤ b0 := by omega
  have hb0n : w.heap.size ≠ b0 := by omega
  clear hb0
  go_loopw [3, 5] (fun vm vi wr => ∃ (g cap i : Nat) (m : List KV), vm = .slice (some ⟨g, 0, none⟩) m.length cap ∧ vi = .int .i64 (i : Int) ∧ i ≤ os.length ∧ OwnM wr w.heap.size (.slice (some ⟨g, 0, none⟩) m.length cap) m ∧ g ≠ b0 ∧ Rising m ∧ m.length ≤ i ∧ GMap wr b0 i m ∧ (∀ p ∈ m, p.1.size ≤ maxLen) ∧ Below w.heap.size w wr) (fun _ vi _ => os.length - (intOf vi).toNat)
  case atStart => exact ⟨_, 0, 0, [], rfl, rfl, Nat.zero_le _, HO1.out, hb0n, List.Pairwise.nil, Nat.le_refl _, HG1.out, fun p hp => (by simp at hp), HE1.out⟩
  case round =>
    obtain ⟨g, cap, i, m, rfl, rfl, hi, hom, hgb, hrm, hml, hgm, hkm, hbw⟩ := hrel
    have OM : Hid (OwnM wr w.heap.size (.slice (some ⟨g, 0, none⟩) m.length cap) m) := hom
    have RM : Hid (Rising m) := hrm
    have GM : Hid (GMap wr b0 i m) := hgm
    have KM : Hid (∀ p ∈ m, p.1.size ≤ maxLen) := hkm
    have BW : Hid (Below w.heap.size w wr) := hbw
    clear hom hrm hgm hkm hbw HO1 HG1 HE1
    by_cases hlt : i < os.length
    · by_cases h50 : i < 50
      · obtain ⟨ad, rfl⟩ : ∃ ad, oa = some ad := by
          cases oa with
          | none => have := hnil rfl; omega
          | some ad => exact ⟨ad, rfl⟩
        obtain ⟨a1, a2, a3, _, hkz, hvz⟩ := HC.out ad rfl i hlt
        have k1 := (Below.cell BW.out (cell_lt a1)).trans a1
        have k2 := cell_next ((Below.cell BW.out (cell_lt a2)).trans a2)
        have k3 := cell_next2 ((Below.cell BW.out (cell_lt a3)).trans a3)
        clear a1 a2 a3
        generalize os[i].1 = x at *
        generalize os[i].2.1 = kk at *
        generalize os[i].2.2 = vv at *
        by_cases hs : kk.size ≤ 40 ∧ vv.size ≤ 60
        · obtain ⟨hs1, hs2⟩ := hs
          have hE1 : Ext wr ((wr.alloc (.cells #[.int .i64 x, .string kk, .string vv] 63)).alloc (.cells #[] 70)) := ((Below.refl _ _).alloc (Nat.le_refl _) _).alloc (by simp) _
          have hOE : OwnM ((wr.alloc (.cells #[.int .i64 x, .string kk, .string vv] 63)).alloc (.cells #[] 70)) w.heap.size (.slice (some ⟨wr.heap.size + 1, 0, none⟩) 0 0) [] := by
            have := World.ownsRow_made (base := w.heap.size) (e := 70) (size := 2) (wr.alloc (.cells #[.int .i64 x, .string kk, .string vv] 63)) #[] 0 (by have := Below.size BW.out; simp; omega) (Nat.zero_le _) rfl
            simpa [OwnM, pv] using this
          have hPE := OM.out.pairs.below hE1
          have hgl := (OM.out.lt g rfl).2
          have hbl := GM.out.lt
          have hws := Below.size BW.out
          have B0 : Hid (((wr.alloc (.cells #[.int .i64 x, .string kk, .string vv] 63)).alloc (.cells #[] 70)).cell? ⟨wr.heap.size, 0, none⟩ = some (.int .i64 x)) := by show _ = _; go_simp
          have B1 : Hid (((wr.alloc (.cells #[.int .i64 x, .string kk, .string vv] 63)).alloc (.cells #[] 70)).cell? ⟨wr.heap.size, 1, none⟩ = some (.string kk)) := by show _ = _; go_simp
          have B2 : Hid (((wr.alloc (.cells #[.int .i64 x, .string kk, .string vv] 63)).alloc (.cells #[] 70)).cell? ⟨wr.heap.size, 2, none⟩ = some (.string vv)) := by show _ = _; go_simp
          go_wp2_with (first | (at_builtin; refine wpList_joinMAt _ rfl _ _ rfl w.heap.size _ [] m hOE rfl g cap hPE rfl ?_ ?_ ?_))
          · simp; omega
          · simp; omega
          intro v2 w2 o2 hg2 hnn2 hat2
          have hE1' : Hid (Ext wr ((wr.alloc (.cells #[.int .i64 x, .string kk, .string vv] 63)).alloc (.cells #[] 70))) := hE1
          obtain ⟨gs, caps, hv2⟩ := OwnM.form o2 (fun h => by have := hnn2 h; simp at this)
          have hm2 : mcat [] m = m := rfl
          rw [hm2] at o2 hv2
          have hsb : gs ≠ b0 := by
            rw [hv2] at hat2
            rcases hat2 with h | h
            · have h1 : gs = wr.heap.size + 1 := by simpa [Value.ownBlock] using h
              omega
            · have h1 : gs = wr.heap.size + 1 + 1 := by simpa [Value.ownBlock] using h
              omega
          rw [hv2] at o2 ⊢
          have row1 : Hid ((Value.slice (some ⟨wr.heap.size + 1, 0, none⟩) 0 0).ownBlock = some (wr.heap.size + 1)) := rfl
          have hg2' : ((wr.alloc (.cells #[.int .i64 x, .string kk, .string vv] 63)).alloc (.cells #[] 70)).grownBy w2 (some (wr.heap.size + 1)) := hg2
          have OS2 : Hid (OwnM w2 w.heap.size (.slice (some ⟨gs, 0, none⟩) m.length caps) m) := o2
          have OM2 : Hid (OwnM w2 w.heap.size (.slice (some ⟨g, 0, none⟩) m.length cap) m) := (OM.out.below hE1).grown hg2' (by intro e; have := Option.some.inj e; omega)
          have GM2 : Hid (GMap w2 b0 i m) := (GM.out.below hE1).grown hg2' (by intro e; have := Option.some.inj e; omega)
          have BW2 : Hid (Below w.heap.size w w2) := Below.grown (BW.out.trans (Below.mono hE1 hws)) hg2' (by simp; omega) (by intro k hk; cases hk; omega)
          have d0 := cell_far B0.out hg2' (by intro e; have : wr.heap.size + 1 = wr.heap.size := Option.some.inj e; omega)
          have d1 := cell_far B1.out hg2' (by intro e; have : wr.heap.size + 1 = wr.heap.size := Option.some.inj e; omega)
          have d2 := cell_far B2.out hg2' (by intro e; have : wr.heap.size + 1 = wr.heap.size := Option.some.inj e; omega)
          have D0 : Hid (_ = _) := d0
          have D1 : Hid (_ = _) := d1
          have D2 : Hid (_ = _) := d2
          clear hE1 hOE hPE hv2 hnn2 hat2 hg2 hg2' o2 hm2 row1 B0 B1 B2 OM GM hE1' k1 k2 k3 d0 d2 BW
          go_wp2_with (first | (at_lookup; refine wpList_askM _ rfl _ _ rfl b0 i m GM2.out rfl kk hkz rfl ?_))
          refine (get_any (some ⟨g, 0, none⟩) m.length cap m kk _ OM2.out.pairs RM.out (by omega)).mono ?_
          rintro e w3 ⟨rfl, x3⟩
          have OS3 : Hid (OwnM w3 w.heap.size (.slice (some ⟨gs, 0, none⟩) m.length caps) m) := OS2.out.below x3
          have OM3 : Hid (OwnM w3 w.heap.size (.slice (some ⟨g, 0, none⟩) m.length cap) m) := OM2.out.below x3
          have GM3 : Hid (GMap w3 b0 i m) := GM2.out.below x3
          have BW3 : Hid (Below w.heap.size w w3) := BW2.out.trans (Below.mono x3 (Below.size BW2.out))
          have c0 := (Below.cell x3 (cell_lt D0.out)).trans D0.out
          have c1 := (Below.cell x3 (cell_lt D1.out)).trans D1.out
          have c2 := (Below.cell x3 (cell_lt D2.out)).trans D2.out
          have B1 : Hid (_ = _) := c1
          have B2 : Hid (_ = _) := c2
          clear OS2 OM2 GM2 BW2 D0 D1 D2 d1 x3
          by_cases hx0 : x = 0
          · subst hx0
            go_wp2_with fail
            refine (with_any (some ⟨g, 0, none⟩) m.length cap m kk vv _ OM3.out.pairs RM.out (by omega)).mono ?_
            rintro e w4 ⟨g', cap', rfl, o4, x4⟩
            have hGM4 := GM3.out.below x4
            have hg' : b0 ≠ g' := by have h1 := (o4.lt g' rfl).1; have h2 := GM3.out.lt; omega
            have OM4 : Hid (OwnM w4 w.heap.size (.slice (some ⟨g, 0, none⟩) m.length cap) m) := OM3.out.below x4
            have OS4 : Hid (OwnM w4 w.heap.size (.slice (some ⟨gs, 0, none⟩) m.length caps) m) := OS3.out.below x4
            have ON4 : Hid (OwnM w4 w.heap.size (.slice (some ⟨g', 0, none⟩) (ins kk vv m).length cap') (ins kk vv m)) := o4.mono (Below.size BW3.out)
            have BW4 : Hid (Below w.heap.size w w4) := BW3.out.trans (Below.mono x4 (Below.size BW3.out))
            have b1 := (Below.cell x4 (cell_lt B1.out)).trans B1.out
            have b2 := (Below.cell x4 (cell_lt B2.out)).trans B2.out
            clear o4 x4
            go_wp2_with (first | (at_mapUpdate; refine wpList_layM _ rfl _ _ _ rfl b0 i m hGM4 ?_ rfl kk vv hkz hvz rfl rfl ?_))
            · unfold maxLen; omega
            intro w5 gm5 hg5
            have OM5 := OM4.out.grown hg5 (by intro e; exact hgb (Option.some.inj e).symm)
            have OS5 := OS4.out.grown hg5 (by intro e; exact hsb (Option.some.inj e).symm)
            have ON5 := ON4.out.grown hg5 (by intro e; exact hg' (Option.some.inj e))
            have BW5 : Hid (Below w.heap.size w w5) := Below.grown BW4.out hg5 (Below.size BW4.out) (by intro k hk; cases hk; omega)
            have HP5 : Hid (Pairs w5 _ m) := OM5.pairs
            have HS5 : Hid (Pairs w5 _ m) := OS5.pairs
            have GM5 : Hid (GMap w5 b0 (i + 1) (ins kk vv m)) := gm5
            have ON5' : Hid (OwnM w5 w.heap.size (.slice (some ⟨g', 0, none⟩) (ins kk vv m).length cap') (ins kk vv m)) := ON5
            have RM' : Hid (Rising (ins kk vv m)) := ins_rising kk vv m RM.out
            have KM' : Hid (∀ p ∈ ins kk vv m, p.1.size ≤ maxLen) := ins_keys KM.out hkz
            have hml' := ins_length kk vv m
            have hgb' : g' ≠ b0 := fun e => hg' e.symm
            clear OM5 OS5 ON5 gm5 hg5 hGM4 OM4 OS4 ON4 BW4 b1 b2
            generalize ins kk vv m = m' at *
            go_wp2_with fail
            refine (same_is true _ _ _ _ _ _ _ _ _ HP5.out HS5.out (decide_eq_true rfl)).mono ?_
            rintro e w7 ⟨rfl, x7⟩
            have GM7 : Hid (GMap w7 b0 (i + 1) m') := GM5.out.below x7
            have ON7 : Hid (OwnM w7 w.heap.size (.slice (some ⟨g', 0, none⟩) m'.length cap') m') := ON5'.out.below x7
            have BW7 : Hid (Below w.heap.size w w7) := BW5.out.trans (Below.mono x7 (Below.size BW5.out))
            clear x7 HP5 HS5 GM5 ON5' BW5
            have hl7 : ∀ ty, (Builtin.len_ #[61] ty #[.map (some b0)]).run Try.prog w7 = .ok (.int .i64 (m'.length : Int)) w7 := fun ty => GM7.out.len ty
            have hmm' : m'.length ≤ 50 := by omega
            go_wp2_with fail
            have PP : Hid (Pairs w7 (.slice (some ⟨g', 0, none⟩) m'.length cap') m') := ON7.out.pairs
            clear hl7
            generalize hgad : (⟨g', 0, none⟩ : Addr) = ad' at *
            have HGA : Hid ((⟨g', 0, none⟩ : Addr) = ad') := hgad
            clear hgad
            go_loopw [108] (fun vk wr => ∃ k : Nat, vk = .int .i64 (k : Int) ∧ k ≤ m'.length ∧ Ext w7 wr) (fun vk _ => m'.length - (intOf vk).toNat)
            case atStart => exact ⟨0, rfl, Nat.zero_le _, Ext.refl _⟩
            case round =>
              obtain ⟨k, rfl, hk, hX⟩ := hrel
              have HX : Hid (Ext w7 wr) := hX
              clear hX
              by_cases hkl : k < m'.length
              · have C0 : Hid (w7.cell? (ad'.add (k * 2)) = some (.string m'[k].1)) := PP.out.at.2.2.2.2 ad' rfl (k * 2) _ (pv_at m' k hkl).1
                have C1 : Hid (w7.cell? (ad'.add (k * 2 + 1)) = some (.string m'[k].2)) := PP.out.at.2.2.2.2 ad' rfl (k * 2 + 1) _ (pv_at m' k hkl).2
                have HGET : Hid (getK m'[k].1 m' = some m'[k].2) := getK_get m' RM'.out k hkl
                have hkk := KM'.out m'[k] (List.getElem_mem _)
                by_cases hk0 : k = 0
                · have hd : decide ((0 : Int) < (k : Int)) = false := decide_eq_false (by omega)
                  have hd2 : decide (0 < k) = false := decide_eq_false (by omega)
                  clear hk0
                  generalize m'[k].1 = kk at *
                  generalize m'[k].2 = vv at *
                  go_wp2_with fail
                  haveI n1 := cls_ext wr.drew
                  refine wp_region_ext (by kernel_rfl) ?_
                  refine wpAnyH_seg (by kernel_rfl) (fun _ _ _ h => h) [0, 1, 2, 3, 4, 5, 6, 7, 8, 9, 10, 11, 12, 13, 14, 15] 0 _ _ _ (Ext.refl _) (by kernel_rfl) ?_
                  simp only [opsAt, List.getElem?_toArray, List.getElem?_cons_zero, List.getElem?_cons_succ, List.cons_append, List.nil_append]
                  repeat (go_big_quiet_step (fail))
                  refine wpQuiet_nil ?_
                  refine wpAnyH_done (by kernel_rfl) (NoPanic.normal ?_) 0
                  have hask : Hid (GMap wr.drew b0 (i + 1) m') := GM7.out.below (Below.drew HX.out)
                  have hc1 := cell_next ((Below.cell (Below.drew HX.out) (cell_lt C1.out)).trans C1.out)
                  have hc0 := (Below.cell (Below.drew HX.out) (cell_lt C0.out)).trans C0.out
                  clear n1 hd hd2
                  go_wp2_with (first | (at_lookup; refine wpList_askM _ rfl _ _ rfl b0 (i + 1) m' hask.out rfl kk hkk rfl ?_; rw [HGET.out]))
                  go_roundw
                  case rel => exact ⟨k + 1, by go_num, by omega, (Below.drew HX.out)⟩
                  case measure => simp [intOf]; omega
                · obtain ⟨k, rfl⟩ : ∃ j, k = j + 1 := ⟨k - 1, by omega⟩
                  clear hk0
                  have D0 : Hid (w7.cell? (ad'.add (k * 2)) = some (.string m'[k].1)) := PP.out.at.2.2.2.2 ad' rfl (k * 2) _ (pv_at m' k (by omega)).1
                  have hless : Op.bytesLess m'[k].1.toList m'[k + 1].1.toList = true := rising_get RM'.out (Nat.lt_succ_self k) hkl
                  generalize m'[k + 1].1 = kk at *
                  generalize m'[k + 1].2 = vv at *
                  generalize m'[k].1 = k0 at *
                  have hd : decide ((0 : Int) < (k : Int) + 1) = true := decide_eq_true (by omega)
                  go_wp2_with fail
                  have q0 := cellE (W0 := wr.drew) ((Below.cell HX.out (cell_lt C0.out)).trans C0.out)
                  have q1 := cellE (W0 := wr.drew) ((Below.cell HX.out (cell_lt D0.out)).trans D0.out)
                  haveI n1 := cls_ext wr.drew
                  refine wp_region_ext (by kernel_rfl) ?_
                  refine wpAnyH_seg (by kernel_rfl) (fun _ _ _ h => h) [0, 1, 2, 3, 4, 5, 6, 7, 8, 9, 10, 11, 12, 13, 14, 15] 0 _ _ _ (Ext.refl _) (by kernel_rfl) ?_
                  simp only [opsAt, List.getElem?_toArray, List.getElem?_cons_zero, List.getElem?_cons_succ, List.cons_append, List.nil_append]
                  repeat (go_big_quiet_step (fail))
                  refine wpQuiet_nil ?_
                  refine wpAnyH_done (by kernel_rfl) (NoPanic.normal ?_) 0
                  have hask : Hid (GMap wr.drew b0 (i + 1) m') := GM7.out.below (Below.drew HX.out)
                  have hc1 := cell_next ((Below.cell (Below.drew HX.out) (cell_lt C1.out)).trans C1.out)
                  have hc0 := (Below.cell (Below.drew HX.out) (cell_lt C0.out)).trans C0.out
                  clear n1 q0 q1 hless hd
                  go_wp2_with (first | (at_lookup; refine wpList_askM _ rfl _ _ rfl b0 (i + 1) m' hask.out rfl kk hkk rfl ?_; rw [HGET.out]))
                  go_roundw
                  case rel => exact ⟨k + 2, by go_num, by omega, (Below.drew HX.out)⟩
                  case measure => simp [intOf]; omega
              · go_wp2_with fail
                go_roundw
                case rel => exact ⟨g', cap', i + 1, m', by rw [← HGA.out], by go_num, by omega, (by rw [← HGA.out] at ON7; exact ON7.out.below HX.out), hgb', RM'.out, by omega, GM7.out.below HX.out, KM'.out, BW7.out.trans (HX.out.mono (Below.size BW7.out))⟩
                case measure => simp [intOf]; omega
          · by_cases hx1 : x = 1
            · subst hx1
              go_wp2_with fail
              refine (without_any (some ⟨g, 0, none⟩) m.length cap m kk _ OM3.out.pairs RM.out (by omega)).mono ?_
              rintro e w4 ⟨g', cap', rfl, o4, x4⟩
              have hGM4 := GM3.out.below x4
              have hg' : b0 ≠ g' := by have h1 := (o4.lt g' rfl).1; have h2 := GM3.out.lt; omega
              have OM4 : Hid (OwnM w4 w.heap.size (.slice (some ⟨g, 0, none⟩) m.length cap) m) := OM3.out.below x4
              have OS4 : Hid (OwnM w4 w.heap.size (.slice (some ⟨gs, 0, none⟩) m.length caps) m) := OS3.out.below x4
              have ON4 : Hid (OwnM w4 w.heap.size (.slice (some ⟨g', 0, none⟩) (del kk m).length cap') (del kk m)) := o4.mono (Below.size BW3.out)
              have BW4 : Hid (Below w.heap.size w w4) := BW3.out.trans (Below.mono x4 (Below.size BW3.out))
              have b1 := (Below.cell x4 (cell_lt B1.out)).trans B1.out
              clear o4 x4
              go_wp2_with (first | (at_delete; refine wpList_dropM _ rfl _ _ rfl b0 i m RM.out hGM4 rfl kk hkz rfl ?_))
              intro w5 gm5 hg5
              have OM5 := OM4.out.grown hg5 (by intro e; exact hgb (Option.some.inj e).symm)
              have OS5 := OS4.out.grown hg5 (by intro e; exact hsb (Option.some.inj e).symm)
              have ON5 := ON4.out.grown hg5 (by intro e; exact hg' (Option.some.inj e))
              have BW5 : Hid (Below w.heap.size w w5) := Below.grown BW4.out hg5 (Below.size BW4.out) (by intro k hk; cases hk; omega)
              have HP5 : Hid (Pairs w5 _ m) := OM5.pairs
              have HS5 : Hid (Pairs w5 _ m) := OS5.pairs
              have GM5 : Hid (GMap w5 b0 (i + 1) (del kk m)) := gm5.more (Nat.le_succ i)
              have ON5' : Hid (OwnM w5 w.heap.size (.slice (some ⟨g', 0, none⟩) (del kk m).length cap') (del kk m)) := ON5
              have RM' : Hid (Rising (del kk m)) := del_rising kk m RM.out
              have KM' : Hid (∀ p ∈ del kk m, p.1.size ≤ maxLen) := fun p hp => KM.out p (del_mem kk m p hp)
              have hml' := del_length kk m
              have hgb' : g' ≠ b0 := fun e => hg' e.symm
              clear OM5 OS5 ON5 gm5 hg5 hGM4 OM4 OS4 ON4 BW4 b1
              generalize del kk m = m' at *
              go_wp2_with fail
              refine (same_is true _ _ _ _ _ _ _ _ _ HP5.out HS5.out (decide_eq_true rfl)).mono ?_
              rintro e w7 ⟨rfl, x7⟩
              have GM7 : Hid (GMap w7 b0 (i + 1) m') := GM5.out.below x7
              have ON7 : Hid (OwnM w7 w.heap.size (.slice (some ⟨g', 0, none⟩) m'.length cap') m') := ON5'.out.below x7
              have BW7 : Hid (Below w.heap.size w w7) := BW5.out.trans (Below.mono x7 (Below.size BW5.out))
              clear x7 HP5 HS5 GM5 ON5' BW5
              have hl7 : ∀ ty, (Builtin.len_ #[61] ty #[.map (some b0)]).run Try.prog w7 = .ok (.int .i64 (m'.length : Int)) w7 := fun ty => GM7.out.len ty
              have hmm' : m'.length ≤ 50 := by omega
              go_wp2_with fail
              have PP : Hid (Pairs w7 (.slice (some ⟨g', 0, none⟩) m'.length cap') m') := ON7.out.pairs
              clear hl7
              generalize hgad : (⟨g', 0, none⟩ : Addr) = ad' at *
              have HGA : Hid ((⟨g', 0, none⟩ : Addr) = ad') := hgad
              clear hgad
              go_loopw [108] (fun vk wr => ∃ k : Nat, vk = .int .i64 (k : Int) ∧ k ≤ m'.length ∧ Ext w7 wr) (fun vk _ => m'.length - (intOf vk).toNat)
              case atStart => exact ⟨0, rfl, Nat.zero_le _, Ext.refl _⟩
              case round =>
                obtain ⟨k, rfl, hk, hX⟩ := hrel
                have HX : Hid (Ext w7 wr) := hX
                clear hX
                by_cases hkl : k < m'.length
                · have C0 : Hid (w7.cell? (ad'.add (k * 2)) = some (.string m'[k].1)) := PP.out.at.2.2.2.2 ad' rfl (k * 2) _ (pv_at m' k hkl).1
                  have C1 : Hid (w7.cell? (ad'.add (k * 2 + 1)) = some (.string m'[k].2)) := PP.out.at.2.2.2.2 ad' rfl (k * 2 + 1) _ (pv_at m' k hkl).2
                  have HGET : Hid (getK m'[k].1 m' = some m'[k].2) := getK_get m' RM'.out k hkl
                  have hkk := KM'.out m'[k] (List.getElem_mem _)
                  by_cases hk0 : k = 0
                  · have hd : decide ((0 : Int) < (k : Int)) = false := decide_eq_false (by omega)
                    have hd2 : decide (0 < k) = false := decide_eq_false (by omega)
                    clear hk0
                    generalize m'[k].1 = kk at *
                    generalize m'[k].2 = vv at *
                    go_wp2_with fail
                    haveI n1 := cls_ext wr.drew
                    refine wp_region_ext (by kernel_rfl) ?_
                    refine wpAnyH_seg (by kernel_rfl) (fun _ _ _ h => h) [0, 1, 2, 3, 4, 5, 6, 7, 8, 9, 10, 11, 12, 13, 14, 15] 0 _ _ _ (Ext.refl _) (by kernel_rfl) ?_
                    simp only [opsAt, List.getElem?_toArray, List.getElem?_cons_zero, List.getElem?_cons_succ, List.cons_append, List.nil_append]
                    repeat (go_big_quiet_step (fail))
                    refine wpQuiet_nil ?_
                    refine wpAnyH_done (by kernel_rfl) (NoPanic.normal ?_) 0
                    have hask : Hid (GMap wr.drew b0 (i + 1) m') := GM7.out.below (Below.drew HX.out)
                    have hc1 := cell_next ((Below.cell (Below.drew HX.out) (cell_lt C1.out)).trans C1.out)
                    have hc0 := (Below.cell (Below.drew HX.out) (cell_lt C0.out)).trans C0.out
                    clear n1 hd hd2
                    go_wp2_with (first | (at_lookup; refine wpList_askM _ rfl _ _ rfl b0 (i + 1) m' hask.out rfl kk hkk rfl ?_; rw [HGET.out]))
                    go_roundw
                    case rel => exact ⟨k + 1, by go_num, by omega, (Below.drew HX.out)⟩
                    case measure => simp [intOf]; omega
                  · obtain ⟨k, rfl⟩ : ∃ j, k = j + 1 := ⟨k - 1, by omega⟩
                    clear hk0
                    have D0 : Hid (w7.cell? (ad'.add (k * 2)) = some (.string m'[k].1)) := PP.out.at.2.2.2.2 ad' rfl (k * 2) _ (pv_at m' k (by omega)).1
                    have hless : Op.bytesLess m'[k].1.toList m'[k + 1].1.toList = true := rising_get RM'.out (Nat.lt_succ_self k) hkl
                    generalize m'[k + 1].1 = kk at *
                    generalize m'[k + 1].2 = vv at *
                    generalize m'[k].1 = k0 at *
                    have hd : decide ((0 : Int) < (k : Int) + 1) = true := decide_eq_true (by omega)
                    go_wp2_with fail
                    have q0 := cellE (W0 := wr.drew) ((Below.cell HX.out (cell_lt C0.out)).trans C0.out)
                    have q1 := cellE (W0 := wr.drew) ((Below.cell HX.out (cell_lt D0.out)).trans D0.out)
                    haveI n1 := cls_ext wr.drew
                    refine wp_region_ext (by kernel_rfl) ?_
                    refine wpAnyH_seg (by kernel_rfl) (fun _ _ _ h => h) [0, 1, 2, 3, 4, 5, 6, 7, 8, 9, 10, 11, 12, 13, 14, 15] 0 _ _ _ (Ext.refl _) (by kernel_rfl) ?_
                    simp only [opsAt, List.getElem?_toArray, List.getElem?_cons_zero, List.getElem?_cons_succ, List.cons_append, List.nil_append]
                    repeat (go_big_quiet_step (fail))
                    refine wpQuiet_nil ?_
                    refine wpAnyH_done (by kernel_rfl) (NoPanic.normal ?_) 0
                    have hask : Hid (GMap wr.drew b0 (i + 1) m') := GM7.out.below (Below.drew HX.out)
                    have hc1 := cell_next ((Below.cell (Below.drew HX.out) (cell_lt C1.out)).trans C1.out)
                    have hc0 := (Below.cell (Below.drew HX.out) (cell_lt C0.out)).trans C0.out
                    clear n1 q0 q1 hless hd
                    go_wp2_with (first | (at_lookup; refine wpList_askM _ rfl _ _ rfl b0 (i + 1) m' hask.out rfl kk hkk rfl ?_; rw [HGET.out]))
                    go_roundw
                    case rel => exact ⟨k + 2, by go_num, by omega, (Below.drew HX.out)⟩
                    case measure => simp [intOf]; omega
                · go_wp2_with fail
                  go_roundw
                  case rel => exact ⟨g', cap', i + 1, m', by rw [← HGA.out], by go_num, by omega, (by rw [← HGA.out] at ON7; exact ON7.out.below HX.out), hgb', RM'.out, by omega, GM7.out.below HX.out, KM'.out, BW7.out.trans (HX.out.mono (Below.size BW7.out))⟩
                  case measure => simp [intOf]; omega
            · go_wp2_with fail
              refine (same_is true _ _ _ _ _ _ _ _ _ OM3.out.pairs OS3.out.pairs (decide_eq_true rfl)).mono ?_
              rintro e w7 ⟨rfl, x7⟩
              have GM7 : Hid (GMap w7 b0 (i + 1) m) := (GM3.out.below x7).more (Nat.le_succ i)
              have ON7 : Hid (OwnM w7 w.heap.size (.slice (some ⟨g, 0, none⟩) m.length cap) m) := OM3.out.below x7
              have BW7 : Hid (Below w.heap.size w w7) := BW3.out.trans (Below.mono x7 (Below.size BW3.out))
              clear x7
              have hl7 : ∀ ty, (Builtin.len_ #[61] ty #[.map (some b0)]).run Try.prog w7 = .ok (.int .i64 (m.length : Int)) w7 := fun ty => GM7.out.len ty
              have hmm : m.length ≤ 50 := by omega
              go_wp2_with fail
              have PP : Hid (Pairs w7 (.slice (some ⟨g, 0, none⟩) m.length cap) m) := ON7.out.pairs
              clear hl7
              generalize hgad : (⟨g, 0, none⟩ : Addr) = ad' at *
              have HGA : Hid ((⟨g, 0, none⟩ : Addr) = ad') := hgad
              clear hgad
              go_loopw [108] (fun vk wr => ∃ k : Nat, vk = .int .i64 (k : Int) ∧ k ≤ m.length ∧ Ext w7 wr) (fun vk _ => m.length - (intOf vk).toNat)
              case atStart => exact ⟨0, rfl, Nat.zero_le _, Ext.refl _⟩
              case round =>
                obtain ⟨k, rfl, hk, hX⟩ := hrel
                have HX : Hid (Ext w7 wr) := hX
                clear hX
                by_cases hkl : k < m.length
                · have C0 : Hid (w7.cell? (ad'.add (k * 2)) = some (.string m[k].1)) := PP.out.at.2.2.2.2 ad' rfl (k * 2) _ (pv_at m k hkl).1
                  have C1 : Hid (w7.cell? (ad'.add (k * 2 + 1)) = some (.string m[k].2)) := PP.out.at.2.2.2.2 ad' rfl (k * 2 + 1) _ (pv_at m k hkl).2
                  have HGET : Hid (getK m[k].1 m = some m[k].2) := getK_get m RM.out k hkl
                  have hkk := KM.out m[k] (List.getElem_mem _)
                  by_cases hk0 : k = 0
                  · have hd : decide ((0 : Int) < (k : Int)) = false := decide_eq_false (by omega)
                    have hd2 : decide (0 < k) = false := decide_eq_false (by omega)
                    clear hk0
                    generalize m[k].1 = kk at *
                    generalize m[k].2 = vv at *
                    go_wp2_with fail
                    haveI n1 := cls_ext wr.drew
                    refine wp_region_ext (by kernel_rfl) ?_
                    refine wpAnyH_seg (by kernel_rfl) (fun _ _ _ h => h) [0, 1, 2, 3, 4, 5, 6, 7, 8, 9, 10, 11, 12, 13, 14, 15] 0 _ _ _ (Ext.refl _) (by kernel_rfl) ?_
                    simp only [opsAt, List.getElem?_toArray, List.getElem?_cons_zero, List.getElem?_cons_succ, List.cons_append, List.nil_append]
                    repeat (go_big_quiet_step (fail))
                    refine wpQuiet_nil ?_
                    refine wpAnyH_done (by kernel_rfl) (NoPanic.normal ?_) 0
                    have hask : Hid (GMap wr.drew b0 (i + 1) m) := GM7.out.below (Below.drew HX.out)
                    have hc1 := cell_next ((Below.cell (Below.drew HX.out) (cell_lt C1.out)).trans C1.out)
                    have hc0 := (Below.cell (Below.drew HX.out) (cell_lt C0.out)).trans C0.out
                    clear n1 hd hd2
                    go_wp2_with (first | (at_lookup; refine wpList_askM _ rfl _ _ rfl b0 (i + 1) m hask.out rfl kk hkk rfl ?_; rw [HGET.out]))
                    go_roundw
                    case rel => exact ⟨k + 1, by go_num, by omega, (Below.drew HX.out)⟩
                    case measure => simp [intOf]; omega
                  · obtain ⟨k, rfl⟩ : ∃ j, k = j + 1 := ⟨k - 1, by omega⟩
                    clear hk0
                    have D0 : Hid (w7.cell? (ad'.add (k * 2)) = some (.string m[k].1)) := PP.out.at.2.2.2.2 ad' rfl (k * 2) _ (pv_at m k (by omega)).1
                    have hless : Op.bytesLess m[k].1.toList m[k + 1].1.toList = true := rising_get RM.out (Nat.lt_succ_self k) hkl
                    generalize m[k + 1].1 = kk at *
                    generalize m[k + 1].2 = vv at *
                    generalize m[k].1 = k0 at *
                    have hd : decide ((0 : Int) < (k : Int) + 1) = true := decide_eq_true (by omega)
                    go_wp2_with fail
                    have q0 := cellE (W0 := wr.drew) ((Below.cell HX.out (cell_lt C0.out)).trans C0.out)
                    have q1 := cellE (W0 := wr.drew) ((Below.cell HX.out (cell_lt D0.out)).trans D0.out)
                    haveI n1 := cls_ext wr.drew
                    refine wp_region_ext (by kernel_rfl) ?_
                    refine wpAnyH_seg (by kernel_rfl) (fun _ _ _ h => h) [0, 1, 2, 3, 4, 5, 6, 7, 8, 9, 10, 11, 12, 13, 14, 15] 0 _ _ _ (Ext.refl _) (by kernel_rfl) ?_
                    simp only [opsAt, List.getElem?_toArray, List.getElem?_cons_zero, List.getElem?_cons_succ, List.cons_append, List.nil_append]
                    repeat (go_big_quiet_step (fail))
                    refine wpQuiet_nil ?_
                    refine wpAnyH_done (by kernel_rfl) (NoPanic.normal ?_) 0
                    have hask : Hid (GMap wr.drew b0 (i + 1) m) := GM7.out.below (Below.drew HX.out)
                    have hc1 := cell_next ((Below.cell (Below.drew HX.out) (cell_lt C1.out)).trans C1.out)
                    have hc0 := (Below.cell (Below.drew HX.out) (cell_lt C0.out)).trans C0.out
                    clear n1 q0 q1 hless hd
                    go_wp2_with (first | (at_lookup; refine wpList_askM _ rfl _ _ rfl b0 (i + 1) m hask.out rfl kk hkk rfl ?_; rw [HGET.out]))
                    go_roundw
                    case rel => exact ⟨k + 2, by go_num, by omega, (Below.drew HX.out)⟩
                    case measure => simp [intOf]; omega
                · go_wp2_with fail
                  go_roundw
                  case rel => exact ⟨g, cap, i + 1, m, by rw [← HGA.out], by go_num, by omega, (by rw [← HGA.out] at ON7; exact ON7.out.below HX.out), hgb, RM.out, by omega, GM7.out.below HX.out, KM.out, BW7.out.trans (HX.out.mono (Below.size BW7.out))⟩
                  case measure => simp [intOf]; omega
        · by_cases hs1 : kk.size ≤ 40
          · have hs2 : ¬ vv.size ≤ 60 := fun h => hs ⟨hs1, h⟩
            go_wp2_with fail
            go_roundw
            case rel => exact ⟨g, cap, i + 1, m, rfl, by go_num, by omega, OM.out.alloc _, hgb, RM.out, by omega, (GM.out.below ((Below.refl _ _).alloc (Nat.le_refl _) _)).more (Nat.le_succ i), KM.out, Below.alloc BW.out (Below.size BW.out) _⟩
            case measure => simp [intOf]; omega
          · go_wp2_with fail
            go_roundw
            case rel => exact ⟨g, cap, i + 1, m, rfl, by go_num, by omega, OM.out.alloc _, hgb, RM.out, by omega, (GM.out.below ((Below.refl _ _).alloc (Nat.le_refl _) _)).more (Nat.le_succ i), KM.out, Below.alloc BW.out (Below.size BW.out) _⟩
            case measure => simp [intOf]; omega
      · go_wp2_with fail
        go_ret
        exact ⟨rfl, BW.out⟩
    · go_wp2_with fail
      go_ret
      exact ⟨rfl, BW.out⟩
end Go.Proofs.Ytopnblhedankcaa
