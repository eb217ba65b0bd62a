/- The law's inner page; the document's example of node. Own lemmas, no statement. -/
import Derived.Test.YtmjekecalghhdaaNd7
import Derived.Test.YtmjekecalghhdaaPg8
set_option linter.unusedSimpArgs false
set_option linter.unusedVariables false
namespace Go.Proofs.Ytmjekecalghhdaa
open Go.ChangeShapes Go.WideShapes Go.ChangeAt Go.RowKit

set_option maxRecDepth 100000 in
set_option maxHeartbeats 2000000 in
theorem inner_any (v : Value) (l : List ByteArray) (f : Nat) (w : World) (hv : Rd w v (sv l)) (hl : l.length ≤ 1000) (hz : ∀ k ∈ l, k.size ≤ 140737488351232) (hf : f ≤ 1000) :
    Calls Try.prog 32 #[v, .int .i64 (f : Int)] w fun e w' => ∃ kv vv dv, e = .returned (pgv (innM (ksOf l) f ((ksOf l).length + 1)) kv vv dv) ∧ PgO w' w.heap.size (innM (ksOf l) f ((ksOf l).length + 1)) kv vv dv ∧ Below w.heap.size w w' := by
  obtain ⟨n, ao, c, e0⟩ := hv.any
  subst e0
  have HY0 : Hid (∀ o, Below w.heap.size w (w.alloc o)) := fun o => (Below.refl _ _).alloc (Nat.le_refl _) _
  have HL : Hid (∀ o, Calls Try.prog 25 #[.slice ao n c] (w.alloc o) fun e w' => ∃ kv vv dv, e = .returned (pgv (leafM (ksOf l)) kv vv dv) ∧ PgO w' (w.heap.size + 1) (leafM (ksOf l)) kv vv dv ∧ Below (w.heap.size + 1) (w.alloc o) w') := fun o => by
    have := leaf_any (.slice ao n c) l (w.alloc o) (hv.below (HY0.out o)) hl hz
    simpa using this
  have HLEN : Hid ((ksOf l).length ≤ 1000) := Nat.le_trans (ksOf_length l) hl
  have HC0 : Hid (Blk (w.alloc (.cells #[.int .i64 0, .slice none 0 0, .slice none 0 0, .slice none 0 0, .int .i64 0, .int .i64 0, .int .i64 0, .int .i64 0] 25)) w.heap.size zeroC 25) := Blk.new _ _ _
  obtain ⟨ks, hks⟩ : ∃ ks, ksOf l = ks := ⟨_, rfl⟩
  rw [hks] at HL HLEN ⊢
  clear hv hl hz hks
  go_enter Try.func32, Try.ntmps32
  go_wp2_with fail
  refine (HL.out _).mono ?_
  rintro e w1 ⟨kv, vv, dv, rfl, ho, hb⟩
  obtain ⟨kn, ka, kc, e1⟩ := ho.keys.rd.any
  obtain ⟨vn, va, vc, e2⟩ := ho.vals.rd.any
  obtain ⟨dn, da, dc, e3⟩ := ho.kids.rd.any
  subst e1 e2 e3
  have hkn : (leafM ks).keys.length = kn := by have := ho.keys.rd.at.1; rw [sv_length] at this; exact this.symm
  have HKN : Hid (ks.length = kn) := hkn
  have hkn1 : kn ≤ 1000 := by rw [← HKN.out]; exact HLEN.out
  have hb' : Below (w.alloc (.cells #[.int .i64 0, .slice none 0 0, .slice none 0 0, .slice none 0 0, .int .i64 0, .int .i64 0, .int .i64 0, .int .i64 0] 25)).heap.size (w.alloc (.cells #[.int .i64 0, .slice none 0 0, .slice none 0 0, .slice none 0 0, .int .i64 0, .int .i64 0, .int .i64 0, .int .i64 0] 25)) w1 := by simpa using hb
  have hsz : w.heap.size + 1 ≤ w1.heap.size := by have := hb.size; simpa using this
  have BX : Hid (Box (w1.alloc (.cells #[.int .i64 2, .slice ka kn kc, .slice none 0 0, .slice da dn dc, .int .i64 0, .int .i64 0, .int .i64 0, .int .i64 0] 25)) (w.heap.size + 1) w1.heap.size (innM ks (f : Int) 0) (.slice ka kn kc) (.slice none 0 0) (.slice da dn dc)) := by
    have b := ho.below (w' := (w1.alloc (.cells #[.int .i64 2, .slice ka kn kc, .slice none 0 0, .slice da dn dc, .int .i64 0, .int .i64 0, .int .i64 0, .int .i64 0] 25))) ((Below.refl _ _).alloc (Nat.le_refl _) _)
    exact ⟨Blk.new _ _ _, ⟨b.keys, OwnV.nil _ _ _, b.kids, fun g _ e => (by cases e), b.fkd, fun g e _ => (by cases e)⟩, hsz, fun e => by have := (ho.keys.blk _ e).2; omega, by simp [Value.ownBlock], fun e => by have := (ho.kids.blk _ e).2; omega⟩
  have CX : Hid (Blk (w1.alloc (.cells #[.int .i64 2, .slice ka kn kc, .slice none 0 0, .slice da dn dc, .int .i64 0, .int .i64 0, .int .i64 0, .int .i64 0] 25)) w.heap.size zeroC 25) := (Blk.of HC0.out (hb'.block _ HC0.out.lt)).alloc _
  have YX : Hid (Below w.heap.size w (w1.alloc (.cells #[.int .i64 2, .slice ka kn kc, .slice none 0 0, .slice da dn dc, .int .i64 0, .int .i64 0, .int .i64 0, .int .i64 0] 25))) := (ext_trans (HY0.out _) hb').alloc (by omega) _
  unfold pgv leafM
  clear ho hb hb' HC0 hkn hsz HL HY0
  go_upto_region 4 with fail
  generalize (w1.alloc (.cells #[.int .i64 2, .slice ka kn kc, .slice none 0 0, .slice da dn dc, .int .i64 0, .int .i64 0, .int .i64 0, .int .i64 0] 25)) = W2 at *
  obtain ⟨b, hbb⟩ : ∃ b, w1.heap.size = b := ⟨_, rfl⟩
  rw [hbb] at BX ⊢
  clear hbb
  go_wp2
  go_loopw [6] (fun vi wr => ∃ (i : Nat) (dv : Value), vi = .int .i64 (i : Int) ∧ i ≤ kn + 1 ∧ Box wr (w.heap.size + 1) b (innM ks (f : Int) i) (.slice ka kn kc) (.slice none 0 0) dv ∧ Blk wr w.heap.size zeroC 25 ∧ Below w.heap.size w wr) (fun vi _ => kn + 1 - (intOf vi).toNat)
  case atStart => exact ⟨0, _, rfl, Nat.zero_le _, BX.out, CX.out, YX.out⟩
  case round =>
    obtain ⟨i, dv, rfl, hi, hb, hc, hy⟩ := hrel
    clear BX CX YX
    have HB : Hid (Box wr (w.heap.size + 1) b (innM ks (f : Int) i) (.slice ka kn kc) (.slice none 0 0) dv) := hb
    have HC : Hid (Blk wr w.heap.size zeroC 25) := hc
    have HY : Hid (Below w.heap.size w wr) := hy
    clear hb hc hy
    obtain ⟨z0, z1, z2, z3, z4, z5, z6, z7⟩ := HB.out.box.cells
    by_cases hin : i ≤ kn
    · obtain ⟨dn', da', dc', hdv⟩ := HB.out.own.kids.rd.any
      subst hdv
      have lta := Blk.lt HB.out.box
      have hsz : w.heap.size + 1 ≤ wr.heap.size := Nat.le_trans HB.out.hb (Nat.le_of_lt lta)
      have hbw : w.heap.size + 1 ≤ b := HB.out.hb
      go_wp2_with (at_builtin; refine wpList_pushI wr rfl _ _ rfl (w.heap.size + 1) (.slice da' dn' dc') (kidsM (f : Int) i) ((f : Int) + (i : Int)) HB.out.own.kids rfl rfl (by rw [kidsM_length]; omega) hsz ?_)
      intro a' n' c' X hn' ho hg hat
      have RB : Hid (Box (X.setCell ⟨b, 3, none⟩ (.slice a' n' c')) (w.heap.size + 1) b (innM ks (f : Int) (i + 1)) (.slice ka kn kc) (.slice none 0 0) (.slice a' n' c')) := by
        have h1 := HB.out.pushD ho hg hat
        have e : innM ks (f : Int) (i + 1) = { innM ks (f : Int) i with kids := kidsM (f : Int) i ++ [(f : Int) + (i : Int)] } := by rw [← kidsM_succ]; rfl
        show Box _ _ _ _ _ _ _
        rw [e]; exact h1
      have RC : Hid (Blk (X.setCell ⟨b, 3, none⟩ (.slice a' n' c')) w.heap.size zeroC 25) := HC.out.of (turn_kept hg _ HC.out.lt (fun e => by have := (HB.out.own.kids.blk _ e).1; omega) (by omega) _)
      have RY : Hid (Below w.heap.size w (X.setCell ⟨b, 3, none⟩ (.slice a' n' c'))) := push_below HY.out HY.out.size (fun g e => Nat.le_trans (Nat.le_succ _) (HB.out.own.kids.blk g e).1) (by omega) hg _
      have pre := HB.out.pre HB.out.nd hg
      clear z0 z1 z2 z3 z4 z5 z6 z7 ho hg hat lta hsz hbw
      obtain ⟨z0, z1, z2, z3, z4, z5, z6, z7⟩ := pre.cells
      have ff := pre.frozen 3
      clear pre HB HC HY hn'
      go_upto_region 6 with fail
      generalize X.setCell ⟨b, 3, none⟩ (.slice a' n' c') = W7 at *
      clear z0 z1 z2 z3 z4 z5 z6 z7 ff
      go_wp2
      go_roundw
      case rel => exact ⟨i + 1, _, by go_num, by omega, RB.out, RC.out, RY.out⟩
      case measure => simp [intOf]; omega
    · have HI : Hid (i = ks.length + 1) := by have := HKN.out; show _ = _; omega
      rw [HI.out] at HB
      obtain ⟨dn9, da9, dc9, hdv⟩ := HB.out.own.kids.rd.any
      subst hdv
      have g0 := HC.out.frozen 0
      have g1 := HC.out.frozen 1
      have g2 := HC.out.frozen 2
      have g3 := HC.out.frozen 3
      have g4 := HC.out.frozen 4
      have g5 := HC.out.frozen 5
      have g6 := HC.out.frozen 6
      have g7 := HC.out.frozen 7
      have c0 := HC.out.cell 0
      have c1 := HC.out.cell 1
      have c2 := HC.out.cell 2
      have c3 := HC.out.cell 3
      have c4 := HC.out.cell 4
      have c5 := HC.out.cell 5
      have c6 := HC.out.cell 6
      have c7 := HC.out.cell 7
      unfold zeroC at c0 c1 c2 c3 c4 c5 c6 c7
      rename World => w9
      have x0 : w9.cell? ⟨b, 0, none⟩ = some (.int .i64 2) := z0
      have x4 : w9.cell? ⟨b, 4, none⟩ = some (.int .i64 0) := z4
      have x5 : w9.cell? ⟨b, 5, none⟩ = some (.int .i64 0) := z5
      have x6 : w9.cell? ⟨b, 6, none⟩ = some (.int .i64 0) := z6
      have x7 : w9.cell? ⟨b, 7, none⟩ = some (.int .i64 0) := z7
      clear z0 z4 z5 z6 z7
      go_wp2
      have K1 : PBox (put8 w9 w.heap.size (.int .i64 2) (.slice ka kn kc) (.slice none 0 0) (.slice da9 dn9 dc9) (.int .i64 0) (.int .i64 0) (.int .i64 0) (.int .i64 0)) w.heap.size (innM ks (f : Int) (ks.length + 1)) (.slice ka kn kc) (.slice none 0 0) (.slice da9 dn9 dc9) := blk_set8 _ _ _ _ _ _ _ _ HC.out
      have K2 : Below w.heap.size w (put8 w9 w.heap.size (.int .i64 2) (.slice ka kn kc) (.slice none 0 0) (.slice da9 dn9 dc9) (.int .i64 0) (.int .i64 0) (.int .i64 0) (.int .i64 0)) := put8_below HY.out (Nat.le_refl _) _ _ _ _ _ _ _ _
      have K3 : ∀ g, w.heap.size + 1 ≤ g → (put8 w9 w.heap.size (.int .i64 2) (.slice ka kn kc) (.slice none 0 0) (.slice da9 dn9 dc9) (.int .i64 0) (.int .i64 0) (.int .i64 0) (.int .i64 0)).heap[g]? = w9.heap[g]? := fun g hg => put8_other _ _ _ _ _ _ _ _ _ _ _ (by omega)
      have hgo : ∀ (Q : World → Prop), Q (put8 w9 w.heap.size (.int .i64 2) (.slice ka kn kc) (.slice none 0 0) (.slice da9 dn9 dc9) (.int .i64 0) (.int .i64 0) (.int .i64 0) (.int .i64 0)) → Q ((((((((w9.setCell ⟨w.heap.size, 0, none⟩ (.int .i64 2)).setCell ⟨w.heap.size, 1, none⟩ (.slice ka kn kc)).setCell ⟨w.heap.size, 2, none⟩ (.slice none 0 0)).setCell ⟨w.heap.size, 3, none⟩ (.slice da9 dn9 dc9)).setCell ⟨w.heap.size, 4, none⟩ (.int .i64 0)).setCell ⟨w.heap.size, 5, none⟩ (.int .i64 0)).setCell ⟨w.heap.size, 6, none⟩ (.int .i64 0)).setCell ⟨w.heap.size, 7, none⟩ (.int .i64 0)) := fun Q h => h
      refine hgo _ ?_
      clear hgo
      generalize (put8 w9 w.heap.size (.int .i64 2) (.slice ka kn kc) (.slice none 0 0) (.slice da9 dn9 dc9) (.int .i64 0) (.int .i64 0) (.int .i64 0) (.int .i64 0)) = W9 at *
      obtain ⟨q0, q1, q2, q3, q4, q5, q6, q7⟩ := K1.cells
      have M1 := HB.out.own.keys.kept (fun g hg => K3 g (HB.out.own.keys.blk g hg).1)
      have M3 := HB.out.own.kids.kept (fun g hg => K3 g (HB.out.own.kids.blk g hg).1)
      clear g0 g1 g2 g3 g4 g5 g6 g7 c0 c1 c2 c3 c4 c5 c6 c7 x0 x4 x5 x6 x7 z1 z2 z3 K3 K1
      exact bodyPost_ret (v := pgv (innM ks (f : Int) (ks.length + 1)) (.slice ka kn kc) (.slice none 0 0) (.slice da9 dn9 dc9)) (by simp [pgv, results, Try.results32, go_sem, q0, q1, q2, q3, q4, q5, q6, q7]) rfl ⟨_, _, _, rfl, ⟨M1.mono (by omega), OwnV.nil _ _ _, M3.mono (by omega), HB.out.own.fkv, HB.out.own.fkd, HB.out.own.fvd⟩, K2⟩

def pgH : Pg := ⟨1, [⟨#[97]⟩, ⟨#[98]⟩, ⟨#[99]⟩], [⟨#[49]⟩, ⟨#[50]⟩, ⟨#[51]⟩], [], 0, 0, 0, 0⟩
set_option maxRecDepth 100000 in
set_option maxHeartbeats 1000000 in
theorem head7_any (w : World) : Calls Try.prog 24 #[] w fun e w' => e = .returned (.bool true) ∧ Below w.heap.size w w' := by
  have h0 : Below w.heap.size w ((w.alloc (.cells #[.string ⟨#[97]⟩, .string ⟨#[98]⟩, .string ⟨#[99]⟩] 9)).alloc (.cells #[.string ⟨#[49]⟩, .string ⟨#[50]⟩, .string ⟨#[51]⟩] 9)) := ((Below.refl _ _).alloc (Nat.le_refl _) _).alloc (by simp) _
  have h1 : Rd ((w.alloc (.cells #[.string ⟨#[97]⟩, .string ⟨#[98]⟩, .string ⟨#[99]⟩] 9)).alloc (.cells #[.string ⟨#[49]⟩, .string ⟨#[50]⟩, .string ⟨#[51]⟩] 9)) (.slice (some ⟨w.heap.size, 0, none⟩) 3 3) (sv pgH.keys) := Rd.below (rd_madeS w [⟨#[97]⟩, ⟨#[98]⟩, ⟨#[99]⟩] (by simp [maxLen])) ((Below.refl _ _).alloc (Nat.le_refl _) _)
  have h2 : Rd ((w.alloc (.cells #[.string ⟨#[97]⟩, .string ⟨#[98]⟩, .string ⟨#[99]⟩] 9)).alloc (.cells #[.string ⟨#[49]⟩, .string ⟨#[50]⟩, .string ⟨#[51]⟩] 9)) (.slice (some ⟨w.heap.size + 1, 0, none⟩) 3 3) (sv pgH.vals) := by
    have := rd_madeS (w.alloc (.cells #[.string ⟨#[97]⟩, .string ⟨#[98]⟩, .string ⟨#[99]⟩] 9)) [⟨#[49]⟩, ⟨#[50]⟩, ⟨#[51]⟩] (by simp [maxLen])
    simpa [sv, pgH] using this
  have HC : Hid (Calls Try.prog 33 #[.agg #[.int .i64 1, .slice (some ⟨w.heap.size, 0, none⟩) 3 3, .slice (some ⟨w.heap.size + 1, 0, none⟩) 3 3, .slice none 0 0, .int .i64 0, .int .i64 0, .int .i64 0, .int .i64 0]] _ (SplitPost (leafA pgH) (leafB pgH) pgH.keys 1 _)) := splitL_any pgH _ _ _ _ ⟨h1, h2, Rd.nil _⟩ rfl (by decide) rfl (by decide) (by decide) (by decide)
  have HE : Hid (Below _ _ _) := h0
  clear h0 h1 h2
  go_enter Try.func24, Try.ntmps24
  go_wp2_with fail
  refine HC.out.mono ?_
  rintro e w1 ⟨k1, v1, d1, s, k2, v2, d2, rfl, hk, hp1, hp2, hn1, hn2, hb⟩
  have hs : s = ⟨#[98]⟩ := by
    have : pgH.keys[1]? = some ⟨#[98]⟩ := rfl
    rw [this] at hk
    exact (Option.some.inj hk).symm
  subst hs
  obtain ⟨ka1, kc1, va1, vc1, da1, dc1, rfl, rfl, rfl, _, _, _⟩ := hp1.forms
  obtain ⟨ka2, kc2, va2, vc2, da2, dc2, rfl, rfl, rfl, _, _, _⟩ := hp2.forms
  have HE1 : Hid (Below w.heap.size w w1) := ext_trans HE.out hb
  have r := hp2.vals.at.2.2.2
  obtain ⟨ad, had⟩ := r.ad (by decide)
  subst had
  have hc : w1.cell? (ad.add 0) = some (.string ⟨#[50]⟩) := r.str (ss := (leafB pgH).vals) rfl (j := 0) (by decide)
  have hc' : w1.cell? ad = some (.string ⟨#[50]⟩) := by simpa [Addr.add] using hc
  have hc2 : ∀ o o', ((w1.alloc o).alloc o').cell? ad = some (.string ⟨#[50]⟩) := fun o o' => Lib.cell?_alloc_some _ (Lib.cell?_alloc_some _ hc')
  have e1 : (leafA pgH).keys.length = 1 := rfl
  have e2 : (leafA pgH).vals.length = 1 := rfl
  have e3 : (leafB pgH).keys.length = 2 := rfl
  have e4 : (leafB pgH).vals.length = 2 := rfl
  rw [e1, e2, e3, e4]
  generalize (leafA pgH).kids.length = q1
  generalize (leafB pgH).kids.length = q2
  have hal : ∀ o o', Below w.heap.size w ((w1.alloc o).alloc o') := fun o o' => (HE1.out.alloc HE1.out.size _).alloc (by simp; exact Nat.le_trans HE1.out.size (Nat.le_succ _)) _
  have HAL : Hid _ := hal
  clear hk hp1 hp2 hn1 hn2 hb HC HE r hal e1 e2 e3 e4
  unfold pgv
  go_wp2
  go_ret
  exact ⟨ret_bool rfl, HAL.out _ _⟩
end Go.Proofs.Ytmjekecalghhdaa
