/- Pages as bytes: layNumbers, layLeaf, layInner. Own lemmas, no statement. -/
import Derived.Test.YtbgofajldkblmaaGreatPg5
import Derived.Test.YtbgofajldkblmaaGreatPut
namespace Go.Proofs.YtbgofajldkblmaaGreat
open Go.ChangeShapes Go.WideShapes Go.ChangeAt Go.RowKit

/-- A text as bytes. -/
def txt (s : ByteArray) : List UInt8 := enc s.size ++ s.data.toList
def numTo (ns : List Int) : Nat → List UInt8
  | 0 => []
  | i + 1 => numTo ns i ++ enc (ns.getD i 0).toNat
def leafTo (ks vs : List ByteArray) : Nat → List UInt8
  | 0 => []
  | i + 1 => leafTo ks vs i ++ (txt (ks.getD i .empty) ++ txt (vs.getD i .empty))
def innTo (ks : List ByteArray) (ds : List Int) : Nat → List UInt8
  | 0 => []
  | i + 1 => innTo ks ds i ++ ((if i = 0 then [] else txt (ks.getD (i - 1) .empty)) ++ enc (ds.getD i 0).toNat)
theorem txt_length (s : ByteArray) : (txt s).length ≤ s.size + 10 := by
  have := enc_length s.size
  have h : s.data.toList.length = s.size := rfl
  simp only [txt, List.length_append]
  omega
theorem numTo_length (ns : List Int) (i : Nat) : (numTo ns i).length ≤ 10 * i := by
  induction i with
  | zero => simp [numTo]
  | succ i ih => have := enc_length (ns.getD i 0).toNat; simp only [numTo, List.length_append]; omega
theorem leafTo_length (ks vs : List ByteArray) (hk : ∀ i, (ks.getD i .empty).size ≤ 24) (hv : ∀ i, (vs.getD i .empty).size ≤ 48) (i : Nat) : (leafTo ks vs i).length ≤ 92 * i := by
  induction i with
  | zero => simp [leafTo]
  | succ i ih =>
    have h1 := txt_length (ks.getD i .empty)
    have h2 := txt_length (vs.getD i .empty)
    have h3 := hk i
    have h4 := hv i
    simp only [leafTo, List.length_append]
    omega
theorem innTo_length (ks : List ByteArray) (ds : List Int) (hk : ∀ i, (ks.getD i .empty).size ≤ 24) (i : Nat) : (innTo ks ds i).length ≤ 44 * i := by
  induction i with
  | zero => simp [innTo]
  | succ i ih =>
    have h1 := txt_length (ks.getD (i - 1) .empty)
    have h2 := enc_length (ds.getD i 0).toNat
    have h3 := hk (i - 1)
    simp only [innTo, List.length_append]
    split
    · simp only [List.length_nil]; omega
    · omega

/-- A call hands back bytes. -/
def BytesP (w : World) (l : List UInt8) (e : Ending) (w' : World) : Prop := ∃ v, e = .returned v ∧ Src w' v l ∧ Below w.heap.size w w'
theorem Src.form {w : World} {v : Value} {l : List UInt8} (h : Src w v l) : ∃ ao c, v = .slice ao l.length c := by obtain ⟨ao, c, e, _⟩ := h; exact ⟨ao, c, e⟩

set_option maxHeartbeats 2000000 in
theorem layNumbers_any (v : Value) (l : List UInt8) (dv : Value) (ns : List Int) (w : World) (hv : Src w v l) (hd : Rd w dv (iv ns)) (hn : ns.length ≤ 20) (hr : ∀ i, 0 ≤ ns.getD i 0 ∧ ns.getD i 0 < 9223372036854775808) (hl : l.length ≤ 10000) :
    Calls Tryz.prog 76 #[v, dv] w (BytesP w (l ++ numTo ns ns.length)) := by
  obtain ⟨ao, c, rfl, a1, a2, a3⟩ := hd
  have A3 : Hid (RdAt w ao c (iv ns)) := a3
  have HV : Hid (Src w v l) := hv
  have HR : Hid (∀ i, 0 ≤ ns.getD i 0 ∧ ns.getD i 0 < 9223372036854775808) := hr
  obtain ⟨bo, d, hb⟩ := hv.form
  subst hb
  rw [iv_length] at *
  unfold maxLen at a2
  obtain ⟨n, hnn⟩ : ∃ n, ns.length = n := ⟨_, rfl⟩
  rw [hnn] at a1 hn ⊢
  have HN : Hid (ns.length = n) := hnn
  clear hnn a3 hv hr
  have HL0 : Hid (l = l ++ numTo ns 0) := by show _ = _; simp [numTo]
  go_enter Tryz.func76, Tryz.ntmps76
  go_wp2
  go_loopw [0, 6, 9] (fun b _ i wr => ∃ (k : Nat), i = .int .i64 k ∧ k ≤ n ∧ Src wr b (l ++ numTo ns k) ∧ Ext w wr) (fun _ _ i _ => n - (intOf i).toNat)
  case atStart => exact ⟨0, rfl, Nat.zero_le _, by rw [← HL0.out]; exact HV.out, Ext.refl _⟩
  case round =>
    obtain ⟨k, rfl, hk, hs, hE⟩ := hrel
    have HE : Hid (Ext w wr) := hE
    obtain ⟨ba, bc, hb⟩ := hs.form
    subst hb
    have HS : Hid (Src wr _ (l ++ numTo ns k)) := hs
    have HLen : Hid (∀ q, q = l ++ numTo ns k → q.length < 900000000000) := fun q hq => by
      have := numTo_length ns k
      rw [hq, List.length_append]; omega
    clear hs hE HL0 HV
    by_cases hlt : k < n
    · have hlt1 : k < ns.length := by have := HN.out; omega
      obtain ⟨ad, had⟩ := A3.out.ad (by rw [iv_length]; omega)
      subst had
      have y0 := A3.out.num rfl hlt1
      have y1 : wr.cell? (ad.add k) = some (.int .i64 ns[k]) := (Below.cell HE.out (cell_lt y0)).trans y0
      have hx := HR.out k
      rw [getD_of hlt1] at hx
      have HT : Hid (numTo ns (k + 1) = numTo ns k ++ enc ns[k].toNat) := by show _ = _; rw [numTo, getD_of hlt1]
      obtain ⟨x, hx2⟩ : ∃ x : Nat, ns[k] = (x : Int) := ⟨ns[k].toNat, by omega⟩
      rw [hx2] at y1 y0 hx HT
      have hx3 : ((x : Int).toNat) = x := by omega
      rw [hx3] at HT
      clear hx2 hx3 hlt1 y0
      generalize (l ++ numTo ns k).length = L at *
      go_wp2_with fail
      refine (put_any ba L bc _ x wr HS.out (by omega) (HLen.out _ rfl)).mono ?_
      rintro e w1 ⟨g, cap, rfl, hown, hb1⟩
      have H1 : Hid (Src w1 (.slice (some ⟨g, 0, none⟩) (join (l ++ numTo ns k) (enc x)).length cap) (l ++ numTo ns (k + 1))) := by
        show Src _ _ _
        have := hown.src
        rw [HT.out, ← List.append_assoc]
        exact this
      have H2 : Hid (Ext w w1) := HE.out.trans hb1
      generalize (join (l ++ numTo ns k) (enc x)).length = L2 at *
      clear hown hb1 y1 HS
      go_wp2
      go_roundw
      case rel => exact ⟨k + 1, by go_num, by omega, H1.out, H2.out⟩
      case measure => simp [intOf]; omega
    · have hkn : k = n := by omega
      subst hkn
      generalize (l ++ numTo ns k).length = L at *
      go_wp2
      go_ret
      exact ⟨_, rfl, HS.out, HE.out⟩

set_option maxRecDepth 10000 in
set_option maxHeartbeats 4000000 in
theorem layLeaf_any (p : Pg) (v : Value) (l : List UInt8) (kv vv dv : Value) (w : World) (hv : Src w v l) (hp : PgAt w p kv vv dv) (hn : p.keys.length ≤ 20) (hm : p.vals.length = p.keys.length) (hk : ∀ i, (p.keys.getD i .empty).size ≤ 24) (hw : ∀ i, (p.vals.getD i .empty).size ≤ 48) (hl : l.length ≤ 10000) :
    Calls Tryz.prog 74 #[v, pgv p kv vv dv] w (BytesP w ((l ++ enc p.keys.length) ++ leafTo p.keys p.vals p.keys.length)) := by
  have HP : Hid (PgAt w p kv vv dv) := hp
  have HV : Hid (Src w v l) := hv
  have HK : Hid (∀ i, (p.keys.getD i .empty).size ≤ 24) := hk
  have HW : Hid (∀ i, (p.vals.getD i .empty).size ≤ 48) := hw
  obtain ⟨ka, kc, va, vc, da, dc, rfl, rfl, rfl, b1, b2, b3⟩ := hp.forms
  obtain ⟨bo, d, hb⟩ := hv.form
  subst hb
  unfold maxLen at *
  have HE0 : Hid (∀ o, Below w.heap.size w (w.alloc o)) := fun o => (Below.refl _ _).alloc (Nat.le_refl _) _
  obtain ⟨n, hnn⟩ : ∃ n, p.keys.length = n := ⟨_, rfl⟩
  have HN : Hid (p.keys.length = n) := hnn
  have HM : Hid (p.vals.length = n) := by show _ = _; omega
  have HB : Hid (PBox (w.alloc (.cells #[.int .i64 p.kind, .slice ka n kc, .slice va n vc, .slice da p.kids.length dc, .int .i64 p.root, .int .i64 p.next, .int .i64 p.size, .int .i64 p.idle] 47)) w.heap.size p (.slice ka n kc) (.slice va n vc) (.slice da p.kids.length dc)) := pbox_new _ _ _ _ _
  rw [hm, hnn] at HP ⊢
  rw [hnn] at b1 hn
  clear hnn hm hp hv hk hw b2
  generalize p.kids.length = dn at *
  unfold pgv
  have HC0 : Hid (∀ W, Below w.heap.size w W → Calls Tryz.prog 28 #[.slice bo l.length d, .int .u64 (n : Int)] W (Gives W (join l (enc n)))) := fun W hW => put_any bo _ d l n W (HV.out.below hW) (by omega) (by omega)
  have HLL : Hid (∀ q, q = l → q.length ≤ 10000) := fun q hq => by rw [hq]; exact hl
  generalize l.length = L at *
  go_enter Tryz.func74, Tryz.ntmps74
  go_wp2_with fail
  refine (HC0.out _ (HE0.out _)).mono ?_
  rintro e w1 ⟨g, cap, rfl, hown, hb1⟩
  have B1 : Hid (PBox w1 w.heap.size p (.slice ka n kc) (.slice va n vc) (.slice da dn dc)) := HB.out.below hb1
  have E1 : Hid (Below w.heap.size w w1) := ext_trans (HE0.out _) hb1
  have S1 : Hid (Src w1 (.slice (some ⟨g, 0, none⟩) (join l (enc n)).length cap) ((l ++ enc n) ++ leafTo p.keys p.vals 0)) := by
    show Src _ _ _
    rw [leafTo, List.append_nil]; exact hown.src
  generalize (join l (enc n)).length = L1 at *
  clear hown hb1 HB HE0 HC0
  obtain ⟨z0, z1, z2, z3, z4, z5, z6, z7⟩ := B1.out.cells
  clear z0 z3 z4 z5 z6 z7
  go_wp2
  clear z1 z2
  go_loopw [0, 5, 6, 16] (fun b _ _ i wr => ∃ (k : Nat), i = .int .i64 k ∧ k ≤ n ∧ Src wr b ((l ++ enc n) ++ leafTo p.keys p.vals k) ∧ Ext w1 wr) (fun _ _ _ i _ => n - (intOf i).toNat)
  case atStart => exact ⟨0, rfl, Nat.zero_le _, S1.out, Ext.refl _⟩
  case round =>
    obtain ⟨k, rfl, hkn, hs, hE⟩ := hrel
    have HE : Hid (Ext w1 wr) := hE
    obtain ⟨ba, bc, hb⟩ := hs.form
    subst hb
    have HS : Hid (Src wr _ ((l ++ enc n) ++ leafTo p.keys p.vals k)) := hs
    have HLen : Hid (∀ q, q = (l ++ enc n) ++ leafTo p.keys p.vals k → q.length < 800000000000) := fun q hq => by
      have h1 := leafTo_length p.keys p.vals HK.out HW.out k
      have h2 := enc_length n
      have h3 := HLL.out l rfl
      rw [hq, List.length_append, List.length_append]; omega
    clear hs hE S1
    by_cases hlt : k < n
    · have hlt1 : k < p.keys.length := by have := HN.out; omega
      have hlt2 : k < p.vals.length := by have := HM.out; omega
      have ha := HP.out.keys.at.2.2.2
      obtain ⟨ad, had⟩ := ha.ad (by rw [sv_length]; omega)
      subst had
      have ha2 := HP.out.vals.at.2.2.2
      obtain ⟨ae, hae⟩ := ha2.ad (by rw [sv_length]; omega)
      subst hae
      have hD : Hid (Ext w wr) := E1.out.trans (HE.out.mono E1.out.size)
      have y0 := ha.str rfl hlt1
      have y1 : wr.cell? (ad.add k) = some (.string p.keys[k]) := (Below.cell hD.out (cell_lt y0)).trans y0
      have y2 := ha2.str rfl hlt2
      have y3 := cellX (W0 := wr.drew) ((Below.cell hD.out (cell_lt y2)).trans y2)
      have zz := (B1.out.below HE.out).cells
      have y4 := cellX (W0 := wr.drew) (show wr.drew.cell? ⟨w.heap.size, 2, none⟩ = _ from zz.2.2.1)
      have hx1 := HK.out k
      have hx2 := HW.out k
      rw [getD_of hlt1] at hx1
      rw [getD_of hlt2] at hx2
      have HT : Hid (leafTo p.keys p.vals (k + 1) = leafTo p.keys p.vals k ++ (txt p.keys[k] ++ txt p.vals[k])) := by show _ = _; rw [leafTo, getD_of hlt1, getD_of hlt2]
      generalize p.keys[k] = x at *
      generalize p.vals[k] = y at *
      clear hlt1 hlt2 y0 y2 zz ha ha2
      have HC1 : Hid (∀ q, q = ((l ++ enc n) ++ leafTo p.keys p.vals k) → Calls Tryz.prog 27 #[.slice ba q.length bc, .string x] wr.drew (Gives wr.drew (join (join q (enc x.size)) x.data.toList))) := fun q hq => text_any ba _ bc q x wr.drew (by rw [hq]; exact HS.out) (by have := HLen.out q hq; omega)
      generalize hq : ((l ++ enc n) ++ leafTo p.keys p.vals k) = Q at *
      have HQ : Hid (Q.length < 800000000000) := HLen.out Q rfl
      have HC1' : Hid _ := HC1.out Q rfl
      clear HC1 HLen
      have HQE : Hid ((l ++ enc n) ++ leafTo p.keys p.vals k = Q) := hq
      clear hq
      go_wp2_with fail
      haveI nA := cls_ext wr.drew
      refine wp_region_ext (by kernel_rfl) ?_
      refine wpAnyH_seg (by kernel_rfl) (fun _ _ _ h => h) [0, 1, 3, 4, 5, 6, 7] 3 _ _ _ (Ext.refl _) (by kernel_rfl) ?_
      simp only [opsAt, List.getElem?_toArray, List.getElem?_cons_zero, List.getElem?_cons_succ, List.cons_append, List.nil_append]
      repeat (go_big_quiet_step (fail))
      refine wpQuiet_nil ?_
      clear y3 y4 nA y1
      refine wpAnyH_callE (i := 2) (fuel := 2) 23 rfl (by kernel_rfl) rfl (Ext.refl _) (by kernel_rfl) (by kernel_rfl) HC1'.out ?_
      rintro e w2 ⟨g2, cap2, rfl, hown, hb2⟩
      refine ⟨_, rfl, hb2, ?_⟩
      have X2 : Hid (Ext wr w2) := Ext.trans (Below.drew (Ext.refl wr)) hb2
      have HC2 : Hid (Calls _ _ _ _ _) := text_any (some ⟨g2, 0, none⟩) _ cap2 _ y w2 hown.src (by have := HQ.out; have := enc_length x.size; have h : x.data.toList.length = x.size := rfl; rw [join_length, join_length]; omega)
      clear hown hb2 HS HC1'
      simp only [Act.put, List.setIfInBounds_toArray, List.set_cons_succ, List.set_cons_zero]
      refine wpAnyH_callE (i := 8) (fuel := 1) 29 rfl (by kernel_rfl) rfl (Ext.refl _) (by kernel_rfl) (by kernel_rfl) HC2.out ?_
      rintro e w3 ⟨g3, cap3, rfl, hown, hb3⟩
      refine ⟨_, rfl, hb3, ?_⟩
      simp only [Act.put, List.setIfInBounds_toArray, List.set_cons_succ, List.set_cons_zero]
      refine wpAnyH_seg (by kernel_rfl) (fun _ _ _ h => h) [9] 0 _ _ _ (Ext.refl _) (by kernel_rfl) ?_
      simp only [opsAt, List.getElem?_toArray, List.getElem?_cons_zero, List.getElem?_cons_succ, List.cons_append, List.nil_append]
      repeat (go_big_quiet_step (fail))
      refine wpQuiet_nil ?_
      refine wpAnyH_done (by kernel_rfl) (NoPanic.normal ?_) 0
      have X3 : Hid (Ext w1 w3) := HE.out.trans (X2.out.trans hb3)
      have H3 : Hid (Src w3 (.slice (some ⟨g3, 0, none⟩) (join (join (join (join Q (enc x.size)) x.data.toList) (enc y.size)) y.data.toList).length cap3) ((l ++ enc n) ++ leafTo p.keys p.vals (k + 1))) := by
        show Src _ _ _
        have := hown.src
        rw [HT.out, ← List.append_assoc, HQE.out]
        simpa [join, txt, List.append_assoc] using this
      generalize (join (join (join (join Q (enc x.size)) x.data.toList) (enc y.size)) y.data.toList).length = L3 at *
      clear hown hb3 HC2 X2
      go_wp2
      go_roundw
      case rel => exact ⟨k + 1, by go_num, by omega, H3.out, X3.out⟩
      case measure => simp [intOf]; omega
    · have hkk : k = n := by omega
      subst hkk
      generalize (l ++ enc k ++ leafTo p.keys p.vals k).length = L9 at *
      go_wp2
      go_ret
      exact ⟨_, rfl, HS.out, E1.out.trans (HE.out.mono E1.out.size)⟩

set_option maxRecDepth 10000 in
set_option maxHeartbeats 4000000 in
theorem layInner_any (p : Pg) (v : Value) (l : List UInt8) (kv vv dv : Value) (w : World) (hv : Src w v l) (hp : PgAt w p kv vv dv) (hn : p.kids.length ≤ 20) (hm : p.keys.length + 1 = p.kids.length) (hk : ∀ i, (p.keys.getD i .empty).size ≤ 24) (hr : ∀ i, 0 ≤ p.kids.getD i 0 ∧ p.kids.getD i 0 < 9223372036854775808) (hl : l.length ≤ 10000) :
    Calls Tryz.prog 75 #[v, pgv p kv vv dv] w (BytesP w ((l ++ enc p.kids.length) ++ innTo p.keys p.kids p.kids.length)) := by
  have HP : Hid (PgAt w p kv vv dv) := hp
  have HV : Hid (Src w v l) := hv
  have HK : Hid (∀ i, (p.keys.getD i .empty).size ≤ 24) := hk
  have HR : Hid (∀ i, 0 ≤ p.kids.getD i 0 ∧ p.kids.getD i 0 < 9223372036854775808) := hr
  obtain ⟨ka, kc, va, vc, da, dc, rfl, rfl, rfl, b1, b2, b3⟩ := hp.forms
  obtain ⟨bo, d, hb⟩ := hv.form
  subst hb
  unfold maxLen at *
  have HE0 : Hid (∀ o, Below w.heap.size w (w.alloc o)) := fun o => (Below.refl _ _).alloc (Nat.le_refl _) _
  obtain ⟨m, hmm⟩ : ∃ m, p.keys.length = m := ⟨_, rfl⟩
  obtain ⟨n, hnn⟩ : ∃ n, p.kids.length = n := ⟨_, rfl⟩
  have HM : Hid (p.keys.length = m) := hmm
  have HN : Hid (p.kids.length = n) := hnn
  have HB : Hid (PBox (w.alloc (.cells #[.int .i64 p.kind, .slice ka m kc, .slice va p.vals.length vc, .slice da n dc, .int .i64 p.root, .int .i64 p.next, .int .i64 p.size, .int .i64 p.idle] 47)) w.heap.size p (.slice ka m kc) (.slice va p.vals.length vc) (.slice da n dc)) := pbox_new _ _ _ _ _
  rw [hmm, hnn] at HP ⊢
  rw [hmm] at b1
  rw [hnn] at b3 hn
  have hmn : m + 1 = n := by omega
  have HMN : Hid (m + 1 = n) := hmn
  clear hnn hmm hm hp hv hk hr hmn b1
  generalize p.vals.length = vn at *
  unfold pgv
  have HC0 : Hid (∀ W, Below w.heap.size w W → Calls Tryz.prog 28 #[.slice bo l.length d, .int .u64 (n : Int)] W (Gives W (join l (enc n)))) := fun W hW => put_any bo _ d l n W (HV.out.below hW) (by omega) (by omega)
  have HLL : Hid (∀ q, q = l → q.length ≤ 10000) := fun q hq => by rw [hq]; exact hl
  generalize l.length = L at *
  go_enter Tryz.func75, Tryz.ntmps75
  go_wp2_with fail
  refine (HC0.out _ (HE0.out _)).mono ?_
  rintro e w1 ⟨g, cap, rfl, hown, hb1⟩
  have B1 : Hid (PBox w1 w.heap.size p (.slice ka m kc) (.slice va vn vc) (.slice da n dc)) := HB.out.below hb1
  have E1 : Hid (Below w.heap.size w w1) := ext_trans (HE0.out _) hb1
  have S1 : Hid (Src w1 (.slice (some ⟨g, 0, none⟩) (join l (enc n)).length cap) ((l ++ enc n) ++ innTo p.keys p.kids 0)) := by
    show Src _ _ _
    rw [innTo, List.append_nil]; exact hown.src
  generalize (join l (enc n)).length = L1 at *
  clear hown hb1 HB HE0 HC0
  obtain ⟨z0, z1, z2, z3, z4, z5, z6, z7⟩ := B1.out.cells
  clear z0 z1 z2 z4 z5 z6 z7
  go_wp2
  clear z3
  go_loopw [0, 5, 6, 16] (fun b _ _ i wr => ∃ (k : Nat), i = .int .i64 k ∧ k ≤ n ∧ Src wr b ((l ++ enc n) ++ innTo p.keys p.kids k) ∧ Ext w1 wr) (fun _ _ _ i _ => n - (intOf i).toNat)
  case atStart => exact ⟨0, rfl, Nat.zero_le _, S1.out, Ext.refl _⟩
  case round =>
    obtain ⟨k, rfl, hkn, hs, hE⟩ := hrel
    have HE : Hid (Ext w1 wr) := hE
    obtain ⟨ba, bc, hb⟩ := hs.form
    subst hb
    have HS : Hid (Src wr _ ((l ++ enc n) ++ innTo p.keys p.kids k)) := hs
    have HLen : Hid (∀ q, q = (l ++ enc n) ++ innTo p.keys p.kids k → q.length < 800000000000) := fun q hq => by
      have h1 := innTo_length p.keys p.kids HK.out k
      have h2 := enc_length n
      have h3 := HLL.out l rfl
      rw [hq, List.length_append, List.length_append]; omega
    clear hs hE S1
    by_cases hlt : k < n
    · have hlt1 : k < p.kids.length := by have := HN.out; omega
      have ha := HP.out.kids.at.2.2.2
      obtain ⟨ad, had⟩ := ha.ad (by rw [iv_length]; omega)
      subst had
      have hD : Hid (Ext w wr) := E1.out.trans (HE.out.mono E1.out.size)
      have y0 := ha.num rfl hlt1
      have y1 : wr.cell? (ad.add k) = some (.int .i64 p.kids[k]) := (Below.cell hD.out (cell_lt y0)).trans y0
      have zz := (B1.out.below HE.out).cells
      have hx := HR.out k
      rw [getD_of hlt1] at hx
      have HT : Hid (innTo p.keys p.kids (k + 1) = innTo p.keys p.kids k ++ ((if k = 0 then [] else txt (p.keys.getD (k - 1) .empty)) ++ enc p.kids[k].toNat)) := by show _ = _; rw [innTo, getD_of hlt1]
      obtain ⟨x, hx2⟩ : ∃ x : Nat, p.kids[k] = (x : Int) := ⟨p.kids[k].toNat, by omega⟩
      rw [hx2] at y1 y0 hx HT
      have hx3 : ((x : Int).toNat) = x := by omega
      rw [hx3] at HT
      clear hx2 hx3 hlt1 y0 ha
      generalize hq : ((l ++ enc n) ++ innTo p.keys p.kids k) = Q at *
      have HQ : Hid (Q.length < 800000000000) := HLen.out Q rfl
      have HQE : Hid ((l ++ enc n) ++ innTo p.keys p.kids k = Q) := hq
      clear hq HLen
      rcases (show k = 0 ∨ ∃ j, k = j + 1 from by cases k; exact .inl rfl; exact .inr ⟨_, rfl⟩) with hk0 | ⟨j, hj⟩
      · have hk1 : ¬ 0 < k := by omega
        have hk2 : ¬ (0 : Int) < (k : Int) := by omega
        have HT2 : Hid (innTo p.keys p.kids (k + 1) = innTo p.keys p.kids k ++ enc x) := by show _ = _; rw [HT.out, if_pos hk0]; rfl
        clear HT zz hk0
        have HC1 : Hid (Calls Tryz.prog 28 #[.slice ba Q.length bc, .int .u64 (x : Int)] wr (Gives wr (join Q (enc x)))) := put_any ba _ bc Q x wr HS.out (by omega) (by have := HQ.out; omega)
        generalize Q.length = LQ at *
        go_wp2_with fail
        refine HC1.out.mono ?_
        rintro e w2 ⟨g2, cap2, rfl, hown, hb2⟩
        have X2 : Hid (Ext w1 w2) := HE.out.trans hb2
        have H2 : Hid (Src w2 (.slice (some ⟨g2, 0, none⟩) (join Q (enc x)).length cap2) ((l ++ enc n) ++ innTo p.keys p.kids (k + 1))) := by
          show Src _ _ _
          have := hown.src
          rw [HT2.out, ← List.append_assoc, HQE.out]
          exact this
        generalize (join Q (enc x)).length = L3 at *
        clear hown hb2 HC1 y1 HS
        go_wp2
        go_roundw
        case rel => exact ⟨k + 1, by go_num, by omega, H2.out, X2.out⟩
        case measure => simp [intOf]; omega
      · have hk1 : 0 < k := by omega
        have hk2 : (0 : Int) < (k : Int) := by omega
        have hk3 : (k : Int) - 1 = (j : Int) := by omega
        have hjm : j < m := by have := HMN.out; omega
        have hj1 : j < p.keys.length := by have := HM.out; omega
        have ha := HP.out.keys.at.2.2.2
        obtain ⟨ae, hae⟩ := ha.ad (by rw [sv_length]; omega)
        subst hae
        have y2 := ha.str rfl hj1
        have y3 : wr.cell? (ae.add j) = some (.string p.keys[j]) := (Below.cell hD.out (cell_lt y2)).trans y2
        have z1 := zz.2.1
        have HT2 : Hid (innTo p.keys p.kids (k + 1) = innTo p.keys p.kids k ++ (txt p.keys[j] ++ enc x)) := by show _ = _; rw [HT.out, if_neg (by omega), show k - 1 = j by omega, getD_of hj1]
        have hs24 := HK.out j
        rw [getD_of hj1] at hs24
        have HKJ : Hid (k = j + 1) := hj
        generalize p.keys[j] = s at *
        clear HT zz ha y2 hj hj1
        have HC1 : Hid (Calls Tryz.prog 27 #[.slice ba Q.length bc, .string s] wr (Gives wr (join (join Q (enc s.size)) s.data.toList))) := text_any ba _ bc Q s wr HS.out (by have := HQ.out; omega)
        have HQ2 : Hid ((join (join Q (enc s.size)) s.data.toList).length < 900000000000) := by
          show _ < _
          have := HQ.out
          have := enc_length s.size
          have h : s.data.toList.length = s.size := rfl
          rw [join_length, join_length]; omega
        generalize Q.length = LQ at *
        go_wp2_with fail
        refine HC1.out.mono ?_
        rintro e w2 ⟨g2, cap2, rfl, hown, hb2⟩
        have X2 : Hid (Ext w1 w2) := HE.out.trans hb2
        have HC2 : Hid (Calls Tryz.prog 28 #[.slice (some ⟨g2, 0, none⟩) (join (join Q (enc s.size)) s.data.toList).length cap2, .int .u64 (x : Int)] w2 (Gives w2 (join (join (join Q (enc s.size)) s.data.toList) (enc x)))) := put_any _ _ cap2 _ x w2 hown.src (by omega) HQ2.out
        generalize (join (join Q (enc s.size)) s.data.toList).length = L2 at *
        clear hown hb2 HC1 y1 y3 z1 HS HQ2
        go_wp2_with fail
        refine HC2.out.mono ?_
        rintro e w3 ⟨g3, cap3, rfl, hown, hb3⟩
        have X3 : Hid (Ext w1 w3) := X2.out.trans hb3
        have H3 : Hid (Src w3 (.slice (some ⟨g3, 0, none⟩) (join (join (join Q (enc s.size)) s.data.toList) (enc x)).length cap3) ((l ++ enc n) ++ innTo p.keys p.kids (k + 1))) := by
          show Src _ _ _
          have := hown.src
          rw [HT2.out, ← List.append_assoc, HQE.out]
          simpa [join, txt, List.append_assoc] using this
        generalize (join (join (join Q (enc s.size)) s.data.toList) (enc x)).length = L3 at *
        clear hown hb3 HC2 X2
        go_wp2
        go_roundw
        case rel => exact ⟨k + 1, by go_num, by omega, H3.out, X3.out⟩
        case measure => simp [intOf]; omega
    · have hkk : k = n := by omega
      subst hkk
      generalize (l ++ enc k ++ innTo p.keys p.kids k).length = L9 at *
      go_wp2
      go_ret
      exact ⟨_, rfl, HS.out, E1.out.trans (HE.out.mono E1.out.size)⟩
end Go.Proofs.YtbgofajldkblmaaGreat
