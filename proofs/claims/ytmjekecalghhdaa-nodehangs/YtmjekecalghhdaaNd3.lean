/- The law's leaf. Own lemmas, no statement. -/
import Derived.Test.YtmjekecalghhdaaNdP
import Derived.Test.YtmjekecalghhdaaNd2
import Derived.Test.YtmjekecalghhdaaLast
import Derived.Test.YtmjekecalghhdaaOps
import Derived.Test.YtmjekecalghhdaaDec1
set_option linter.unusedSimpArgs false
set_option linter.unusedVariables false
namespace Go.Proofs.Ytmjekecalghhdaa
open Go.ChangeShapes Go.WideShapes Go.ChangeAt Go.RowKit

theorem add_vk (k : ByteArray) (hk : k.size ≤ 140737488351232) (W : World) : (binOp .add 9 (.string ⟨#[118]⟩) (.string k)).run Try.prog W = .ok (.string (vk k)) W := by
  have h1 : ByteArray.size ⟨#[118]⟩ = 1 := rfl
  unfold vk
  simp [go_sem, h1]
  omega
theorem exec_build0 {ρ : Operand → Value} {o : Oper} {w : World} (ho : o.op = .buildSlice 22 0 #[]) : (execOp ρ o).run Try.prog w = .ok (.value (.slice (some ⟨w.heap.size, 0, none⟩) 0 0)) (w.alloc (.cells #[] 9)) := by
  unfold execOp
  rw [ho]
  go_simp

/-- Two rows of a call's own, apart: nothing that was there has turned. -/
structure TwoV (W0 W : World) (a : Value) (la : List ByteArray) (b : Value) (lb : List ByteArray) : Prop where
  oa : OwnV W W0.heap.size 9 a (sv la)
  ob : OwnV W W0.heap.size 9 b (sv lb)
  fr : far a b
  bel : Below W0.heap.size W0 W
section
variable {W0 W W' : World} {a b a' : Value} {la lb : List ByteArray}
theorem Rd.any {v : Value} {us : List Value} (h : Rd W v us) : ∃ n a c, v = .slice a n c := by obtain ⟨a, c, e⟩ := h.form; exact ⟨_, a, c, e⟩
theorem Rd.emp (W : World) (x : Addr) (c : Nat) (h : c ≤ maxLen) : Rd W (.slice (some x) 0 c) (sv []) := ⟨some x, c, rfl, Nat.zero_le _, h, fun e => (by cases e), fun ad _ j u hu => by simp [sv] at hu⟩
theorem ext_of_drew (h : Below W0.heap.size W0 W) : Ext W0.drew W := ⟨h.os, h.tape, h.output, h.size, h.block⟩
theorem ownV_new0 (W : World) (B : Nat) (h : B ≤ W.heap.size) : OwnV (W.alloc (.cells #[] 9)) B 9 (.slice (some ⟨W.heap.size, 0, none⟩) 0 0) (sv []) := World.ownsRow_made W #[] 0 h (Nat.zero_le _) rfl
theorem ownV_new1 (W : World) (B : Nat) (k : ByteArray) (h : B ≤ W.heap.size) : OwnV (W.alloc (.cells #[.string k] 9)) B 9 (.slice (some ⟨W.heap.size, 0, none⟩) 1 1) (sv [k]) := World.ownsRow_lit W #[.string k] 1 h (by simp [maxLen]) rfl
theorem far_new {T : TypeId} {us : List Value} {B n c : Nat} (h : OwnV W B T a us) : far a (.slice (some ⟨W.heap.size, 0, none⟩) n c) := fun g hg e => by
  have := (h.blk g hg).2
  simp [Value.ownBlock] at e
  omega
/-- An append to the first one. -/
theorem TwoV.app (h : TwoV W0 W a la b lb) {xs : List ByteArray} (ho : OwnV W' W0.heap.size 9 a' (sv xs)) (hg : W.grownBy W' a.ownBlock) (hat : a'.ownBlock = a.ownBlock ∨ a'.ownBlock = some W.heap.size) : TwoV W0 W' a' xs b lb := by
  refine ⟨ho, h.ob.kept fun g e => hg.block g (h.ob.blk g e).2 (fun e' => h.fr g e'.symm e), fun g e e' => ?_, h.bel.grown hg h.bel.size (fun k e => (h.oa.blk k e).1)⟩
  rcases hat with x | x
  · exact h.fr g (x ▸ e) e'
  · rw [x] at e
    have := (h.ob.blk g e').2
    simp at e
    omega
end

set_option maxRecDepth 100000 in
set_option maxHeartbeats 8000000 in
theorem leaf_any (v : Value) (l : List ByteArray) (w : World) (hv : Rd w v (sv l)) (hl : l.length ≤ 1000) (hz : ∀ k ∈ l, k.size ≤ 140737488351232) :
    Calls Try.prog 25 #[v] w fun e w' => ∃ kv vv dv, e = .returned (pgv (leafM (ksOf l)) kv vv dv) ∧ PgO w' w.heap.size (leafM (ksOf l)) kv vv dv ∧ Below w.heap.size w w' := by
  obtain ⟨ao, c, rfl, a1, a2, a3⟩ := hv
  rw [sv_length] at *
  obtain ⟨n, hn⟩ : ∃ n, l.length = n := ⟨_, rfl⟩
  have A3 : Hid (RdAt w ao c (sv l)) := a3
  have HZ : Hid (∀ k ∈ l, k.size ≤ 140737488351232) := hz
  have HN : Hid (l.length = n) := hn
  rw [hn] at hl a1 ⊢
  clear a3 hz hn
  have HB0 : Hid (Box ((w.alloc (.cells #[.int .i64 0, .slice none 0 0, .slice none 0 0, .slice none 0 0, .int .i64 0, .int .i64 0, .int .i64 0, .int .i64 0] 25)).alloc (.cells #[.int .i64 1, .slice none 0 0, .slice none 0 0, .slice none 0 0, .int .i64 0, .int .i64 0, .int .i64 0, .int .i64 0] 25)) (w.heap.size + 1) (w.heap.size + 1) (lfK [] 0) (.slice none 0 0) (.slice none 0 0) (.slice none 0 0)) :=
    ⟨blk_two _ _ _ _ _, ⟨OwnV.nil _ _ _, OwnV.nil _ _ _, OwnV.nil _ _ _, fun g e => (by cases e), fun g e => (by cases e), fun g e => (by cases e)⟩, Nat.le_refl _, by simp [Value.ownBlock], by simp [Value.ownBlock], by simp [Value.ownBlock]⟩
  have HC0 : Hid (Blk ((w.alloc (.cells #[.int .i64 0, .slice none 0 0, .slice none 0 0, .slice none 0 0, .int .i64 0, .int .i64 0, .int .i64 0, .int .i64 0] 25)).alloc (.cells #[.int .i64 1, .slice none 0 0, .slice none 0 0, .slice none 0 0, .int .i64 0, .int .i64 0, .int .i64 0, .int .i64 0] 25)) w.heap.size #[.int .i64 0, .slice none 0 0, .slice none 0 0, .slice none 0 0, .int .i64 0, .int .i64 0, .int .i64 0, .int .i64 0] 25) := (Blk.new _ _ _).alloc _
  have HY0 : Hid (Below w.heap.size w ((w.alloc (.cells #[.int .i64 0, .slice none 0 0, .slice none 0 0, .slice none 0 0, .int .i64 0, .int .i64 0, .int .i64 0, .int .i64 0] 25)).alloc (.cells #[.int .i64 1, .slice none 0 0, .slice none 0 0, .slice none 0 0, .int .i64 0, .int .i64 0, .int .i64 0, .int .i64 0] 25))) := ((Below.refl _ _).alloc (Nat.le_refl _) _).alloc (by simp) _
  go_enter Try.func25, Try.ntmps25
  go_wp2
  go_loopw [12] (fun vi wr => ∃ (i : Nat) (kv : Value), vi = .int .i64 (i : Int) ∧ i ≤ n ∧ Box wr (w.heap.size + 1) (w.heap.size + 1) (lfK (ksOf (l.take i)) 0) kv (.slice none 0 0) (.slice none 0 0) ∧ Blk wr w.heap.size #[.int .i64 0, .slice none 0 0, .slice none 0 0, .slice none 0 0, .int .i64 0, .int .i64 0, .int .i64 0, .int .i64 0] 25 ∧ Below w.heap.size w wr) (fun vi _ => n - (intOf vi).toNat)
  case atStart => exact ⟨0, _, rfl, Nat.zero_le _, HB0.out, HC0.out, HY0.out⟩
  case round =>
    obtain ⟨i, kv, rfl, hi, hb, hc, hy⟩ := hrel
    clear HB0 HC0 HY0
    have HB : Hid (Box wr (w.heap.size + 1) (w.heap.size + 1) (lfK (ksOf (l.take i)) 0) kv (.slice none 0 0) (.slice none 0 0)) := hb
    have HC : Hid (Blk wr w.heap.size #[.int .i64 0, .slice none 0 0, .slice none 0 0, .slice none 0 0, .int .i64 0, .int .i64 0, .int .i64 0, .int .i64 0] 25) := hc
    have HY : Hid (Below w.heap.size w wr) := hy
    clear hb hc hy
    by_cases hlt : i < n
    · have hil : i < l.length := by have := HN.out; omega
      obtain ⟨ad, had⟩ := A3.out.ad (by rw [sv_length]; omega)
      subst had
      have y1 := (Below.cell HY.out (cell_lt (A3.out.str rfl hil))).trans (A3.out.str rfl hil)
      have HKS : Hid (ksOf (l.take (i + 1)) = insB l[i] (ksOf (l.take i))) := ksOf_take l hil
      have HLEN : Hid ((ksOf (l.take i)).length ≤ 1000) := by
        have := ksOf_length (l.take i)
        have h2 : (l.take i).length ≤ i := by simp; omega
        show _ ≤ _
        omega
      generalize l[i] = k at *
      obtain ⟨ks, hks⟩ : ∃ ks, ksOf (l.take i) = ks := ⟨_, rfl⟩
      rw [hks] at HB HKS HLEN
      have HRI : Hid (RisB ks) := by rw [← hks]; exact ksOf_rising _
      clear hks
      obtain ⟨kn, ka, kc, hkv⟩ := HB.out.own.keys.rd.any
      subst hkv
      have HLE : Hid (idxB k ks ≤ ks.length) := idxB_le _ _
      obtain ⟨r0, r1, r2, r3⟩ := HB.out.own.keys.rd.at
      have HKN : Hid (ks.length = kn) := by rw [r0, sv_length]; rfl
      have R3 : Hid (RdAt wr ka kc (sv ks)) := r3
      have hkc : kn ≤ kc := by rw [r0]; exact r1
      unfold maxLen at r2
      clear r0 r1 r3
      rename World => wo
      obtain ⟨z0, z1, z2, z3, z4, z5, z6, z7⟩ := HB.out.box.cells
      have hkn1 : kn ≤ 1000 := by rw [← HKN.out]; exact HLEN.out
      go_wp2
      go_loopw [6] (fun va wr => ∃ a : Nat, va = .int .i64 (a : Int) ∧ a ≤ idxB k ks ∧ wo = wr) (fun va _ => kn - (intOf va).toNat)
      case atStart => exact ⟨0, rfl, Nat.zero_le _, rfl⟩
      case round =>
        obtain ⟨a, rfl, ha, rfl⟩ := hrel
        by_cases hai : a < idxB k ks
        · have hak : a < ks.length := Nat.lt_of_lt_of_le hai HLE.out
          have hak' : a < kn := by rw [← HKN.out]; exact hak
          obtain ⟨kad, hkad⟩ := R3.out.ad (by rw [sv_length]; omega)
          subst hkad
          have y2 := R3.out.str rfl hak
          have hb : Op.bytesLess ks[a].toList k.toList = true := idxB_lt k ks a hak hai
          generalize ks[a] = x at *
          go_wp2
          go_roundw
          case rel => exact ⟨a + 1, by go_num, hai, trivial⟩
          case measure => simp [intOf]; omega
        · have hae : a = idxB k ks := by omega
          have HAE : Hid (a = idxB k ks) := hae
          by_cases hak' : a < kn
          · have hak : a < ks.length := by rw [HKN.out]; exact hak'
            obtain ⟨kad, hkad⟩ := R3.out.ad (by rw [sv_length]; omega)
            subst hkad
            have y2 := R3.out.str rfl hak
            have hb : Op.bytesLess ks[a].toList k.toList = false := by have := idxB_at k ks (by rw [← hae]; exact hak); simp only [← hae] at this; exact this
            have HH : Hid (hasB k ks = decide (ks[a] = k)) := by
              show _ = _
              rw [hasB_at, ← hae, List.getElem?_eq_getElem hak]
            by_cases hxk : ks[a] = k
            · have hq : (ks[a].toList == k.toList) = true := by rw [beq_str]; simp [hxk]
              have HIN : Hid (ksOf (l.take (i + 1)) = ks) := by
                show _ = _
                rw [HKS.out, insB_has (by rw [HH.out]; simp [hxk])]
              generalize ks[a] = x at *
              clear hae hxk HH
              go_wp2
              go_roundw
              case rel => exact ⟨i + 1, _, by go_num, by omega, by rw [HIN.out]; exact HB.out, HC.out, HY.out⟩
              case measure => simp [intOf]; omega
            · have hq : (ks[a].toList == k.toList) = false := by rw [beq_str]; simp [hxk]
              have HIN : Hid (ksOf (l.take (i + 1)) = ks.take a ++ [k] ++ ks.drop a) := by
                show _ = _
                rw [HKS.out, insB_new (by rw [HH.out]; simp [hxk]), ← hae]
                simp
              have T50 : Hid (Rd wo (.slice (some kad) a kc) (sv (ks.take a))) := by
                have := Rd.take (HB.out.own.keys.rd) (k := a) (by omega)
                rw [sv_take]; exact this
              have T58 : Hid (Rd wo (.slice (some (kad.add a)) (kn - a) (kc - a)) (sv (ks.drop a))) := by
                have := Rd.drop (HB.out.own.keys.rd) (k := a) (by omega)
                rw [if_neg (by omega)] at this
                rw [sv_drop]; exact this
              clear HLE hae hai
              have hln : ks.length ≤ 1000 := HLEN.out
              generalize ks[a] = x at *
              go_upto_region 9 with fail
              clear y1 y2 hb hq hxk HH
              refine wp_region_last (Ext wo.drew) 15 (by kernel_rfl) (by kernel_rfl) ?_
              simp only [List.pop_toArray, List.dropLast_cons_cons, List.dropLast_singleton]
              haveI nA := cls_ext wo.drew
              have y9 := cellX (W0 := wo.drew) (show wo.drew.cell? ⟨w.heap.size + 1, 1, none⟩ = some _ from z1)
              refine wpAnyH_seg (by kernel_rfl) (fun _ _ _ h => h) [1, 2, 3, 4, 6, 9, 10, 11, 12] 6 _ _ _ (Ext.refl _) (by kernel_rfl) ?_
              simp only [opsAt, List.getElem?_toArray, List.getElem?_cons_zero, List.getElem?_cons_succ, List.cons_append, List.nil_append]
              repeat (go_big_quiet_step (fail))
              refine wpQuiet_nil ?_
              clear nA y9 z0 z1 z2 z3 z4 z5 z6 z7
              have BE0 : Hid (Below wo.heap.size wo (wo.drew.alloc (.cells #[] 9))) := (Below.refl _ _).drew.alloc (Nat.le_refl _) _
              have BE1 : Hid (Below wo.heap.size wo (wo.drew.alloc (.cells #[.string k] 9))) := (Below.refl _ _).drew.alloc (Nat.le_refl _) _
              refine wpAnyH_all (rs := [0, 7]) (fuel := 5) (by kernel_rfl) (by simp) fun j hj => ?_
              rcases (show j = 0 ∨ j = 7 by simpa using hj) with rfl | rfl
              · refine wpOp_value 46 rfl (by kernel_rfl) rfl (exec_build0 rfl) ?_
                refine ⟨ext_of_drew BE0.out, ?_⟩
                simp only [Act.put, List.setIfInBounds_toArray, List.set_cons_succ, List.set_cons_zero]
                refine wpAnyH_all (rs := [5, 7]) (fuel := 4) (by kernel_rfl) (by simp) fun j hj => ?_
                rcases (show j = 5 ∨ j = 7 by simpa using hj) with rfl | rfl
                · obtain ⟨v51, W2, h51, o51, g51, at51⟩ := run_appS (wo.drew.alloc (.cells #[] 9)) 22 wo.heap.size (.slice (some ⟨wo.drew.heap.size, 0, none⟩) 0 0) _ [] (ks.take a) (ownV_new0 wo.drew _ (Nat.le_refl _)) (T50.out.below BE0.out) (by simp only [List.length_nil, List.length_take]; omega) BE0.out.size
                  rw [List.nil_append] at o51
                  obtain ⟨n51, p51, q51, hv51⟩ := o51.rd.any
                  subst hv51
                  have H51 : Hid _ := h51
                  have B51 : Hid (Below wo.heap.size wo W2) := BE0.out.grown g51 BE0.out.size (fun x e => by simp [Value.ownBlock] at e; subst e; exact Nat.le_refl _)
                  have O51 : Hid (OwnV W2 wo.heap.size 9 _ (sv (ks.take a))) := o51
                  clear h51 o51 g51 at51
                  refine wpOp_value 51 rfl (by kernel_rfl) rfl (exec_app rfl rfl rfl H51.out) ?_
                  refine ⟨ext_of_drew B51.out, ?_⟩
                  simp only [Act.put, List.setIfInBounds_toArray, List.set_cons_succ, List.set_cons_zero]
                  refine wpAnyH_all (rs := [7]) (fuel := 3) (by kernel_rfl) (by simp) fun j hj => ?_
                  obtain rfl : j = 7 := by simpa using hj
                  clear hj
                  refine wpOp_value 53 rfl (by kernel_rfl) rfl (exec_buildS rfl rfl) ?_
                  refine ⟨ext_of_drew (B51.out.alloc B51.out.size _), ?_⟩
                  simp only [Act.put, List.setIfInBounds_toArray, List.set_cons_succ, List.set_cons_zero]
                  have TW : Hid (TwoV wo (W2.alloc (.cells #[.string k] 9)) _ (ks.take a) (.slice (some ⟨W2.heap.size, 0, none⟩) 1 1) [k]) := ⟨O51.out.below ((Below.refl _ _).alloc (Nat.le_refl _) _), ownV_new1 W2 _ k B51.out.size, far_new O51.out, B51.out.alloc B51.out.size _⟩
                  clear O51 B51 H51
                  obtain ⟨v54, W4, h54, o54, g54, at54⟩ := run_appS (W2.alloc (.cells #[.string k] 9)) 22 wo.heap.size _ _ (ks.take a) [k] TW.out.oa TW.out.ob.rd (by rw [List.length_take]; simp only [List.length_cons, List.length_nil]; omega) TW.out.bel.size
                  obtain ⟨n54, p54, q54, hv54⟩ := o54.rd.any
                  subst hv54
                  have H54 : Hid _ := h54
                  have B54 : Hid (Below wo.heap.size wo W4) := TW.out.bel.grown g54 TW.out.bel.size (fun x e => (TW.out.oa.blk x e).1)
                  obtain ⟨v59, W5, h59, o59, g59, at59⟩ := run_appS W4 22 wo.heap.size _ _ _ (ks.drop a) o54 (T58.out.below B54.out) (by simp only [List.length_append, List.length_take, List.length_drop, List.length_cons, List.length_nil]; omega) B54.out.size
                  obtain ⟨n59, p59, q59, hv59⟩ := o59.rd.any
                  subst hv59
                  have H59 : Hid _ := h59
                  have B59 : Hid (Below wo.heap.size wo W5) := B54.out.grown g59 B54.out.size (fun x e => (o54.blk x e).1)
                  have HO59 : Hid (OwnV W5 wo.heap.size 9 _ (sv (ks.take a ++ [k] ++ ks.drop a))) := o59
                  clear h54 o54 g54 at54 h59 o59 g59 at59
                  refine wpAnyH_all (rs := [8]) (fuel := 2) (by kernel_rfl) (by simp) fun j hj => ?_
                  obtain rfl : j = 8 := by simpa using hj
                  clear hj
                  refine wpOp_value 54 rfl (by kernel_rfl) rfl (exec_app rfl rfl rfl H54.out) ?_
                  refine ⟨ext_of_drew B54.out, ?_⟩
                  simp only [Act.put, List.setIfInBounds_toArray, List.set_cons_succ, List.set_cons_zero]
                  refine wpAnyH_all (rs := [13]) (fuel := 1) (by kernel_rfl) (by simp) fun j hj => ?_
                  obtain rfl : j = 13 := by simpa using hj
                  clear hj
                  refine wpOp_value 59 rfl (by kernel_rfl) rfl (exec_app rfl rfl rfl H59.out) ?_
                  refine ⟨ext_of_drew B59.out, ?_⟩
                  simp only [Act.put, List.setIfInBounds_toArray, List.set_cons_succ, List.set_cons_zero]
                  haveI nC := cls_ext wo.drew
                  refine wpAnyH_seg (by kernel_rfl) (fun _ _ _ h => h) [14] 0 _ _ _ (ext_of_drew B59.out) (by kernel_rfl) ?_
                  simp only [opsAt, List.getElem?_toArray, List.getElem?_cons_zero, List.getElem?_cons_succ, List.cons_append, List.nil_append]
                  repeat (go_big_quiet_step (fail))
                  refine wpQuiet_nil ?_
                  clear nC
                  refine wpAnyH_done (by kernel_rfl) (exQ_normal ?_) 0
                  have RB : Hid (Box (W5.setCell ⟨w.heap.size + 1, 1, none⟩ (.slice p59 n59 q59)) (w.heap.size + 1) (w.heap.size + 1) { lfK ks 0 with keys := ks.take a ++ [k] ++ ks.drop a } (.slice p59 n59 q59) (.slice none 0 0) (.slice none 0 0)) := HB.out.setK (HO59.out.mono (Nat.le_trans HB.out.hb (Nat.le_of_lt (Blk.lt HB.out.box)))) (fun g e => B59.out.block g (by rcases e with rfl | e | e; exact Blk.lt HB.out.box; exact (HB.out.own.vals.blk g e).2; exact (HB.out.own.kids.blk g e).2)) (fun e => by have h1 := (HO59.out.blk _ e).1; have h2 := Blk.lt HB.out.box; omega) (fun g _ e => by cases e) (fun g _ e => by cases e)
                  have RC : Hid (Blk (W5.setCell ⟨w.heap.size + 1, 1, none⟩ (.slice p59 n59 q59)) w.heap.size #[.int .i64 0, .slice none 0 0, .slice none 0 0, .slice none 0 0, .int .i64 0, .int .i64 0, .int .i64 0, .int .i64 0] 25) := (HC.out.of (B59.out.block _ HC.out.lt)).setOther _ _ (by omega)
                  have RY : Hid (Below w.heap.size w (W5.setCell ⟨w.heap.size + 1, 1, none⟩ (.slice p59 n59 q59))) := (HY.out.trans (B59.out.mono HY.out.size)).setCell (by simp) _
                  have PRE : Hid (PBox W5 (w.heap.size + 1) (lfK ks 0) _ _ _) := Blk.of HB.out.box (B59.out.block _ (Blk.lt HB.out.box))
                  refine wpOp_store1 rfl (by kernel_rfl) 22 _ _ rfl rfl (w.heap.size + 1) 1 (.slice p59 n59 q59) rfl rfl (thereN 1 PRE.out (by simp [pgc])) (by kernel_rfl) rfl ?_
                  clear PRE H54 H59 HO59 B54 B59 TW T50 T58
                  generalize W5.setCell ⟨w.heap.size + 1, 1, none⟩ (.slice p59 n59 q59) = W6 at *
                  have RB2 : Hid (Box W6 (w.heap.size + 1) (w.heap.size + 1) (lfK (ksOf (l.take (i + 1))) 0) (.slice p59 n59 q59) (.slice none 0 0) (.slice none 0 0)) := by rw [HIN.out]; exact RB.out
                  clear RB HB HC HIN
                  go_wp2
                  go_roundw
                  case rel => exact ⟨i + 1, _, by go_num, by omega, RB2.out, RC.out, RY.out⟩
                  case measure => simp [intOf]; omega
                · refine wpOp_value 53 rfl (by kernel_rfl) rfl (exec_buildS rfl rfl) ?_
                  refine ⟨ext_of_drew (BE0.out.alloc BE0.out.size _), ?_⟩
                  simp only [Act.put, List.setIfInBounds_toArray, List.set_cons_succ, List.set_cons_zero]
                  have TV : Hid (TwoV wo ((wo.drew.alloc (.cells #[] 9)).alloc (.cells #[.string k] 9)) (.slice (some ⟨wo.drew.heap.size, 0, none⟩) 0 0) [] (.slice (some ⟨(wo.drew.alloc (.cells #[] 9)).heap.size, 0, none⟩) 1 1) [k]) := ⟨(ownV_new0 wo.drew _ (Nat.le_refl _)).below ((Below.refl _ _).alloc (Nat.le_refl _) _), ownV_new1 _ _ k BE0.out.size, far_new (ownV_new0 wo.drew wo.heap.size (Nat.le_refl _)), BE0.out.alloc BE0.out.size _⟩
                  obtain ⟨v51, W3, h51, o51, g51, at51⟩ := run_appS ((wo.drew.alloc (.cells #[] 9)).alloc (.cells #[.string k] 9)) 22 wo.heap.size (.slice (some ⟨wo.drew.heap.size, 0, none⟩) 0 0) _ [] (ks.take a) TV.out.oa (T50.out.below TV.out.bel) (by simp only [List.length_nil, List.length_take]; omega) TV.out.bel.size
                  rw [List.nil_append] at o51
                  obtain ⟨n51, p51, q51, hv51⟩ := o51.rd.any
                  subst hv51
                  have H51 : Hid _ := h51
                  have TW : Hid (TwoV wo W3 _ (ks.take a) _ [k]) := TV.out.app o51 g51 at51
                  clear h51 o51 g51 at51
                  refine wpAnyH_all (rs := [5]) (fuel := 3) (by kernel_rfl) (by simp) fun j hj => ?_
                  obtain rfl : j = 5 := by simpa using hj
                  clear hj
                  refine wpOp_value 51 rfl (by kernel_rfl) rfl (exec_app rfl rfl rfl H51.out) ?_
                  refine ⟨ext_of_drew TW.out.bel, ?_⟩
                  simp only [Act.put, List.setIfInBounds_toArray, List.set_cons_succ, List.set_cons_zero]
                  clear TV H51
                  obtain ⟨v54, W4, h54, o54, g54, at54⟩ := run_appS W3 22 wo.heap.size _ _ (ks.take a) [k] TW.out.oa TW.out.ob.rd (by rw [List.length_take]; simp only [List.length_cons, List.length_nil]; omega) TW.out.bel.size
                  obtain ⟨n54, p54, q54, hv54⟩ := o54.rd.any
                  subst hv54
                  have H54 : Hid _ := h54
                  have B54 : Hid (Below wo.heap.size wo W4) := TW.out.bel.grown g54 TW.out.bel.size (fun x e => (TW.out.oa.blk x e).1)
                  obtain ⟨v59, W5, h59, o59, g59, at59⟩ := run_appS W4 22 wo.heap.size _ _ _ (ks.drop a) o54 (T58.out.below B54.out) (by simp only [List.length_append, List.length_take, List.length_drop, List.length_cons, List.length_nil]; omega) B54.out.size
                  obtain ⟨n59, p59, q59, hv59⟩ := o59.rd.any
                  subst hv59
                  have H59 : Hid _ := h59
                  have B59 : Hid (Below wo.heap.size wo W5) := B54.out.grown g59 B54.out.size (fun x e => (o54.blk x e).1)
                  have HO59 : Hid (OwnV W5 wo.heap.size 9 _ (sv (ks.take a ++ [k] ++ ks.drop a))) := o59
                  clear h54 o54 g54 at54 h59 o59 g59 at59
                  refine wpAnyH_all (rs := [8]) (fuel := 2) (by kernel_rfl) (by simp) fun j hj => ?_
                  obtain rfl : j = 8 := by simpa using hj
                  clear hj
                  refine wpOp_value 54 rfl (by kernel_rfl) rfl (exec_app rfl rfl rfl H54.out) ?_
                  refine ⟨ext_of_drew B54.out, ?_⟩
                  simp only [Act.put, List.setIfInBounds_toArray, List.set_cons_succ, List.set_cons_zero]
                  refine wpAnyH_all (rs := [13]) (fuel := 1) (by kernel_rfl) (by simp) fun j hj => ?_
                  obtain rfl : j = 13 := by simpa using hj
                  clear hj
                  refine wpOp_value 59 rfl (by kernel_rfl) rfl (exec_app rfl rfl rfl H59.out) ?_
                  refine ⟨ext_of_drew B59.out, ?_⟩
                  simp only [Act.put, List.setIfInBounds_toArray, List.set_cons_succ, List.set_cons_zero]
                  haveI nC := cls_ext wo.drew
                  refine wpAnyH_seg (by kernel_rfl) (fun _ _ _ h => h) [14] 0 _ _ _ (ext_of_drew B59.out) (by kernel_rfl) ?_
                  simp only [opsAt, List.getElem?_toArray, List.getElem?_cons_zero, List.getElem?_cons_succ, List.cons_append, List.nil_append]
                  repeat (go_big_quiet_step (fail))
                  refine wpQuiet_nil ?_
                  clear nC
                  refine wpAnyH_done (by kernel_rfl) (exQ_normal ?_) 0
                  have RB : Hid (Box (W5.setCell ⟨w.heap.size + 1, 1, none⟩ (.slice p59 n59 q59)) (w.heap.size + 1) (w.heap.size + 1) { lfK ks 0 with keys := ks.take a ++ [k] ++ ks.drop a } (.slice p59 n59 q59) (.slice none 0 0) (.slice none 0 0)) := HB.out.setK (HO59.out.mono (Nat.le_trans HB.out.hb (Nat.le_of_lt (Blk.lt HB.out.box)))) (fun g e => B59.out.block g (by rcases e with rfl | e | e; exact Blk.lt HB.out.box; exact (HB.out.own.vals.blk g e).2; exact (HB.out.own.kids.blk g e).2)) (fun e => by have h1 := (HO59.out.blk _ e).1; have h2 := Blk.lt HB.out.box; omega) (fun g _ e => by cases e) (fun g _ e => by cases e)
                  have RC : Hid (Blk (W5.setCell ⟨w.heap.size + 1, 1, none⟩ (.slice p59 n59 q59)) w.heap.size #[.int .i64 0, .slice none 0 0, .slice none 0 0, .slice none 0 0, .int .i64 0, .int .i64 0, .int .i64 0, .int .i64 0] 25) := (HC.out.of (B59.out.block _ HC.out.lt)).setOther _ _ (by omega)
                  have RY : Hid (Below w.heap.size w (W5.setCell ⟨w.heap.size + 1, 1, none⟩ (.slice p59 n59 q59))) := (HY.out.trans (B59.out.mono HY.out.size)).setCell (by simp) _
                  have PRE : Hid (PBox W5 (w.heap.size + 1) (lfK ks 0) _ _ _) := Blk.of HB.out.box (B59.out.block _ (Blk.lt HB.out.box))
                  refine wpOp_store1 rfl (by kernel_rfl) 22 _ _ rfl rfl (w.heap.size + 1) 1 (.slice p59 n59 q59) rfl rfl (thereN 1 PRE.out (by simp [pgc])) (by kernel_rfl) rfl ?_
                  clear PRE H54 H59 HO59 B54 B59 TW T50 T58
                  generalize W5.setCell ⟨w.heap.size + 1, 1, none⟩ (.slice p59 n59 q59) = W6 at *
                  have RB2 : Hid (Box W6 (w.heap.size + 1) (w.heap.size + 1) (lfK (ksOf (l.take (i + 1))) 0) (.slice p59 n59 q59) (.slice none 0 0) (.slice none 0 0)) := by rw [HIN.out]; exact RB.out
                  clear RB HB HC HIN
                  go_wp2
                  go_roundw
                  case rel => exact ⟨i + 1, _, by go_num, by omega, RB2.out, RC.out, RY.out⟩
                  case measure => simp [intOf]; omega
              · refine wpOp_value 53 rfl (by kernel_rfl) rfl (exec_buildS rfl rfl) ?_
                refine ⟨ext_of_drew BE1.out, ?_⟩
                simp only [Act.put, List.setIfInBounds_toArray, List.set_cons_succ, List.set_cons_zero]
                refine wpAnyH_all (rs := [0]) (fuel := 4) (by kernel_rfl) (by simp) fun j hj => ?_
                obtain rfl : j = 0 := by simpa using hj
                clear hj
                refine wpOp_value 46 rfl (by kernel_rfl) rfl (exec_build0 rfl) ?_
                refine ⟨ext_of_drew (BE1.out.alloc BE1.out.size _), ?_⟩
                simp only [Act.put, List.setIfInBounds_toArray, List.set_cons_succ, List.set_cons_zero]
                have TV : Hid (TwoV wo ((wo.drew.alloc (.cells #[.string k] 9)).alloc (.cells #[] 9)) (.slice (some ⟨(wo.drew.alloc (.cells #[.string k] 9)).heap.size, 0, none⟩) 0 0) [] (.slice (some ⟨wo.drew.heap.size, 0, none⟩) 1 1) [k]) := ⟨ownV_new0 _ _ BE1.out.size, (ownV_new1 wo.drew _ k (Nat.le_refl _)).below ((Below.refl _ _).alloc (Nat.le_refl _) _), (far_new (ownV_new1 wo.drew wo.heap.size k (Nat.le_refl _))).symm, BE1.out.alloc BE1.out.size _⟩
                obtain ⟨v51, W3, h51, o51, g51, at51⟩ := run_appS ((wo.drew.alloc (.cells #[.string k] 9)).alloc (.cells #[] 9)) 22 wo.heap.size (.slice (some ⟨(wo.drew.alloc (.cells #[.string k] 9)).heap.size, 0, none⟩) 0 0) _ [] (ks.take a) TV.out.oa (T50.out.below TV.out.bel) (by simp only [List.length_nil, List.length_take]; omega) TV.out.bel.size
                rw [List.nil_append] at o51
                obtain ⟨n51, p51, q51, hv51⟩ := o51.rd.any
                subst hv51
                have H51 : Hid _ := h51
                have TW : Hid (TwoV wo W3 _ (ks.take a) _ [k]) := TV.out.app o51 g51 at51
                clear h51 o51 g51 at51
                refine wpAnyH_all (rs := [5]) (fuel := 3) (by kernel_rfl) (by simp) fun j hj => ?_
                obtain rfl : j = 5 := by simpa using hj
                clear hj
                refine wpOp_value 51 rfl (by kernel_rfl) rfl (exec_app rfl rfl rfl H51.out) ?_
                refine ⟨ext_of_drew TW.out.bel, ?_⟩
                simp only [Act.put, List.setIfInBounds_toArray, List.set_cons_succ, List.set_cons_zero]
                clear TV H51
                obtain ⟨v54, W4, h54, o54, g54, at54⟩ := run_appS W3 22 wo.heap.size _ _ (ks.take a) [k] TW.out.oa TW.out.ob.rd (by rw [List.length_take]; simp only [List.length_cons, List.length_nil]; omega) TW.out.bel.size
                obtain ⟨n54, p54, q54, hv54⟩ := o54.rd.any
                subst hv54
                have H54 : Hid _ := h54
                have B54 : Hid (Below wo.heap.size wo W4) := TW.out.bel.grown g54 TW.out.bel.size (fun x e => (TW.out.oa.blk x e).1)
                obtain ⟨v59, W5, h59, o59, g59, at59⟩ := run_appS W4 22 wo.heap.size _ _ _ (ks.drop a) o54 (T58.out.below B54.out) (by simp only [List.length_append, List.length_take, List.length_drop, List.length_cons, List.length_nil]; omega) B54.out.size
                obtain ⟨n59, p59, q59, hv59⟩ := o59.rd.any
                subst hv59
                have H59 : Hid _ := h59
                have B59 : Hid (Below wo.heap.size wo W5) := B54.out.grown g59 B54.out.size (fun x e => (o54.blk x e).1)
                have HO59 : Hid (OwnV W5 wo.heap.size 9 _ (sv (ks.take a ++ [k] ++ ks.drop a))) := o59
                clear h54 o54 g54 at54 h59 o59 g59 at59
                refine wpAnyH_all (rs := [8]) (fuel := 2) (by kernel_rfl) (by simp) fun j hj => ?_
                obtain rfl : j = 8 := by simpa using hj
                clear hj
                refine wpOp_value 54 rfl (by kernel_rfl) rfl (exec_app rfl rfl rfl H54.out) ?_
                refine ⟨ext_of_drew B54.out, ?_⟩
                simp only [Act.put, List.setIfInBounds_toArray, List.set_cons_succ, List.set_cons_zero]
                refine wpAnyH_all (rs := [13]) (fuel := 1) (by kernel_rfl) (by simp) fun j hj => ?_
                obtain rfl : j = 13 := by simpa using hj
                clear hj
                refine wpOp_value 59 rfl (by kernel_rfl) rfl (exec_app rfl rfl rfl H59.out) ?_
                refine ⟨ext_of_drew B59.out, ?_⟩
                simp only [Act.put, List.setIfInBounds_toArray, List.set_cons_succ, List.set_cons_zero]
                haveI nC := cls_ext wo.drew
                refine wpAnyH_seg (by kernel_rfl) (fun _ _ _ h => h) [14] 0 _ _ _ (ext_of_drew B59.out) (by kernel_rfl) ?_
                simp only [opsAt, List.getElem?_toArray, List.getElem?_cons_zero, List.getElem?_cons_succ, List.cons_append, List.nil_append]
                repeat (go_big_quiet_step (fail))
                refine wpQuiet_nil ?_
                clear nC
                refine wpAnyH_done (by kernel_rfl) (exQ_normal ?_) 0
                have RB : Hid (Box (W5.setCell ⟨w.heap.size + 1, 1, none⟩ (.slice p59 n59 q59)) (w.heap.size + 1) (w.heap.size + 1) { lfK ks 0 with keys := ks.take a ++ [k] ++ ks.drop a } (.slice p59 n59 q59) (.slice none 0 0) (.slice none 0 0)) := HB.out.setK (HO59.out.mono (Nat.le_trans HB.out.hb (Nat.le_of_lt (Blk.lt HB.out.box)))) (fun g e => B59.out.block g (by rcases e with rfl | e | e; exact Blk.lt HB.out.box; exact (HB.out.own.vals.blk g e).2; exact (HB.out.own.kids.blk g e).2)) (fun e => by have h1 := (HO59.out.blk _ e).1; have h2 := Blk.lt HB.out.box; omega) (fun g _ e => by cases e) (fun g _ e => by cases e)
                have RC : Hid (Blk (W5.setCell ⟨w.heap.size + 1, 1, none⟩ (.slice p59 n59 q59)) w.heap.size #[.int .i64 0, .slice none 0 0, .slice none 0 0, .slice none 0 0, .int .i64 0, .int .i64 0, .int .i64 0, .int .i64 0] 25) := (HC.out.of (B59.out.block _ HC.out.lt)).setOther _ _ (by omega)
                have RY : Hid (Below w.heap.size w (W5.setCell ⟨w.heap.size + 1, 1, none⟩ (.slice p59 n59 q59))) := (HY.out.trans (B59.out.mono HY.out.size)).setCell (by simp) _
                have PRE : Hid (PBox W5 (w.heap.size + 1) (lfK ks 0) _ _ _) := Blk.of HB.out.box (B59.out.block _ (Blk.lt HB.out.box))
                refine wpOp_store1 rfl (by kernel_rfl) 22 _ _ rfl rfl (w.heap.size + 1) 1 (.slice p59 n59 q59) rfl rfl (thereN 1 PRE.out (by simp [pgc])) (by kernel_rfl) rfl ?_
                clear PRE H54 H59 HO59 B54 B59 TW T50 T58
                generalize W5.setCell ⟨w.heap.size + 1, 1, none⟩ (.slice p59 n59 q59) = W6 at *
                have RB2 : Hid (Box W6 (w.heap.size + 1) (w.heap.size + 1) (lfK (ksOf (l.take (i + 1))) 0) (.slice p59 n59 q59) (.slice none 0 0) (.slice none 0 0)) := by rw [HIN.out]; exact RB.out
                clear RB HB HC HIN
                go_wp2
                go_roundw
                case rel => exact ⟨i + 1, _, by go_num, by omega, RB2.out, RC.out, RY.out⟩
                case measure => simp [intOf]; omega
          · have hake : a = kn := by have := HLE.out; have := HKN.out; omega
            subst hake
            have HH : Hid (hasB k ks = false) := by
              show _ = _
              rw [hasB_at, ← HAE.out, List.getElem?_eq_none (by rw [HKN.out]; exact Nat.le_refl _)]
            have HIN : Hid (ksOf (l.take (i + 1)) = ks.take a ++ [k] ++ ks.drop a) := by
              show _ = _
              rw [HKS.out, insB_new HH.out, ← HAE.out]
              simp
            have hln : ks.length ≤ 1000 := HLEN.out
            have T50 : Hid (Rd wo (.slice ka a kc) (sv (ks.take a))) := by
              have := Rd.take (HB.out.own.keys.rd) (k := a) (by omega)
              rw [sv_take]; exact this
            have hdrop : ks.drop a = [] := by rw [← HKN.out]; simp
            clear HLE hae hai HH hak'
            cases ka with
            | none =>
              obtain ⟨e1, e2⟩ := R3.out.1 rfl
              have ha0 : a = 0 := by
                have := congrArg List.length e1
                rw [sv_length, HKN.out] at this
                exact this
              subst ha0 e2
              have T58 : Hid (Rd wo (.slice none 0 0) (sv (ks.drop 0))) := by rw [hdrop]; exact Rd.nil wo
              clear hdrop e1
              go_upto_region 9 with fail
              clear y1
              refine wp_region_last (Ext wo.drew) 15 (by kernel_rfl) (by kernel_rfl) ?_
              simp only [List.pop_toArray, List.dropLast_cons_cons, List.dropLast_singleton]
              haveI nA := cls_ext wo.drew
              have y9 := cellX (W0 := wo.drew) (show wo.drew.cell? ⟨w.heap.size + 1, 1, none⟩ = some _ from z1)
              refine wpAnyH_seg (by kernel_rfl) (fun _ _ _ h => h) [1, 2, 3, 4, 6, 9, 10, 11, 12] 6 _ _ _ (Ext.refl _) (by kernel_rfl) ?_
              simp only [opsAt, List.getElem?_toArray, List.getElem?_cons_zero, List.getElem?_cons_succ, List.cons_append, List.nil_append]
              repeat (go_big_quiet_step (fail))
              refine wpQuiet_nil ?_
              clear nA y9 z0 z1 z2 z3 z4 z5 z6 z7
              have BE0 : Hid (Below wo.heap.size wo (wo.drew.alloc (.cells #[] 9))) := (Below.refl _ _).drew.alloc (Nat.le_refl _) _
              have BE1 : Hid (Below wo.heap.size wo (wo.drew.alloc (.cells #[.string k] 9))) := (Below.refl _ _).drew.alloc (Nat.le_refl _) _
              refine wpAnyH_all (rs := [0, 7]) (fuel := 5) (by kernel_rfl) (by simp) fun j hj => ?_
              rcases (show j = 0 ∨ j = 7 by simpa using hj) with rfl | rfl
              · refine wpOp_value 46 rfl (by kernel_rfl) rfl (exec_build0 rfl) ?_
                refine ⟨ext_of_drew BE0.out, ?_⟩
                simp only [Act.put, List.setIfInBounds_toArray, List.set_cons_succ, List.set_cons_zero]
                refine wpAnyH_all (rs := [5, 7]) (fuel := 4) (by kernel_rfl) (by simp) fun j hj => ?_
                rcases (show j = 5 ∨ j = 7 by simpa using hj) with rfl | rfl
                · obtain ⟨v51, W2, h51, o51, g51, at51⟩ := run_appS (wo.drew.alloc (.cells #[] 9)) 22 wo.heap.size (.slice (some ⟨wo.drew.heap.size, 0, none⟩) 0 0) _ [] (ks.take 0) (ownV_new0 wo.drew _ (Nat.le_refl _)) (T50.out.below BE0.out) (by simp only [List.length_nil, List.length_take]; omega) BE0.out.size
                  rw [List.nil_append] at o51
                  obtain ⟨n51, p51, q51, hv51⟩ := o51.rd.any
                  subst hv51
                  have H51 : Hid _ := h51
                  have B51 : Hid (Below wo.heap.size wo W2) := BE0.out.grown g51 BE0.out.size (fun x e => by simp [Value.ownBlock] at e; subst e; exact Nat.le_refl _)
                  have O51 : Hid (OwnV W2 wo.heap.size 9 _ (sv (ks.take 0))) := o51
                  clear h51 o51 g51 at51
                  refine wpOp_value 51 rfl (by kernel_rfl) rfl (exec_app rfl rfl rfl H51.out) ?_
                  refine ⟨ext_of_drew B51.out, ?_⟩
                  simp only [Act.put, List.setIfInBounds_toArray, List.set_cons_succ, List.set_cons_zero]
                  refine wpAnyH_all (rs := [7]) (fuel := 3) (by kernel_rfl) (by simp) fun j hj => ?_
                  obtain rfl : j = 7 := by simpa using hj
                  clear hj
                  refine wpOp_value 53 rfl (by kernel_rfl) rfl (exec_buildS rfl rfl) ?_
                  refine ⟨ext_of_drew (B51.out.alloc B51.out.size _), ?_⟩
                  simp only [Act.put, List.setIfInBounds_toArray, List.set_cons_succ, List.set_cons_zero]
                  have TW : Hid (TwoV wo (W2.alloc (.cells #[.string k] 9)) _ (ks.take 0) (.slice (some ⟨W2.heap.size, 0, none⟩) 1 1) [k]) := ⟨O51.out.below ((Below.refl _ _).alloc (Nat.le_refl _) _), ownV_new1 W2 _ k B51.out.size, far_new O51.out, B51.out.alloc B51.out.size _⟩
                  clear O51 B51 H51
                  obtain ⟨v54, W4, h54, o54, g54, at54⟩ := run_appS (W2.alloc (.cells #[.string k] 9)) 22 wo.heap.size _ _ (ks.take 0) [k] TW.out.oa TW.out.ob.rd (by rw [List.length_take]; simp only [List.length_cons, List.length_nil]; omega) TW.out.bel.size
                  obtain ⟨n54, p54, q54, hv54⟩ := o54.rd.any
                  subst hv54
                  have H54 : Hid _ := h54
                  have B54 : Hid (Below wo.heap.size wo W4) := TW.out.bel.grown g54 TW.out.bel.size (fun x e => (TW.out.oa.blk x e).1)
                  obtain ⟨v59, W5, h59, o59, g59, at59⟩ := run_appS W4 22 wo.heap.size _ _ _ (ks.drop 0) o54 (T58.out.below B54.out) (by simp only [List.length_append, List.length_take, List.length_drop, List.length_cons, List.length_nil]; omega) B54.out.size
                  obtain ⟨n59, p59, q59, hv59⟩ := o59.rd.any
                  subst hv59
                  have H59 : Hid _ := h59
                  have B59 : Hid (Below wo.heap.size wo W5) := B54.out.grown g59 B54.out.size (fun x e => (o54.blk x e).1)
                  have HO59 : Hid (OwnV W5 wo.heap.size 9 _ (sv (ks.take 0 ++ [k] ++ ks.drop 0))) := o59
                  clear h54 o54 g54 at54 h59 o59 g59 at59
                  refine wpAnyH_all (rs := [8]) (fuel := 2) (by kernel_rfl) (by simp) fun j hj => ?_
                  obtain rfl : j = 8 := by simpa using hj
                  clear hj
                  refine wpOp_value 54 rfl (by kernel_rfl) rfl (exec_app rfl rfl rfl H54.out) ?_
                  refine ⟨ext_of_drew B54.out, ?_⟩
                  simp only [Act.put, List.setIfInBounds_toArray, List.set_cons_succ, List.set_cons_zero]
                  refine wpAnyH_all (rs := [13]) (fuel := 1) (by kernel_rfl) (by simp) fun j hj => ?_
                  obtain rfl : j = 13 := by simpa using hj
                  clear hj
                  refine wpOp_value 59 rfl (by kernel_rfl) rfl (exec_app rfl rfl rfl H59.out) ?_
                  refine ⟨ext_of_drew B59.out, ?_⟩
                  simp only [Act.put, List.setIfInBounds_toArray, List.set_cons_succ, List.set_cons_zero]
                  haveI nC := cls_ext wo.drew
                  refine wpAnyH_seg (by kernel_rfl) (fun _ _ _ h => h) [14] 0 _ _ _ (ext_of_drew B59.out) (by kernel_rfl) ?_
                  simp only [opsAt, List.getElem?_toArray, List.getElem?_cons_zero, List.getElem?_cons_succ, List.cons_append, List.nil_append]
                  repeat (go_big_quiet_step (fail))
                  refine wpQuiet_nil ?_
                  clear nC
                  refine wpAnyH_done (by kernel_rfl) (exQ_normal ?_) 0
                  have RB : Hid (Box (W5.setCell ⟨w.heap.size + 1, 1, none⟩ (.slice p59 n59 q59)) (w.heap.size + 1) (w.heap.size + 1) { lfK ks 0 with keys := ks.take 0 ++ [k] ++ ks.drop 0 } (.slice p59 n59 q59) (.slice none 0 0) (.slice none 0 0)) := HB.out.setK (HO59.out.mono (Nat.le_trans HB.out.hb (Nat.le_of_lt (Blk.lt HB.out.box)))) (fun g e => B59.out.block g (by rcases e with rfl | e | e; exact Blk.lt HB.out.box; exact (HB.out.own.vals.blk g e).2; exact (HB.out.own.kids.blk g e).2)) (fun e => by have h1 := (HO59.out.blk _ e).1; have h2 := Blk.lt HB.out.box; omega) (fun g _ e => by cases e) (fun g _ e => by cases e)
                  have RC : Hid (Blk (W5.setCell ⟨w.heap.size + 1, 1, none⟩ (.slice p59 n59 q59)) w.heap.size #[.int .i64 0, .slice none 0 0, .slice none 0 0, .slice none 0 0, .int .i64 0, .int .i64 0, .int .i64 0, .int .i64 0] 25) := (HC.out.of (B59.out.block _ HC.out.lt)).setOther _ _ (by omega)
                  have RY : Hid (Below w.heap.size w (W5.setCell ⟨w.heap.size + 1, 1, none⟩ (.slice p59 n59 q59))) := (HY.out.trans (B59.out.mono HY.out.size)).setCell (by simp) _
                  have PRE : Hid (PBox W5 (w.heap.size + 1) (lfK ks 0) _ _ _) := Blk.of HB.out.box (B59.out.block _ (Blk.lt HB.out.box))
                  refine wpOp_store1 rfl (by kernel_rfl) 22 _ _ rfl rfl (w.heap.size + 1) 1 (.slice p59 n59 q59) rfl rfl (thereN 1 PRE.out (by simp [pgc])) (by kernel_rfl) rfl ?_
                  clear PRE H54 H59 HO59 B54 B59 TW T50 T58
                  generalize W5.setCell ⟨w.heap.size + 1, 1, none⟩ (.slice p59 n59 q59) = W6 at *
                  have RB2 : Hid (Box W6 (w.heap.size + 1) (w.heap.size + 1) (lfK (ksOf (l.take (i + 1))) 0) (.slice p59 n59 q59) (.slice none 0 0) (.slice none 0 0)) := by rw [HIN.out]; exact RB.out
                  clear RB HB HC HIN
                  go_wp2
                  go_roundw
                  case rel => exact ⟨i + 1, _, by go_num, by omega, RB2.out, RC.out, RY.out⟩
                  case measure => simp [intOf]; omega
                · refine wpOp_value 53 rfl (by kernel_rfl) rfl (exec_buildS rfl rfl) ?_
                  refine ⟨ext_of_drew (BE0.out.alloc BE0.out.size _), ?_⟩
                  simp only [Act.put, List.setIfInBounds_toArray, List.set_cons_succ, List.set_cons_zero]
                  have TV : Hid (TwoV wo ((wo.drew.alloc (.cells #[] 9)).alloc (.cells #[.string k] 9)) (.slice (some ⟨wo.drew.heap.size, 0, none⟩) 0 0) [] (.slice (some ⟨(wo.drew.alloc (.cells #[] 9)).heap.size, 0, none⟩) 1 1) [k]) := ⟨(ownV_new0 wo.drew _ (Nat.le_refl _)).below ((Below.refl _ _).alloc (Nat.le_refl _) _), ownV_new1 _ _ k BE0.out.size, far_new (ownV_new0 wo.drew wo.heap.size (Nat.le_refl _)), BE0.out.alloc BE0.out.size _⟩
                  obtain ⟨v51, W3, h51, o51, g51, at51⟩ := run_appS ((wo.drew.alloc (.cells #[] 9)).alloc (.cells #[.string k] 9)) 22 wo.heap.size (.slice (some ⟨wo.drew.heap.size, 0, none⟩) 0 0) _ [] (ks.take 0) TV.out.oa (T50.out.below TV.out.bel) (by simp only [List.length_nil, List.length_take]; omega) TV.out.bel.size
                  rw [List.nil_append] at o51
                  obtain ⟨n51, p51, q51, hv51⟩ := o51.rd.any
                  subst hv51
                  have H51 : Hid _ := h51
                  have TW : Hid (TwoV wo W3 _ (ks.take 0) _ [k]) := TV.out.app o51 g51 at51
                  clear h51 o51 g51 at51
                  refine wpAnyH_all (rs := [5]) (fuel := 3) (by kernel_rfl) (by simp) fun j hj => ?_
                  obtain rfl : j = 5 := by simpa using hj
                  clear hj
                  refine wpOp_value 51 rfl (by kernel_rfl) rfl (exec_app rfl rfl rfl H51.out) ?_
                  refine ⟨ext_of_drew TW.out.bel, ?_⟩
                  simp only [Act.put, List.setIfInBounds_toArray, List.set_cons_succ, List.set_cons_zero]
                  clear TV H51
                  obtain ⟨v54, W4, h54, o54, g54, at54⟩ := run_appS W3 22 wo.heap.size _ _ (ks.take 0) [k] TW.out.oa TW.out.ob.rd (by rw [List.length_take]; simp only [List.length_cons, List.length_nil]; omega) TW.out.bel.size
                  obtain ⟨n54, p54, q54, hv54⟩ := o54.rd.any
                  subst hv54
                  have H54 : Hid _ := h54
                  have B54 : Hid (Below wo.heap.size wo W4) := TW.out.bel.grown g54 TW.out.bel.size (fun x e => (TW.out.oa.blk x e).1)
                  obtain ⟨v59, W5, h59, o59, g59, at59⟩ := run_appS W4 22 wo.heap.size _ _ _ (ks.drop 0) o54 (T58.out.below B54.out) (by simp only [List.length_append, List.length_take, List.length_drop, List.length_cons, List.length_nil]; omega) B54.out.size
                  obtain ⟨n59, p59, q59, hv59⟩ := o59.rd.any
                  subst hv59
                  have H59 : Hid _ := h59
                  have B59 : Hid (Below wo.heap.size wo W5) := B54.out.grown g59 B54.out.size (fun x e => (o54.blk x e).1)
                  have HO59 : Hid (OwnV W5 wo.heap.size 9 _ (sv (ks.take 0 ++ [k] ++ ks.drop 0))) := o59
                  clear h54 o54 g54 at54 h59 o59 g59 at59
                  refine wpAnyH_all (rs := [8]) (fuel := 2) (by kernel_rfl) (by simp) fun j hj => ?_
                  obtain rfl : j = 8 := by simpa using hj
                  clear hj
                  refine wpOp_value 54 rfl (by kernel_rfl) rfl (exec_app rfl rfl rfl H54.out) ?_
                  refine ⟨ext_of_drew B54.out, ?_⟩
                  simp only [Act.put, List.setIfInBounds_toArray, List.set_cons_succ, List.set_cons_zero]
                  refine wpAnyH_all (rs := [13]) (fuel := 1) (by kernel_rfl) (by simp) fun j hj => ?_
                  obtain rfl : j = 13 := by simpa using hj
                  clear hj
                  refine wpOp_value 59 rfl (by kernel_rfl) rfl (exec_app rfl rfl rfl H59.out) ?_
                  refine ⟨ext_of_drew B59.out, ?_⟩
                  simp only [Act.put, List.setIfInBounds_toArray, List.set_cons_succ, List.set_cons_zero]
                  haveI nC := cls_ext wo.drew
                  refine wpAnyH_seg (by kernel_rfl) (fun _ _ _ h => h) [14] 0 _ _ _ (ext_of_drew B59.out) (by kernel_rfl) ?_
                  simp only [opsAt, List.getElem?_toArray, List.getElem?_cons_zero, List.getElem?_cons_succ, List.cons_append, List.nil_append]
                  repeat (go_big_quiet_step (fail))
                  refine wpQuiet_nil ?_
                  clear nC
                  refine wpAnyH_done (by kernel_rfl) (exQ_normal ?_) 0
                  have RB : Hid (Box (W5.setCell ⟨w.heap.size + 1, 1, none⟩ (.slice p59 n59 q59)) (w.heap.size + 1) (w.heap.size + 1) { lfK ks 0 with keys := ks.take 0 ++ [k] ++ ks.drop 0 } (.slice p59 n59 q59) (.slice none 0 0) (.slice none 0 0)) := HB.out.setK (HO59.out.mono (Nat.le_trans HB.out.hb (Nat.le_of_lt (Blk.lt HB.out.box)))) (fun g e => B59.out.block g (by rcases e with rfl | e | e; exact Blk.lt HB.out.box; exact (HB.out.own.vals.blk g e).2; exact (HB.out.own.kids.blk g e).2)) (fun e => by have h1 := (HO59.out.blk _ e).1; have h2 := Blk.lt HB.out.box; omega) (fun g _ e => by cases e) (fun g _ e => by cases e)
                  have RC : Hid (Blk (W5.setCell ⟨w.heap.size + 1, 1, none⟩ (.slice p59 n59 q59)) w.heap.size #[.int .i64 0, .slice none 0 0, .slice none 0 0, .slice none 0 0, .int .i64 0, .int .i64 0, .int .i64 0, .int .i64 0] 25) := (HC.out.of (B59.out.block _ HC.out.lt)).setOther _ _ (by omega)
                  have RY : Hid (Below w.heap.size w (W5.setCell ⟨w.heap.size + 1, 1, none⟩ (.slice p59 n59 q59))) := (HY.out.trans (B59.out.mono HY.out.size)).setCell (by simp) _
                  have PRE : Hid (PBox W5 (w.heap.size + 1) (lfK ks 0) _ _ _) := Blk.of HB.out.box (B59.out.block _ (Blk.lt HB.out.box))
                  refine wpOp_store1 rfl (by kernel_rfl) 22 _ _ rfl rfl (w.heap.size + 1) 1 (.slice p59 n59 q59) rfl rfl (thereN 1 PRE.out (by simp [pgc])) (by kernel_rfl) rfl ?_
                  clear PRE H54 H59 HO59 B54 B59 TW T50 T58
                  generalize W5.setCell ⟨w.heap.size + 1, 1, none⟩ (.slice p59 n59 q59) = W6 at *
                  have RB2 : Hid (Box W6 (w.heap.size + 1) (w.heap.size + 1) (lfK (ksOf (l.take (i + 1))) 0) (.slice p59 n59 q59) (.slice none 0 0) (.slice none 0 0)) := by rw [HIN.out]; exact RB.out
                  clear RB HB HC HIN
                  go_wp2
                  go_roundw
                  case rel => exact ⟨i + 1, _, by go_num, by omega, RB2.out, RC.out, RY.out⟩
                  case measure => simp [intOf]; omega
              · refine wpOp_value 53 rfl (by kernel_rfl) rfl (exec_buildS rfl rfl) ?_
                refine ⟨ext_of_drew BE1.out, ?_⟩
                simp only [Act.put, List.setIfInBounds_toArray, List.set_cons_succ, List.set_cons_zero]
                refine wpAnyH_all (rs := [0]) (fuel := 4) (by kernel_rfl) (by simp) fun j hj => ?_
                obtain rfl : j = 0 := by simpa using hj
                clear hj
                refine wpOp_value 46 rfl (by kernel_rfl) rfl (exec_build0 rfl) ?_
                refine ⟨ext_of_drew (BE1.out.alloc BE1.out.size _), ?_⟩
                simp only [Act.put, List.setIfInBounds_toArray, List.set_cons_succ, List.set_cons_zero]
                have TV : Hid (TwoV wo ((wo.drew.alloc (.cells #[.string k] 9)).alloc (.cells #[] 9)) (.slice (some ⟨(wo.drew.alloc (.cells #[.string k] 9)).heap.size, 0, none⟩) 0 0) [] (.slice (some ⟨wo.drew.heap.size, 0, none⟩) 1 1) [k]) := ⟨ownV_new0 _ _ BE1.out.size, (ownV_new1 wo.drew _ k (Nat.le_refl _)).below ((Below.refl _ _).alloc (Nat.le_refl _) _), (far_new (ownV_new1 wo.drew wo.heap.size k (Nat.le_refl _))).symm, BE1.out.alloc BE1.out.size _⟩
                obtain ⟨v51, W3, h51, o51, g51, at51⟩ := run_appS ((wo.drew.alloc (.cells #[.string k] 9)).alloc (.cells #[] 9)) 22 wo.heap.size (.slice (some ⟨(wo.drew.alloc (.cells #[.string k] 9)).heap.size, 0, none⟩) 0 0) _ [] (ks.take 0) TV.out.oa (T50.out.below TV.out.bel) (by simp only [List.length_nil, List.length_take]; omega) TV.out.bel.size
                rw [List.nil_append] at o51
                obtain ⟨n51, p51, q51, hv51⟩ := o51.rd.any
                subst hv51
                have H51 : Hid _ := h51
                have TW : Hid (TwoV wo W3 _ (ks.take 0) _ [k]) := TV.out.app o51 g51 at51
                clear h51 o51 g51 at51
                refine wpAnyH_all (rs := [5]) (fuel := 3) (by kernel_rfl) (by simp) fun j hj => ?_
                obtain rfl : j = 5 := by simpa using hj
                clear hj
                refine wpOp_value 51 rfl (by kernel_rfl) rfl (exec_app rfl rfl rfl H51.out) ?_
                refine ⟨ext_of_drew TW.out.bel, ?_⟩
                simp only [Act.put, List.setIfInBounds_toArray, List.set_cons_succ, List.set_cons_zero]
                clear TV H51
                obtain ⟨v54, W4, h54, o54, g54, at54⟩ := run_appS W3 22 wo.heap.size _ _ (ks.take 0) [k] TW.out.oa TW.out.ob.rd (by rw [List.length_take]; simp only [List.length_cons, List.length_nil]; omega) TW.out.bel.size
                obtain ⟨n54, p54, q54, hv54⟩ := o54.rd.any
                subst hv54
                have H54 : Hid _ := h54
                have B54 : Hid (Below wo.heap.size wo W4) := TW.out.bel.grown g54 TW.out.bel.size (fun x e => (TW.out.oa.blk x e).1)
                obtain ⟨v59, W5, h59, o59, g59, at59⟩ := run_appS W4 22 wo.heap.size _ _ _ (ks.drop 0) o54 (T58.out.below B54.out) (by simp only [List.length_append, List.length_take, List.length_drop, List.length_cons, List.length_nil]; omega) B54.out.size
                obtain ⟨n59, p59, q59, hv59⟩ := o59.rd.any
                subst hv59
                have H59 : Hid _ := h59
                have B59 : Hid (Below wo.heap.size wo W5) := B54.out.grown g59 B54.out.size (fun x e => (o54.blk x e).1)
                have HO59 : Hid (OwnV W5 wo.heap.size 9 _ (sv (ks.take 0 ++ [k] ++ ks.drop 0))) := o59
                clear h54 o54 g54 at54 h59 o59 g59 at59
                refine wpAnyH_all (rs := [8]) (fuel := 2) (by kernel_rfl) (by simp) fun j hj => ?_
                obtain rfl : j = 8 := by simpa using hj
                clear hj
                refine wpOp_value 54 rfl (by kernel_rfl) rfl (exec_app rfl rfl rfl H54.out) ?_
                refine ⟨ext_of_drew B54.out, ?_⟩
                simp only [Act.put, List.setIfInBounds_toArray, List.set_cons_succ, List.set_cons_zero]
                refine wpAnyH_all (rs := [13]) (fuel := 1) (by kernel_rfl) (by simp) fun j hj => ?_
                obtain rfl : j = 13 := by simpa using hj
                clear hj
                refine wpOp_value 59 rfl (by kernel_rfl) rfl (exec_app rfl rfl rfl H59.out) ?_
                refine ⟨ext_of_drew B59.out, ?_⟩
                simp only [Act.put, List.setIfInBounds_toArray, List.set_cons_succ, List.set_cons_zero]
                haveI nC := cls_ext wo.drew
                refine wpAnyH_seg (by kernel_rfl) (fun _ _ _ h => h) [14] 0 _ _ _ (ext_of_drew B59.out) (by kernel_rfl) ?_
                simp only [opsAt, List.getElem?_toArray, List.getElem?_cons_zero, List.getElem?_cons_succ, List.cons_append, List.nil_append]
                repeat (go_big_quiet_step (fail))
                refine wpQuiet_nil ?_
                clear nC
                refine wpAnyH_done (by kernel_rfl) (exQ_normal ?_) 0
                have RB : Hid (Box (W5.setCell ⟨w.heap.size + 1, 1, none⟩ (.slice p59 n59 q59)) (w.heap.size + 1) (w.heap.size + 1) { lfK ks 0 with keys := ks.take 0 ++ [k] ++ ks.drop 0 } (.slice p59 n59 q59) (.slice none 0 0) (.slice none 0 0)) := HB.out.setK (HO59.out.mono (Nat.le_trans HB.out.hb (Nat.le_of_lt (Blk.lt HB.out.box)))) (fun g e => B59.out.block g (by rcases e with rfl | e | e; exact Blk.lt HB.out.box; exact (HB.out.own.vals.blk g e).2; exact (HB.out.own.kids.blk g e).2)) (fun e => by have h1 := (HO59.out.blk _ e).1; have h2 := Blk.lt HB.out.box; omega) (fun g _ e => by cases e) (fun g _ e => by cases e)
                have RC : Hid (Blk (W5.setCell ⟨w.heap.size + 1, 1, none⟩ (.slice p59 n59 q59)) w.heap.size #[.int .i64 0, .slice none 0 0, .slice none 0 0, .slice none 0 0, .int .i64 0, .int .i64 0, .int .i64 0, .int .i64 0] 25) := (HC.out.of (B59.out.block _ HC.out.lt)).setOther _ _ (by omega)
                have RY : Hid (Below w.heap.size w (W5.setCell ⟨w.heap.size + 1, 1, none⟩ (.slice p59 n59 q59))) := (HY.out.trans (B59.out.mono HY.out.size)).setCell (by simp) _
                have PRE : Hid (PBox W5 (w.heap.size + 1) (lfK ks 0) _ _ _) := Blk.of HB.out.box (B59.out.block _ (Blk.lt HB.out.box))
                refine wpOp_store1 rfl (by kernel_rfl) 22 _ _ rfl rfl (w.heap.size + 1) 1 (.slice p59 n59 q59) rfl rfl (thereN 1 PRE.out (by simp [pgc])) (by kernel_rfl) rfl ?_
                clear PRE H54 H59 HO59 B54 B59 TW T50 T58
                generalize W5.setCell ⟨w.heap.size + 1, 1, none⟩ (.slice p59 n59 q59) = W6 at *
                have RB2 : Hid (Box W6 (w.heap.size + 1) (w.heap.size + 1) (lfK (ksOf (l.take (i + 1))) 0) (.slice p59 n59 q59) (.slice none 0 0) (.slice none 0 0)) := by rw [HIN.out]; exact RB.out
                clear RB HB HC HIN
                go_wp2
                go_roundw
                case rel => exact ⟨i + 1, _, by go_num, by omega, RB2.out, RC.out, RY.out⟩
                case measure => simp [intOf]; omega
            | some kad =>
              by_cases hck : kc = a
              · subst hck
                have T58 : Hid (Rd wo (.slice (some kad) 0 0) (sv (ks.drop kc))) := by rw [hdrop]; exact Rd.emp wo kad 0 (Nat.zero_le _)
                clear hdrop
                go_upto_region 9 with fail
                clear y1
                refine wp_region_last (Ext wo.drew) 15 (by kernel_rfl) (by kernel_rfl) ?_
                simp only [List.pop_toArray, List.dropLast_cons_cons, List.dropLast_singleton]
                haveI nA := cls_ext wo.drew
                have y9 := cellX (W0 := wo.drew) (show wo.drew.cell? ⟨w.heap.size + 1, 1, none⟩ = some _ from z1)
                refine wpAnyH_seg (by kernel_rfl) (fun _ _ _ h => h) [1, 2, 3, 4, 6, 9, 10, 11, 12] 6 _ _ _ (Ext.refl _) (by kernel_rfl) ?_
                simp only [opsAt, List.getElem?_toArray, List.getElem?_cons_zero, List.getElem?_cons_succ, List.cons_append, List.nil_append]
                repeat (go_big_quiet_step (fail))
                refine wpQuiet_nil ?_
                clear nA y9 z0 z1 z2 z3 z4 z5 z6 z7
                have BE0 : Hid (Below wo.heap.size wo (wo.drew.alloc (.cells #[] 9))) := (Below.refl _ _).drew.alloc (Nat.le_refl _) _
                have BE1 : Hid (Below wo.heap.size wo (wo.drew.alloc (.cells #[.string k] 9))) := (Below.refl _ _).drew.alloc (Nat.le_refl _) _
                refine wpAnyH_all (rs := [0, 7]) (fuel := 5) (by kernel_rfl) (by simp) fun j hj => ?_
                rcases (show j = 0 ∨ j = 7 by simpa using hj) with rfl | rfl
                · refine wpOp_value 46 rfl (by kernel_rfl) rfl (exec_build0 rfl) ?_
                  refine ⟨ext_of_drew BE0.out, ?_⟩
                  simp only [Act.put, List.setIfInBounds_toArray, List.set_cons_succ, List.set_cons_zero]
                  refine wpAnyH_all (rs := [5, 7]) (fuel := 4) (by kernel_rfl) (by simp) fun j hj => ?_
                  rcases (show j = 5 ∨ j = 7 by simpa using hj) with rfl | rfl
                  · obtain ⟨v51, W2, h51, o51, g51, at51⟩ := run_appS (wo.drew.alloc (.cells #[] 9)) 22 wo.heap.size (.slice (some ⟨wo.drew.heap.size, 0, none⟩) 0 0) _ [] (ks.take kc) (ownV_new0 wo.drew _ (Nat.le_refl _)) (T50.out.below BE0.out) (by simp only [List.length_nil, List.length_take]; omega) BE0.out.size
                    rw [List.nil_append] at o51
                    obtain ⟨n51, p51, q51, hv51⟩ := o51.rd.any
                    subst hv51
                    have H51 : Hid _ := h51
                    have B51 : Hid (Below wo.heap.size wo W2) := BE0.out.grown g51 BE0.out.size (fun x e => by simp [Value.ownBlock] at e; subst e; exact Nat.le_refl _)
                    have O51 : Hid (OwnV W2 wo.heap.size 9 _ (sv (ks.take kc))) := o51
                    clear h51 o51 g51 at51
                    refine wpOp_value 51 rfl (by kernel_rfl) rfl (exec_app rfl rfl rfl H51.out) ?_
                    refine ⟨ext_of_drew B51.out, ?_⟩
                    simp only [Act.put, List.setIfInBounds_toArray, List.set_cons_succ, List.set_cons_zero]
                    refine wpAnyH_all (rs := [7]) (fuel := 3) (by kernel_rfl) (by simp) fun j hj => ?_
                    obtain rfl : j = 7 := by simpa using hj
                    clear hj
                    refine wpOp_value 53 rfl (by kernel_rfl) rfl (exec_buildS rfl rfl) ?_
                    refine ⟨ext_of_drew (B51.out.alloc B51.out.size _), ?_⟩
                    simp only [Act.put, List.setIfInBounds_toArray, List.set_cons_succ, List.set_cons_zero]
                    have TW : Hid (TwoV wo (W2.alloc (.cells #[.string k] 9)) _ (ks.take kc) (.slice (some ⟨W2.heap.size, 0, none⟩) 1 1) [k]) := ⟨O51.out.below ((Below.refl _ _).alloc (Nat.le_refl _) _), ownV_new1 W2 _ k B51.out.size, far_new O51.out, B51.out.alloc B51.out.size _⟩
                    clear O51 B51 H51
                    obtain ⟨v54, W4, h54, o54, g54, at54⟩ := run_appS (W2.alloc (.cells #[.string k] 9)) 22 wo.heap.size _ _ (ks.take kc) [k] TW.out.oa TW.out.ob.rd (by rw [List.length_take]; simp only [List.length_cons, List.length_nil]; omega) TW.out.bel.size
                    obtain ⟨n54, p54, q54, hv54⟩ := o54.rd.any
                    subst hv54
                    have H54 : Hid _ := h54
                    have B54 : Hid (Below wo.heap.size wo W4) := TW.out.bel.grown g54 TW.out.bel.size (fun x e => (TW.out.oa.blk x e).1)
                    obtain ⟨v59, W5, h59, o59, g59, at59⟩ := run_appS W4 22 wo.heap.size _ _ _ (ks.drop kc) o54 (T58.out.below B54.out) (by simp only [List.length_append, List.length_take, List.length_drop, List.length_cons, List.length_nil]; omega) B54.out.size
                    obtain ⟨n59, p59, q59, hv59⟩ := o59.rd.any
                    subst hv59
                    have H59 : Hid _ := h59
                    have B59 : Hid (Below wo.heap.size wo W5) := B54.out.grown g59 B54.out.size (fun x e => (o54.blk x e).1)
                    have HO59 : Hid (OwnV W5 wo.heap.size 9 _ (sv (ks.take kc ++ [k] ++ ks.drop kc))) := o59
                    clear h54 o54 g54 at54 h59 o59 g59 at59
                    refine wpAnyH_all (rs := [8]) (fuel := 2) (by kernel_rfl) (by simp) fun j hj => ?_
                    obtain rfl : j = 8 := by simpa using hj
                    clear hj
                    refine wpOp_value 54 rfl (by kernel_rfl) rfl (exec_app rfl rfl rfl H54.out) ?_
                    refine ⟨ext_of_drew B54.out, ?_⟩
                    simp only [Act.put, List.setIfInBounds_toArray, List.set_cons_succ, List.set_cons_zero]
                    refine wpAnyH_all (rs := [13]) (fuel := 1) (by kernel_rfl) (by simp) fun j hj => ?_
                    obtain rfl : j = 13 := by simpa using hj
                    clear hj
                    refine wpOp_value 59 rfl (by kernel_rfl) rfl (exec_app rfl rfl rfl H59.out) ?_
                    refine ⟨ext_of_drew B59.out, ?_⟩
                    simp only [Act.put, List.setIfInBounds_toArray, List.set_cons_succ, List.set_cons_zero]
                    haveI nC := cls_ext wo.drew
                    refine wpAnyH_seg (by kernel_rfl) (fun _ _ _ h => h) [14] 0 _ _ _ (ext_of_drew B59.out) (by kernel_rfl) ?_
                    simp only [opsAt, List.getElem?_toArray, List.getElem?_cons_zero, List.getElem?_cons_succ, List.cons_append, List.nil_append]
                    repeat (go_big_quiet_step (fail))
                    refine wpQuiet_nil ?_
                    clear nC
                    refine wpAnyH_done (by kernel_rfl) (exQ_normal ?_) 0
                    have RB : Hid (Box (W5.setCell ⟨w.heap.size + 1, 1, none⟩ (.slice p59 n59 q59)) (w.heap.size + 1) (w.heap.size + 1) { lfK ks 0 with keys := ks.take kc ++ [k] ++ ks.drop kc } (.slice p59 n59 q59) (.slice none 0 0) (.slice none 0 0)) := HB.out.setK (HO59.out.mono (Nat.le_trans HB.out.hb (Nat.le_of_lt (Blk.lt HB.out.box)))) (fun g e => B59.out.block g (by rcases e with rfl | e | e; exact Blk.lt HB.out.box; exact (HB.out.own.vals.blk g e).2; exact (HB.out.own.kids.blk g e).2)) (fun e => by have h1 := (HO59.out.blk _ e).1; have h2 := Blk.lt HB.out.box; omega) (fun g _ e => by cases e) (fun g _ e => by cases e)
                    have RC : Hid (Blk (W5.setCell ⟨w.heap.size + 1, 1, none⟩ (.slice p59 n59 q59)) w.heap.size #[.int .i64 0, .slice none 0 0, .slice none 0 0, .slice none 0 0, .int .i64 0, .int .i64 0, .int .i64 0, .int .i64 0] 25) := (HC.out.of (B59.out.block _ HC.out.lt)).setOther _ _ (by omega)
                    have RY : Hid (Below w.heap.size w (W5.setCell ⟨w.heap.size + 1, 1, none⟩ (.slice p59 n59 q59))) := (HY.out.trans (B59.out.mono HY.out.size)).setCell (by simp) _
                    have PRE : Hid (PBox W5 (w.heap.size + 1) (lfK ks 0) _ _ _) := Blk.of HB.out.box (B59.out.block _ (Blk.lt HB.out.box))
                    refine wpOp_store1 rfl (by kernel_rfl) 22 _ _ rfl rfl (w.heap.size + 1) 1 (.slice p59 n59 q59) rfl rfl (thereN 1 PRE.out (by simp [pgc])) (by kernel_rfl) rfl ?_
                    clear PRE H54 H59 HO59 B54 B59 TW T50 T58
                    generalize W5.setCell ⟨w.heap.size + 1, 1, none⟩ (.slice p59 n59 q59) = W6 at *
                    have RB2 : Hid (Box W6 (w.heap.size + 1) (w.heap.size + 1) (lfK (ksOf (l.take (i + 1))) 0) (.slice p59 n59 q59) (.slice none 0 0) (.slice none 0 0)) := by rw [HIN.out]; exact RB.out
                    clear RB HB HC HIN
                    go_wp2
                    go_roundw
                    case rel => exact ⟨i + 1, _, by go_num, by omega, RB2.out, RC.out, RY.out⟩
                    case measure => simp [intOf]; omega
                  · refine wpOp_value 53 rfl (by kernel_rfl) rfl (exec_buildS rfl rfl) ?_
                    refine ⟨ext_of_drew (BE0.out.alloc BE0.out.size _), ?_⟩
                    simp only [Act.put, List.setIfInBounds_toArray, List.set_cons_succ, List.set_cons_zero]
                    have TV : Hid (TwoV wo ((wo.drew.alloc (.cells #[] 9)).alloc (.cells #[.string k] 9)) (.slice (some ⟨wo.drew.heap.size, 0, none⟩) 0 0) [] (.slice (some ⟨(wo.drew.alloc (.cells #[] 9)).heap.size, 0, none⟩) 1 1) [k]) := ⟨(ownV_new0 wo.drew _ (Nat.le_refl _)).below ((Below.refl _ _).alloc (Nat.le_refl _) _), ownV_new1 _ _ k BE0.out.size, far_new (ownV_new0 wo.drew wo.heap.size (Nat.le_refl _)), BE0.out.alloc BE0.out.size _⟩
                    obtain ⟨v51, W3, h51, o51, g51, at51⟩ := run_appS ((wo.drew.alloc (.cells #[] 9)).alloc (.cells #[.string k] 9)) 22 wo.heap.size (.slice (some ⟨wo.drew.heap.size, 0, none⟩) 0 0) _ [] (ks.take kc) TV.out.oa (T50.out.below TV.out.bel) (by simp only [List.length_nil, List.length_take]; omega) TV.out.bel.size
                    rw [List.nil_append] at o51
                    obtain ⟨n51, p51, q51, hv51⟩ := o51.rd.any
                    subst hv51
                    have H51 : Hid _ := h51
                    have TW : Hid (TwoV wo W3 _ (ks.take kc) _ [k]) := TV.out.app o51 g51 at51
                    clear h51 o51 g51 at51
                    refine wpAnyH_all (rs := [5]) (fuel := 3) (by kernel_rfl) (by simp) fun j hj => ?_
                    obtain rfl : j = 5 := by simpa using hj
                    clear hj
                    refine wpOp_value 51 rfl (by kernel_rfl) rfl (exec_app rfl rfl rfl H51.out) ?_
                    refine ⟨ext_of_drew TW.out.bel, ?_⟩
                    simp only [Act.put, List.setIfInBounds_toArray, List.set_cons_succ, List.set_cons_zero]
                    clear TV H51
                    obtain ⟨v54, W4, h54, o54, g54, at54⟩ := run_appS W3 22 wo.heap.size _ _ (ks.take kc) [k] TW.out.oa TW.out.ob.rd (by rw [List.length_take]; simp only [List.length_cons, List.length_nil]; omega) TW.out.bel.size
                    obtain ⟨n54, p54, q54, hv54⟩ := o54.rd.any
                    subst hv54
                    have H54 : Hid _ := h54
                    have B54 : Hid (Below wo.heap.size wo W4) := TW.out.bel.grown g54 TW.out.bel.size (fun x e => (TW.out.oa.blk x e).1)
                    obtain ⟨v59, W5, h59, o59, g59, at59⟩ := run_appS W4 22 wo.heap.size _ _ _ (ks.drop kc) o54 (T58.out.below B54.out) (by simp only [List.length_append, List.length_take, List.length_drop, List.length_cons, List.length_nil]; omega) B54.out.size
                    obtain ⟨n59, p59, q59, hv59⟩ := o59.rd.any
                    subst hv59
                    have H59 : Hid _ := h59
                    have B59 : Hid (Below wo.heap.size wo W5) := B54.out.grown g59 B54.out.size (fun x e => (o54.blk x e).1)
                    have HO59 : Hid (OwnV W5 wo.heap.size 9 _ (sv (ks.take kc ++ [k] ++ ks.drop kc))) := o59
                    clear h54 o54 g54 at54 h59 o59 g59 at59
                    refine wpAnyH_all (rs := [8]) (fuel := 2) (by kernel_rfl) (by simp) fun j hj => ?_
                    obtain rfl : j = 8 := by simpa using hj
                    clear hj
                    refine wpOp_value 54 rfl (by kernel_rfl) rfl (exec_app rfl rfl rfl H54.out) ?_
                    refine ⟨ext_of_drew B54.out, ?_⟩
                    simp only [Act.put, List.setIfInBounds_toArray, List.set_cons_succ, List.set_cons_zero]
                    refine wpAnyH_all (rs := [13]) (fuel := 1) (by kernel_rfl) (by simp) fun j hj => ?_
                    obtain rfl : j = 13 := by simpa using hj
                    clear hj
                    refine wpOp_value 59 rfl (by kernel_rfl) rfl (exec_app rfl rfl rfl H59.out) ?_
                    refine ⟨ext_of_drew B59.out, ?_⟩
                    simp only [Act.put, List.setIfInBounds_toArray, List.set_cons_succ, List.set_cons_zero]
                    haveI nC := cls_ext wo.drew
                    refine wpAnyH_seg (by kernel_rfl) (fun _ _ _ h => h) [14] 0 _ _ _ (ext_of_drew B59.out) (by kernel_rfl) ?_
                    simp only [opsAt, List.getElem?_toArray, List.getElem?_cons_zero, List.getElem?_cons_succ, List.cons_append, List.nil_append]
                    repeat (go_big_quiet_step (fail))
                    refine wpQuiet_nil ?_
                    clear nC
                    refine wpAnyH_done (by kernel_rfl) (exQ_normal ?_) 0
                    have RB : Hid (Box (W5.setCell ⟨w.heap.size + 1, 1, none⟩ (.slice p59 n59 q59)) (w.heap.size + 1) (w.heap.size + 1) { lfK ks 0 with keys := ks.take kc ++ [k] ++ ks.drop kc } (.slice p59 n59 q59) (.slice none 0 0) (.slice none 0 0)) := HB.out.setK (HO59.out.mono (Nat.le_trans HB.out.hb (Nat.le_of_lt (Blk.lt HB.out.box)))) (fun g e => B59.out.block g (by rcases e with rfl | e | e; exact Blk.lt HB.out.box; exact (HB.out.own.vals.blk g e).2; exact (HB.out.own.kids.blk g e).2)) (fun e => by have h1 := (HO59.out.blk _ e).1; have h2 := Blk.lt HB.out.box; omega) (fun g _ e => by cases e) (fun g _ e => by cases e)
                    have RC : Hid (Blk (W5.setCell ⟨w.heap.size + 1, 1, none⟩ (.slice p59 n59 q59)) w.heap.size #[.int .i64 0, .slice none 0 0, .slice none 0 0, .slice none 0 0, .int .i64 0, .int .i64 0, .int .i64 0, .int .i64 0] 25) := (HC.out.of (B59.out.block _ HC.out.lt)).setOther _ _ (by omega)
                    have RY : Hid (Below w.heap.size w (W5.setCell ⟨w.heap.size + 1, 1, none⟩ (.slice p59 n59 q59))) := (HY.out.trans (B59.out.mono HY.out.size)).setCell (by simp) _
                    have PRE : Hid (PBox W5 (w.heap.size + 1) (lfK ks 0) _ _ _) := Blk.of HB.out.box (B59.out.block _ (Blk.lt HB.out.box))
                    refine wpOp_store1 rfl (by kernel_rfl) 22 _ _ rfl rfl (w.heap.size + 1) 1 (.slice p59 n59 q59) rfl rfl (thereN 1 PRE.out (by simp [pgc])) (by kernel_rfl) rfl ?_
                    clear PRE H54 H59 HO59 B54 B59 TW T50 T58
                    generalize W5.setCell ⟨w.heap.size + 1, 1, none⟩ (.slice p59 n59 q59) = W6 at *
                    have RB2 : Hid (Box W6 (w.heap.size + 1) (w.heap.size + 1) (lfK (ksOf (l.take (i + 1))) 0) (.slice p59 n59 q59) (.slice none 0 0) (.slice none 0 0)) := by rw [HIN.out]; exact RB.out
                    clear RB HB HC HIN
                    go_wp2
                    go_roundw
                    case rel => exact ⟨i + 1, _, by go_num, by omega, RB2.out, RC.out, RY.out⟩
                    case measure => simp [intOf]; omega
                · refine wpOp_value 53 rfl (by kernel_rfl) rfl (exec_buildS rfl rfl) ?_
                  refine ⟨ext_of_drew BE1.out, ?_⟩
                  simp only [Act.put, List.setIfInBounds_toArray, List.set_cons_succ, List.set_cons_zero]
                  refine wpAnyH_all (rs := [0]) (fuel := 4) (by kernel_rfl) (by simp) fun j hj => ?_
                  obtain rfl : j = 0 := by simpa using hj
                  clear hj
                  refine wpOp_value 46 rfl (by kernel_rfl) rfl (exec_build0 rfl) ?_
                  refine ⟨ext_of_drew (BE1.out.alloc BE1.out.size _), ?_⟩
                  simp only [Act.put, List.setIfInBounds_toArray, List.set_cons_succ, List.set_cons_zero]
                  have TV : Hid (TwoV wo ((wo.drew.alloc (.cells #[.string k] 9)).alloc (.cells #[] 9)) (.slice (some ⟨(wo.drew.alloc (.cells #[.string k] 9)).heap.size, 0, none⟩) 0 0) [] (.slice (some ⟨wo.drew.heap.size, 0, none⟩) 1 1) [k]) := ⟨ownV_new0 _ _ BE1.out.size, (ownV_new1 wo.drew _ k (Nat.le_refl _)).below ((Below.refl _ _).alloc (Nat.le_refl _) _), (far_new (ownV_new1 wo.drew wo.heap.size k (Nat.le_refl _))).symm, BE1.out.alloc BE1.out.size _⟩
                  obtain ⟨v51, W3, h51, o51, g51, at51⟩ := run_appS ((wo.drew.alloc (.cells #[.string k] 9)).alloc (.cells #[] 9)) 22 wo.heap.size (.slice (some ⟨(wo.drew.alloc (.cells #[.string k] 9)).heap.size, 0, none⟩) 0 0) _ [] (ks.take kc) TV.out.oa (T50.out.below TV.out.bel) (by simp only [List.length_nil, List.length_take]; omega) TV.out.bel.size
                  rw [List.nil_append] at o51
                  obtain ⟨n51, p51, q51, hv51⟩ := o51.rd.any
                  subst hv51
                  have H51 : Hid _ := h51
                  have TW : Hid (TwoV wo W3 _ (ks.take kc) _ [k]) := TV.out.app o51 g51 at51
                  clear h51 o51 g51 at51
                  refine wpAnyH_all (rs := [5]) (fuel := 3) (by kernel_rfl) (by simp) fun j hj => ?_
                  obtain rfl : j = 5 := by simpa using hj
                  clear hj
                  refine wpOp_value 51 rfl (by kernel_rfl) rfl (exec_app rfl rfl rfl H51.out) ?_
                  refine ⟨ext_of_drew TW.out.bel, ?_⟩
                  simp only [Act.put, List.setIfInBounds_toArray, List.set_cons_succ, List.set_cons_zero]
                  clear TV H51
                  obtain ⟨v54, W4, h54, o54, g54, at54⟩ := run_appS W3 22 wo.heap.size _ _ (ks.take kc) [k] TW.out.oa TW.out.ob.rd (by rw [List.length_take]; simp only [List.length_cons, List.length_nil]; omega) TW.out.bel.size
                  obtain ⟨n54, p54, q54, hv54⟩ := o54.rd.any
                  subst hv54
                  have H54 : Hid _ := h54
                  have B54 : Hid (Below wo.heap.size wo W4) := TW.out.bel.grown g54 TW.out.bel.size (fun x e => (TW.out.oa.blk x e).1)
                  obtain ⟨v59, W5, h59, o59, g59, at59⟩ := run_appS W4 22 wo.heap.size _ _ _ (ks.drop kc) o54 (T58.out.below B54.out) (by simp only [List.length_append, List.length_take, List.length_drop, List.length_cons, List.length_nil]; omega) B54.out.size
                  obtain ⟨n59, p59, q59, hv59⟩ := o59.rd.any
                  subst hv59
                  have H59 : Hid _ := h59
                  have B59 : Hid (Below wo.heap.size wo W5) := B54.out.grown g59 B54.out.size (fun x e => (o54.blk x e).1)
                  have HO59 : Hid (OwnV W5 wo.heap.size 9 _ (sv (ks.take kc ++ [k] ++ ks.drop kc))) := o59
                  clear h54 o54 g54 at54 h59 o59 g59 at59
                  refine wpAnyH_all (rs := [8]) (fuel := 2) (by kernel_rfl) (by simp) fun j hj => ?_
                  obtain rfl : j = 8 := by simpa using hj
                  clear hj
                  refine wpOp_value 54 rfl (by kernel_rfl) rfl (exec_app rfl rfl rfl H54.out) ?_
                  refine ⟨ext_of_drew B54.out, ?_⟩
                  simp only [Act.put, List.setIfInBounds_toArray, List.set_cons_succ, List.set_cons_zero]
                  refine wpAnyH_all (rs := [13]) (fuel := 1) (by kernel_rfl) (by simp) fun j hj => ?_
                  obtain rfl : j = 13 := by simpa using hj
                  clear hj
                  refine wpOp_value 59 rfl (by kernel_rfl) rfl (exec_app rfl rfl rfl H59.out) ?_
                  refine ⟨ext_of_drew B59.out, ?_⟩
                  simp only [Act.put, List.setIfInBounds_toArray, List.set_cons_succ, List.set_cons_zero]
                  haveI nC := cls_ext wo.drew
                  refine wpAnyH_seg (by kernel_rfl) (fun _ _ _ h => h) [14] 0 _ _ _ (ext_of_drew B59.out) (by kernel_rfl) ?_
                  simp only [opsAt, List.getElem?_toArray, List.getElem?_cons_zero, List.getElem?_cons_succ, List.cons_append, List.nil_append]
                  repeat (go_big_quiet_step (fail))
                  refine wpQuiet_nil ?_
                  clear nC
                  refine wpAnyH_done (by kernel_rfl) (exQ_normal ?_) 0
                  have RB : Hid (Box (W5.setCell ⟨w.heap.size + 1, 1, none⟩ (.slice p59 n59 q59)) (w.heap.size + 1) (w.heap.size + 1) { lfK ks 0 with keys := ks.take kc ++ [k] ++ ks.drop kc } (.slice p59 n59 q59) (.slice none 0 0) (.slice none 0 0)) := HB.out.setK (HO59.out.mono (Nat.le_trans HB.out.hb (Nat.le_of_lt (Blk.lt HB.out.box)))) (fun g e => B59.out.block g (by rcases e with rfl | e | e; exact Blk.lt HB.out.box; exact (HB.out.own.vals.blk g e).2; exact (HB.out.own.kids.blk g e).2)) (fun e => by have h1 := (HO59.out.blk _ e).1; have h2 := Blk.lt HB.out.box; omega) (fun g _ e => by cases e) (fun g _ e => by cases e)
                  have RC : Hid (Blk (W5.setCell ⟨w.heap.size + 1, 1, none⟩ (.slice p59 n59 q59)) w.heap.size #[.int .i64 0, .slice none 0 0, .slice none 0 0, .slice none 0 0, .int .i64 0, .int .i64 0, .int .i64 0, .int .i64 0] 25) := (HC.out.of (B59.out.block _ HC.out.lt)).setOther _ _ (by omega)
                  have RY : Hid (Below w.heap.size w (W5.setCell ⟨w.heap.size + 1, 1, none⟩ (.slice p59 n59 q59))) := (HY.out.trans (B59.out.mono HY.out.size)).setCell (by simp) _
                  have PRE : Hid (PBox W5 (w.heap.size + 1) (lfK ks 0) _ _ _) := Blk.of HB.out.box (B59.out.block _ (Blk.lt HB.out.box))
                  refine wpOp_store1 rfl (by kernel_rfl) 22 _ _ rfl rfl (w.heap.size + 1) 1 (.slice p59 n59 q59) rfl rfl (thereN 1 PRE.out (by simp [pgc])) (by kernel_rfl) rfl ?_
                  clear PRE H54 H59 HO59 B54 B59 TW T50 T58
                  generalize W5.setCell ⟨w.heap.size + 1, 1, none⟩ (.slice p59 n59 q59) = W6 at *
                  have RB2 : Hid (Box W6 (w.heap.size + 1) (w.heap.size + 1) (lfK (ksOf (l.take (i + 1))) 0) (.slice p59 n59 q59) (.slice none 0 0) (.slice none 0 0)) := by rw [HIN.out]; exact RB.out
                  clear RB HB HC HIN
                  go_wp2
                  go_roundw
                  case rel => exact ⟨i + 1, _, by go_num, by omega, RB2.out, RC.out, RY.out⟩
                  case measure => simp [intOf]; omega
              · have T58 : Hid (Rd wo (.slice (some (kad.add a)) 0 (kc - a)) (sv (ks.drop a))) := by rw [hdrop]; exact Rd.emp wo _ _ (by unfold maxLen; omega)
                clear hdrop
                go_upto_region 9 with fail
                clear y1
                refine wp_region_last (Ext wo.drew) 15 (by kernel_rfl) (by kernel_rfl) ?_
                simp only [List.pop_toArray, List.dropLast_cons_cons, List.dropLast_singleton]
                haveI nA := cls_ext wo.drew
                have y9 := cellX (W0 := wo.drew) (show wo.drew.cell? ⟨w.heap.size + 1, 1, none⟩ = some _ from z1)
                refine wpAnyH_seg (by kernel_rfl) (fun _ _ _ h => h) [1, 2, 3, 4, 6, 9, 10, 11, 12] 6 _ _ _ (Ext.refl _) (by kernel_rfl) ?_
                simp only [opsAt, List.getElem?_toArray, List.getElem?_cons_zero, List.getElem?_cons_succ, List.cons_append, List.nil_append]
                repeat (go_big_quiet_step (fail))
                refine wpQuiet_nil ?_
                clear nA y9 z0 z1 z2 z3 z4 z5 z6 z7
                have BE0 : Hid (Below wo.heap.size wo (wo.drew.alloc (.cells #[] 9))) := (Below.refl _ _).drew.alloc (Nat.le_refl _) _
                have BE1 : Hid (Below wo.heap.size wo (wo.drew.alloc (.cells #[.string k] 9))) := (Below.refl _ _).drew.alloc (Nat.le_refl _) _
                refine wpAnyH_all (rs := [0, 7]) (fuel := 5) (by kernel_rfl) (by simp) fun j hj => ?_
                rcases (show j = 0 ∨ j = 7 by simpa using hj) with rfl | rfl
                · refine wpOp_value 46 rfl (by kernel_rfl) rfl (exec_build0 rfl) ?_
                  refine ⟨ext_of_drew BE0.out, ?_⟩
                  simp only [Act.put, List.setIfInBounds_toArray, List.set_cons_succ, List.set_cons_zero]
                  refine wpAnyH_all (rs := [5, 7]) (fuel := 4) (by kernel_rfl) (by simp) fun j hj => ?_
                  rcases (show j = 5 ∨ j = 7 by simpa using hj) with rfl | rfl
                  · obtain ⟨v51, W2, h51, o51, g51, at51⟩ := run_appS (wo.drew.alloc (.cells #[] 9)) 22 wo.heap.size (.slice (some ⟨wo.drew.heap.size, 0, none⟩) 0 0) _ [] (ks.take a) (ownV_new0 wo.drew _ (Nat.le_refl _)) (T50.out.below BE0.out) (by simp only [List.length_nil, List.length_take]; omega) BE0.out.size
                    rw [List.nil_append] at o51
                    obtain ⟨n51, p51, q51, hv51⟩ := o51.rd.any
                    subst hv51
                    have H51 : Hid _ := h51
                    have B51 : Hid (Below wo.heap.size wo W2) := BE0.out.grown g51 BE0.out.size (fun x e => by simp [Value.ownBlock] at e; subst e; exact Nat.le_refl _)
                    have O51 : Hid (OwnV W2 wo.heap.size 9 _ (sv (ks.take a))) := o51
                    clear h51 o51 g51 at51
                    refine wpOp_value 51 rfl (by kernel_rfl) rfl (exec_app rfl rfl rfl H51.out) ?_
                    refine ⟨ext_of_drew B51.out, ?_⟩
                    simp only [Act.put, List.setIfInBounds_toArray, List.set_cons_succ, List.set_cons_zero]
                    refine wpAnyH_all (rs := [7]) (fuel := 3) (by kernel_rfl) (by simp) fun j hj => ?_
                    obtain rfl : j = 7 := by simpa using hj
                    clear hj
                    refine wpOp_value 53 rfl (by kernel_rfl) rfl (exec_buildS rfl rfl) ?_
                    refine ⟨ext_of_drew (B51.out.alloc B51.out.size _), ?_⟩
                    simp only [Act.put, List.setIfInBounds_toArray, List.set_cons_succ, List.set_cons_zero]
                    have TW : Hid (TwoV wo (W2.alloc (.cells #[.string k] 9)) _ (ks.take a) (.slice (some ⟨W2.heap.size, 0, none⟩) 1 1) [k]) := ⟨O51.out.below ((Below.refl _ _).alloc (Nat.le_refl _) _), ownV_new1 W2 _ k B51.out.size, far_new O51.out, B51.out.alloc B51.out.size _⟩
                    clear O51 B51 H51
                    obtain ⟨v54, W4, h54, o54, g54, at54⟩ := run_appS (W2.alloc (.cells #[.string k] 9)) 22 wo.heap.size _ _ (ks.take a) [k] TW.out.oa TW.out.ob.rd (by rw [List.length_take]; simp only [List.length_cons, List.length_nil]; omega) TW.out.bel.size
                    obtain ⟨n54, p54, q54, hv54⟩ := o54.rd.any
                    subst hv54
                    have H54 : Hid _ := h54
                    have B54 : Hid (Below wo.heap.size wo W4) := TW.out.bel.grown g54 TW.out.bel.size (fun x e => (TW.out.oa.blk x e).1)
                    obtain ⟨v59, W5, h59, o59, g59, at59⟩ := run_appS W4 22 wo.heap.size _ _ _ (ks.drop a) o54 (T58.out.below B54.out) (by simp only [List.length_append, List.length_take, List.length_drop, List.length_cons, List.length_nil]; omega) B54.out.size
                    obtain ⟨n59, p59, q59, hv59⟩ := o59.rd.any
                    subst hv59
                    have H59 : Hid _ := h59
                    have B59 : Hid (Below wo.heap.size wo W5) := B54.out.grown g59 B54.out.size (fun x e => (o54.blk x e).1)
                    have HO59 : Hid (OwnV W5 wo.heap.size 9 _ (sv (ks.take a ++ [k] ++ ks.drop a))) := o59
                    clear h54 o54 g54 at54 h59 o59 g59 at59
                    refine wpAnyH_all (rs := [8]) (fuel := 2) (by kernel_rfl) (by simp) fun j hj => ?_
                    obtain rfl : j = 8 := by simpa using hj
                    clear hj
                    refine wpOp_value 54 rfl (by kernel_rfl) rfl (exec_app rfl rfl rfl H54.out) ?_
                    refine ⟨ext_of_drew B54.out, ?_⟩
                    simp only [Act.put, List.setIfInBounds_toArray, List.set_cons_succ, List.set_cons_zero]
                    refine wpAnyH_all (rs := [13]) (fuel := 1) (by kernel_rfl) (by simp) fun j hj => ?_
                    obtain rfl : j = 13 := by simpa using hj
                    clear hj
                    refine wpOp_value 59 rfl (by kernel_rfl) rfl (exec_app rfl rfl rfl H59.out) ?_
                    refine ⟨ext_of_drew B59.out, ?_⟩
                    simp only [Act.put, List.setIfInBounds_toArray, List.set_cons_succ, List.set_cons_zero]
                    haveI nC := cls_ext wo.drew
                    refine wpAnyH_seg (by kernel_rfl) (fun _ _ _ h => h) [14] 0 _ _ _ (ext_of_drew B59.out) (by kernel_rfl) ?_
                    simp only [opsAt, List.getElem?_toArray, List.getElem?_cons_zero, List.getElem?_cons_succ, List.cons_append, List.nil_append]
                    repeat (go_big_quiet_step (fail))
                    refine wpQuiet_nil ?_
                    clear nC
                    refine wpAnyH_done (by kernel_rfl) (exQ_normal ?_) 0
                    have RB : Hid (Box (W5.setCell ⟨w.heap.size + 1, 1, none⟩ (.slice p59 n59 q59)) (w.heap.size + 1) (w.heap.size + 1) { lfK ks 0 with keys := ks.take a ++ [k] ++ ks.drop a } (.slice p59 n59 q59) (.slice none 0 0) (.slice none 0 0)) := HB.out.setK (HO59.out.mono (Nat.le_trans HB.out.hb (Nat.le_of_lt (Blk.lt HB.out.box)))) (fun g e => B59.out.block g (by rcases e with rfl | e | e; exact Blk.lt HB.out.box; exact (HB.out.own.vals.blk g e).2; exact (HB.out.own.kids.blk g e).2)) (fun e => by have h1 := (HO59.out.blk _ e).1; have h2 := Blk.lt HB.out.box; omega) (fun g _ e => by cases e) (fun g _ e => by cases e)
                    have RC : Hid (Blk (W5.setCell ⟨w.heap.size + 1, 1, none⟩ (.slice p59 n59 q59)) w.heap.size #[.int .i64 0, .slice none 0 0, .slice none 0 0, .slice none 0 0, .int .i64 0, .int .i64 0, .int .i64 0, .int .i64 0] 25) := (HC.out.of (B59.out.block _ HC.out.lt)).setOther _ _ (by omega)
                    have RY : Hid (Below w.heap.size w (W5.setCell ⟨w.heap.size + 1, 1, none⟩ (.slice p59 n59 q59))) := (HY.out.trans (B59.out.mono HY.out.size)).setCell (by simp) _
                    have PRE : Hid (PBox W5 (w.heap.size + 1) (lfK ks 0) _ _ _) := Blk.of HB.out.box (B59.out.block _ (Blk.lt HB.out.box))
                    refine wpOp_store1 rfl (by kernel_rfl) 22 _ _ rfl rfl (w.heap.size + 1) 1 (.slice p59 n59 q59) rfl rfl (thereN 1 PRE.out (by simp [pgc])) (by kernel_rfl) rfl ?_
                    clear PRE H54 H59 HO59 B54 B59 TW T50 T58
                    generalize W5.setCell ⟨w.heap.size + 1, 1, none⟩ (.slice p59 n59 q59) = W6 at *
                    have RB2 : Hid (Box W6 (w.heap.size + 1) (w.heap.size + 1) (lfK (ksOf (l.take (i + 1))) 0) (.slice p59 n59 q59) (.slice none 0 0) (.slice none 0 0)) := by rw [HIN.out]; exact RB.out
                    clear RB HB HC HIN
                    go_wp2
                    go_roundw
                    case rel => exact ⟨i + 1, _, by go_num, by omega, RB2.out, RC.out, RY.out⟩
                    case measure => simp [intOf]; omega
                  · refine wpOp_value 53 rfl (by kernel_rfl) rfl (exec_buildS rfl rfl) ?_
                    refine ⟨ext_of_drew (BE0.out.alloc BE0.out.size _), ?_⟩
                    simp only [Act.put, List.setIfInBounds_toArray, List.set_cons_succ, List.set_cons_zero]
                    have TV : Hid (TwoV wo ((wo.drew.alloc (.cells #[] 9)).alloc (.cells #[.string k] 9)) (.slice (some ⟨wo.drew.heap.size, 0, none⟩) 0 0) [] (.slice (some ⟨(wo.drew.alloc (.cells #[] 9)).heap.size, 0, none⟩) 1 1) [k]) := ⟨(ownV_new0 wo.drew _ (Nat.le_refl _)).below ((Below.refl _ _).alloc (Nat.le_refl _) _), ownV_new1 _ _ k BE0.out.size, far_new (ownV_new0 wo.drew wo.heap.size (Nat.le_refl _)), BE0.out.alloc BE0.out.size _⟩
                    obtain ⟨v51, W3, h51, o51, g51, at51⟩ := run_appS ((wo.drew.alloc (.cells #[] 9)).alloc (.cells #[.string k] 9)) 22 wo.heap.size (.slice (some ⟨wo.drew.heap.size, 0, none⟩) 0 0) _ [] (ks.take a) TV.out.oa (T50.out.below TV.out.bel) (by simp only [List.length_nil, List.length_take]; omega) TV.out.bel.size
                    rw [List.nil_append] at o51
                    obtain ⟨n51, p51, q51, hv51⟩ := o51.rd.any
                    subst hv51
                    have H51 : Hid _ := h51
                    have TW : Hid (TwoV wo W3 _ (ks.take a) _ [k]) := TV.out.app o51 g51 at51
                    clear h51 o51 g51 at51
                    refine wpAnyH_all (rs := [5]) (fuel := 3) (by kernel_rfl) (by simp) fun j hj => ?_
                    obtain rfl : j = 5 := by simpa using hj
                    clear hj
                    refine wpOp_value 51 rfl (by kernel_rfl) rfl (exec_app rfl rfl rfl H51.out) ?_
                    refine ⟨ext_of_drew TW.out.bel, ?_⟩
                    simp only [Act.put, List.setIfInBounds_toArray, List.set_cons_succ, List.set_cons_zero]
                    clear TV H51
                    obtain ⟨v54, W4, h54, o54, g54, at54⟩ := run_appS W3 22 wo.heap.size _ _ (ks.take a) [k] TW.out.oa TW.out.ob.rd (by rw [List.length_take]; simp only [List.length_cons, List.length_nil]; omega) TW.out.bel.size
                    obtain ⟨n54, p54, q54, hv54⟩ := o54.rd.any
                    subst hv54
                    have H54 : Hid _ := h54
                    have B54 : Hid (Below wo.heap.size wo W4) := TW.out.bel.grown g54 TW.out.bel.size (fun x e => (TW.out.oa.blk x e).1)
                    obtain ⟨v59, W5, h59, o59, g59, at59⟩ := run_appS W4 22 wo.heap.size _ _ _ (ks.drop a) o54 (T58.out.below B54.out) (by simp only [List.length_append, List.length_take, List.length_drop, List.length_cons, List.length_nil]; omega) B54.out.size
                    obtain ⟨n59, p59, q59, hv59⟩ := o59.rd.any
                    subst hv59
                    have H59 : Hid _ := h59
                    have B59 : Hid (Below wo.heap.size wo W5) := B54.out.grown g59 B54.out.size (fun x e => (o54.blk x e).1)
                    have HO59 : Hid (OwnV W5 wo.heap.size 9 _ (sv (ks.take a ++ [k] ++ ks.drop a))) := o59
                    clear h54 o54 g54 at54 h59 o59 g59 at59
                    refine wpAnyH_all (rs := [8]) (fuel := 2) (by kernel_rfl) (by simp) fun j hj => ?_
                    obtain rfl : j = 8 := by simpa using hj
                    clear hj
                    refine wpOp_value 54 rfl (by kernel_rfl) rfl (exec_app rfl rfl rfl H54.out) ?_
                    refine ⟨ext_of_drew B54.out, ?_⟩
                    simp only [Act.put, List.setIfInBounds_toArray, List.set_cons_succ, List.set_cons_zero]
                    refine wpAnyH_all (rs := [13]) (fuel := 1) (by kernel_rfl) (by simp) fun j hj => ?_
                    obtain rfl : j = 13 := by simpa using hj
                    clear hj
                    refine wpOp_value 59 rfl (by kernel_rfl) rfl (exec_app rfl rfl rfl H59.out) ?_
                    refine ⟨ext_of_drew B59.out, ?_⟩
                    simp only [Act.put, List.setIfInBounds_toArray, List.set_cons_succ, List.set_cons_zero]
                    haveI nC := cls_ext wo.drew
                    refine wpAnyH_seg (by kernel_rfl) (fun _ _ _ h => h) [14] 0 _ _ _ (ext_of_drew B59.out) (by kernel_rfl) ?_
                    simp only [opsAt, List.getElem?_toArray, List.getElem?_cons_zero, List.getElem?_cons_succ, List.cons_append, List.nil_append]
                    repeat (go_big_quiet_step (fail))
                    refine wpQuiet_nil ?_
                    clear nC
                    refine wpAnyH_done (by kernel_rfl) (exQ_normal ?_) 0
                    have RB : Hid (Box (W5.setCell ⟨w.heap.size + 1, 1, none⟩ (.slice p59 n59 q59)) (w.heap.size + 1) (w.heap.size + 1) { lfK ks 0 with keys := ks.take a ++ [k] ++ ks.drop a } (.slice p59 n59 q59) (.slice none 0 0) (.slice none 0 0)) := HB.out.setK (HO59.out.mono (Nat.le_trans HB.out.hb (Nat.le_of_lt (Blk.lt HB.out.box)))) (fun g e => B59.out.block g (by rcases e with rfl | e | e; exact Blk.lt HB.out.box; exact (HB.out.own.vals.blk g e).2; exact (HB.out.own.kids.blk g e).2)) (fun e => by have h1 := (HO59.out.blk _ e).1; have h2 := Blk.lt HB.out.box; omega) (fun g _ e => by cases e) (fun g _ e => by cases e)
                    have RC : Hid (Blk (W5.setCell ⟨w.heap.size + 1, 1, none⟩ (.slice p59 n59 q59)) w.heap.size #[.int .i64 0, .slice none 0 0, .slice none 0 0, .slice none 0 0, .int .i64 0, .int .i64 0, .int .i64 0, .int .i64 0] 25) := (HC.out.of (B59.out.block _ HC.out.lt)).setOther _ _ (by omega)
                    have RY : Hid (Below w.heap.size w (W5.setCell ⟨w.heap.size + 1, 1, none⟩ (.slice p59 n59 q59))) := (HY.out.trans (B59.out.mono HY.out.size)).setCell (by simp) _
                    have PRE : Hid (PBox W5 (w.heap.size + 1) (lfK ks 0) _ _ _) := Blk.of HB.out.box (B59.out.block _ (Blk.lt HB.out.box))
                    refine wpOp_store1 rfl (by kernel_rfl) 22 _ _ rfl rfl (w.heap.size + 1) 1 (.slice p59 n59 q59) rfl rfl (thereN 1 PRE.out (by simp [pgc])) (by kernel_rfl) rfl ?_
                    clear PRE H54 H59 HO59 B54 B59 TW T50 T58
                    generalize W5.setCell ⟨w.heap.size + 1, 1, none⟩ (.slice p59 n59 q59) = W6 at *
                    have RB2 : Hid (Box W6 (w.heap.size + 1) (w.heap.size + 1) (lfK (ksOf (l.take (i + 1))) 0) (.slice p59 n59 q59) (.slice none 0 0) (.slice none 0 0)) := by rw [HIN.out]; exact RB.out
                    clear RB HB HC HIN
                    go_wp2
                    go_roundw
                    case rel => exact ⟨i + 1, _, by go_num, by omega, RB2.out, RC.out, RY.out⟩
                    case measure => simp [intOf]; omega
                · refine wpOp_value 53 rfl (by kernel_rfl) rfl (exec_buildS rfl rfl) ?_
                  refine ⟨ext_of_drew BE1.out, ?_⟩
                  simp only [Act.put, List.setIfInBounds_toArray, List.set_cons_succ, List.set_cons_zero]
                  refine wpAnyH_all (rs := [0]) (fuel := 4) (by kernel_rfl) (by simp) fun j hj => ?_
                  obtain rfl : j = 0 := by simpa using hj
                  clear hj
                  refine wpOp_value 46 rfl (by kernel_rfl) rfl (exec_build0 rfl) ?_
                  refine ⟨ext_of_drew (BE1.out.alloc BE1.out.size _), ?_⟩
                  simp only [Act.put, List.setIfInBounds_toArray, List.set_cons_succ, List.set_cons_zero]
                  have TV : Hid (TwoV wo ((wo.drew.alloc (.cells #[.string k] 9)).alloc (.cells #[] 9)) (.slice (some ⟨(wo.drew.alloc (.cells #[.string k] 9)).heap.size, 0, none⟩) 0 0) [] (.slice (some ⟨wo.drew.heap.size, 0, none⟩) 1 1) [k]) := ⟨ownV_new0 _ _ BE1.out.size, (ownV_new1 wo.drew _ k (Nat.le_refl _)).below ((Below.refl _ _).alloc (Nat.le_refl _) _), (far_new (ownV_new1 wo.drew wo.heap.size k (Nat.le_refl _))).symm, BE1.out.alloc BE1.out.size _⟩
                  obtain ⟨v51, W3, h51, o51, g51, at51⟩ := run_appS ((wo.drew.alloc (.cells #[.string k] 9)).alloc (.cells #[] 9)) 22 wo.heap.size (.slice (some ⟨(wo.drew.alloc (.cells #[.string k] 9)).heap.size, 0, none⟩) 0 0) _ [] (ks.take a) TV.out.oa (T50.out.below TV.out.bel) (by simp only [List.length_nil, List.length_take]; omega) TV.out.bel.size
                  rw [List.nil_append] at o51
                  obtain ⟨n51, p51, q51, hv51⟩ := o51.rd.any
                  subst hv51
                  have H51 : Hid _ := h51
                  have TW : Hid (TwoV wo W3 _ (ks.take a) _ [k]) := TV.out.app o51 g51 at51
                  clear h51 o51 g51 at51
                  refine wpAnyH_all (rs := [5]) (fuel := 3) (by kernel_rfl) (by simp) fun j hj => ?_
                  obtain rfl : j = 5 := by simpa using hj
                  clear hj
                  refine wpOp_value 51 rfl (by kernel_rfl) rfl (exec_app rfl rfl rfl H51.out) ?_
                  refine ⟨ext_of_drew TW.out.bel, ?_⟩
                  simp only [Act.put, List.setIfInBounds_toArray, List.set_cons_succ, List.set_cons_zero]
                  clear TV H51
                  obtain ⟨v54, W4, h54, o54, g54, at54⟩ := run_appS W3 22 wo.heap.size _ _ (ks.take a) [k] TW.out.oa TW.out.ob.rd (by rw [List.length_take]; simp only [List.length_cons, List.length_nil]; omega) TW.out.bel.size
                  obtain ⟨n54, p54, q54, hv54⟩ := o54.rd.any
                  subst hv54
                  have H54 : Hid _ := h54
                  have B54 : Hid (Below wo.heap.size wo W4) := TW.out.bel.grown g54 TW.out.bel.size (fun x e => (TW.out.oa.blk x e).1)
                  obtain ⟨v59, W5, h59, o59, g59, at59⟩ := run_appS W4 22 wo.heap.size _ _ _ (ks.drop a) o54 (T58.out.below B54.out) (by simp only [List.length_append, List.length_take, List.length_drop, List.length_cons, List.length_nil]; omega) B54.out.size
                  obtain ⟨n59, p59, q59, hv59⟩ := o59.rd.any
                  subst hv59
                  have H59 : Hid _ := h59
                  have B59 : Hid (Below wo.heap.size wo W5) := B54.out.grown g59 B54.out.size (fun x e => (o54.blk x e).1)
                  have HO59 : Hid (OwnV W5 wo.heap.size 9 _ (sv (ks.take a ++ [k] ++ ks.drop a))) := o59
                  clear h54 o54 g54 at54 h59 o59 g59 at59
                  refine wpAnyH_all (rs := [8]) (fuel := 2) (by kernel_rfl) (by simp) fun j hj => ?_
                  obtain rfl : j = 8 := by simpa using hj
                  clear hj
                  refine wpOp_value 54 rfl (by kernel_rfl) rfl (exec_app rfl rfl rfl H54.out) ?_
                  refine ⟨ext_of_drew B54.out, ?_⟩
                  simp only [Act.put, List.setIfInBounds_toArray, List.set_cons_succ, List.set_cons_zero]
                  refine wpAnyH_all (rs := [13]) (fuel := 1) (by kernel_rfl) (by simp) fun j hj => ?_
                  obtain rfl : j = 13 := by simpa using hj
                  clear hj
                  refine wpOp_value 59 rfl (by kernel_rfl) rfl (exec_app rfl rfl rfl H59.out) ?_
                  refine ⟨ext_of_drew B59.out, ?_⟩
                  simp only [Act.put, List.setIfInBounds_toArray, List.set_cons_succ, List.set_cons_zero]
                  haveI nC := cls_ext wo.drew
                  refine wpAnyH_seg (by kernel_rfl) (fun _ _ _ h => h) [14] 0 _ _ _ (ext_of_drew B59.out) (by kernel_rfl) ?_
                  simp only [opsAt, List.getElem?_toArray, List.getElem?_cons_zero, List.getElem?_cons_succ, List.cons_append, List.nil_append]
                  repeat (go_big_quiet_step (fail))
                  refine wpQuiet_nil ?_
                  clear nC
                  refine wpAnyH_done (by kernel_rfl) (exQ_normal ?_) 0
                  have RB : Hid (Box (W5.setCell ⟨w.heap.size + 1, 1, none⟩ (.slice p59 n59 q59)) (w.heap.size + 1) (w.heap.size + 1) { lfK ks 0 with keys := ks.take a ++ [k] ++ ks.drop a } (.slice p59 n59 q59) (.slice none 0 0) (.slice none 0 0)) := HB.out.setK (HO59.out.mono (Nat.le_trans HB.out.hb (Nat.le_of_lt (Blk.lt HB.out.box)))) (fun g e => B59.out.block g (by rcases e with rfl | e | e; exact Blk.lt HB.out.box; exact (HB.out.own.vals.blk g e).2; exact (HB.out.own.kids.blk g e).2)) (fun e => by have h1 := (HO59.out.blk _ e).1; have h2 := Blk.lt HB.out.box; omega) (fun g _ e => by cases e) (fun g _ e => by cases e)
                  have RC : Hid (Blk (W5.setCell ⟨w.heap.size + 1, 1, none⟩ (.slice p59 n59 q59)) w.heap.size #[.int .i64 0, .slice none 0 0, .slice none 0 0, .slice none 0 0, .int .i64 0, .int .i64 0, .int .i64 0, .int .i64 0] 25) := (HC.out.of (B59.out.block _ HC.out.lt)).setOther _ _ (by omega)
                  have RY : Hid (Below w.heap.size w (W5.setCell ⟨w.heap.size + 1, 1, none⟩ (.slice p59 n59 q59))) := (HY.out.trans (B59.out.mono HY.out.size)).setCell (by simp) _
                  have PRE : Hid (PBox W5 (w.heap.size + 1) (lfK ks 0) _ _ _) := Blk.of HB.out.box (B59.out.block _ (Blk.lt HB.out.box))
                  refine wpOp_store1 rfl (by kernel_rfl) 22 _ _ rfl rfl (w.heap.size + 1) 1 (.slice p59 n59 q59) rfl rfl (thereN 1 PRE.out (by simp [pgc])) (by kernel_rfl) rfl ?_
                  clear PRE H54 H59 HO59 B54 B59 TW T50 T58
                  generalize W5.setCell ⟨w.heap.size + 1, 1, none⟩ (.slice p59 n59 q59) = W6 at *
                  have RB2 : Hid (Box W6 (w.heap.size + 1) (w.heap.size + 1) (lfK (ksOf (l.take (i + 1))) 0) (.slice p59 n59 q59) (.slice none 0 0) (.slice none 0 0)) := by rw [HIN.out]; exact RB.out
                  clear RB HB HC HIN
                  go_wp2
                  go_roundw
                  case rel => exact ⟨i + 1, _, by go_num, by omega, RB2.out, RC.out, RY.out⟩
                  case measure => simp [intOf]; omega
    · have HKS : Hid (ksOf (l.take i) = ksOf l) := by
        show _ = _
        rw [List.take_of_length_le (by rw [HN.out]; omega)]
      have HZK : Hid (∀ x ∈ ksOf l, x.size ≤ 140737488351232) := fun x hx => HZ.out x (ksOf_mem l x hx)
      have HLEN : Hid ((ksOf l).length ≤ 1000) := by
        have := ksOf_length l
        have h2 := HN.out
        show _ ≤ _
        omega
      rw [HKS.out] at HB
      obtain ⟨ks, hks⟩ : ∃ ks, ksOf l = ks := ⟨_, rfl⟩
      have HKL : Hid (ksOf l = ks) := hks
      rw [hks] at HB HZK HLEN
      clear hks
      obtain ⟨kn, ka, kc, hkv⟩ := HB.out.own.keys.rd.any
      subst hkv
      obtain ⟨r0, r1, r2, r3⟩ := HB.out.own.keys.rd.at
      have HKN : Hid (ks.length = kn) := by rw [r0, sv_length]; rfl
      have hkn1 : kn ≤ 1000 := by rw [← HKN.out]; exact HLEN.out
      have R3 : Hid (RdAt wr ka kc (sv ks)) := r3
      clear r0 r1 r2 r3 HKS HZ HN A3
      rename World => wo
      cases ka with
      | none =>
        have HK0 : Hid (kn = 0) := by
          show _ = _
          have := congrArg List.length (R3.out.1 rfl).1
          rw [sv_length, HKN.out] at this
          exact this
        obtain ⟨z0, z1, z2, z3, z4, z5, z6, z7⟩ := HB.out.box.cells
        go_wp2
        clear z0 z1 z2 z3 z4 z5 z6 z7
        go_loopw [65] (fun vj wr => ∃ (j : Nat) (vv : Value), vj = .int .i64 (j : Int) ∧ j ≤ kn ∧ Box wr (w.heap.size + 1) (w.heap.size + 1) (lfK ks j) (.slice none kn kc) vv (.slice none 0 0) ∧ Blk wr w.heap.size #[.int .i64 0, .slice none 0 0, .slice none 0 0, .slice none 0 0, .int .i64 0, .int .i64 0, .int .i64 0, .int .i64 0] 25 ∧ Below w.heap.size w wr) (fun vj _ => kn - (intOf vj).toNat)
        case atStart => exact ⟨0, _, rfl, Nat.zero_le _, HB.out, HC.out, HY.out⟩
        case round =>
          obtain ⟨j, vv, rfl, hj, hb, hc, hy⟩ := hrel
          clear HB HC HY
          have HB : Hid (Box wr (w.heap.size + 1) (w.heap.size + 1) (lfK ks j) (.slice none kn kc) vv (.slice none 0 0)) := hb
          have HC : Hid (Blk wr w.heap.size #[.int .i64 0, .slice none 0 0, .slice none 0 0, .slice none 0 0, .int .i64 0, .int .i64 0, .int .i64 0, .int .i64 0] 25) := hc
          have HY : Hid (Below w.heap.size w wr) := hy
          clear hb hc hy
          by_cases hjn : j < kn
          · exfalso; have := HK0.out; omega
          · have hjk : j = ks.length := by have := HKN.out; omega
            have HF : Hid (lfK ks j = leafM ks) := by show _ = _; rw [hjk]; exact lfK_all ks
            rw [HF.out] at HB
            clear hjk HF
            obtain ⟨y0, y1, y2, y3, y4, y5, y6, y7⟩ := HB.out.box.cells
            have z0 := HC.out.cell 0
            have z1 := HC.out.cell 1
            have z2 := HC.out.cell 2
            have z3 := HC.out.cell 3
            have z4 := HC.out.cell 4
            have z5 := HC.out.cell 5
            have z6 := HC.out.cell 6
            have z7 := HC.out.cell 7
            have g0 := HC.out.frozen 0
            have g1 := HC.out.frozen 1
            have g2 := HC.out.frozen 2
            have g3 := HC.out.frozen 3
            have g4 := HC.out.frozen 4
            have g5 := HC.out.frozen 5
            have g6 := HC.out.frozen 6
            have g7 := HC.out.frozen 7
            obtain ⟨vn, va, vc, hvv⟩ := HB.out.own.vals.rd.any
            subst hvv
            rename World => w9
            go_wp2
            have K1 : PBox (put8 w9 w.heap.size (.int .i64 (leafM ks).kind) (.slice none kn kc) (.slice va vn vc) (.slice none 0 0) (.int .i64 (leafM ks).root) (.int .i64 (leafM ks).next) (.int .i64 (leafM ks).size) (.int .i64 (leafM ks).idle)) w.heap.size (leafM ks) (.slice none kn kc) (.slice va vn vc) (.slice none 0 0) := blk_set8 _ _ _ _ _ _ _ _ HC.out
            have K2 : Below w.heap.size w (put8 w9 w.heap.size (.int .i64 (leafM ks).kind) (.slice none kn kc) (.slice va vn vc) (.slice none 0 0) (.int .i64 (leafM ks).root) (.int .i64 (leafM ks).next) (.int .i64 (leafM ks).size) (.int .i64 (leafM ks).idle)) := put8_below HY.out (Nat.le_refl _) _ _ _ _ _ _ _ _
            have K3 : ∀ g, w.heap.size + 1 ≤ g → (put8 w9 w.heap.size (.int .i64 (leafM ks).kind) (.slice none kn kc) (.slice va vn vc) (.slice none 0 0) (.int .i64 (leafM ks).root) (.int .i64 (leafM ks).next) (.int .i64 (leafM ks).size) (.int .i64 (leafM ks).idle)).heap[g]? = w9.heap[g]? := fun g hg => put8_other _ _ _ _ _ _ _ _ _ _ _ (by omega)
            have hgo : ∀ (Q : World → Prop), Q (put8 w9 w.heap.size (.int .i64 (leafM ks).kind) (.slice none kn kc) (.slice va vn vc) (.slice none 0 0) (.int .i64 (leafM ks).root) (.int .i64 (leafM ks).next) (.int .i64 (leafM ks).size) (.int .i64 (leafM ks).idle)) → Q ((((((((w9.setCell ⟨w.heap.size, 0, none⟩ (.int .i64 (leafM ks).kind)).setCell ⟨w.heap.size, 1, none⟩ (.slice none kn kc)).setCell ⟨w.heap.size, 2, none⟩ (.slice va vn vc)).setCell ⟨w.heap.size, 3, none⟩ (.slice none 0 0)).setCell ⟨w.heap.size, 4, none⟩ (.int .i64 (leafM ks).root)).setCell ⟨w.heap.size, 5, none⟩ (.int .i64 (leafM ks).next)).setCell ⟨w.heap.size, 6, none⟩ (.int .i64 (leafM ks).size)).setCell ⟨w.heap.size, 7, none⟩ (.int .i64 (leafM ks).idle)) := fun Q h => h
            refine hgo _ ?_
            clear hgo
            generalize (put8 w9 w.heap.size (.int .i64 (leafM ks).kind) (.slice none kn kc) (.slice va vn vc) (.slice none 0 0) (.int .i64 (leafM ks).root) (.int .i64 (leafM ks).next) (.int .i64 (leafM ks).size) (.int .i64 (leafM ks).idle)) = W9 at *
            obtain ⟨q0, q1, q2, q3, q4, q5, q6, q7⟩ := K1.cells
            have M1 := HB.out.own.keys.kept (fun g hg => K3 g (HB.out.own.keys.blk g hg).1)
            have M2 := HB.out.own.vals.kept (fun g hg => K3 g (HB.out.own.vals.blk g hg).1)
            clear y0 y1 y2 y3 y4 y5 y6 y7 z0 z1 z2 z3 z4 z5 z6 z7 g0 g1 g2 g3 g4 g5 g6 g7 K3 K1
            exact bodyPost_ret (v := pgv (leafM ks) (.slice none kn kc) (.slice va vn vc) (.slice none 0 0)) (by simp [pgv, results, Try.results25, go_sem, q0, q1, q2, q3, q4, q5, q6, q7]) rfl ⟨_, _, _, by rw [HKL.out], by rw [HKL.out]; exact ⟨M1.mono (by omega), M2.mono (by omega), OwnV.nil _ _ _, HB.out.own.fkv, HB.out.own.fkd, HB.out.own.fvd⟩, K2⟩
      | some kad =>
        obtain ⟨z0, z1, z2, z3, z4, z5, z6, z7⟩ := HB.out.box.cells
        go_wp2
        clear z0 z1 z2 z3 z4 z5 z6 z7
        go_loopw [65] (fun vj wr => ∃ (j : Nat) (vv : Value), vj = .int .i64 (j : Int) ∧ j ≤ kn ∧ Box wr (w.heap.size + 1) (w.heap.size + 1) (lfK ks j) (.slice (some kad) kn kc) vv (.slice none 0 0) ∧ Blk wr w.heap.size #[.int .i64 0, .slice none 0 0, .slice none 0 0, .slice none 0 0, .int .i64 0, .int .i64 0, .int .i64 0, .int .i64 0] 25 ∧ Below w.heap.size w wr) (fun vj _ => kn - (intOf vj).toNat)
        case atStart => exact ⟨0, _, rfl, Nat.zero_le _, HB.out, HC.out, HY.out⟩
        case round =>
          obtain ⟨j, vv, rfl, hj, hb, hc, hy⟩ := hrel
          clear HB HC HY
          have HB : Hid (Box wr (w.heap.size + 1) (w.heap.size + 1) (lfK ks j) (.slice (some kad) kn kc) vv (.slice none 0 0)) := hb
          have HC : Hid (Blk wr w.heap.size #[.int .i64 0, .slice none 0 0, .slice none 0 0, .slice none 0 0, .int .i64 0, .int .i64 0, .int .i64 0, .int .i64 0] 25) := hc
          have HY : Hid (Below w.heap.size w wr) := hy
          clear hb hc hy
          by_cases hjn : j < kn
          · have hjk : j < ks.length := by rw [HKN.out]; exact hjn
            obtain ⟨r0, r1, r2, r3⟩ := HB.out.own.keys.rd.at
            have y2 : wr.cell? (kad.add j) = some (.string ks[j]) := r3.str (ss := ks) rfl hjk
            have hxz : ks[j].size ≤ 140737488351232 := HZK.out _ (List.getElem_mem hjk)
            have h118 : ByteArray.size ⟨#[118]⟩ = 1 := rfl
            have HVS : Hid (vsTo ks (j + 1) = vsTo ks j ++ [vk ks[j]]) := vals_succ ks hjk
            generalize ks[j] = x at *
            clear r0 r1 r2 r3
            obtain ⟨z0, z1, z2, z3, z4, z5, z6, z7⟩ := HB.out.box.cells
            have lta := Blk.lt HB.out.box
            have hsz : w.heap.size + 1 ≤ wr.heap.size := Nat.le_of_lt lta
            obtain ⟨vn, va, vc, hvv⟩ := HB.out.own.vals.rd.any
            subst hvv
            go_wp2_with (at_builtin; refine wpList_pushS wr rfl _ _ rfl (w.heap.size + 1) (.slice va vn vc) (vsTo ks j) (vk x) HB.out.own.vals rfl rfl (by have := vsTo_length ks j; have := HKN.out; omega) hsz ?_)
            intro a' n' c' X hn' ho hg hat
            have RB : Hid (Box (X.setCell ⟨w.heap.size + 1, 2, none⟩ (.slice a' n' c')) (w.heap.size + 1) (w.heap.size + 1) (lfK ks (j + 1)) (.slice (some kad) kn kc) (.slice a' n' c') (.slice none 0 0)) := by
              have h1 := HB.out.pushV ho hg hat
              have e : lfK ks (j + 1) = { lfK ks j with vals := vsTo ks j ++ [vk x] } := by rw [← HVS.out]; rfl
              show Box _ _ _ _ _ _ _
              rw [e]; exact h1
            have RC : Hid (Blk (X.setCell ⟨w.heap.size + 1, 2, none⟩ (.slice a' n' c')) w.heap.size #[.int .i64 0, .slice none 0 0, .slice none 0 0, .slice none 0 0, .int .i64 0, .int .i64 0, .int .i64 0, .int .i64 0] 25) := HC.out.of (turn_kept hg _ HC.out.lt (fun e => by have := (HB.out.own.vals.blk _ e).1; omega) (by omega) _)
            have RY : Hid (Below w.heap.size w (X.setCell ⟨w.heap.size + 1, 2, none⟩ (.slice a' n' c'))) := push_below HY.out HY.out.size (fun g e => Nat.le_trans (Nat.le_succ _) (HB.out.own.vals.blk g e).1) (Nat.le_succ _) hg _
            have pre := HB.out.pre HB.out.nv hg
            clear z0 z1 z2 z3 z4 z5 z6 z7 ho hg hat lta hsz hxz h118 y2
            obtain ⟨z0, z1, z2, z3, z4, z5, z6, z7⟩ := pre.cells
            have ff := pre.frozen 2
            clear pre HB HC HY hn'
            go_upto_region 15 with fail
            generalize X.setCell ⟨w.heap.size + 1, 2, none⟩ (.slice a' n' c') = W7 at *
            clear z0 z1 z2 z3 z4 z5 z6 z7 ff
            go_wp2
            go_roundw
            case rel => exact ⟨j + 1, _, by go_num, hjn, RB.out, RC.out, RY.out⟩
            case measure => simp [intOf]; omega
          · have hjk : j = ks.length := by have := HKN.out; omega
            have HF : Hid (lfK ks j = leafM ks) := by show _ = _; rw [hjk]; exact lfK_all ks
            rw [HF.out] at HB
            clear hjk HF
            obtain ⟨y0, y1, y2, y3, y4, y5, y6, y7⟩ := HB.out.box.cells
            have z0 := HC.out.cell 0
            have z1 := HC.out.cell 1
            have z2 := HC.out.cell 2
            have z3 := HC.out.cell 3
            have z4 := HC.out.cell 4
            have z5 := HC.out.cell 5
            have z6 := HC.out.cell 6
            have z7 := HC.out.cell 7
            have g0 := HC.out.frozen 0
            have g1 := HC.out.frozen 1
            have g2 := HC.out.frozen 2
            have g3 := HC.out.frozen 3
            have g4 := HC.out.frozen 4
            have g5 := HC.out.frozen 5
            have g6 := HC.out.frozen 6
            have g7 := HC.out.frozen 7
            obtain ⟨vn, va, vc, hvv⟩ := HB.out.own.vals.rd.any
            subst hvv
            rename World => w9
            go_wp2
            have K1 : PBox (put8 w9 w.heap.size (.int .i64 (leafM ks).kind) (.slice (some kad) kn kc) (.slice va vn vc) (.slice none 0 0) (.int .i64 (leafM ks).root) (.int .i64 (leafM ks).next) (.int .i64 (leafM ks).size) (.int .i64 (leafM ks).idle)) w.heap.size (leafM ks) (.slice (some kad) kn kc) (.slice va vn vc) (.slice none 0 0) := blk_set8 _ _ _ _ _ _ _ _ HC.out
            have K2 : Below w.heap.size w (put8 w9 w.heap.size (.int .i64 (leafM ks).kind) (.slice (some kad) kn kc) (.slice va vn vc) (.slice none 0 0) (.int .i64 (leafM ks).root) (.int .i64 (leafM ks).next) (.int .i64 (leafM ks).size) (.int .i64 (leafM ks).idle)) := put8_below HY.out (Nat.le_refl _) _ _ _ _ _ _ _ _
            have K3 : ∀ g, w.heap.size + 1 ≤ g → (put8 w9 w.heap.size (.int .i64 (leafM ks).kind) (.slice (some kad) kn kc) (.slice va vn vc) (.slice none 0 0) (.int .i64 (leafM ks).root) (.int .i64 (leafM ks).next) (.int .i64 (leafM ks).size) (.int .i64 (leafM ks).idle)).heap[g]? = w9.heap[g]? := fun g hg => put8_other _ _ _ _ _ _ _ _ _ _ _ (by omega)
            have hgo : ∀ (Q : World → Prop), Q (put8 w9 w.heap.size (.int .i64 (leafM ks).kind) (.slice (some kad) kn kc) (.slice va vn vc) (.slice none 0 0) (.int .i64 (leafM ks).root) (.int .i64 (leafM ks).next) (.int .i64 (leafM ks).size) (.int .i64 (leafM ks).idle)) → Q ((((((((w9.setCell ⟨w.heap.size, 0, none⟩ (.int .i64 (leafM ks).kind)).setCell ⟨w.heap.size, 1, none⟩ (.slice (some kad) kn kc)).setCell ⟨w.heap.size, 2, none⟩ (.slice va vn vc)).setCell ⟨w.heap.size, 3, none⟩ (.slice none 0 0)).setCell ⟨w.heap.size, 4, none⟩ (.int .i64 (leafM ks).root)).setCell ⟨w.heap.size, 5, none⟩ (.int .i64 (leafM ks).next)).setCell ⟨w.heap.size, 6, none⟩ (.int .i64 (leafM ks).size)).setCell ⟨w.heap.size, 7, none⟩ (.int .i64 (leafM ks).idle)) := fun Q h => h
            refine hgo _ ?_
            clear hgo
            generalize (put8 w9 w.heap.size (.int .i64 (leafM ks).kind) (.slice (some kad) kn kc) (.slice va vn vc) (.slice none 0 0) (.int .i64 (leafM ks).root) (.int .i64 (leafM ks).next) (.int .i64 (leafM ks).size) (.int .i64 (leafM ks).idle)) = W9 at *
            obtain ⟨q0, q1, q2, q3, q4, q5, q6, q7⟩ := K1.cells
            have M1 := HB.out.own.keys.kept (fun g hg => K3 g (HB.out.own.keys.blk g hg).1)
            have M2 := HB.out.own.vals.kept (fun g hg => K3 g (HB.out.own.vals.blk g hg).1)
            clear y0 y1 y2 y3 y4 y5 y6 y7 z0 z1 z2 z3 z4 z5 z6 z7 g0 g1 g2 g3 g4 g5 g6 g7 K3 K1
            exact bodyPost_ret (v := pgv (leafM ks) (.slice (some kad) kn kc) (.slice va vn vc) (.slice none 0 0)) (by simp [pgv, results, Try.results25, go_sem, q0, q1, q2, q3, q4, q5, q6, q7]) rfl ⟨_, _, _, by rw [HKL.out], by rw [HKL.out]; exact ⟨M1.mono (by omega), M2.mono (by omega), OwnV.nil _ _ _, HB.out.own.fkv, HB.out.own.fkd, HB.out.own.fvd⟩, K2⟩
end Go.Proofs.Ytmjekecalghhdaa
