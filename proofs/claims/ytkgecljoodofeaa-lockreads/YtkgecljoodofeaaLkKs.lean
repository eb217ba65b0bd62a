/- lock: the keys of a set, in order: touched, walked. Own lemmas, no statement. -/
import Derived.Test.YtkgecljoodofeaaLkO
import Derived.Test.YtkgecljoodofeaaLkIt
import Derived.Test.YtkgecljoodofeaaOrder
set_option linter.unusedSimpArgs false
set_option linter.unusedVariables false
namespace Go.Proofs.Ytkgecljoodofeaa
open Go.ChangeShapes Go.WideShapes Go.ChangeAt Go.RowKit
open Go.Maps (IsMap Tidy has size)

/-- An own row of texts. -/
def OwnK (w : World) (B : Nat) (v : Value) (ks : List ByteArray) : Prop := w.ownsRow B 9 1 v ks.length (ks.map Value.string)
/-- The keys of a set, in order. -/
def KeysIn (f : ByteArray → Option Unit) (ks : List ByteArray) : Prop := ks.Pairwise (fun a b => ltK a b = true) ∧ ∀ q, q ∈ ks ↔ (f q).isSome = true
def bA (x : List UInt8) : ByteArray := ⟨x.toArray⟩
theorem bA_list (x : List UInt8) : (bA x).data.toList = x := rfl
theorem bA_of (q : ByteArray) : bA q.data.toList = q := by cases q; rfl
theorem ltK_bA (x y : List UInt8) : ltK (bA x) (bA y) = decide (x < y) := by
  unfold ltK
  rw [ByteArray.toList_eq, ByteArray.toList_eq, bA_list, bA_list, bytesLess_eq]
theorem keys_sorted {w : World} {b n : Nat} {D : DataW Unit} {f : ByteArray → Option Unit} {k0 : List ByteArray} (hown : w.ownsMap Try.prog 9 unitElem b n D) (hm : MapF cSet D f k0) {ss : List (List UInt8)} (hp : ss.Perm (strKeys D)) :
    ∃ ks, KeysIn f ks ∧ ks.length = ss.length ∧ (ss.mergeSort leB).map Go.Proofs.encStr = ks.map Value.string ∧ ks.length = k0.length := by
  have hk : Try.prog.underlying 9 = some .string := Try.underlying9
  have hle := strKeys_le hown hk
  have h0 : (k0.map (·.data.toList)).Perm (strKeys D) := by
    obtain ⟨es, hD, hpw, _⟩ := hown.entries (Maps.string_keyed Try.underlying9)
    obtain ⟨es', hD', hko⟩ := hown.keysOf
    obtain rfl : es = es' := by rw [hD] at hD'; simpa using hD'
    subst hD
    have hks : ∀ p ∈ es, ∃ x, p.1 = .string x := fun p hp => by obtain ⟨v, hv⟩ := hko p hp; obtain ⟨x, _, hx, _⟩ := Maps.keyOf_str hk hv; exact ⟨x, hx⟩
    refine perm_strKeys hpw hks ?_ fun x => ?_
    · refine List.pairwise_map.2 (hm.nodup.imp fun {a b} hne e => hne ?_)
      rw [← bA_of a, ← bA_of b, e]
    · constructor
      · intro hx
        obtain ⟨q, hq, rfl⟩ := List.mem_map.1 hx
        have := (hm.at_ q (hm.wf q hq)).1
        rw [(hm.mem q).2 hq] at this
        exact this
      · intro hx
        have hl : x.length ≤ maxLen := by
          refine hle x ?_
          rw [Go.Maps.has_eq, List.any_eq_true] at hx
          obtain ⟨p, hp', hs⟩ := hx
          obtain ⟨a, ha⟩ := hks p hp'
          rw [ha] at hs
          exact List.mem_map.2 ⟨p, hp', by rw [ha]; simpa [Lit.sameKey, strOf] using hs⟩
        have hw : cSet.wf (bA x) := by show (bA x).size ≤ maxLen; unfold bA; simpa [ByteArray.size] using hl
        have h1 := (hm.at_ (bA x) hw).1
        have h2 : (f (bA x)).isSome = true := by rw [← h1]; exact hx
        exact List.mem_map.2 ⟨bA x, (hm.mem _).1 h2, bA_list x⟩
  have hms := mergeSort_of_perm (hp.trans h0.symm)
  have hperm : (ss.mergeSort leB).Perm (k0.map (·.data.toList)) := by rw [hms]; exact List.mergeSort_perm _ _
  have hnd : (ss.mergeSort leB).Nodup := hperm.nodup_iff.2 (List.pairwise_map.2 (hm.nodup.imp fun {a b} hne e => hne (by rw [← bA_of a, ← bA_of b, e])))
  have hsrt : (ss.mergeSort leB).Pairwise (fun a b => leB a b = true) := List.pairwise_mergeSort (fun a b c h1 h2 => by simp only [leB, decide_eq_true_eq] at *; exact List.le_trans h1 h2) (fun a b => by simp only [leB, Bool.or_eq_true, decide_eq_true_eq]; exact List.le_total a b) ss
  refine ⟨(ss.mergeSort leB).map bA, ⟨?_, fun q => ?_⟩, by rw [List.length_map, List.length_mergeSort], by rw [List.map_map]; rfl, by rw [List.length_map, hperm.length_eq, List.length_map]⟩
  · refine List.pairwise_map.2 ((hsrt.and hnd).imp fun {a b} h => ?_)
    rw [ltK_bA]
    have h1 : a ≤ b := by simpa [leB] using h.1
    refine decide_eq_true ?_
    exact Std.lt_of_le_of_ne h1 h.2
  · rw [List.mem_map]
    constructor
    · rintro ⟨x, hx, rfl⟩
      have := hperm.mem_iff.1 hx
      obtain ⟨q, hq, rfl⟩ := List.mem_map.1 this
      rw [bA_of]
      exact (hm.mem q).2 hq
    · intro hq
      exact ⟨q.data.toList, hperm.mem_iff.2 (List.mem_map.2 ⟨q, (hm.mem q).1 hq, rfl⟩), bA_of q⟩

theorem rowMono {w : World} {B B' : Nat} {T : TypeId} {k n : Nat} {v : Value} {us : List Value} (h : w.ownsRow B T k v n us) (hb : B' ≤ B) : w.ownsRow B' T k v n us := by
  refine ⟨h.1, ?_⟩
  rcases h.2 with hn | ⟨g, cap, cur, rfl, hbg, rest⟩
  · exact .inl hn
  · exact .inr ⟨g, cap, cur, rfl, Nat.le_trans hb hbg, rest⟩
/-- What touched answers. -/
def TouchP (w : World) (T : Tab) (t : Td) (e : Ending) (w' : World) : Prop := ∃ v ks, e = .returned v ∧ KeysIn (T.K t) ks ∧ OwnK w' w.heap.size v ks ∧ Ext w w' ∧ ks.length ≤ T.N
set_option maxRecDepth 100000 in
set_option maxHeartbeats 4000000 in
theorem touched_any (B : Nat) (T : Tab) (t : Td) (w : World) (h : TabAt B w T none_) (hi : TInv T) (ht : t.wf) (hN : T.N ≤ 1000000) :
    Calls Try.prog 34 #[.pointer (some ⟨T.g, 0, none⟩), .agg #[.int .u64 t.num, .int .i64 t.node]] w (TouchP w T t) := by
  obtain ⟨w0, hw0⟩ : ∃ w0, w0 = w.alloc (.cells #[.int .u64 t.num, .int .i64 t.node] 29) := ⟨_, rfl⟩
  have HE0 : Hid (Ext w w0) := by rw [hw0]; exact ext_one _
  have HT0 : Hid (Blk w0 w.heap.size #[.int .u64 t.num, .int .i64 t.node] 29) := by rw [hw0]; exact Blk.new _ _ _
  have HA : Hid (TabAt B w0.drew T none_) := (h.below HE0.out).drew
  have HED : Hid (Ext w w0.drew) := Below.drew HE0.out
  have HLK : Hid ((Instr.lookup 63 (.map (some T.ab)) (.agg #[.int .u64 t.num, .int .i64 t.node]) false).run Try.prog w0.drew = .ok (setV ((T.A t).getD none)) w0.drew) := HA.out.am.ask cAs_ok t ht
  have c1 : w0.cell? ⟨T.g, 1, none⟩ = some (.map (some T.ab)) := (h.blk.below_ HE0.out).cell 1
  have y0 := cellX (W0 := w0.drew) (show w0.drew.cell? ⟨T.g, 1, none⟩ = _ from c1)
  have y1 := cellX (W0 := w0.drew) (show w0.drew.cell? ⟨w.heap.size, 0, none⟩ = _ from HT0.out.cell 0)
  have y2 := cellX (W0 := w0.drew) (show w0.drew.cell? ⟨w.heap.size, 1, none⟩ = _ from HT0.out.cell 1)
  have HSV : Hid (∀ o, (T.A t).getD none = o → (o = none ∧ ∀ q, T.K t q = none) ∨ ∃ b, o = some b ∧ GM cSet w0.drew b T.N (T.K t)) := fun o ho => by
    cases hA : T.A t with
    | none => rw [hA] at ho; exact .inl ⟨ho.symm, hi.nosets t hA⟩
    | some p =>
      obtain ⟨b, e, _, _, _, h4⟩ := HA.out.sets t p hA
      rw [hA] at ho
      exact .inr ⟨b, ho.symm.trans e, h4⟩
  have HN : Hid (T.N ≤ 1000000) := hN
  clear h hi ht c1 hN
  have hgl := HA.out.blk.lt
  generalize hso : (T.A t).getD none = so at HLK HSV
  have HSO := HSV.out so rfl
  clear hso HSV
  go_enter Try.func34, Try.ntmps34
  go_upto_region 1 with fail
  rw [← hw0]
  clear hw0
  go_upto_region 3 with fail
  haveI n1 := cls_ext w0.drew
  refine wp_region_ext (by kernel_rfl) ?_
  refine wpAnyH_seg (by kernel_rfl) (fun _ _ _ h => h) [0, 1, 2, 3, 4] 4 _ _ _ (Ext.refl _) (by kernel_rfl) ?_
  simp only [opsAt, List.getElem?_toArray, List.getElem?_cons_zero, List.getElem?_cons_succ, List.cons_append, List.nil_append]
  repeat (go_big_quiet_step (fail))
  refine wpQuiet_nil ?_
  clear y0 y1 y2
  refine wpAnyH_all (rs := [5]) (fuel := 3) (by kernel_rfl) (by simp) fun j hj => ?_
  obtain rfl : j = 5 := by simpa using hj
  clear hj
  refine wpOp_value 12 rfl (by kernel_rfl) rfl (exec_ask rfl rfl rfl HLK.out) ?_
  refine ⟨Ext.refl _, ?_⟩
  simp only [Act.put, List.setIfInBounds_toArray, List.set_cons_succ, List.set_cons_zero]
  rcases HSO with ⟨rfl, hno⟩ | ⟨b, rfl, hgm⟩
  · have HNO : Hid (∀ q, T.K t q = none) := hno
    clear hno
    refine wpAnyH_callE (i := 6) (fuel := 2) 13 rfl (by kernel_rfl) rfl (Ext.refl _) (by kernel_rfl) (f := 50) (args := #[.map none]) (by kernel_rfl) (mapsKeys_any none w0.drew) ?_
    rintro e w2 ⟨rfl, rfl⟩
    refine ⟨_, rfl, ext_one _, ?_⟩
    simp only [Act.put, List.setIfInBounds_toArray, List.set_cons_succ, List.set_cons_zero]
    refine wpAnyH_callE (i := 7) (fuel := 1) 14 rfl (by kernel_rfl) rfl (Ext.refl _) (by kernel_rfl) (f := 49) (args := #[.func (.func 62) #[] #[.pointer (some ⟨w0.drew.heap.size, 0, none⟩)]]) (by kernel_rfl) (sortedNone_any w0.drew) ?_
    rintro e w3 ⟨v, ss, rfl, rfl, h2, h3⟩
    refine ⟨_, rfl, h3, ?_⟩
    have HRES : Hid (TouchP w T t (.returned v) w3) := by
      refine ⟨v, [], rfl, ⟨List.Pairwise.nil, fun q => ?_⟩, ?_, Ext.trans HED.out (Ext.trans (ext_one _) h3), Nat.zero_le _⟩
      · rw [HNO.out q]; simp
      · have hz : w.heap.size ≤ (w0.drew.alloc (.cells #[.map none] 90)).heap.size := Nat.le_trans HED.out.size (ext_one (w := w0.drew) _).size
        rw [show ([] : List (List UInt8)).mergeSort (fun x y => decide (x ≤ y)) = [] by simp] at h2
        exact rowMono h2 hz
    clear h2 h3
    haveI n3 := cls_ext w3
    simp only [Act.put, List.setIfInBounds_toArray, List.set_cons_succ, List.set_cons_zero]
    refine wpAnyH_seg (by kernel_rfl) (fun _ _ _ h => h) [8] 0 _ _ _ (Ext.refl _) (by kernel_rfl) ?_
    simp only [opsAt, List.getElem?_toArray, List.getElem?_cons_zero, List.getElem?_cons_succ, List.cons_append, List.nil_append]
    repeat (go_big_quiet_step (fail))
    refine wpQuiet_nil ?_
    refine wpAnyH_done (by kernel_rfl) (NoPanic.normal ?_) 0
    clear n3 n1
    go_wp2
    go_ret
    exact HRES.out
  · have HGM : Hid (GM cSet w0.drew b T.N (T.K t)) := hgm
    obtain ⟨D, k0, hown, hmf⟩ := hgm
    have HSK : Hid (Calls _ _ _ _ _) := sortedKeys_any b T.N D unitElem w0.drew hown (Nat.le_trans hown.size_le (by have := HN.out; unfold maxLen; omega)) (by have := hown.size_le; have := HN.out; omega)
    have HOW : Hid (w0.drew.ownsMap Try.prog 9 unitElem b T.N D ∧ MapF cSet D (T.K t) k0) := ⟨hown, hmf⟩
    clear hown hmf
    refine wpAnyH_callE (i := 6) (fuel := 2) 13 rfl (by kernel_rfl) rfl (Ext.refl _) (by kernel_rfl) (f := 50) (args := #[.map (some b)]) (by kernel_rfl) (mapsKeys_any (some b) w0.drew) ?_
    rintro e w2 ⟨rfl, rfl⟩
    refine ⟨_, rfl, ext_one _, ?_⟩
    simp only [Act.put, List.setIfInBounds_toArray, List.set_cons_succ, List.set_cons_zero]
    refine wpAnyH_callE (i := 7) (fuel := 1) 14 rfl (by kernel_rfl) rfl (Ext.refl _) (by kernel_rfl) (f := 49) (args := #[.func (.func 62) #[] #[.pointer (some ⟨w0.drew.heap.size, 0, none⟩)]]) (by kernel_rfl) HSK.out ?_
    rintro e w3 ⟨v, ss, rfl, hp, h2, h3⟩
    refine ⟨_, rfl, h3, ?_⟩
    have HRES : Hid (TouchP w T t (.returned v) w3) := by
      obtain ⟨ks, k1, k2, k3, k4⟩ := keys_sorted HOW.out.1 HOW.out.2 hp
      refine ⟨v, ks, rfl, k1, ?_, Ext.trans HED.out (Ext.trans (ext_one _) h3), ?_⟩
      · have hz : w.heap.size ≤ (w0.drew.alloc (.cells #[.map (some b)] 90)).heap.size := Nat.le_trans HED.out.size (ext_one (w := w0.drew) _).size
        show World.ownsRow _ _ _ _ _ _ _
        rw [← k3, k2]
        exact rowMono h2 hz
      · rw [k4, ← HOW.out.2.len]
        exact HOW.out.1.size_le
    clear h2 h3 hp HSK HOW HGM
    haveI n3 := cls_ext w3
    simp only [Act.put, List.setIfInBounds_toArray, List.set_cons_succ, List.set_cons_zero]
    refine wpAnyH_seg (by kernel_rfl) (fun _ _ _ h => h) [8] 0 _ _ _ (Ext.refl _) (by kernel_rfl) ?_
    simp only [opsAt, List.getElem?_toArray, List.getElem?_cons_zero, List.getElem?_cons_succ, List.cons_append, List.nil_append]
    repeat (go_big_quiet_step (fail))
    refine wpQuiet_nil ?_
    refine wpAnyH_done (by kernel_rfl) (NoPanic.normal ?_) 0
    clear n3 n1
    go_wp2
    go_ret
    exact HRES.out
end Go.Proofs.Ytkgecljoodofeaa
