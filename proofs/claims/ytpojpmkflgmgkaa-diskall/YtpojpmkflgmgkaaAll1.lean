/- DiskAll: what the law has while it goes on; its inner function. Own lemmas, no statement. -/
import Derived.Test.YtpojpmkflgmgkaaTwo
namespace Go.Proofs.Ytpojpmkflgmgkaa
open Go.ChangeShapes Go.WideShapes Go.ChangeAt Go.RowKit

def strOf (l : List UInt8) : Value := .string ⟨l.toArray⟩
def strs (now : List Sec) : List Value := now.map fun p => strOf p.1
theorem strs_length (now : List Sec) : (strs now).length = now.length := by simp [strs]
theorem strs_at {now : List Sec} {i : Nat} {p : Sec} (h : now[i]? = some p) : (strs now)[i]? = some (strOf p.1) := by unfold strs; rw [List.getElem?_map, h]; rfl
theorem take_next {α : Type} {l : List α} {k : Nat} {x : α} (h : l[k]? = some x) : l.take k ++ [x] = l.take (k + 1) := by
  obtain ⟨h1, h2⟩ := List.getElem?_eq_some_iff.1 h
  rw [List.take_succ_eq_append_getElem h1, h2]

set_option maxHeartbeats 2000000 in
theorem all_any {w0 w : World} {B g : Nat} {f : Foot} {now safe : List Sec} {waits : List (Nat × List UInt8)} {steps : Nat} (vb : Nat) (h : NewAt w0 B w g f ⟨now, safe, waits, 0, false, steps⟩) (hvb : w.cell? ⟨vb, 0, none⟩ = some (dptr g)) (hl : now.length = 8) (ht : ∀ p ∈ now, p.2 = false) :
    Calls Try.prog 22 #[.pointer (some ⟨vb, 0, none⟩)] w fun e w' => ∃ g' cap, e = .returned (.slice (some ⟨g', 0, none⟩) 8 cap) ∧ Row1 w' (fun k => w.heap.size ≤ k) 9 (.slice (some ⟨g', 0, none⟩) 8 cap) (strs now) ∧ Below w.heap.size w w' := by
  have HN : Hid (NewAt w0 B w g f _) := h
  have HL : Hid (now.length = 8) := hl
  have HT : Hid (∀ p ∈ now, p.2 = false) := ht
  have HV : Hid (w.cell? ⟨vb, 0, none⟩ = some (dptr g)) := hvb
  clear h hl ht hvb
  have HR0 : Hid (Row1 (w.alloc (.cells #[] 9)) (fun k => w.heap.size ≤ k) 9 (.slice (some ⟨w.heap.size, 0, none⟩) 0 0) []) := Row1.empty w _ (Nat.le_refl _)
  have HE0 : Hid (Below w.heap.size w (w.alloc (.cells #[] 9))) := (Below.refl _ _).alloc (Nat.le_refl _) _
  go_enter Try.func22, Try.ntmps22
  go_wp2_with fail
  go_loopw [2, 3] (fun vl vi wr => ∃ (k : Nat) (ao : Option Addr) (cap : Nat), vi = .int .i64 (k : Int) ∧ vl = .slice ao k cap ∧ k ≤ 8 ∧ Row1 wr (fun k => w.heap.size ≤ k) 9 (.slice ao k cap) ((strs now).take k) ∧ Below w.heap.size w wr) (fun _ vi _ => 8 - (intOf vi).toNat)
  case atStart => exact ⟨0, _, 0, rfl, rfl, by omega, HR0.out, HE0.out⟩
  case round =>
    obtain ⟨k, ao, cap, rfl, rfl, hk, hR, hE⟩ := hrel
    have HR : Hid (Row1 wr _ _ _ _) := hR
    have HE : Hid (Below w.heap.size w wr) := hE
    clear hR hE HR0 HE0
    by_cases hlt : k < 8
    · have hkn : k < now.length := by rw [HL.out]; exact hlt
      have hgk : now[k]? = some (now[k].1, false) := by rw [List.getElem?_eq_getElem hkn]; congr 1; exact Prod.ext rfl (HT.out _ (List.getElem_mem hkn))
      have HRd : Hid (Calls _ _ _ _ _) := read_new k (HN.out.below HE.out) now[k].1 hgk
      have HS : Hid ((strs now)[k]? = some (strOf now[k].1)) := strs_at (List.getElem?_eq_getElem hkn)
      have HPL : Hid (now[k].1.length = 512) := HN.out.at_.inv.nows _ (List.getElem_mem hkn)
      have c0 : wr.cell? ⟨vb, 0, none⟩ = some (dptr g) := (Below.cell HE.out (cell_lt HV.out)).trans HV.out
      clear hgk
      generalize now[k].1 = bl at *
      go_wp2_with fail
      refine Calls.mono HRd.out ?_
      rintro e w5 ⟨rfl, hN5, hB5, -, hb5, hz5⟩
      have j1 := (Blk.src (w := w5) (k := 512) (c := 512) hB5 (by rw [HPL.out]; omega) (by omega) (by unfold maxLen; omega)).str
      rw [List.take_of_length_le (by rw [HPL.out]; omega)] at j1
      have j1' : (convert 27 9 (.slice (some ⟨wr.heap.size, 0, none⟩) 512 512)).run Try.prog w5 = .ok (strOf bl) w5 := j1
      have HR5 : Hid (Row1 w5 _ _ _ _) := HR.out.below hb5
      have HE5 : Hid (Below w.heap.size w w5) := HE.out.trans (hb5.mono HE.out.size)
      have hxl : ((strs now).take k).length = k := by rw [List.length_take, strs_length, HL.out]; omega
      have HXL : Hid (((strs now).take k).length = k) := hxl
      have hone : (strOf bl).oneCell' = true := rfl
      clear j1 hN5 hB5 hb5 hz5 HR HRd hxl
      have hsv : ∃ s, strOf bl = .string s := ⟨_, rfl⟩
      obtain ⟨sb, hsb⟩ := hsv
      rw [hsb] at j1' hone
      have HSB : Hid (strOf bl = .string sb) := hsb
      clear hsb
      go_wp2_with (first | (at_builtin; refine wpList_push1 w5 rfl _ _ 44 rfl (.string ByteArray.empty) 16 infoStr rfl (by omega) Try.underlying44 (.string sb) HR5.out rfl (fun k hk => Nat.le_trans HE5.out.size hk) rfl ?_ k HXL.out (by omega) ?_))
      · rfl
      intro v6 w6 hR6 hch6 hf6 hat6
      obtain ⟨ao6, cap6, rfl⟩ := hf6
      have HR6 : Hid (Row1 w6 (fun k => w.heap.size ≤ k) 9 (.slice ao6 (k + 1) cap6) ((strs now).take (k + 1))) := by
        have := take_next HS.out
        rw [HSB.out] at this
        rw [this] at hR6
        exact hR6
      have HE6 : Hid (Below w.heap.size w w6) := HE5.out.trans (hch6.below HE5.out.size (fun i hi => HR5.out.mine i hi))
      clear hR6 hch6 hat6 j1' HR5 HE5
      go_wp2_with fail
      go_roundw
      case rel => exact ⟨k + 1, ao6, cap6, by go_num, rfl, by omega, HR6.out, HE6.out⟩
      case measure => simp [intOf]; omega
    · have hk8 : k = 8 := by omega
      subst hk8
      have hR := HR.out
      rw [List.take_of_length_le (by rw [strs_length, HL.out]; omega)] at hR
      have HR8 : Hid (Row1 wr (fun k => w.heap.size ≤ k) 9 (.slice ao 8 cap) (strs now)) := hR
      obtain ⟨g', e, -⟩ := Row1.cell (i := 0) hR (strs_at (List.getElem?_eq_getElem (by rw [HL.out]; omega)))
      subst e
      clear hR HR
      go_wp2_with fail
      go_ret
      exact ⟨g', cap, rfl, HR8.out, HE.out⟩

theorem Row1.blk {w : World} {M : Nat → Prop} {T : TypeId} {v : Value} {xs : List Value} {k : Nat} (h : Row1 w M T v xs) (hk : v.ownBlock = some k) : ∃ c, Blk w k c T := by
  rcases h.own.2 with ⟨rfl, _⟩ | ⟨g, cap, cur, rfl, hB, hg, r⟩
  · simp [Value.ownBlock] at hk
  · simp [Value.ownBlock] at hk
    subst hk
    exact ⟨cur, hg⟩
theorem Row1.chgAt {w w' : World} {M S : Nat → Prop} {T : TypeId} {v : Value} {xs : List Value} (h : Row1 w M T v xs) (k : Chg S w w') (hS : ∀ i, v.ownBlock = some i → ¬ S i) : Row1 w' M T v xs := by
  refine ⟨⟨h.own.1, ?_⟩, h.mine⟩
  rcases h.own.2 with h' | ⟨g, cap, cur, rfl, hB, hg, r⟩
  · exact .inl h'
  · exact .inr ⟨g, cap, cur, rfl, hB, by rw [k.block g (Array.getElem?_eq_some_iff.1 hg).1 (hS g rfl)]; exact hg, r⟩

/-- What the law has while it goes on: two disks, the variable of the second one, what is kept, what was safe. -/
structure Has (w wr : World) (ga gb vb : Nat) (vk vs : Value) (fa fb : Foot) (sa sb : DSt) (xs ys : List Value) : Prop where
  two : Two w w.heap.size wr ga fa sa gb fb sb
  var : Blk wr vb #[dptr gb] 24
  vm : Mine w.heap.size fa fb vb
  kp : Row1 wr (Mine w.heap.size fa fb) 4 vk xs
  sf : Row1 wr (Mine w.heap.size fa fb) 9 vs ys
section
variable {w wr w' : World} {ga gb vb : Nat} {vk vs : Value} {fa fb fa' fb' : Foot} {sa sb sa' sb' : DSt} {xs ys : List Value}
theorem Has.left (h : Has w wr ga gb vb vk vs fa fb sa sb xs ys) (hT : Turned fa wr fa' w') (hN : NewAt w w.heap.size w' ga fa' sa') : Has w w' ga gb vb vk vs fa' fb sa' sb xs ys :=
  ⟨h.two.left hT hN, h.var.chg hT.chg h.vm.2.1, h.vm.left hT h.var.lt, ⟨(h.kp.chg hT.chg (fun _ hi => hi.2.1)).own, fun k hk => (h.kp.mine k hk).left hT (h.kp.lt hk)⟩, ⟨(h.sf.chg hT.chg (fun _ hi => hi.2.1)).own, fun k hk => (h.sf.mine k hk).left hT (h.sf.lt hk)⟩⟩
theorem Has.right (h : Has w wr ga gb vb vk vs fa fb sa sb xs ys) (hT : Turned fb wr fb' w') (hN : NewAt w w.heap.size w' gb fb' sb') : Has w w' ga gb vb vk vs fa fb' sa sb' xs ys :=
  ⟨h.two.right hT hN, h.var.chg hT.chg h.vm.2.2, h.vm.right hT h.var.lt, ⟨(h.kp.chg hT.chg (fun _ hi => hi.2.2)).own, fun k hk => (h.kp.mine k hk).right hT (h.kp.lt hk)⟩, ⟨(h.sf.chg hT.chg (fun _ hi => hi.2.2)).own, fun k hk => (h.sf.mine k hk).right hT (h.sf.lt hk)⟩⟩
theorem Has.below (h : Has w wr ga gb vb vk vs fa fb sa sb xs ys) (hb : Below wr.heap.size wr w') : Has w w' ga gb vb vk vs fa fb sa sb xs ys :=
  ⟨h.two.below hb, h.var.of (hb.block _ h.var.lt), h.vm, h.kp.below hb, h.sf.below hb⟩
theorem Has.push (h : Has w wr ga gb vb vk vs fa fb sa sb xs ys) {vk' : Value} {xs' : List Value} (hch : Chg (fun k => vk.ownBlock = some k) wr w') (hR : Row1 w' (Mine w.heap.size fa fb) 4 vk' xs') : Has w w' ga gb vb vk' vs fa fb sa sb xs' ys := by
  refine ⟨h.two.chg hch (fun i hi => h.kp.mine i hi), h.var.chg hch (fun e => ?_), h.vm, hR, h.sf.chgAt hch (fun i hi e => ?_)⟩
  · obtain ⟨c, hc⟩ := h.kp.blk e
    exact hc.ne h.var (by decide) rfl
  · obtain ⟨c, hc⟩ := h.kp.blk e
    obtain ⟨c', hc'⟩ := h.sf.blk hi
    exact hc.ne hc' (by decide) rfl
theorem Has.newKeep (h : Has w wr ga gb vb vk vs fa fb sa sb xs ys) : Has w wr ga gb vb (.slice none 0 0) vs fa fb sa sb [] ys := ⟨h.two, h.var, h.vm, Row1.nil, h.sf⟩
theorem Has.newSafe (h : Has w wr ga gb vb vk vs fa fb sa sb xs ys) {vs' : Value} {ys' : List Value} {B : Nat} (hb : Below wr.heap.size wr w') (hR : Row1 w' (fun k => B ≤ k) 9 vs' ys') (hB : B = wr.heap.size) : Has w w' ga gb vb vk vs' fa fb sa sb xs ys' := by
  subst hB
  have h' := h.below hb
  exact ⟨h'.two, h'.var, h'.vm, h'.kp, hR.own, fun k hk => h.two.mine (hR.mine k hk)⟩
end
theorem replicate_snoc (n : Nat) (v : Value) : List.replicate n v ++ [v] = List.replicate (n + 1) v := by rw [List.replicate_succ']

/-- What is known of the two disks while the law goes on. -/
structure Good (k : Nat) (nowA safeA : List Sec) (waitsA : List (Nat × List UInt8)) (stA : Nat) (nowB safeB : List Sec) (waitsB : List (Nat × List UInt8)) (stB : Nat) : Prop where
  lenA : nowA.length = 8
  lenB : nowB.length = 8
  allA : staysTo (List.replicate waitsA.length true) 0 safeA waitsA waitsA.length = nowA
  okA : ∀ p ∈ nowA, p.2 = false
  okB : ∀ p ∈ nowB, p.2 = false
  okS : ∀ p ∈ safeB, p.2 = false
  lenS : safeB.length = 8
  wA : waitsA.length ≤ k
  wB : waitsB.length ≤ k
  sA : stA ≤ k
  sB : stB ≤ k
theorem set_ok {l : List Sec} {i : Nat} {b : List UInt8} (h : ∀ p ∈ l, p.2 = false) : ∀ p ∈ l.set i (b, false), p.2 = false := by
  intro p hp
  rcases List.mem_or_eq_of_mem_set hp with h' | rfl
  · exact h p h'
  · rfl
/-- What stays of the first k writes hangs on those alone. -/
theorem staysTo_more (keep keep' : List Bool) (tear : Int) (safe : List Sec) (ws ws' : List (Nat × List UInt8)) : ∀ k, (∀ j, j < k → keep.getD j false = keep'.getD j false) → (∀ j, j < k → ws[j]? = ws'[j]?) → staysTo keep tear safe ws k = staysTo keep' tear safe ws' k
  | 0, _, _ => rfl
  | k + 1, h1, h2 => by
    have ih := staysTo_more keep keep' tear safe ws ws' k (fun j hj => h1 j (by omega)) (fun j hj => h2 j (by omega))
    unfold staysTo
    rw [h2 k (by omega), h1 k (by omega), ih]
theorem all_write {safe now : List Sec} {ws : List (Nat × List UInt8)} (h : staysTo (List.replicate ws.length true) 0 safe ws ws.length = now) (i : Nat) (b : List UInt8) : staysTo (List.replicate (ws ++ [(i, b)]).length true) 0 safe (ws ++ [(i, b)]) (ws ++ [(i, b)]).length = now.set i (b, false) := by
  have e : (ws ++ [(i, b)]).length = ws.length + 1 := by simp
  rw [e]
  conv => lhs; unfold staysTo
  have e2 : (ws ++ [(i, b)])[ws.length]? = some (i, b) := by rw [List.getElem?_append_right (Nat.le_refl _)]; simp
  rw [e2]
  simp only
  rw [if_pos (by rw [List.getD_eq_getElem?_getD, List.getElem?_replicate, if_pos (by omega)]; rfl)]
  congr 1
  rw [← h]
  refine staysTo_more _ _ _ _ _ _ _ (fun j hj => ?_) (fun j hj => ?_)
  · rw [List.getD_eq_getElem?_getD, List.getD_eq_getElem?_getD, List.getElem?_replicate, List.getElem?_replicate, if_pos (by omega), if_pos hj]
  · rw [List.getElem?_append_left hj]
section
variable {k : Nat} {nowA safeA : List Sec} {waitsA : List (Nat × List UInt8)} {stA : Nat} {nowB safeB : List Sec} {waitsB : List (Nat × List UInt8)} {stB : Nat}
theorem Good.more (h : Good k nowA safeA waitsA stA nowB safeB waitsB stB) : Good (k + 1) nowA safeA waitsA stA nowB safeB waitsB stB :=
  ⟨h.lenA, h.lenB, h.allA, h.okA, h.okB, h.okS, h.lenS, by have := h.wA; omega, by have := h.wB; omega, by have := h.sA; omega, by have := h.sB; omega⟩
theorem Good.sync (h : Good k nowA safeA waitsA stA nowB safeB waitsB stB) : Good (k + 1) nowA nowA [] (stA + 1) nowB nowB [] (stB + 1) :=
  ⟨h.lenA, h.lenB, rfl, h.okA, h.okB, h.okB, h.lenB, by simp, by simp, by have := h.sA; omega, by have := h.sB; omega⟩
theorem Good.write (h : Good k nowA safeA waitsA stA nowB safeB waitsB stB) (i : Nat) (b : List UInt8) : Good (k + 1) (nowA.set i (b, false)) safeA (waitsA ++ [(i, b)]) (stA + 1) (nowB.set i (b, false)) safeB (waitsB ++ [(i, b)]) (stB + 1) :=
  ⟨by simp [h.lenA], by simp [h.lenB], all_write h.allA i b, set_ok h.okA, set_ok h.okB, h.okS, h.lenS, by simp; have := h.wA; omega, by simp; have := h.wB; omega, by have := h.sA; omega, by have := h.sB; omega⟩
theorem Good.drop (h : Good k nowA safeA waitsA stA nowB safeB waitsB stB) : Good k nowA safeA waitsA stA safeB safeB [] stB :=
  ⟨h.lenA, h.lenS, h.allA, h.okA, h.okS, h.okS, h.lenS, h.wA, by simp, h.sA, h.sB⟩
end
theorem stays_none (tear : Int) (ht : tear < 0) (safe : List Sec) (ws : List (Nat × List UInt8)) : ∀ k, staysTo [] tear safe ws k = safe
  | 0 => rfl
  | k + 1 => by
    unfold staysTo
    split
    · exact stays_none tear ht safe ws k
    · rw [if_neg (by simp), if_neg (by omega)]
      exact stays_none tear ht safe ws k

theorem Row1.bools {w : World} {M : Nat → Prop} {ao : Option Addr} {n cap m : Nat} (h : Row1 w M 4 (.slice ao n cap) (List.replicate m (.bool true))) : Bools w ao n (List.replicate m true) ∧ n = m := by
  obtain ⟨ao', cap', e, _, _, h1, h2⟩ := h.form
  simp only [Value.slice.injEq, List.length_replicate] at e
  obtain ⟨rfl, hn, rfl⟩ := e
  refine ⟨⟨by simp [hn], fun e => by have := h1 e; simpa using this, fun ad had j b hb => ?_⟩, hn⟩
  have hj : j < m := by have := (List.getElem?_eq_some_iff.1 hb).1; simpa using this
  rw [List.getElem?_replicate, if_pos hj] at hb
  cases hb
  obtain ⟨g, e, hc⟩ := Row1.cell (i := j) h (by rw [List.getElem?_replicate, if_pos hj])
  rw [had] at e
  cases e
  rw [Addr.add_mid, Nat.zero_add]
  exact hc
end Go.Proofs.Ytpojpmkflgmgkaa
