/- Rows of numbers, texts and transactions as bytes, and read again: plain lemmas; the law's own put; append with the place of what it leaves. Own lemmas, no statement. -/
import Derived.Test.YtopnblhedankcaaDecode
import Derived.Test.YtopnblhedankcaaWNumTids
import Derived.Test.YtopnblhedankcaaOpen
import Derived.Test.YtopnblhedankcaaSeg
import Derived.Maps.AppendAt
namespace Go.Proofs.Ytopnblhedankcaa
open Go.ChangeShapes Go.WideShapes Go.ChangeAt Go.RowKit

theorem rnum_enc (A most : Nat) (hA : A < 18446744073709551616) (hm : A ≤ most) (r : List UInt8) : rnum (enc A ++ r) 0 most = (A, r, 0) := by
  unfold rnum
  rw [first_enc A hA r, if_neg (by omega), if_neg (by simp), if_neg (by simp; omega)]
  simp
theorem rtext_enc (s : ByteArray) (hs : s.size < 18446744073709551616) (r : List UInt8) : rtext (enc s.size ++ (s.data.toList ++ r)) 0 s.size = (s.data.toList, r, 0) := by
  have hl : s.data.toList.length = s.size := by rw [Array.length_toList]; rfl
  unfold rtext
  rw [rnum_enc s.size s.size hs (Nat.le_refl _), if_neg (by simp), if_neg (by simp [hl])]
  show ((s.data.toList ++ r).take s.size, (s.data.toList ++ r).drop s.size, 0) = _
  rw [← hl, List.take_left, List.drop_left]
theorem rtid_enc (x y : Nat) (hx : x ≤ 1099511627776) (hy : y < 64) (r : List UInt8) : rtid (enc x ++ (enc y ++ r)) 0 = ((x, y), r, 0) := by
  unfold rtid
  rw [rnum_enc x 1099511627776 (by omega) hx]
  simp only
  rw [rnum_enc y 63 (by omega) (by omega), if_neg (by simp)]

def nB (l : List Nat) : List UInt8 := l.flatMap enc
def sB (l : List ByteArray) : List UInt8 := l.flatMap fun s => enc s.size ++ s.data.toList
def tB (l : List (Nat × Nat)) : List UInt8 := l.flatMap fun p => enc p.1 ++ enc p.2
/-- What is laid behind so many. -/
def c1 (ns : List Nat) (i : Nat) : List UInt8 := nB (ns.take i)
def c2 (ns : List Nat) (ss : List ByteArray) (i : Nat) : List UInt8 := nB ns ++ sB (ss.take i)
def c3 (ns : List Nat) (ss : List ByteArray) (ts : List (Nat × Nat)) (i : Nat) : List UInt8 := (nB ns ++ sB ss) ++ tB (ts.take i)
theorem c1_zero (ns : List Nat) : c1 ns 0 = [] := by simp [c1, nB]
theorem c1_succ (ns : List Nat) (i : Nat) (h : i < ns.length) : c1 ns (i + 1) = join (c1 ns i) (enc ns[i]) := by unfold c1 nB join; rw [List.take_succ_eq_append_getElem h, List.flatMap_append]; simp
theorem c1_all (ns : List Nat) (ss : List ByteArray) : c1 ns ns.length = c2 ns ss 0 := by simp [c1, c2, sB]
theorem c2_succ (ns : List Nat) (ss : List ByteArray) (i : Nat) (h : i < ss.length) : c2 ns ss (i + 1) = join (join (c2 ns ss i) (enc ss[i].size)) ss[i].data.toList := by unfold c2 sB join; rw [List.take_succ_eq_append_getElem h, List.flatMap_append]; simp
theorem c2_all (ns : List Nat) (ss : List ByteArray) (ts : List (Nat × Nat)) : c2 ns ss ss.length = c3 ns ss ts 0 := by simp [c2, c3, tB]
theorem c3_succ (ns : List Nat) (ss : List ByteArray) (ts : List (Nat × Nat)) (i : Nat) (h : i < ts.length) : c3 ns ss ts (i + 1) = join (join (c3 ns ss ts i) (enc ts[i].1)) (enc ts[i].2) := by unfold c3 tB join; rw [List.take_succ_eq_append_getElem h, List.flatMap_append]; simp
/-- What is left behind so many. -/
def r1 (ns : List Nat) (ss : List ByteArray) (ts : List (Nat × Nat)) (i : Nat) : List UInt8 := nB (ns.drop i) ++ (sB ss ++ tB ts)
def r2 (ss : List ByteArray) (ts : List (Nat × Nat)) (i : Nat) : List UInt8 := sB (ss.drop i) ++ tB ts
def r3 (ts : List (Nat × Nat)) (i : Nat) : List UInt8 := tB (ts.drop i)
theorem r1_zero (ns : List Nat) (ss : List ByteArray) (ts : List (Nat × Nat)) : c3 ns ss ts ts.length = r1 ns ss ts 0 := by simp [c3, r1]
theorem r1_all (ns : List Nat) (ss : List ByteArray) (ts : List (Nat × Nat)) : r1 ns ss ts ns.length = r2 ss ts 0 := by simp [r1, r2, nB]
theorem r2_all (ss : List ByteArray) (ts : List (Nat × Nat)) : r2 ss ts ss.length = r3 ts 0 := by simp [r2, r3, sB]
theorem r3_all (ts : List (Nat × Nat)) : r3 ts ts.length = [] := by simp [r3, tB]
theorem r1_read (ns : List Nat) (ss : List ByteArray) (ts : List (Nat × Nat)) (i : Nat) (h : i < ns.length) (hn : ns[i] < 18446744073709551616) : rnum (r1 ns ss ts i) 0 18446744073709551615 = (ns[i], r1 ns ss ts (i + 1), 0) := by
  have : r1 ns ss ts i = enc ns[i] ++ r1 ns ss ts (i + 1) := by unfold r1 nB; rw [List.drop_eq_getElem_cons h, List.flatMap_cons, List.append_assoc]
  rw [this, rnum_enc _ _ hn (by omega)]
theorem r2_read (ss : List ByteArray) (ts : List (Nat × Nat)) (i : Nat) (h : i < ss.length) (hn : ss[i].size < 18446744073709551616) : rtext (r2 ss ts i) 0 ss[i].size = (ss[i].data.toList, r2 ss ts (i + 1), 0) := by
  have : r2 ss ts i = enc ss[i].size ++ (ss[i].data.toList ++ r2 ss ts (i + 1)) := by unfold r2 sB; rw [List.drop_eq_getElem_cons h, List.flatMap_cons, List.append_assoc, List.append_assoc]
  rw [this, rtext_enc _ hn]
theorem r3_read (ts : List (Nat × Nat)) (i : Nat) (h : i < ts.length) (hx : ts[i].1 ≤ 1099511627776) (hy : ts[i].2 < 64) : rtid (r3 ts i) 0 = (ts[i], r3 ts (i + 1), 0) := by
  have : r3 ts i = enc ts[i].1 ++ (enc ts[i].2 ++ r3 ts (i + 1)) := by unfold r3 tB; rw [List.drop_eq_getElem_cons h, List.flatMap_cons, List.append_assoc]
  rw [this, rtid_enc _ _ hx hy]

/-- Numbers that came in. -/
theorem isRow_nats {w : World} {a : Option Addr} {len cap : Nat} {zs : List Int} (h : IsRow .u64 w a len cap zs) : ∃ ns : List Nat, ns.length = len ∧ len ≤ cap ∧ cap ≤ maxLen ∧ ∀ i (hi : i < ns.length), ns[i] < 18446744073709551616 ∧ ∃ ad, a = some ad ∧ w.cell? (ad.add i) = some (.int .u64 (ns[i] : Int)) := by
  rcases h with ⟨rfl, rfl, rfl, rfl⟩ | ⟨x, rfl, hl, hm, hz, hcell, hwz⟩
  · exact ⟨[], rfl, Nat.le_refl _, Nat.zero_le _, fun i hi => by simp at hi⟩
  · refine ⟨(zs.take len).map Int.toNat, by simp; omega, hl, hm, fun i hi => ?_⟩
    simp at hi
    have hjz : i < zs.length := by omega
    have hb := bounds_u64 (hwz zs[i] (List.getElem_mem _))
    simp only [List.getElem_map, List.getElem_take]
    refine ⟨by omega, x, rfl, ?_⟩
    rw [hcell i hjz]
    simp only [List.getD, List.getElem?_eq_getElem hjz, Option.getD_some]
    congr 2
    omega

/-- 'append(b, c...)', both of bytes, b the call's own, and where what it leaves lies. -/
theorem wpList_joinAt {ops : Array Oper} {rest : List Oper} {o : Oper} {a : Act} {Q : Exit → Act → World → Prop} (w : World) (hgd : o.guard = none) (s x : Operand)
    (ho : o.op = .call { callee := .builtin .append, args := #[s, x], argTypes := #[26, 26] })
    (B : Nat) (v : Value) (l m : List UInt8) (hown : Own w B v l) (hs : a.eval s = v) (gx cx : Nat) (hsrc : Src w (.slice (some ⟨gx, 0, none⟩) m.length cx) m) (hx : a.eval x = .slice (some ⟨gx, 0, none⟩) m.length cx)
    (hl : l.length + m.length < 1099511627776) (hB : B ≤ w.heap.size)
    (hK : ∀ v' w', Own w' B v' (join l m) → w.grownBy w' v.ownBlock → (v'.ownBlock = v.ownBlock ∨ v'.ownBlock = some w.heap.size) → wpList Try.prog ops Q rest (a.put o.dst v') w') :
    wpList Try.prog ops Q (o :: rest) a w := by
  obtain ⟨i0, hi, hz0, hz1, hz2⟩ := info_parts info8
  obtain ⟨_, h1, h2, h3, h4⟩ := hsrc.at
  refine wpList_append_own_at _ hgd s x 26 ho B 5 i0 (.int .u8 0) 1 1 Try.underlying26 hi hz0 hz1 hz2 rfl (by decide) v l.length (bv l) hs hown ⟨gx, 0, none⟩ m.length cx (bv m) hx (by rw [bv_length]; omega) (h4 _ rfl) (bv_one m) (by unfold maxLen; omega) (by omega) hB ?_
  intro v' w' k1 k2 _ k4
  refine hK v' w' ?_ k2 k4
  unfold Own join
  rw [List.length_append, bv_append]
  exact k1

/-- A row that lies in another block. -/
theorem Own.grown {w w' : World} {B g n c : Nat} {l : List UInt8} {row : Option Nat} (h : Own w B (.slice (some ⟨g, 0, none⟩) n c) l) (hg : w.grownBy w' row) (hne : row ≠ some g) : Own w' B (.slice (some ⟨g, 0, none⟩) n c) l := by
  refine ⟨h.1, ?_⟩
  rcases h.2 with ⟨h', _⟩ | ⟨g', cap, cur, he, hb, hh, r⟩
  · simp at h'
  · simp only [Value.slice.injEq, Option.some.injEq, Addr.mk.injEq] at he
    obtain ⟨⟨rfl, _, _⟩, hn, rfl⟩ := he
    subst hn
    exact .inr ⟨g, c, cur, rfl, hb, by rw [hg.block g (Array.getElem?_eq_some_iff.1 hh).1 (fun e => hne e.symm)]; exact hh, r⟩

set_option maxRecDepth 100000 in
set_option maxHeartbeats 1000000 in
theorem lput_any (N : Nat) (w : World) (hN : N < 18446744073709551616) : Calls Try.prog 17 #[.int .u64 (N : Int)] w (Gives w (enc N)) := by
  have hown0 : Own (w.alloc (.cells #[] 5)) w.heap.size (.slice (some ⟨w.heap.size, 0, none⟩) 0 0) [] := World.ownsRow_made w #[] 0 (Nat.le_refl _) (Nat.zero_le _) rfl
  have hb0 : Below w.heap.size w (w.alloc (.cells #[] 5)) := (Below.refl _ _).alloc (Nat.le_refl _) _
  have H0 : Hid (Own _ _ _ _) := hown0
  have HB0 : Hid (Below _ _ _) := hb0
  clear hown0 hb0
  go_enter Try.func17, Try.ntmps17
  go_wp2
  go_loopw [0, 3] (fun n b wr => ∃ (m f : Nat) (pre : List UInt8), n = .int .u64 m ∧ Own wr w.heap.size b pre ∧ pre ++ encF (f + 1) m = enc N ∧ m < 128 ^ (f + 1) ∧ m < 18446744073709551616 ∧ pre.length + f ≤ 9 ∧ Below w.heap.size w wr)
    (fun n _ _ => (intOf n).toNat)
  case atStart => exact ⟨N, 9, [], rfl, H0.out, rfl, by omega, hN, by simp, HB0.out⟩
  case round =>
    obtain ⟨m, f, pre, rfl, hown1, hpre, hlt, hm, hf, hb⟩ := hrel
    have hsz := hb.size
    have HP : Hid (pre ++ encF (f + 1) m = enc N) := hpre
    have hlp : pre.length < 1099511627776 := by omega
    have HL : Hid (m < 128 ^ (f + 1)) := hlt
    clear hpre hlt H0 HB0
    by_cases h : 128 ≤ m
    · go_wp2_with (first | (at_builtin; refine wpList_push _ rfl _ _ rfl w.heap.size _ pre (moreB m) _ ?_ hown1 rfl rfl hlp ?_ ?_))
      · rw [moreB, UInt8.toNat_ofNat']; omega
      · omega
      intro v1 w1 hown2 hb2 _
      have hb3 := hb.trans hb2
      clear hown1 hb2 hb hlp
      go_wp2
      go_roundw
      case rel =>
        obtain ⟨f, rfl⟩ : ∃ g, f = g + 1 := by
          cases f with
          | zero => have := HL.out; simp at this; omega
          | succ g => exact ⟨g, rfl⟩
        refine ⟨m / 128, f, pre ++ [UInt8.ofNat (m % 128 + 128)], by go_num, hown2, ?_, ?_, by omega, by simp; omega, hb3⟩
        · have := HP.out
          rw [encF_great h] at this
          rw [List.append_assoc]; exact this
        · have := HL.out
          rw [Nat.pow_succ] at this
          omega
      case measure => simp [intOf]; omega
    · go_wp2_with (first | (at_builtin; refine wpList_push _ rfl _ _ rfl w.heap.size _ pre (lastB m) _ ?_ hown1 rfl rfl hlp ?_ ?_))
      · rw [lastB, UInt8.toNat_ofNat']; omega
      · omega
      intro v1 w1 hown2 hb2 _
      have hb3 := hb.trans hb2
      have he : snoc pre (lastB m) = enc N := by rw [← HP.out, encF_small (by omega)]; rfl
      rw [he] at hown2
      obtain ⟨g, cap, rfl, _⟩ := Own.form hown2 (enc_ne N)
      have H2 : Hid (Own w1 w.heap.size (.slice (some ⟨g, 0, none⟩) (enc N).length cap) (enc N)) := hown2
      clear hown1 hb2 hb hlp hown2 he
      go_wp2
      go_ret
      exact ⟨g, cap, rfl, H2.out, hb3⟩
end Go.Proofs.Ytopnblhedankcaa
