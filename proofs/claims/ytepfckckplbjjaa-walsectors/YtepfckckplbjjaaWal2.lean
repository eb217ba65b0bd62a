/- The log: a sector's bytes, laid and read. Own lemmas, no statement. -/
import Derived.Test.YtepfckckplbjjaaWal1
import Derived.Laws.ResultCell
namespace Go.Proofs.Ytepfckckplbjjaa
open Go.ChangeShapes Go.WideShapes Go.ChangeAt Go.RowKit

/-- The share of the i-th sector. -/
def chunkL (l : List UInt8) (i : Nat) : List UInt8 := (l.drop (i * 480)).take 480
theorem srcAt_cut {w : World} {ad : Addr} {c : Nat} {l : List UInt8} (h : SrcAt w (some ad) c l) (lo hi : Nat) (hlo : lo ≤ hi) (hhi : hi ≤ l.length) (hlc : l.length ≤ c) : SrcAt w (some (if c = lo then ad else ad.add lo)) (c - lo) ((l.drop lo).take (hi - lo)) := by
  refine ⟨fun e => (by cases e), fun a e j u hu => ?_⟩
  simp only [Option.some.injEq] at e
  have hj := (List.getElem?_eq_some_iff.1 hu).1
  rw [bv_length, List.length_take, List.length_drop] at hj
  have hne : ¬ c = lo := by omega
  rw [if_neg hne] at e
  subst e
  rw [show (ad.add lo).add j = ad.add (lo + j) from add_add ad lo j]
  refine h.2 ad rfl _ _ ?_
  unfold bv at hu ⊢
  rw [List.getElem?_map, List.getElem?_take, if_pos (by omega), List.getElem?_drop] at hu
  rw [List.getElem?_map]
  exact hu
theorem Src.cut {w : World} {ad : Addr} {n c : Nat} {l : List UInt8} (h : Src w (.slice (some ad) n c) l) (lo hi : Nat) (hlo : lo ≤ hi) (hhi : hi ≤ l.length) : Src w (.slice (some (if c = lo then ad else ad.add lo)) (hi - lo) (c - lo)) ((l.drop lo).take (hi - lo)) := by
  obtain ⟨rfl, h1, h2, h3⟩ := h.at
  have e : ((l.drop lo).take (hi - lo)).length = hi - lo := by rw [List.length_take, List.length_drop]; omega
  exact ⟨_, _, by rw [e], by omega, by omega, srcAt_cut h3 lo hi hlo hhi h1⟩
set_option maxRecDepth 10000 in
set_option maxHeartbeats 1000000 in
theorem chunk_any (ao : Option Addr) (n c : Nat) (l : List UInt8) (i : Nat) (w : World) (hs : Src w (.slice ao n c) l) (hi : i * 480 ≤ n) (hn : n < 1000000) :
    Calls Try.prog 42 #[.slice ao n c, .int .i64 (i : Int)] w fun e w' => e = .returned (.string ⟨(chunkL l i).toArray⟩) ∧ w' = w := by
  obtain ⟨rfl, h1, h2, h3⟩ := hs.at
  unfold maxLen at h2
  cases ao with
  | none =>
    obtain ⟨hl, hc⟩ := h3.1 rfl
    subst hl
    subst hc
    obtain rfl : i = 0 := by simp at hi; omega
    have hcv := (Src.nil w).str
    clear hs h3
    go_enter Try.func42, Try.ntmps42
    go_wp2_with fail
    go_ret
    exact ⟨rfl, rfl⟩
  | some ad =>
    by_cases hm : (i + 1) * 480 ≤ l.length
    · have hcv := (hs.cut (i * 480) ((i + 1) * 480) (by omega) hm).str
      have e1 : (i + 1) * 480 - i * 480 = 480 := by rw [Nat.add_mul, Nat.one_mul, Nat.add_sub_cancel_left]
      have hmin : min (((i : Int) + 1) * 480) (l.length : Int) = ((i : Int) + 1) * 480 := by omega
      have hne : ¬ c = i * 480 := by omega
      rw [if_neg hne, e1] at hcv
      clear hs h3
      go_enter Try.func42, Try.ntmps42
      go_wp2_with fail
      go_ret
      exact ⟨rfl, rfl⟩
    · have hcv := (hs.cut (i * 480) l.length (by omega) (Nat.le_refl _)).str
      have e1 : (l.drop (i * 480)).take (l.length - i * 480) = chunkL l i := by
        unfold chunkL
        rw [List.take_of_length_le (by rw [List.length_drop]; exact Nat.le_refl _), List.take_of_length_le (by rw [List.length_drop]; omega)]
      rw [e1] at hcv
      have hmin : min (((i : Int) + 1) * 480) (l.length : Int) = (l.length : Int) := by omega
      have hle : ((i : Int) * 480) ≤ (l.length : Int) := by omega
      clear hs h3 e1
      by_cases hc : c = i * 480
      · rw [if_pos hc] at hcv
        have hll : l.length = i * 480 := by omega
        rw [hll, hc, Nat.sub_self] at hcv
        go_enter Try.func42, Try.ntmps42
        rw [hll, hc]
        clear hmin
        have hmin : min (((i : Int) + 1) * 480) ((i : Int) * 480) = (i : Int) * 480 := by omega
        have hi64 : (i : Int) * 480 < 1000000 := by omega
        go_wp2_with fail
        go_ret
        exact ⟨rfl, rfl⟩
      · rw [if_neg hc] at hcv
        go_enter Try.func42, Try.ntmps42
        go_wp2_with fail
        go_ret
        exact ⟨rfl, rfl⟩

/-- A sector's bytes. -/
def pcBytes (n life : Nat) (last : Bool) (t : List UInt8) : List UInt8 := join (join (join (join (join [] (enc (n + 1))) (enc life)) (enc (if last then 1 else 0))) (enc t.length)) t
theorem pcBytes_length (n life : Nat) (last : Bool) (t : List UInt8) : (pcBytes n life last t).length ≤ 40 + t.length := by
  unfold pcBytes
  simp only [join_length, List.length_nil]
  have h1 := enc_length (n + 1)
  have h2 := enc_length life
  have h3 := enc_length (if last then 1 else 0)
  have h4 := enc_length t.length
  omega
def pcV (n life : Nat) (last : Bool) (t : List UInt8) : Value := .agg #[.int .u64 (n : Int), .int .u64 (life : Int), .bool last, .string ⟨t.toArray⟩]

set_option maxHeartbeats 1000000 in
theorem pieceBytes_any (n life : Nat) (last : Bool) (t : List UInt8) (w : World) (hn : n < 9223372036854775808) (hl : life < 18446744073709551616) (ht : t.length < 1000000) :
    Calls Try.prog 44 #[pcV n life last t] w (Gives w (pcBytes n life last t)) := by
  have hW0 : Below w.heap.size w (w.alloc (.cells #[.int .u64 (n : Int), .int .u64 (life : Int), .bool last, .string ⟨t.toArray⟩] 83)) := (Below.refl _ _).alloc (Nat.le_refl _) _
  have HB0 : Hid (Blk (w.alloc (.cells #[.int .u64 (n : Int), .int .u64 (life : Int), .bool last, .string ⟨t.toArray⟩] 83)) w.heap.size #[.int .u64 (n : Int), .int .u64 (life : Int), .bool last, .string ⟨t.toArray⟩] 83) := Blk.new _ _ _
  have HW0 : Hid (Below w.heap.size w (w.alloc (.cells #[.int .u64 (n : Int), .int .u64 (life : Int), .bool last, .string ⟨t.toArray⟩] 83))) := hW0
  have H1 : Hid (Calls _ _ _ _ _) := put_any none 0 0 [] (n + 1) (w.alloc (.cells #[.int .u64 (n : Int), .int .u64 (life : Int), .bool last, .string ⟨t.toArray⟩] 83)) (Src.nil _) (by omega) (by simp)
  clear hW0
  unfold pcV
  go_enter Try.func44, Try.ntmps44
  go_wp2_with fail
  refine Calls.mono H1.out ?_
  rintro e w1 ⟨g1, c1, rfl, ho1, hb1⟩
  have HO1 : Hid (Own w1 _ (.slice (some ⟨g1, 0, none⟩) (join [] (enc (n + 1))).length c1) (join [] (enc (n + 1)))) := ho1
  have hW1 : Below w.heap.size w w1 := HW0.out.trans (hb1.mono (by simp))
  have HB1 : Hid (Blk w1 w.heap.size #[.int .u64 (n : Int), .int .u64 (life : Int), .bool last, .string ⟨t.toArray⟩] 83) := HB0.out.of (hb1.block _ HB0.out.lt)
  have HW1 : Hid (Below w.heap.size w w1) := hW1
  have y1 : w1.cell? ⟨w.heap.size, 1, none⟩ = some (.int .u64 (life : Int)) := HB1.out.cell 1
  have hll1 := enc_length (n + 1)
  have H2 : Hid (Calls _ _ _ _ _) := put_any _ _ _ _ life w1 ho1.src hl (by rw [join_length]; simp; omega)
  clear ho1 hb1 hW1 H1
  go_wp2_with fail
  refine Calls.mono H2.out ?_
  rintro e w2 ⟨g2, c2, rfl, ho2, hb2⟩
  have HO2 : Hid (Own w2 _ (.slice (some ⟨g2, 0, none⟩) _ c2) (join (join [] (enc (n + 1))) (enc life))) := ho2
  have HB2 : Hid (Blk w2 w.heap.size #[.int .u64 (n : Int), .int .u64 (life : Int), .bool last, .string ⟨t.toArray⟩] 83) := HB1.out.of (hb2.block _ HB1.out.lt)
  have HW2 : Hid (Below w.heap.size w w2) := HW1.out.trans (hb2.mono HW1.out.size)
  have y2 : w2.cell? ⟨w.heap.size, 2, none⟩ = some (.bool last) := HB2.out.cell 2
  have hll2 := enc_length life
  have H3 : Hid (Calls _ _ _ _ _) := put_any _ _ _ _ (if last then 1 else 0) w2 ho2.src (by split <;> omega) (by simp only [join_length, List.length_nil]; omega)
  clear ho2 hb2 H2 y1
  have hlast : (if last then (1 : Nat) else 0) < 2 := by split <;> omega
  cases last with
  | true =>
    go_wp2_with fail
    refine Calls.mono H3.out ?_
    rintro e w3 ⟨g3, c3, rfl, ho3, hb3⟩
    have HB3 : Hid (Blk w3 w.heap.size #[.int .u64 (n : Int), .int .u64 (life : Int), .bool true, .string ⟨t.toArray⟩] 83) := HB2.out.of (hb3.block _ HB2.out.lt)
    have HW3 : Hid (Below w.heap.size w w3) := HW2.out.trans (hb3.mono HW2.out.size)
    have y3 : w3.cell? ⟨w.heap.size, 3, none⟩ = some (.string ⟨t.toArray⟩) := HB3.out.cell 3
    have hll3 := enc_length 1
    have H4 : Hid (Calls _ _ _ _ _) := text_any _ _ _ _ ⟨t.toArray⟩ w3 ho3.src (by simp only [join_length, List.length_nil, if_true]; show _ + t.toArray.size < _; simp; omega)
    clear ho3 hb3 H3 y2
    go_wp2_with fail
    refine Calls.mono H4.out ?_
    rintro e w4 ⟨g4, c4, rfl, ho4, hb4⟩
    have K : Hid (Gives w (pcBytes n life true t) (.returned (.slice (some ⟨g4, 0, none⟩) _ c4)) w4) := ⟨g4, c4, rfl, ho4.mono HW3.out.size, HW3.out.trans (hb4.mono HW3.out.size)⟩
    clear ho4 hb4 H4 y3
    go_wp2_with fail
    go_ret
    exact K.out
  | false =>
    go_wp2_with fail
    refine Calls.mono H3.out ?_
    rintro e w3 ⟨g3, c3, rfl, ho3, hb3⟩
    have HB3 : Hid (Blk w3 w.heap.size #[.int .u64 (n : Int), .int .u64 (life : Int), .bool false, .string ⟨t.toArray⟩] 83) := HB2.out.of (hb3.block _ HB2.out.lt)
    have HW3 : Hid (Below w.heap.size w w3) := HW2.out.trans (hb3.mono HW2.out.size)
    have y3 : w3.cell? ⟨w.heap.size, 3, none⟩ = some (.string ⟨t.toArray⟩) := HB3.out.cell 3
    have hll3 := enc_length 0
    have H4 : Hid (Calls _ _ _ _ _) := text_any _ _ _ _ ⟨t.toArray⟩ w3 ho3.src (by simp only [join_length, List.length_nil]; show _ + t.toArray.size < _; simp; omega)
    clear ho3 hb3 H3 y2
    go_wp2_with fail
    refine Calls.mono H4.out ?_
    rintro e w4 ⟨g4, c4, rfl, ho4, hb4⟩
    have K : Hid (Gives w (pcBytes n life false t) (.returned (.slice (some ⟨g4, 0, none⟩) _ c4)) w4) := ⟨g4, c4, rfl, ho4.mono HW3.out.size, HW3.out.trans (hb4.mono HW3.out.size)⟩
    clear ho4 hb4 H4 y3
    go_wp2_with fail
    go_ret
    exact K.out
end Go.Proofs.Ytepfckckplbjjaa
