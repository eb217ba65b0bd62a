/- What the Go texts of num.Put, num.Text, num.Tid and the law's own put come to; the document's example. Own lemmas, no statement. -/
import Derived.Test.YtefmeeffkjendaaLay
import Derived.Test.YtefmeeffkjendaaSrc
import Derived.Lib.AppendStr
import Derived.Deep.RegionWith
namespace Go.Proofs.Ytefmeeffkjendaa
open Go.ChangeShapes Go.WideShapes Go.ChangeAt Go.RowKit

theorem enc_ne (n : Nat) : enc n ≠ [] := by unfold enc encF; split <;> simp
theorem join_ne {l m : List UInt8} (h : m ≠ []) : join l m ≠ [] := by unfold join; simp [h]
theorem join_length (l m : List UInt8) : (join l m).length = l.length + m.length := by simp [join]

set_option maxHeartbeats 400000 in
theorem put_any (ao : Option Addr) (n c : Nat) (l : List UInt8) (N : Nat) (w : World) (hs : Src w (.slice ao n c) l) (hN : N < 18446744073709551616) (hl : l.length < 900000000000) :
    Calls Try.prog 16 #[.slice ao n c, .int .u64 N] w (Gives w (join l (enc N))) := by
  obtain ⟨rfl, h1, h2, h3⟩ := hs.at
  go_enter Try.func16, Try.ntmps16
  go_wp2_with fail
  refine (apart_any ao c l 10 10 _ rfl h3 h1 h2 (by omega)).mono ?_
  rintro e w1 ⟨v1, rfl, hown1, hb1, _⟩
  go_wp2_with fail
  refine (lay_any w.heap.size v1 l N w1 hown1 hb1.size hN (by omega)).mono ?_
  rintro e w2 ⟨v2, rfl, hown2, hb2⟩
  obtain ⟨g, cap, rfl, _⟩ := Own.form hown2 (join_ne (enc_ne N))
  have hb3 := hb1.trans hb2
  clear hown1 hb1 hb2
  have H2 : Hid (Own w2 w.heap.size (.slice (some ⟨g, 0, none⟩) (join l (enc N)).length cap) (join l (enc N))) := hown2
  clear hown2
  go_wp2
  go_ret
  exact ⟨g, cap, rfl, H2.out, hb3⟩

theorem wpList_text {ops : Array Oper} {rest : List Oper} {o : Oper} {a : Act} {Q : Exit → Act → World → Prop} (w : World) (hgd : o.guard = none) (s x : Operand)
    (ho : o.op = .call { callee := .builtin .append, args := #[s, x], argTypes := #[29, 9] })
    (B : Nat) (v : Value) (l : List UInt8) (t : ByteArray) (hown : Own w B v l) (hs : a.eval s = v) (hx : a.eval x = .string t)
    (hl : l.length + t.size < 1099511627776) (hB : B ≤ w.heap.size)
    (hK : ∀ v' w', Own w' B v' (join l t.data.toList) → w.grownBy w' v.ownBlock → wpList Try.prog ops Q rest (a.put o.dst v') w') :
    wpList Try.prog ops Q (o :: rest) a w := by
  obtain ⟨i0, hi, hz0, hz1, hz2⟩ := info_parts info8
  refine Lib.wpList_append_own_string _ hgd s x 29 9 ho B 5 i0 Try.underlying29 Try.underlying9 hi hz0 hz1 hz2 v l.length (bv l) hs hown t hx (by unfold maxLen; omega) (by omega) hB ?_
  intro v' w' k1 k2 _
  refine hK v' w' ?_ k2
  unfold Own join
  rw [List.length_append, bv_append]
  exact k1

set_option maxHeartbeats 400000 in
theorem text_any (ao : Option Addr) (n c : Nat) (l : List UInt8) (s : ByteArray) (w : World) (hs : Src w (.slice ao n c) l) (hl : l.length + s.size < 900000000000) :
    Calls Try.prog 18 #[.slice ao n c, .string s] w (Gives w (join (join l (enc s.size)) s.data.toList)) := by
  obtain ⟨rfl, h1, h2, h3⟩ := hs.at
  clear hs
  have he := enc_length s.size
  have hj := join_length l (enc s.size)
  have HJ : Hid ((join l (enc s.size)).length = l.length + (enc s.size).length) := hj
  clear hj
  go_enter Try.func18, Try.ntmps18
  go_wp2_with fail
  refine (apart_any ao c l _ (10 + s.size) _ (by omega) h3 h1 h2 (by omega)).mono ?_
  rintro e w1 ⟨v1, rfl, hown1, hb1, _⟩
  go_wp2_with fail
  refine (lay_any w.heap.size v1 l s.size w1 hown1 hb1.size (by omega) (by omega)).mono ?_
  rintro e w2 ⟨v2, rfl, hown2, hb2⟩
  have hb3 := hb1.trans hb2
  clear hown1 hb1 hb2
  go_wp2_with (first | (at_builtin; refine wpList_text _ rfl _ _ rfl w.heap.size _ _ s hown2 rfl rfl (by rw [HJ.out]; omega) hb3.size ?_))
  intro v3 w3 hown3 hg
  have hb4 := hb3.grown hg hb3.size (fun k hk => (hown2.lt k hk).1)
  obtain ⟨g, cap, hv, _⟩ : ∃ g cap, v3 = .slice (some ⟨g, 0, none⟩) (join (join l (enc s.size)) s.data.toList).length cap ∧ True := by
    have hne : join (join l (enc s.size)) s.data.toList ≠ [] := by
      have h := join_ne (l := l) (enc_ne s.size)
      revert h
      generalize join l (enc s.size) = q
      intro h
      unfold join
      simp [h]
    obtain ⟨g, cap, h, _⟩ := Own.form hown3 hne
    exact ⟨g, cap, h, trivial⟩
  rw [hv]
  rw [hv] at hown3
  have H3 : Hid (Own w3 w.heap.size (.slice (some ⟨g, 0, none⟩) (join (join l (enc s.size)) s.data.toList).length cap) (join (join l (enc s.size)) s.data.toList)) := hown3
  clear hown3 hown2 hg hb3 hv
  go_wp2
  go_ret
  exact ⟨g, cap, rfl, H3.out, hb4⟩

/-- A node's number as one of 64 bits. -/
def uns (y : Int) : Nat := (y % 18446744073709551616).toNat
theorem uns_lt (y : Int) : uns y < 18446744073709551616 := by unfold uns; omega
theorem uns_wrap (y : Int) : IntKind.u64.wrap y = (uns y : Int) := by unfold uns; rw [IntKind.wrap_u64]; omega

set_option maxHeartbeats 1000000 in
theorem tid_any (ao : Option Addr) (n c : Nat) (l : List UInt8) (x : Nat) (y : Int) (w : World) (hs : Src w (.slice ao n c) l) (hx : x < 18446744073709551616) (hl : l.length < 800000000000) :
    Calls Try.prog 14 #[.slice ao n c, .agg #[.int .u64 x, .int .i64 y]] w (Gives w (join (join l (enc x)) (enc (uns y)))) := by
  obtain ⟨rfl, h1, h2, h3⟩ := hs.at
  clear hs
  have hb0 : Below w.heap.size w (w.alloc (.cells #[.int .u64 (x : Int), .int .i64 y] 24)).drew := ((Below.refl _ _).alloc (Nat.le_refl _) _).drew
  have hsA : SrcAt (w.alloc (.cells #[.int .u64 (x : Int), .int .i64 y] 24)).drew ao c l := ((Src.below ⟨ao, c, rfl, h1, h2, h3⟩ hb0).at).2.2.2
  have hy := uns_wrap y
  go_enter Try.func14, Try.ntmps14
  go_wp2
  go_region_with (first | (go_at_call 35; refine (apart_any ao c l 20 20 _ rfl (by exact hsA) h1 h2 (by omega)).mono ?_; rintro e w1 ⟨v1, rfl, hown1, hb1, _⟩; have hc0 := (hb1.cell (p := ⟨w.heap.size, 0, none⟩) (by simp)); have hc1 := (hb1.cell (p := ⟨w.heap.size, 1, none⟩) (by simp)); simp at hc0 hc1) | (go_at_call 34; refine (lay_any _ v1 l x w1 (by exact hown1) (by exact hb1.size) hx (by omega)).mono ?_; rintro e w2 ⟨v2, rfl, hown2, hb2⟩))
  all_goals
    have hd1 : w2.cell? ⟨w.heap.size, 1, none⟩ = some (.int .i64 y) := (hb2.cell (p := ⟨w.heap.size, 1, none⟩) (by simp)).trans hc1
    have hb3 : Below w.heap.size w w2 := hb0.trans ((hb1.trans hb2).mono (by simp))
    have hsz : (w.alloc (.cells #[.int .u64 (x : Int), .int .i64 y] 24)).drew.heap.size ≤ w2.heap.size := (hb1.trans hb2).size
    have hj := join_length l (enc x)
    have HJ : Hid ((join l (enc x)).length = l.length + (enc x).length) := hj
    have he := enc_length x
    clear hown1 hb1 hb2 hc0 hc1 hsA h3 hb0 hj
    go_wp2_with fail
    refine (lay_any _ v2 (join l (enc x)) (uns y) w2 hown2 hsz (uns_lt y) (by rw [HJ.out]; omega)).mono ?_
    rintro e w3 ⟨v3, rfl, hown3, hb4⟩
    have hb5 : Below w.heap.size w w3 := hb3.trans (hb4.mono (by simp))
    have hown4 : Own w3 w.heap.size v3 (join (join l (enc x)) (enc (uns y))) := hown3.mono (by simp)
    obtain ⟨g, cap, rfl, _⟩ := Own.form hown4 (join_ne (enc_ne _))
    have H2 : Hid (Own w3 w.heap.size (.slice (some ⟨g, 0, none⟩) (join (join l (enc x)) (enc (uns y))).length cap) (join (join l (enc x)) (enc (uns y)))) := hown4
    clear hown4 hown3 hb4 hown2 hd1 hsz
    go_wp2
    go_ret
    exact ⟨g, cap, rfl, H2.out, hb5⟩

end Go.Proofs.Ytefmeeffkjendaa
