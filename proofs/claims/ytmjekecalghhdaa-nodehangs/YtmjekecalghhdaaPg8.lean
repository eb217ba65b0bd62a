/- Pages: the document's example, and the law's own small. Own lemmas, no statement. -/
import Derived.Test.YtmjekecalghhdaaPg7
namespace Go.Proofs.Ytmjekecalghhdaa
open Go.ChangeShapes Go.WideShapes Go.ChangeAt Go.RowKit

theorem rd_madeS (w : World) (cs : List ByteArray) (hn : cs.length ≤ maxLen) : Rd (w.alloc (.cells (sv cs).toArray 9)) (.slice (some ⟨w.heap.size, 0, none⟩) cs.length cs.length) (sv cs) := by
  refine ⟨_, cs.length, by rw [sv_length], by rw [sv_length]; exact Nat.le_refl _, hn, fun e => (by cases e), fun ad e j u hu => ?_⟩
  cases e
  rw [Addr.add_mid, Nat.zero_add, Blk.cell (Blk.new _ _ _), List.getElem?_toArray]
  exact hu

def pgAX : Pg := ⟨1, [⟨#[97]⟩], [⟨#[120]⟩], [], 0, 0, 0, 0⟩
theorem pgAX_right : rightPg pgAX = true := by decide +kernel
theorem pgAX_enc : encP pgAX 5 = [1, 5, 1, 1, 97, 1, 120] := by decide +kernel
theorem pgAX_ok : pgAX.Ok := ⟨by simp [pgAX, maxLen]; decide, by simp [pgAX, maxLen]; decide, by simp [pgAX], by simp [pgAX], by simp [pgAX], by simp [pgAX], by simp [pgAX], by simp [pgAX]⟩

set_option maxRecDepth 100000 in
set_option maxHeartbeats 1000000 in
theorem head6_any (w : World) : Calls Try.prog 15 #[] w fun e w' => e = .returned (.bool true) ∧ Below w.heap.size w w' := by
  have h0 : Below w.heap.size w ((w.alloc (.cells #[.string ⟨#[97]⟩] 9)).alloc (.cells #[.string ⟨#[120]⟩] 9)) := ((Below.refl _ _).alloc (Nat.le_refl _) _).alloc (by simp) _
  have h1 : Rd ((w.alloc (.cells #[.string ⟨#[97]⟩] 9)).alloc (.cells #[.string ⟨#[120]⟩] 9)) (.slice (some ⟨w.heap.size, 0, none⟩) 1 1) (sv pgAX.keys) := Rd.below (rd_madeS w [⟨#[97]⟩] (by simp [maxLen])) ((Below.refl _ _).alloc (Nat.le_refl _) _)
  have h2 : Rd ((w.alloc (.cells #[.string ⟨#[97]⟩] 9)).alloc (.cells #[.string ⟨#[120]⟩] 9)) (.slice (some ⟨w.heap.size + 1, 0, none⟩) 1 1) (sv pgAX.vals) := by
    have := rd_madeS (w.alloc (.cells #[.string ⟨#[97]⟩] 9)) [⟨#[120]⟩] (by simp [maxLen])
    simpa [sv, pgAX] using this
  have HC : Hid (Calls Try.prog 17 #[.agg #[.int .i64 1, .slice (some ⟨w.heap.size, 0, none⟩) 1 1, .slice (some ⟨w.heap.size + 1, 0, none⟩) 1 1, .slice none 0 0, .int .i64 0, .int .i64 0, .int .i64 0, .int .i64 0], .int .u64 5] _ (EncPost pgAX 5 _)) := encode_any pgAX 5 _ _ _ _ ⟨h1, h2, Rd.nil _⟩ pgAX_ok (by omega)
  have HE : Hid (Below _ _ _) := h0
  clear h0 h1 h2
  go_enter Try.func15, Try.ntmps15
  go_wp2_with fail
  refine HC.out.mono ?_
  rintro e w1 ⟨h1, h2⟩
  rw [pgAX_right, if_pos rfl, pgAX_enc] at h1
  obtain ⟨v, rfl, hs⟩ := h1
  have HE1 : Hid (Below w.heap.size w w1) := ext_trans HE.out h2
  obtain ⟨ao, c, hv⟩ : ∃ ao c, v = .slice ao 7 c := hs.form
  subst hv
  have hc : (convert 29 9 (.slice ao 7 c)).run Try.prog w1 = .ok (.string ⟨#[1, 5, 1, 1, 97, 1, 120]⟩) w1 := hs.str
  clear hs h2 HC HE
  go_wp2
  go_ret
  exact ⟨rfl, HE1.out⟩

def smallPg (p : Pg) : Bool := decide (p.keys.length ≤ 20) && decide (p.vals.length ≤ 20) && decide (p.kids.length ≤ 20)

set_option maxHeartbeats 1000000 in
theorem small_any (p : Pg) (kv vv dv : Value) (w : World) (hp : PgAt w p kv vv dv) :
    Calls Try.prog 16 #[pgv p kv vv dv] w fun e w' => e = .returned (.bool (smallPg p)) ∧ Below w.heap.size w w' := by
  obtain ⟨ka, kc, va, vc, da, dc, rfl, rfl, rfl, b1, b2, b3⟩ := hp.forms
  have HE0 : Hid (∀ o, Below w.heap.size w (w.alloc o)) := fun o => (Below.refl _ _).alloc (Nat.le_refl _) _
  have HN : Hid (smallPg p = (decide (p.keys.length ≤ 20) && decide (p.vals.length ≤ 20) && decide (p.kids.length ≤ 20))) := rfl
  clear hp
  unfold maxLen at *
  unfold pgv
  generalize p.keys.length = kn at *
  generalize p.vals.length = vn at *
  generalize p.kids.length = dn at *
  go_enter Try.func16, Try.ntmps16
  go_wp2
  all_goals
    go_ret
    refine ⟨ret_bool ?_, HE0.out _⟩
    rw [HN.out, Bool.eq_iff_iff]
    simp_all <;> omega
end Go.Proofs.Ytmjekecalghhdaa
