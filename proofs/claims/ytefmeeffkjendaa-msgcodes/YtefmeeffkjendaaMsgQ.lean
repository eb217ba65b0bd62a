/- msg, plainly: messages, which are right, their bytes; what is laid is read again, and what was read was laid. Own lemmas, no statement. -/
import Derived.Test.YtefmeeffkjendaaRdF
set_option linter.unusedSimpArgs false
set_option linter.unusedVariables false
namespace Go.Proofs.Ytefmeeffkjendaa

structure MsgQ where
  kind : Int
  frm : Int
  dst : Int
  num : Int
  node : Int
  life : Int
  n : Int
  op : Int
  key : ByteArray
  val : ByteArray
  has : Bool
  code : Int

def hasLifeB (k : Int) : Bool := decide (k = 2 ∨ k = 3 ∨ k = 5)
def hasNB (k : Int) : Bool := decide (k = 3 ∨ k = 4 ∨ k = 5)
def hasCodeB (k : Int) : Bool := decide (k = 4 ∨ k = 6)
def nodeB (n : Int) : Bool := decide (0 ≤ n ∧ n < 64)
def lifeOk (m : MsgQ) : Bool := decide (m.life = 0 ∨ hasLifeB m.kind = true ∧ m.life ≤ 1099511627776)
def nOk (m : MsgQ) : Bool := decide (m.n = 0 ∨ hasNB m.kind = true ∧ 0 < m.n ∧ m.n ≤ 1048576)
def deedOk (m : MsgQ) : Bool := if m.kind = 3 then decide (1 ≤ m.op ∧ m.op ≤ 3 ∧ m.key.size ≠ 0 ∧ m.key.size ≤ 24) else decide (m.op = 0 ∧ m.key.size = 0)
def valOk (m : MsgQ) : Bool := decide ((m.has = false ∨ m.kind = 4) ∧ (m.val.size = 0 ∨ ((m.kind = 3 ∧ m.op = 2) ∨ m.has = true) ∧ m.val.size ≤ 48))
def codeOk (m : MsgQ) : Bool := decide (m.code = 0 ∨ hasCodeB m.kind = true ∧ 0 < m.code ∧ m.code ≤ 17)
def headOk (m : MsgQ) : Bool := decide (1 ≤ m.kind ∧ m.kind ≤ 10) && nodeB m.frm && nodeB m.dst && nodeB m.node && decide (m.num ≤ 1099511627776)
def rightM (m : MsgQ) : Bool := headOk m && lifeOk m && nOk m && deedOk m && valOk m && codeOk m

/-- The numbers that came in: of 64 bits. -/
def MsgQ.Wf (m : MsgQ) : Prop := (-9223372036854775808 ≤ m.kind ∧ m.kind < 9223372036854775808) ∧ (-9223372036854775808 ≤ m.frm ∧ m.frm < 9223372036854775808) ∧ (-9223372036854775808 ≤ m.dst ∧ m.dst < 9223372036854775808) ∧ (0 ≤ m.num ∧ m.num < 18446744073709551616) ∧ (-9223372036854775808 ≤ m.node ∧ m.node < 9223372036854775808) ∧ (0 ≤ m.life ∧ m.life < 18446744073709551616) ∧ (-9223372036854775808 ≤ m.n ∧ m.n < 9223372036854775808) ∧ (-9223372036854775808 ≤ m.op ∧ m.op < 9223372036854775808) ∧ m.key.size ≤ 9223372036854775807 ∧ m.val.size ≤ 9223372036854775807 ∧ (-9223372036854775808 ≤ m.code ∧ m.code < 9223372036854775808)

/-- What is right of a message, in plain words. -/
structure RightM (m : MsgQ) : Prop where
  kind : 1 ≤ m.kind ∧ m.kind ≤ 10
  frm : 0 ≤ m.frm ∧ m.frm < 64
  dst : 0 ≤ m.dst ∧ m.dst < 64
  node : 0 ≤ m.node ∧ m.node < 64
  num : m.num ≤ 1099511627776
  life : m.life = 0 ∨ hasLifeB m.kind = true ∧ m.life ≤ 1099511627776
  n : m.n = 0 ∨ hasNB m.kind = true ∧ 0 < m.n ∧ m.n ≤ 1048576
  deed3 : m.kind = 3 → 1 ≤ m.op ∧ m.op ≤ 3 ∧ m.key.size ≠ 0 ∧ m.key.size ≤ 24
  deed : m.kind ≠ 3 → m.op = 0 ∧ m.key.size = 0
  has : m.has = false ∨ m.kind = 4
  val : m.val.size = 0 ∨ ((m.kind = 3 ∧ m.op = 2) ∨ m.has = true) ∧ m.val.size ≤ 48
  code : m.code = 0 ∨ hasCodeB m.kind = true ∧ 0 < m.code ∧ m.code ≤ 17
theorem right_iff (m : MsgQ) : rightM m = true ↔ RightM m := by
  unfold rightM headOk lifeOk nOk deedOk valOk codeOk nodeB
  constructor
  · intro h
    simp only [Bool.and_eq_true, decide_eq_true_eq] at h
    obtain ⟨⟨⟨⟨⟨⟨⟨⟨⟨h1, h2⟩, h3⟩, h4⟩, h5⟩, h6⟩, h7⟩, h8⟩, h9⟩, h10⟩ := h
    refine ⟨h1, h2, h3, h4, h5, h6, h7, fun k => ?_, fun k => ?_, h9.1, h9.2, h10⟩
    · rw [if_pos k] at h8; simpa using h8
    · rw [if_neg k] at h8; simpa using h8
  · intro h
    simp only [Bool.and_eq_true, decide_eq_true_eq]
    refine ⟨⟨⟨⟨⟨⟨⟨⟨⟨h.kind, h.frm⟩, h.dst⟩, h.node⟩, h.num⟩, h.life⟩, h.n⟩, ?_⟩, h.has, h.val⟩, h.code⟩
    by_cases k : m.kind = 3
    · rw [if_pos k]; simpa using h.deed3 k
    · rw [if_neg k]; simpa using h.deed k

/-- A message's bytes. -/
def lifeB (k v : Int) : List UInt8 := if hasLifeB k = true then intB v else []
def nB (k v : Int) : List UInt8 := if hasNB k = true then intB v else []
def doB (k op : Int) (key val : ByteArray) : List UInt8 := if k = 3 then intB op ++ (textB key ++ textB val) else []
def codeB (k v : Int) : List UInt8 := if hasCodeB k = true then intB v else []
def didB (k : Int) (has : Bool) (val : ByteArray) : List UInt8 := if k = 4 then enc (flagN has) ++ textB val else []
def bodyB (m : MsgQ) : List UInt8 := lifeB m.kind m.life ++ (nB m.kind m.n ++ (doB m.kind m.op m.key m.val ++ (codeB m.kind m.code ++ didB m.kind m.has m.val)))
def msgB (m : MsgQ) : List UInt8 := intB m.kind ++ (intB m.frm ++ (intB m.dst ++ (tidB m.num m.node ++ bodyB m)))

/-- How a message is read. -/
def rlife (k : Int) : RF Int := if hasLifeB k = true then rint 1099511627776 else rp 0
def rn (k : Int) : RF Int := if hasNB k = true then rint 1048576 else rp 0
def rcode (k : Int) : RF Int := if hasCodeB k = true then rint 17 else rp 0
def rdo (k : Int) : RF (Int × ByteArray × ByteArray) := if k = 3 then rb (rint 3) fun o => rb (rstr 24) fun s => rb (rstr 48) fun v => rp (o, s, v) else rp (0, .empty, .empty)
def rdid (k : Int) (v : ByteArray) : RF (Bool × ByteArray) := if k = 4 then rb rflag fun b => rb (rstr 48) fun v => rp (b, v) else rp (false, v)
def rbody (k f t : Int) (d : Int × Int) : RF MsgQ :=
  rb (rlife k) fun a => rb (rn k) fun b => rb (rdo k) fun o => rb (rcode k) fun c => rb (rdid k o.2.2) fun p => rp ⟨k, f, t, d.1, d.2, a, b, o.1, o.2.1, p.2, p.1, c⟩
def rmsg : RF MsgQ := rb (rint 10) fun k => rb (rint 63) fun f => rb (rint 63) fun t => rb rtidI fun d => rbody k f t d

theorem empty_of {s : ByteArray} (h : s.size = 0) : s = .empty := by
  cases s with
  | mk a =>
    have : a = #[] := Array.eq_empty_of_size_eq_zero h
    rw [this]; rfl
theorem beq_str (a b : ByteArray) : (a.toList == b.toList) = decide (a = b) := by
  rw [Bool.eq_iff_iff, beq_iff_eq, decide_eq_true_iff, ByteArray.toList_eq, ByteArray.toList_eq]
  exact ⟨fun h => ByteArray.ext (Array.toList_inj.1 h), fun h => by rw [h]⟩
theorem empty_eq {s : ByteArray} (h : s.toList.isEmpty = true) : s = .empty := by
  have h1 : (s.toList == ByteArray.empty.toList) = true := by
    rw [List.isEmpty_iff] at h
    rw [h]
    kernel_rfl
  rw [beq_str] at h1
  exact of_decide_eq_true h1
theorem msg_read {m : MsgQ} (h : RightM m) (h0 : 0 ≤ m.num) (h1 : 0 ≤ m.life) : Rb rmsg (msgB m) m := by
  have hk := h.kind
  refine Rb.bind (Rb.int (by omega) (by omega) (by omega)) (Rb.bind (Rb.int h.frm.1 (by have := h.frm.2; omega) (by omega)) (Rb.bind (Rb.int h.dst.1 (by have := h.dst.2; omega) (by omega)) (Rb.bind (Rb.tid h0 h.num h.node.1 h.node.2) ?_)))
  have e1 : Rb (rlife m.kind) (lifeB m.kind m.life) m.life := by
    refine Rb.ite (fun c => Rb.int h1 ?_ (by omega)) (fun c => ?_)
    · rcases h.life with e | e
      · omega
      · omega
    · rcases h.life with e | e
      · rw [e]; exact Rb.pure _
      · exact absurd e.1 c
  have e2 : Rb (rn m.kind) (nB m.kind m.n) m.n := by
    refine Rb.ite (fun c => Rb.int ?_ ?_ (by omega)) (fun c => ?_)
    · rcases h.n with e | e <;> omega
    · rcases h.n with e | e <;> omega
    · rcases h.n with e | e
      · rw [e]; exact Rb.pure _
      · exact absurd e.1 c
  have e4 : Rb (rcode m.kind) (codeB m.kind m.code) m.code := by
    refine Rb.ite (fun c => Rb.int ?_ ?_ (by omega)) (fun c => ?_)
    · rcases h.code with e | e <;> omega
    · rcases h.code with e | e <;> omega
    · rcases h.code with e | e
      · rw [e]; exact Rb.pure _
      · exact absurd e.1 c
  have hv : m.val.size ≤ 48 := by rcases h.val with e | e <;> omega
  refine Rb.bind e1 (Rb.bind e2 ?_)
  by_cases k3 : m.kind = 3
  · obtain ⟨d1, d2, d3, d4⟩ := h.deed3 k3
    have hh : m.has = false := by
      rcases h.has with e | e
      · exact e
      · omega
    have e3 : Rb (rdo m.kind) (doB m.kind m.op m.key m.val) (m.op, m.key, m.val) := by
      unfold rdo doB
      rw [if_pos k3, if_pos k3]
      exact Rb.bind (Rb.int (by omega) (by omega) (by omega)) (Rb.bind (Rb.str d4 (by omega)) (Rb.last (Rb.str hv (by omega)) rfl))
    refine Rb.bind e3 (Rb.bind e4 (Rb.last (x := (m.has, m.val)) ?_ rfl))
    unfold rdid didB
    rw [if_neg (by omega), if_neg (by omega), hh]
    exact Rb.pure _
  · obtain ⟨d1, d2⟩ := h.deed k3
    have e3 : Rb (rdo m.kind) (doB m.kind m.op m.key m.val) (m.op, m.key, .empty) := by
      unfold rdo doB
      rw [if_neg k3, if_neg k3, d1, empty_of d2]
      exact Rb.pure _
    refine Rb.bind e3 (Rb.bind e4 (Rb.last (x := (m.has, m.val)) ?_ rfl))
    unfold rdid didB
    by_cases k4 : m.kind = 4
    · rw [if_pos k4, if_pos k4]
      exact Rb.bind (Rb.flag _) (Rb.last (Rb.str hv (by omega)) rfl)
    · rw [if_neg k4, if_neg k4]
      have hh : m.has = false := by
        rcases h.has with e | e
        · exact e
        · omega
      have hv0 : m.val.size = 0 := by
        rcases h.val with e | e
        · exact e
        · rcases e.1 with e | e
          · omega
          · rw [hh] at e; cases e
      rw [hh, empty_of hv0]
      exact Rb.pure _
/-- Bytes tell messages apart, and none begins another's. -/
theorem msg_apart {x y : MsgQ} {r : List UInt8} (hx : RightM x) (x0 : 0 ≤ x.num) (x1 : 0 ≤ x.life) (hy : RightM y) (y0 : 0 ≤ y.num) (y1 : 0 ≤ y.life) (h : msgB x = msgB y ++ r) : x = y ∧ r = [] := by
  have h1 := msg_read hx x0 x1 []
  have h2 := msg_read hy y0 y1 r
  rw [List.append_nil, h, h2] at h1
  simp only [Prod.mk.injEq] at h1
  exact ⟨h1.1.symm, h1.2.1⟩
theorem ite_part {c P Q : Prop} [Decidable c] {B X : List UInt8} (p : if c then (P ∧ B = X) else (Q ∧ B = [])) : B = if c then X else [] := by
  by_cases h : c
  · rw [if_pos h] at p ⊢; exact p.2
  · rw [if_neg h] at p ⊢; exact p.2
theorem msg_inv (l : List UInt8) (e : Nat) (h : (rmsg l e).2.2 = 0) : e = 0 ∧ l = msgB (rmsg l e).1 ++ (rmsg l e).2.1 := by
  have hd : ∀ k, Iw (rdo k) (fun y B => if k = 3 then B = intB y.1 ++ (textB y.2.1 ++ textB y.2.2) else B = []) := fun k => by
    unfold rdo
    intro l e h
    by_cases c : k = 3
    · rw [if_pos c] at h ⊢
      obtain ⟨a, B, ⟨x, B1, B2, p1, ⟨x2, B3, B4, p2, ⟨x3, B5, B6, p3, ⟨p4, p5⟩, p6⟩, p7⟩, p8⟩, p9⟩ := (Iw.bind (Iw.int 3) fun o => Iw.bind (Iw.str 24) fun s => Iw.bind (Iw.str 48) fun v => Iw.pure (o, s, v)) l e h
      refine ⟨a, B, ?_, p9⟩
      show (if k = 3 then _ else _)
      rw [if_pos c, p4, p8, p7, p6, p5, p1.2, p2, p3, List.append_nil]
    · rw [if_neg c] at h ⊢
      exact ⟨h, [], by show (if k = 3 then _ else _); rw [if_neg c], rfl⟩
  have hdid : ∀ k v, Iw (rdid k v) (fun y B => if k = 4 then B = enc (flagN y.1) ++ textB y.2 else y = (false, v) ∧ B = []) := fun k v => by
    unfold rdid
    intro l e h
    by_cases c : k = 4
    · rw [if_pos c] at h ⊢
      obtain ⟨a, B, ⟨x, B1, B2, p1, ⟨x2, B3, B4, p2, ⟨p4, p5⟩, p7⟩, p8⟩, p9⟩ := (Iw.bind Iw.flag fun o => Iw.bind (Iw.str 48) fun v => Iw.pure (o, v)) l e h
      refine ⟨a, B, ?_, p9⟩
      show (if k = 4 then _ else _)
      rw [if_pos c, p4, p8, p7, p5, p1, p2, List.append_nil]
    · rw [if_neg c] at h ⊢
      exact ⟨h, [], by show (if k = 4 then _ else _); rw [if_neg c]; exact ⟨rfl, rfl⟩, rfl⟩
  obtain ⟨a, B, ⟨k, B1, _, p1, ⟨f, B2, _, p2, ⟨t, B3, _, p3, ⟨d, B4, _, p4, ⟨li, B5, _, p5, ⟨n, B6, _, p6, ⟨o, B7, _, p7, ⟨c, B8, _, p8, ⟨p, B9, _, p9, ⟨q1, rfl⟩, rfl⟩, rfl⟩, rfl⟩, rfl⟩, rfl⟩, rfl⟩, rfl⟩, rfl⟩, rfl⟩, pl⟩ :=
    (Iw.bind (Iw.int 10) fun k => Iw.bind (Iw.int 63) fun f => Iw.bind (Iw.int 63) fun t => Iw.bind Iw.tid fun d =>
      Iw.bind (Iw.ite (c := hasLifeB k = true) (Iw.int 1099511627776) (Iw.pure 0)) fun a => Iw.bind (Iw.ite (c := hasNB k = true) (Iw.int 1048576) (Iw.pure 0)) fun b => Iw.bind (hd k) fun o => Iw.bind (Iw.ite (c := hasCodeB k = true) (Iw.int 17) (Iw.pure 0)) fun c => Iw.bind (hdid k o.2.2) fun p => Iw.pure (⟨k, f, t, d.1, d.2, a, b, o.1, o.2.1, p.2, p.1, c⟩ : MsgQ)) l e h
  refine ⟨a, ?_⟩
  have hq : (rmsg l e).1 = ⟨k, f, t, d.1, d.2, li, n, o.1, o.2.1, p.2, p.1, c⟩ := q1
  have hl : l = _ ++ (rmsg l e).2.1 := pl
  rw [hq]
  refine hl.trans ?_
  congr 1
  unfold msgB bodyB lifeB nB doB codeB didB
  simp only
  rw [p1.2, p2.2, p3.2, p4]
  congr 4
  have g5 : B5 = if hasLifeB k = true then intB li else [] := ite_part p5
  have g6 : B6 = if hasNB k = true then intB n else [] := ite_part p6
  have g8 : B8 = if hasCodeB k = true then intB c else [] := ite_part p8
  rw [g5, g6, g8, List.append_nil]
  congr 2
  by_cases k3 : k = 3
  · have k4 : ¬ k = 4 := by omega
    rw [if_pos k3] at p7
    rw [if_neg k4] at p9
    rw [if_pos k3, if_neg k4, p7, p9.2, p9.1]
  · rw [if_neg k3] at p7
    rw [if_neg k3, p7]
    congr 2
    by_cases k4 : k = 4
    · rw [if_pos k4] at p9 ⊢
      exact p9
    · rw [if_neg k4] at p9 ⊢
      exact p9.2
theorem encF_len (k : Nat) : ∀ (f n : Nat), k ≤ f → n < 128 ^ k → 0 < k → (encF f n).length ≤ k := by
  induction k with
  | zero => intro f n _ _ h; omega
  | succ k ih =>
    intro f n hf hn _
    cases f with
    | zero => omega
    | succ f =>
      by_cases h : n < 128
      · rw [encF_small h]; simp
      · rw [encF_great (by omega), List.length_cons]
        have hk : 0 < k := by
          cases k with
          | zero => simp at hn; omega
          | succ k => omega
        have := ih f (n / 128) (by omega) (by rw [Nat.pow_succ] at hn; omega) hk
        omega
theorem enc_len {n : Nat} (k : Nat) (hk : 0 < k) (h10 : k ≤ 10) (h : n < 128 ^ k) : (enc n).length ≤ k := encF_len k 10 n h10 h hk
theorem msg_len {m : MsgQ} (h : RightM m) (h1 : 0 ≤ m.life) : (msgB m).length ≤ 150 := by
  have hk := h.kind
  have hv : m.val.size ≤ 48 := by rcases h.val with e | e <;> omega
  have a1 : (intB m.kind).length ≤ 1 := enc_len 1 (by omega) (by omega) (by omega)
  have a2 : (intB m.frm).length ≤ 1 := enc_len 1 (by omega) (by omega) (by have := h.frm; omega)
  have a3 : (intB m.dst).length ≤ 1 := enc_len 1 (by omega) (by omega) (by have := h.dst; omega)
  have a4 : (tidB m.num m.node).length ≤ 7 := by
    unfold tidB
    rw [List.length_append, uns_small h.node.1 h.node.2]
    have b1 : (enc m.num.toNat).length ≤ 6 := enc_len 6 (by omega) (by omega) (by have := h.num; omega)
    have b2 : (enc m.node.toNat).length ≤ 1 := enc_len 1 (by omega) (by omega) (by have := h.node; omega)
    omega
  have a5 : (lifeB m.kind m.life).length ≤ 6 := by
    unfold lifeB
    split
    · exact enc_len 6 (by omega) (by omega) (by rcases h.life with e | e <;> omega)
    · simp
  have a6 : (nB m.kind m.n).length ≤ 3 := by
    unfold nB
    split
    · exact enc_len 3 (by omega) (by omega) (by rcases h.n with e | e <;> omega)
    · simp
  have a7 : (doB m.kind m.op m.key m.val).length ≤ 75 := by
    unfold doB
    split
    · rename_i k3
      obtain ⟨d1, d2, d3, d4⟩ := h.deed3 k3
      unfold textB
      simp only [List.length_append]
      have b1 : (intB m.op).length ≤ 1 := enc_len 1 (by omega) (by omega) (by omega)
      have b2 : (enc m.key.size).length ≤ 1 := enc_len 1 (by omega) (by omega) (by omega)
      have b3 : (enc m.val.size).length ≤ 1 := enc_len 1 (by omega) (by omega) (by omega)
      have b4 : m.key.data.toList.length = m.key.size := rfl
      have b5 : m.val.data.toList.length = m.val.size := rfl
      omega
    · simp
  have a8 : (codeB m.kind m.code).length ≤ 1 := by
    unfold codeB
    split
    · exact enc_len 1 (by omega) (by omega) (by rcases h.code with e | e <;> omega)
    · simp
  have a9 : (didB m.kind m.has m.val).length ≤ 50 := by
    unfold didB
    split
    · unfold textB
      simp only [List.length_append]
      have b1 : (enc (flagN m.has)).length ≤ 1 := enc_len 1 (by omega) (by omega) (by cases m.has <;> decide)
      have b3 : (enc m.val.size).length ≤ 1 := enc_len 1 (by omega) (by omega) (by omega)
      have b5 : m.val.data.toList.length = m.val.size := rfl
      omega
    · simp
  unfold msgB bodyB
  simp only [List.length_append]
  omega
end Go.Proofs.Ytefmeeffkjendaa
