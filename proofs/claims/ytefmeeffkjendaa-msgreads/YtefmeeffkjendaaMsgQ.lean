/- msg, plainly: messages, which are right, their bytes; what is laid is read again, and what was read was laid. Own lemmas, no statement. -/
import Derived.Test.YtefmeeffkjendaaRdF
set_option linter.unusedSimpArgs false
set_option linter.unusedVariables false
namespace Go.Proofs.Ytefmeeffkjendaa

structure MsgQ where
  kind : Int
  frm : Int
  dst : Int
  num : Int
  node : Int
  life : Int
  n : Int
  op : Int
  key : ByteArray
  val : ByteArray
  has : Bool
  code : Int

def hasLifeB (k : Int) : Bool := decide (k = 2 ∨ k = 3 ∨ k = 5)
def hasNB (k : Int) : Bool := decide (k = 3 ∨ k = 4 ∨ k = 5)
def hasCodeB (k : Int) : Bool := decide (k = 4 ∨ k = 6)
def nodeB (n : Int) : Bool := decide (0 ≤ n ∧ n < 64)
def lifeOk (m : MsgQ) : Bool := decide (m.life = 0 ∨ hasLifeB m.kind = true ∧ m.life ≤ 1099511627776)
def nOk (m : MsgQ) : Bool := decide (m.n = 0 ∨ hasNB m.kind = true ∧ 0 < m.n ∧ m.n ≤ 1048576)
def deedOk (m : MsgQ) : Bool := if m.kind = 3 then decide (1 ≤ m.op ∧ m.op ≤ 3 ∧ m.key.size ≠ 0 ∧ m.key.size ≤ 24) else decide (m.op = 0 ∧ m.key.size = 0)
def valOk (m : MsgQ) : Bool := decide ((m.has = false ∨ m.kind = 4) ∧ (m.val.size = 0 ∨ ((m.kind = 3 ∧ m.op = 2) ∨ m.has = true) ∧ m.val.size ≤ 48))
def codeOk (m : MsgQ) : Bool := decide (m.code = 0 ∨ hasCodeB m.kind = true ∧ 0 < m.code ∧ m.code ≤ 17)
def headOk (m : MsgQ) : Bool := decide (1 ≤ m.kind ∧ m.kind ≤ 10) && nodeB m.frm && nodeB m.dst && nodeB m.node && decide (m.num ≤ 1099511627776)
def rightM (m : MsgQ) : Bool := headOk m && lifeOk m && nOk m && deedOk m && valOk m && codeOk m

/-- The numbers that came in: of 64 bits. -/
def MsgQ.Wf (m : MsgQ) : Prop := (-9223372036854775808 ≤ m.kind ∧ m.kind < 9223372036854775808) ∧ (-9223372036854775808 ≤ m.frm ∧ m.frm < 9223372036854775808) ∧ (-9223372036854775808 ≤ m.dst ∧ m.dst < 9223372036854775808) ∧ (0 ≤ m.num ∧ m.num < 18446744073709551616) ∧ (-9223372036854775808 ≤ m.node ∧ m.node < 9223372036854775808) ∧ (0 ≤ m.life ∧ m.life < 18446744073709551616) ∧ (-9223372036854775808 ≤ m.n ∧ m.n < 9223372036854775808) ∧ (-9223372036854775808 ≤ m.op ∧ m.op < 9223372036854775808) ∧ m.key.size ≤ 9223372036854775807 ∧ m.val.size ≤ 9223372036854775807 ∧ (-9223372036854775808 ≤ m.code ∧ m.code < 9223372036854775808)

/-- What is right of a message, in plain words. -/
structure RightM (m : MsgQ) : Prop where
  kind : 1 ≤ m.kind ∧ m.kind ≤ 10
  frm : 0 ≤ m.frm ∧ m.frm < 64
  dst : 0 ≤ m.dst ∧ m.dst < 64
  node : 0 ≤ m.node ∧ m.node < 64
  num : m.num ≤ 1099511627776
  life : m.life = 0 ∨ hasLifeB m.kind = true ∧ m.life ≤ 1099511627776
  n : m.n = 0 ∨ hasNB m.kind = true ∧ 0 < m.n ∧ m.n ≤ 1048576
  deed3 : m.kind = 3 → 1 ≤ m.op ∧ m.op ≤ 3 ∧ m.key.size ≠ 0 ∧ m.key.size ≤ 24
  deed : m.kind ≠ 3 → m.op = 0 ∧ m.key.size = 0
  has : m.has = false ∨ m.kind = 4
  val : m.val.size = 0 ∨ ((m.kind = 3 ∧ m.op = 2) ∨ m.has = true) ∧ m.val.size ≤ 48
  code : m.code = 0 ∨ hasCodeB m.kind = true ∧ 0 < m.code ∧ m.code ≤ 17
theorem right_iff (m : MsgQ) : rightM m = true ↔ RightM m := by
  unfold rightM headOk lifeOk nOk deedOk valOk codeOk nodeB
  constructor
  · intro h
    simp only [Bool.and_eq_true, decide_eq_true_eq] at h
    obtain ⟨⟨⟨⟨⟨⟨⟨⟨⟨h1, h2⟩, h3⟩, h4⟩, h5⟩, h6⟩, h7⟩, h8⟩, h9⟩, h10⟩ := h
    refine ⟨h1, h2, h3, h4, h5, h6, h7, fun k => ?_, fun k => ?_, h9.1, h9.2, h10⟩
    · rw [if_pos k] at h8; simpa using h8
    · rw [if_neg k] at h8; simpa using h8
  · intro h
    simp only [Bool.and_eq_true, decide_eq_true_eq]
    refine ⟨⟨⟨⟨⟨⟨⟨⟨⟨h.kind, h.frm⟩, h.dst⟩, h.node⟩, h.num⟩, h.life⟩, h.n⟩, ?_⟩, h.has, h.val⟩, h.code⟩
    by_cases k : m.kind = 3
    · rw [if_pos k]; simpa using h.deed3 k
    · rw [if_neg k]; simpa using h.deed k

/-- A message's bytes. -/
def lifeB (k v : Int) : List UInt8 := if hasLifeB k = true then intB v else []
def nB (k v : Int) : List UInt8 := if hasNB k = true then intB v else []
def doB (k op : Int) (key val : ByteArray) : List UInt8 := if k = 3 then intB op ++ (textB key ++ textB val) else []
def codeB (k v : Int) : List UInt8 := if hasCodeB k = true then intB v else []
def didB (k : Int) (has : Bool) (val : ByteArray) : List UInt8 := if k = 4 then enc (flagN has) ++ textB val else []
def bodyB (m : MsgQ) : List UInt8 := lifeB m.kind m.life ++ (nB m.kind m.n ++ (doB m.kind m.op m.key m.val ++ (codeB m.kind m.code ++ didB m.kind m.has m.val)))
def msgB (m : MsgQ) : List UInt8 := intB m.kind ++ (intB m.frm ++ (intB m.dst ++ (tidB m.num m.node ++ bodyB m)))

theorem empty_of {s : ByteArray} (h : s.size = 0) : s = .empty := by
  cases s with
  | mk a =>
    have : a = #[] := Array.eq_empty_of_size_eq_zero h
    rw [this]; rfl
theorem beq_str (a b : ByteArray) : (a.toList == b.toList) = decide (a = b) := by
  rw [Bool.eq_iff_iff, beq_iff_eq, decide_eq_true_iff, ByteArray.toList_eq, ByteArray.toList_eq]
  exact ⟨fun h => ByteArray.ext (Array.toList_inj.1 h), fun h => by rw [h]⟩
theorem empty_eq {s : ByteArray} (h : s.toList.isEmpty = true) : s = .empty := by
  have h1 : (s.toList == ByteArray.empty.toList) = true := by
    rw [List.isEmpty_iff] at h
    rw [h]
    kernel_rfl
  rw [beq_str] at h1
  exact of_decide_eq_true h1
end Go.Proofs.Ytefmeeffkjendaa
