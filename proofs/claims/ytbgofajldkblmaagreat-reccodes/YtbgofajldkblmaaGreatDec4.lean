/- Reading pages: what Decode comes to, plainly. Own lemmas, no statement. -/
import Derived.Test.YtbgofajldkblmaaGreatDec3
namespace Go.Proofs.YtbgofajldkblmaaGreat
open Go.ChangeShapes Go.WideShapes Go.ChangeAt Go.RowKit

def pk (k : Nat) : Pg := ⟨(k : Int), [], [], [], 0, 0, 0, 0⟩
structure DS where
  p : Pg
  l : List UInt8
  e : Nat
def kindR (l : List UInt8) : Nat × List UInt8 × Nat := rnum l 0 4
def lsnR (l : List UInt8) : Nat × List UInt8 × Nat := rnum (kindR l).2.1 (kindR l).2.2 9223372036854775807
def lfR (l : List UInt8) (e : Nat) : LS := leafR (rnum l e 6).2.1 (rnum l e 6).2.2 (rnum l e 6).1
def inR (l : List UInt8) (e : Nat) : IS := innR (rnum l e 8).2.1 (rnum l e 8).2.2 (rnum l e 8).1
def m1R (l : List UInt8) (e : Nat) : Nat × List UInt8 × Nat := rnum l e 65535
def m2R (l : List UInt8) (e : Nat) : Nat × List UInt8 × Nat := rnum (m1R l e).2.1 (m1R l e).2.2 65535
def m3R (l : List UInt8) (e : Nat) : Nat × List UInt8 × Nat := rnum (m2R l e).2.1 (m2R l e).2.2 65536
def m4R (l : List UInt8) (e : Nat) : Nat × List UInt8 × Nat := rnum (m3R l e).2.1 (m3R l e).2.2 65536
def mePg (l : List UInt8) (e : Nat) : Pg := ⟨3, [], [], [], ((m1R l e).1 : Int), ((m2R l e).1 : Int), ((m3R l e).1 : Int), ((m4R l e).1 : Int)⟩
def frPg (l : List UInt8) (e : Nat) : Pg := ⟨4, [], [], [], 0, ((m1R l e).1 : Int), 0, 0⟩
def bodyR (k : Nat) (l : List UInt8) (e : Nat) : DS :=
  if k = 1 then ⟨withL (pk 1) (lfR l e), (lfR l e).l, (lfR l e).e⟩
  else if k = 2 then ⟨withI (pk 2) (inR l e), (inR l e).l, (inR l e).e⟩
  else if k = 3 then ⟨mePg l e, (m4R l e).2.1, (m4R l e).2.2⟩
  else if k = 4 then ⟨frPg l e, (m1R l e).2.1, (m1R l e).2.2⟩
  else ⟨pk k, l, e⟩
def decR (l : List UInt8) : DS := bodyR (kindR l).1 (lsnR l).2.1 (lsnR l).2.2
def decOk (l : List UInt8) : Bool := decide ((decR l).e = 0) && rightPg (decR l).p && noughtsB (l.drop (l.length - (decR l).l.length))

theorem rtext_facts (l : List UInt8) (err M : Nat) : (rtext l err M).1.length ≤ M ∧ (rtext l err M).2.1.length ≤ l.length := by
  have hf := rnum_facts l err M
  unfold rtext
  split
  · exact ⟨by simp, hf.2.2.2⟩
  · rename_i h0
    split
    · exact ⟨by simp, by simp⟩
    · have := hf.2.1 (by omega)
      refine ⟨?_, ?_⟩
      · show ((rnum l err M).2.1.take _).length ≤ M
        rw [List.length_take]; omega
      · show ((rnum l err M).2.1.drop _).length ≤ _
        rw [List.length_drop]; omega
theorem leafR_facts (l : List UInt8) (e n : Nat) : (leafR l e n).l.length ≤ l.length ∧ (∀ s ∈ (leafR l e n).ks, s.size ≤ 24) ∧ (∀ s ∈ (leafR l e n).vs, s.size ≤ 48) := by
  induction n with
  | zero => exact ⟨Nat.le_refl _, fun s hs => (by cases hs), fun s hs => by cases hs⟩
  | succ n ih =>
    obtain ⟨h1, h2, h3⟩ := ih
    have f1 := rtext_facts (leafR l e n).l (leafR l e n).e 24
    have f2 := rtext_facts (lsK (leafR l e n)).2.1 (lsK (leafR l e n)).2.2 48
    refine ⟨?_, fun s hs => ?_, fun s hs => ?_⟩
    · show (lsV (leafR l e n)).2.1.length ≤ _
      have a : (lsV (leafR l e n)).2.1.length ≤ (lsK (leafR l e n)).2.1.length := f2.2
      have b : (lsK (leafR l e n)).2.1.length ≤ (leafR l e n).l.length := f1.2
      omega
    · simp only [leafR, List.mem_append, List.mem_singleton] at hs
      rcases hs with hs | rfl
      · exact h2 s hs
      · show (lsK (leafR l e n)).1.toArray.size ≤ 24
        rw [List.size_toArray]; exact f1.1
    · simp only [leafR, List.mem_append, List.mem_singleton] at hs
      rcases hs with hs | rfl
      · exact h3 s hs
      · show (lsV (leafR l e n)).1.toArray.size ≤ 48
        rw [List.size_toArray]; exact f2.1
theorem innR_facts (l : List UInt8) (e n : Nat) : (innR l e n).l.length ≤ l.length ∧ (∀ s ∈ (innR l e n).ks, s.size ≤ 24) ∧ (∀ d ∈ (innR l e n).ds, 0 ≤ d ∧ d ≤ 65535) := by
  induction n with
  | zero => exact ⟨Nat.le_refl _, fun s hs => (by cases hs), fun s hs => by cases hs⟩
  | succ n ih =>
    obtain ⟨h1, h2, h3⟩ := ih
    have f1 := rtext_facts (innR l e n).l (innR l e n).e 24
    have hk : (isK n (innR l e n)).l.length ≤ l.length ∧ (∀ s ∈ (isK n (innR l e n)).ks, s.size ≤ 24) ∧ (isK n (innR l e n)).ds = (innR l e n).ds := by
      unfold isK
      split
      · exact ⟨h1, h2, rfl⟩
      · refine ⟨Nat.le_trans f1.2 h1, fun s hs => ?_, rfl⟩
        simp only [List.mem_append, List.mem_singleton] at hs
        rcases hs with hs | rfl
        · exact h2 s hs
        · show (isT (innR l e n)).1.toArray.size ≤ 24
          rw [List.size_toArray]; exact f1.1
    have f2 := rnum_facts (isK n (innR l e n)).l (isK n (innR l e n)).e 65535
    have f3 := rnum_le (isK n (innR l e n)).l (isK n (innR l e n)).e 65535
    refine ⟨Nat.le_trans f2.2.2.2 hk.1, hk.2.1, fun d hd => ?_⟩
    simp only [innR, isS, List.mem_append, List.mem_singleton, hk.2.2] at hd
    rcases hd with hd | rfl
    · exact h3 d hd
    · have : (isD (isK n (innR l e n))).1 ≤ 65535 := f3
      omega
theorem body_len (k : Nat) (l : List UInt8) (e : Nat) : (bodyR k l e).l.length ≤ l.length := by
  have r := fun a b c => (rnum_facts a b c).2.2.2
  unfold bodyR
  split
  · exact Nat.le_trans (leafR_facts _ _ _).1 (r _ _ _)
  · split
    · exact Nat.le_trans (innR_facts _ _ _).1 (r _ _ _)
    · split
      · exact Nat.le_trans (r _ _ _) (Nat.le_trans (r _ _ _) (Nat.le_trans (r _ _ _) (r _ _ _)))
      · split
        · exact r _ _ _
        · exact Nat.le_refl _
theorem dec_len (l : List UInt8) : (decR l).l.length ≤ l.length :=
  Nat.le_trans (body_len _ _ _) (Nat.le_trans (rnum_facts _ _ _).2.2.2 (rnum_facts _ _ _).2.2.2)
theorem body_ok (k : Nat) (hk : k ≤ 4) (l : List UInt8) (e : Nat) : (bodyR k l e).p.Ok := by
  unfold bodyR
  split
  · have f := leafR_facts (rnum l e 6).2.1 (rnum l e 6).2.2 (rnum l e 6).1
    exact ⟨fun s hs => Nat.le_trans (f.2.1 s hs) (by simp [maxLen]), fun s hs => Nat.le_trans (f.2.2 s hs) (by simp [maxLen]), fun n hn => (by cases hn), by simp [withL, pk], by simp [withL, pk], by simp [withL, pk], by simp [withL, pk], by simp [withL, pk]⟩
  · split
    · have f := innR_facts (rnum l e 8).2.1 (rnum l e 8).2.2 (rnum l e 8).1
      refine ⟨fun s hs => Nat.le_trans (f.2.1 s hs) (by simp [maxLen]), fun s hs => (by cases hs), fun n hn => ?_, by simp [withI, pk], by simp [withI, pk], by simp [withI, pk], by simp [withI, pk], by simp [withI, pk]⟩
      have := f.2.2 n hn
      omega
    · split
      · have h1 : (m1R l e).1 ≤ 65535 := rnum_le _ _ _
        have h2 : (m2R l e).1 ≤ 65535 := rnum_le _ _ _
        have h3 : (m3R l e).1 ≤ 65536 := rnum_le _ _ _
        have h4 : (m4R l e).1 ≤ 65536 := rnum_le _ _ _
        refine ⟨fun s hs => (by cases hs), fun s hs => (by cases hs), fun n hn => (by cases hn), ?_, ?_, ?_, ?_, ?_⟩ <;> simp only [mePg] <;> omega
      · split
        · have h1 : (m1R l e).1 ≤ 65535 := rnum_le _ _ _
          refine ⟨fun s hs => (by cases hs), fun s hs => (by cases hs), fun n hn => (by cases hn), ?_, ?_, ?_, ?_, ?_⟩ <;> simp only [frPg] <;> omega
        · refine ⟨fun s hs => (by cases hs), fun s hs => (by cases hs), fun n hn => (by cases hn), ?_, ?_, ?_, ?_, ?_⟩ <;> simp only [pk] <;> omega

theorem RBox.below {W W' : World} {B b g rb : Nat} {p : Pg} {kv vv dv : Value} {l : List UInt8} {err : Nat} (h : RBox W B b p kv vv dv g rb l err) (hb : Below W.heap.size W W') : RBox W' B b p kv vv dv g rb l err :=
  ⟨h.box.below hb, h.rdr.below hb, h.ng, h.nr, h.hg⟩
/-- A number of the page, stored. -/
theorem RBox.setNum {W : World} {B b g rb : Nat} {p q : Pg} {kv vv dv : Value} {l : List UInt8} {err : Nat} (h : RBox W B b p kv vv dv g rb l err) (i : Nat) (x : Int) (hq : (pgc p kv vv dv).setIfInBounds i (.int .i64 x) = pgc q kv vv dv) (e1 : q.keys = p.keys) (e2 : q.vals = p.vals) (e3 : q.kids = p.kids) :
    RBox (W.setCell ⟨b, i, none⟩ (.int .i64 x)) B b q kv vv dv g rb l err := by
  have hne : ∀ k, fp b kv vv dv k → k ≠ b → (W.setCell ⟨b, i, none⟩ (.int .i64 x)).heap[k]? = W.heap[k]? := fun k _ hk => Below.heap_setCell _ _ _ _ (by exact hk)
  have hb : PBox (W.setCell ⟨b, i, none⟩ (.int .i64 x)) b q kv vv dv := by
    have := Blk.set h.box.box i (.int .i64 x)
    rw [hq] at this
    exact this
  have ho := h.box.own
  refine ⟨⟨hb, ⟨?_, ?_, ?_, ho.fkv, ho.fkd, ho.fvd⟩, h.box.hb, h.box.nk, h.box.nv, h.box.nd⟩, h.rdr.kept (by simp [World.setCell]) (Below.heap_setCell _ _ _ _ (by intro e; exact h.ng (.inl e))) (Below.heap_setCell _ _ _ _ (by intro e; exact h.nr (.inl e))), h.ng, h.nr, h.hg⟩
  · rw [e1]; exact ho.keys.kept fun k hk => hne k (.inr (.inl hk)) (by rintro rfl; exact h.box.nk hk)
  · rw [e2]; exact ho.vals.kept fun k hk => hne k (.inr (.inr (.inl hk))) (by rintro rfl; exact h.box.nv hk)
  · rw [e3]; exact ho.kids.kept fun k hk => hne k (.inr (.inr (.inr hk))) (by rintro rfl; exact h.box.nd hk)

theorem src_drop {w : World} {ao ao' : Option Addr} {c c' S : Nat} {l : List UInt8} (h : Src w (.slice ao l.length c) l) (hS : S ≤ l.length) (hc : (c = S ∧ ao' = ao ∧ c' = 0) ∨ (¬ c = S ∧ ao' = Option.map (fun x => x.add S) ao ∧ c' = c - S)) : Src w (.slice ao' (l.length - S) c') (l.drop S) := by
  obtain ⟨_, h1, h2, h3⟩ := h.at
  refine ⟨ao', c', by rw [List.length_drop], ?_, ?_, ?_⟩
  · rw [List.length_drop]; rcases hc with ⟨a, _, b⟩ | ⟨a, _, b⟩ <;> omega
  · rcases hc with ⟨a, _, b⟩ | ⟨a, _, b⟩ <;> omega
  · rcases hc with ⟨rfl, rfl, rfl⟩ | ⟨_, rfl, rfl⟩
    · have : l.drop c = [] := List.drop_of_length_le h1
      rw [this]
      exact ⟨fun _ => ⟨rfl, rfl⟩, fun ad _ j u hu => by simp [bv] at hu⟩
    · refine ⟨fun hn => ?_, fun ad had j u hu => ?_⟩
      · have hn' : ao = none := by cases ao <;> simp_all
        obtain ⟨rfl, rfl⟩ := h3.1 hn'
        exact ⟨by simp, by simp⟩
      · cases ao with
        | none => simp at had
        | some a =>
          simp at had
          subst had
          rw [add_add]
          refine h3.2 a rfl (S + j) u ?_
          rw [← hu]
          simp [bv]
end Go.Proofs.YtbgofajldkblmaaGreat
