/- rec, plainly: a record without its cells; how its bytes are read; what is laid is read again. Own lemmas, no statement. -/
import Derived.Test.YtbgofajldkblmaaGreatRec12
import Derived.Test.YtbgofajldkblmaaGreatRd3
import Derived.Test.YtbgofajldkblmaaGreatReader2
set_option linter.unusedSimpArgs false
set_option linter.unusedVariables false
namespace Go.Proofs.YtbgofajldkblmaaGreat

structure OpenQ where
  num : Int
  node : Int
  last : Int
  first : Int
  count : Int
  ready : Bool
  rs : List ByteArray
structure DoneQ where
  num : Int
  node : Int
  ns : List Int
structure ChgQ where
  n : Int
  p : Pg
structure RecQ where
  kind : Int
  num : Int
  node : Int
  key : ByteArray
  was : Bool
  old : ByteArray
  prev : Int
  ns : List Int
  rs : List ByteArray
  gs : List ChgQ
  os : List OpenQ
  ds : List DoneQ
def OpenV.q (x : OpenV) : OpenQ := ⟨x.num, x.node, x.last, x.first, x.count, x.ready, x.rs⟩
def DoneV.q (x : DoneV) : DoneQ := ⟨x.num, x.node, x.ns⟩
def ChgV.q (x : ChgV) : ChgQ := ⟨x.n, x.p⟩
def RecV.q (x : RecV) : RecQ := ⟨x.kind, x.num, x.node, x.key, x.was, x.old, x.prev, x.ns, x.rs, x.gs.map ChgV.q, x.os.map OpenV.q, x.ds.map DoneV.q⟩
def chgBQ (x : ChgQ) : List UInt8 := intB x.n ++ textB (imageB x.p)
def openBQ (x : OpenQ) : List UInt8 := tidB x.num x.node ++ (intB x.last ++ (intB x.first ++ (intB x.count ++ (enc (flagN x.ready) ++ allB8 textB x.rs))))
def doneBQ (x : DoneQ) : List UInt8 := tidB x.num x.node ++ allB8 intB x.ns
def recBQ (x : RecQ) : List UInt8 :=
  if x.kind = 1 then textB x.key ++ (enc (flagN x.was) ++ (textB x.old ++ (intB x.prev ++ allB8 chgBQ x.gs)))
  else if x.kind = 2 then intB x.prev ++ allB8 chgBQ x.gs
  else if x.kind = 3 then allB8 textB x.rs
  else if x.kind = 6 then allB8 intB x.ns
  else if x.kind = 8 then allB8 openBQ x.os ++ allB8 doneBQ x.ds
  else []
def bytesQ (x : RecQ) : List UInt8 := intB x.kind ++ (tidB x.num x.node ++ recBQ x)
theorem all_q {α β : Type} (q : α → β) (f : β → List UInt8) (l : List α) : allB8 (fun x => f (q x)) l = allB8 f (l.map q) := by
  unfold allB8
  rw [List.length_map, List.map_map]
  rfl
theorem recBytes_q (x : RecV) : recBytes x = bytesQ x.q := by
  unfold recBytes encHead bytesQ recB recBQ RecV.q turnB
  rw [← all_q ChgV.q chgBQ x.gs, ← all_q OpenV.q openBQ x.os, ← all_q DoneV.q doneBQ x.ds]
  simp only [tidB, intB, List.append_assoc]
  rfl
theorem fits_map {α β : Type} (q : α → β) {r : β → Bool} {a : β → β → Bool} {d : α} {m : Nat} {l : List α} : fitsB (fun x => r (q x)) (fun x y => a (q x) (q y)) d m l = fitsB r a (q d) m (l.map q) := by
  unfold fitsB
  rw [List.length_map]
  congr 2
  funext i
  unfold fitAt
  have hg : ∀ j, (l.map q).getD j (q d) = q (l.getD j d) := fun j => by
    simp [List.getD, List.getElem?_map]
  rw [hg, hg]

/-! How bytes are read. -/
abbrev RF (α : Type) := List UInt8 → Nat → α × List UInt8 × Nat
def rb {α β : Type} (f : RF α) (g : α → RF β) : RF β := fun l e => g (f l e).1 (f l e).2.1 (f l e).2.2
def rp {α : Type} (x : α) : RF α := fun l e => (x, l, e)
def rtk {α : Type} (f : RF α) : Nat → RF (List α)
  | 0 => fun l e => ([], l, e)
  | k + 1 => fun l e => ((rtk f k l e).1 ++ [(f (rtk f k l e).2.1 (rtk f k l e).2.2).1], (f (rtk f k l e).2.1 (rtk f k l e).2.2).2)
theorem rtk_succ {α : Type} (f : RF α) (k : Nat) (l : List UInt8) (e : Nat) : rtk f (k + 1) l e = ((rtk f k l e).1 ++ [(f (rtk f k l e).2.1 (rtk f k l e).2.2).1], (f (rtk f k l e).2.1 (rtk f k l e).2.2).2.1, (f (rtk f k l e).2.1 (rtk f k l e).2.2).2.2) := rfl
def rall {α : Type} (f : RF α) (most : Nat) : RF (List α) := fun l e => rtk f (rnum l e most).1 (rnum l e most).2.1 (rnum l e most).2.2
def rint (M : Nat) : RF Int := fun l e => (((rnum l e M).1 : Int), (rnum l e M).2)
def rflag : RF Bool := fun l e => (((rnum l e 1).1 : Int) == 1, (rnum l e 1).2)
def rstr (M : Nat) : RF ByteArray := fun l e => (⟨(rtext l e M).1.toArray⟩, (rtext l e M).2)
def rtidI : RF (Int × Int) := fun l e => ((((rtid l e).1.1 : Int), ((rtid l e).1.2 : Int)), (rtid l e).2)
def rreads : RF (List ByteArray) := rall (rstr 24) 100
def rnodes : RF (List Int) := rall (rint 63) 64
def rimage (s : ByteArray) : Pg := if decOk s.data.toList then (decR s.data.toList).p else Pg.zero
def rchg : RF ChgQ := rb (rint 65535) fun n => rb (rstr 512) fun s => rp ⟨n, rimage s⟩
def ropen : RF OpenQ := rb rtidI fun t => rb (rint 4611686018427387904) fun a => rb (rint 4611686018427387904) fun b => rb (rint 1073741824) fun c => rb rflag fun r => rb rreads fun rs => rp ⟨t.1, t.2, a, b, c, r, rs⟩
def rdone : RF DoneQ := rb rtidI fun t => rb rnodes fun ns => rp ⟨t.1, t.2, ns⟩
def rturn : RF (Int × List ChgQ) := rb (rint 4611686018427387904) fun p => rb (rall rchg 30) fun gs => rp (p, gs)
def rbody (k : Int) (t : Int × Int) : RF RecQ :=
  if k = 1 then rb (rstr 24) fun key => rb rflag fun was => rb (rstr 48) fun old => rb rturn fun p => rp ⟨k, t.1, t.2, key, was, old, p.1, [], [], p.2, [], []⟩
  else if k = 2 then rb rturn fun p => rp ⟨k, t.1, t.2, .empty, false, .empty, p.1, [], [], p.2, [], []⟩
  else if k = 3 then rb rreads fun rs => rp ⟨k, t.1, t.2, .empty, false, .empty, 0, [], rs, [], [], []⟩
  else if k = 6 then rb rnodes fun ns => rp ⟨k, t.1, t.2, .empty, false, .empty, 0, ns, [], [], [], []⟩
  else if k = 8 then rb (rall ropen 200) fun os => rb (rall rdone 200) fun ds => rp ⟨k, t.1, t.2, .empty, false, .empty, 0, [], [], [], os, ds⟩
  else rp ⟨k, t.1, t.2, .empty, false, .empty, 0, [], [], [], [], []⟩
def rrec : RF RecQ := rb (rint 8) fun k => rb rtidI fun t => rbody k t

/-! What is laid is read again. -/
def Rb {α : Type} (f : RF α) (B : List UInt8) (x : α) : Prop := ∀ r, f (B ++ r) 0 = (x, r, 0)
theorem Rb.bind {α β : Type} {f : RF α} {g : α → RF β} {B C : List UInt8} {x : α} {y : β} (h1 : Rb f B x) (h2 : Rb (g x) C y) : Rb (rb f g) (B ++ C) y := fun r => by
  unfold rb
  rw [List.append_assoc, h1]
  exact h2 r
theorem Rb.pure {α : Type} (x : α) : Rb (rp x) [] x := fun r => rfl
theorem Rb.last {α β : Type} {f : RF α} {g : α → RF β} {B : List UInt8} {x : α} {y : β} (h1 : Rb f B x) (h2 : g x = rp y) : Rb (rb f g) B y := fun r => by
  unfold rb
  rw [h1, h2]
  rfl
theorem Rb.int {n : Int} {M : Nat} (h0 : 0 ≤ n) (h1 : n ≤ M) (hM : M < 18446744073709551616) : Rb (rint M) (intB n) n := fun r => by
  unfold rint intB
  rw [rnum_of n.toNat M (by omega) (by omega)]
  simp only
  rw [Int.toNat_of_nonneg h0]
theorem Rb.flag (b : Bool) : Rb rflag (enc (flagN b)) b := fun r => by
  unfold rflag
  rw [rnum_of (flagN b) 1 (by cases b <;> decide) (by cases b <;> decide)]
  cases b <;> rfl
theorem Rb.str {s : ByteArray} {M : Nat} (h : s.size ≤ M) (hM : M < 18446744073709551616) : Rb (rstr M) (textB s) s := fun r => by
  unfold rstr
  have : textB s = txt s := rfl
  rw [this, rtext_of s M h (by omega)]
theorem uns_small {y : Int} (h0 : 0 ≤ y) (h1 : y < 64) : uns y = y.toNat := by
  unfold uns
  omega
theorem Rb.tid {x y : Int} (h0 : 0 ≤ x) (h : tidOk x y = true) : Rb rtidI (tidB x y) (x, y) := fun r => by
  unfold tidOk at h
  rw [Bool.and_eq_true, decide_eq_true_eq] at h
  obtain ⟨h1, h2⟩ := nodeOk_bounds h.2
  unfold rtidI tidB
  rw [uns_small h1 h2, List.append_assoc]
  have e : rtid (enc x.toNat ++ (enc y.toNat ++ r)) 0 = ((x.toNat, y.toNat), r, 0) := by
    unfold rtid
    rw [rnum_of x.toNat 1099511627776 (by omega) (by omega)]
    simp only
    rw [rnum_of y.toNat 63 (by omega) (by omega), if_neg (by simp)]
  rw [e]
  simp only
  rw [Int.toNat_of_nonneg h0, Int.toNat_of_nonneg h1]
theorem Rb.all {α : Type} {f : RF α} {B : α → List UInt8} {l : List α} {most : Nat} (h : ∀ x ∈ l, Rb f (B x) x) (hl : l.length ≤ most) (hM : most < 18446744073709551616) : Rb (rall f most) (allB8 B l) l := fun r => by
  have hk : ∀ k, k ≤ l.length → ∀ r, rtk f k (((l.take k).map B).flatten ++ r) 0 = (l.take k, r, 0) := by
    intro k
    induction k with
    | zero => intro _ r; simp [rtk]
    | succ k ih =>
      intro hk r
      have e : ((l.take (k + 1)).map B).flatten ++ r = ((l.take k).map B).flatten ++ (B (l[k]'(by omega)) ++ r) := by
        rw [List.take_succ_eq_append_getElem (by omega), List.map_append, List.flatten_append, List.append_assoc]
        congr 1
        simp
      rw [e]
      unfold rtk
      rw [ih (by omega)]
      simp only
      rw [h _ (List.getElem_mem _) r, List.take_succ_eq_append_getElem (by omega)]
  unfold rall allB8
  rw [List.append_assoc, rnum_of l.length most (by omega) hl]
  have := hk l.length (Nat.le_refl _) r
  rw [List.take_length] at this
  exact this
theorem Rb.reads {l : List ByteArray} (h : readsOk l = true) : Rb rreads (allB8 textB l) l := by
  obtain ⟨h1, h2⟩ := reads_bounds h
  exact Rb.all (fun x hx => Rb.str (h2 x hx) (by omega)) h1 (by omega)
theorem Rb.nodes {l : List Int} (h : nodesOk l = true) : Rb rnodes (allB8 intB l) l := by
  obtain ⟨h1, h2⟩ := nodes_bounds h
  exact Rb.all (fun x hx => Rb.int (h2 x hx).1 (by have := (h2 x hx).2; omega) (by omega)) h1 (by omega)
theorem Rb.chg {x : ChgV} (h : chgOk x = true) : Rb rchg (chgBQ x.q) x.q := by
  obtain ⟨h1, h2⟩ := chg_parts h
  have h3 := encP_length (lsn := 0) h2
  have h4 : (imageB x.p).size ≤ 512 := by unfold imageB; exact h3
  refine Rb.bind (Rb.int h1.1 (by show x.n ≤ _; omega) (by omega)) (Rb.last (Rb.str h4 (by omega)) ?_)
  have h5 := dec_of (lsn := 0) h2 (by omega) 0
  simp only [List.replicate_zero, List.append_nil] at h5
  have h6 : (imageB x.p).data.toList = encP x.p 0 := by simp [imageB]
  show rp (ChgQ.mk _ (rimage (imageB x.p))) = _
  unfold rimage
  rw [h6, if_pos h5.1, h5.2.1]
  rfl
theorem Rb.opn {x : OpenV} (h : openOk x = true) (hw : 0 ≤ x.num ∧ 0 ≤ x.last ∧ 0 ≤ x.first) : Rb ropen (openBQ x.q) x.q := by
  obtain ⟨h1, h2⟩ := open_parts h
  have ht : tidOk x.num x.node = true := by
    unfold openOk at h
    simp only [Bool.and_eq_true] at h
    exact h.1.1.1.1.1
  exact Rb.bind (Rb.tid hw.1 ht) (Rb.bind (Rb.int hw.2.1 (by show x.last ≤ _; omega) (by omega)) (Rb.bind (Rb.int hw.2.2 (by show x.first ≤ _; omega) (by omega)) (Rb.bind (Rb.int h1.2.2.1 (by show x.count ≤ _; omega) (by omega)) (Rb.bind (Rb.flag _) (Rb.last (Rb.reads h2) rfl)))))
theorem Rb.dn {x : DoneV} (h : doneOk x = true) (hw : 0 ≤ x.num) : Rb rdone (doneBQ x.q) x.q := by
  have h' := h
  unfold doneOk at h'
  rw [Bool.and_eq_true] at h'
  exact Rb.bind (Rb.tid hw h'.1) (Rb.last (Rb.nodes h'.2) rfl)
theorem Rb.allQ {α β : Type} {q : α → β} {f : RF β} {B : β → List UInt8} {l : List α} {most : Nat} (h : ∀ x ∈ l, Rb f (B (q x)) (q x)) (hl : l.length ≤ most) (hM : most < 18446744073709551616) : Rb (rall f most) (allB8 B (l.map q)) (l.map q) :=
  Rb.all (fun y hy => by obtain ⟨x, hx, rfl⟩ := List.mem_map.1 hy; exact h x hx) (by rw [List.length_map]; exact hl) hM
theorem empty_eq {s : ByteArray} (h : s.toList.isEmpty = true) : s = .empty := by
  have h1 : (s.toList == ByteArray.empty.toList) = true := by
    rw [List.isEmpty_iff] at h
    rw [h]
    kernel_rfl
  rw [beq_str] at h1
  exact of_decide_eq_true h1
theorem rec_read {x : RecV} (h : rightRec x = true) (hw : x.Wf) : Rb rrec (recBytes x) x.q := by
  rw [recBytes_q]
  obtain ⟨hk, h3, h4, h5, h6, h7, h8, h9⟩ := right_all h
  have htid : tidOk x.num x.node = true := by
    unfold rtTid at h3
    split at h3
    · simp only [Bool.and_eq_true, decide_eq_true_eq] at h3
      rw [h3.1, h3.2]
      rfl
    · exact h3
  have hgs : ∀ c ∈ x.gs, chgOk c = true := by
    unfold rtTurn at h5
    split at h5
    · rw [Bool.and_eq_true] at h5
      exact (fits_mem h5.2).2
    · simp only [Bool.and_eq_true, decide_eq_true_eq] at h5
      have e := List.eq_nil_of_length_eq_zero h5.2
      exact fun c hc => by rw [e] at hc; cases hc
  refine Rb.bind (Rb.int (by show 0 ≤ x.kind; omega) (by show x.kind ≤ _; omega) (by omega)) (Rb.bind (Rb.tid hw.num.1 htid) ?_)
  have hq : x.q = ⟨x.kind, x.num, x.node, x.key, x.was, x.old, x.prev, x.ns, x.rs, x.gs.map ChgV.q, x.os.map OpenV.q, x.ds.map DoneV.q⟩ := rfl
  have hkk : x.q.kind = x.kind := rfl
  -- the parts that another kind has alone
  have n3 : ¬ x.kind = 3 → x.rs = [] := fun hn => by
    unfold rtReads at h6
    rw [decide_eq_false hn] at h6
    simpa using h6
  have n6 : ¬ x.kind = 6 → x.ns = [] := fun hn => by
    unfold rtNodes at h7
    rw [decide_eq_false hn] at h7
    simpa using h7
  have n8 : ¬ x.kind = 8 → x.os = [] := fun hn => by
    unfold rtOpens at h8
    rw [decide_eq_false hn] at h8
    simpa using h8
  have m8 : ¬ x.kind = 8 → x.ds = [] := fun hn => by
    unfold rtDones at h9
    rw [decide_eq_false hn] at h9
    simpa using h9
  have n1 : ¬ x.kind = 1 → x.key = .empty ∧ x.was = false ∧ x.old = .empty := fun hn => by
    unfold rtOld at h4
    rw [if_neg hn] at h4
    simp only [Bool.and_eq_true] at h4
    exact ⟨empty_eq h4.1.1, by simpa using h4.1.2, empty_eq h4.2⟩
  have n2 : ¬ x.kind = 1 → ¬ x.kind = 2 → x.prev = 0 ∧ x.gs = [] := fun hn hm => by
    unfold rtTurn at h5
    rw [if_neg (by omega)] at h5
    simp only [Bool.and_eq_true, decide_eq_true_eq] at h5
    exact ⟨h5.1, List.eq_nil_of_length_eq_zero h5.2⟩
  have hturn : (x.kind = 1 ∨ x.kind = 2) → Rb rturn (intB x.prev ++ allB8 chgBQ (x.gs.map ChgV.q)) (x.prev, x.gs.map ChgV.q) := fun hk => by
    unfold rtTurn at h5
    rw [if_pos hk, Bool.and_eq_true, decide_eq_true_eq] at h5
    exact Rb.bind (Rb.int hw.prev.1 h5.1 (by omega)) (Rb.last (Rb.allQ (fun c hc => Rb.chg (hgs c hc)) (fits_mem h5.2).1 (by omega)) rfl)
  unfold recBQ rbody
  rw [hkk]
  show Rb _ _ x.q
  rcases (show x.kind = 1 ∨ x.kind = 2 ∨ x.kind = 3 ∨ (x.kind = 4 ∨ x.kind = 5 ∨ x.kind = 7) ∨ x.kind = 6 ∨ x.kind = 8 by omega) with k | k | k | k | k | k
  · rw [if_pos k, if_pos k]
    have hold := h4
    unfold rtOld at hold
    rw [if_pos k] at hold
    simp only [Bool.and_eq_true, decide_eq_true_eq] at hold
    refine Rb.bind (Rb.str (keyOk_size hold.1.1) (by omega)) (Rb.bind (Rb.flag _) (Rb.bind (Rb.str hold.1.2 (by omega)) (Rb.last (hturn (.inl k)) ?_)))
    rw [hq, n3 (by omega), n6 (by omega), n8 (by omega), m8 (by omega)]
    rfl
  · rw [if_neg (by omega), if_pos k, if_neg (by omega), if_pos k]
    refine Rb.last (hturn (.inr k)) ?_
    obtain ⟨e1, e2, e3⟩ := n1 (by omega)
    rw [hq, n3 (by omega), n6 (by omega), n8 (by omega), m8 (by omega), e1, e2, e3]
    rfl
  · rw [if_neg (by omega), if_neg (by omega), if_pos k, if_neg (by omega), if_neg (by omega), if_pos k]
    have hr : readsOk x.rs = true := by
      rcases or_empty h6 with e | e
      · rw [e]; rfl
      · exact e
    refine Rb.last (Rb.reads hr) ?_
    obtain ⟨e1, e2, e3⟩ := n1 (by omega)
    obtain ⟨f1, f2⟩ := n2 (by omega) (by omega)
    rw [hq, n6 (by omega), n8 (by omega), m8 (by omega), e1, e2, e3, f1, f2]
    rfl
  · rw [if_neg (by omega), if_neg (by omega), if_neg (by omega), if_neg (by omega), if_neg (by omega), if_neg (by omega), if_neg (by omega), if_neg (by omega), if_neg (by omega), if_neg (by omega)]
    obtain ⟨e1, e2, e3⟩ := n1 (by omega)
    obtain ⟨f1, f2⟩ := n2 (by omega) (by omega)
    rw [hq, n3 (by omega), n6 (by omega), n8 (by omega), m8 (by omega), e1, e2, e3, f1, f2]
    exact Rb.pure _
  · rw [if_neg (by omega), if_neg (by omega), if_neg (by omega), if_pos k, if_neg (by omega), if_neg (by omega), if_neg (by omega), if_pos k]
    have hr : nodesOk x.ns = true := by
      rcases or_empty h7 with e | e
      · rw [e]; rfl
      · exact e
    refine Rb.last (Rb.nodes hr) ?_
    obtain ⟨e1, e2, e3⟩ := n1 (by omega)
    obtain ⟨f1, f2⟩ := n2 (by omega) (by omega)
    rw [hq, n3 (by omega), n8 (by omega), m8 (by omega), e1, e2, e3, f1, f2]
    rfl
  · rw [if_neg (by omega), if_neg (by omega), if_neg (by omega), if_neg (by omega), if_pos k, if_neg (by omega), if_neg (by omega), if_neg (by omega), if_neg (by omega), if_pos k]
    have ho : x.os.length ≤ 200 ∧ ∀ o ∈ x.os, openOk o = true := by
      rcases or_empty h8 with e | e
      · rw [e]; exact ⟨by simp, fun s hs => by cases hs⟩
      · exact fits_mem e
    have hd : x.ds.length ≤ 200 ∧ ∀ o ∈ x.ds, doneOk o = true := by
      rcases or_empty h9 with e | e
      · rw [e]; exact ⟨by simp, fun s hs => by cases hs⟩
      · exact fits_mem e
    refine Rb.bind (Rb.allQ (fun o hm => Rb.opn (ho.2 o hm) ⟨(hw.os o hm).1.1, (hw.os o hm).2.1.1, (hw.os o hm).2.2.1⟩) ho.1 (by omega)) (Rb.last (Rb.allQ (fun o hm => Rb.dn (hd.2 o hm) (hw.ds o hm).1) hd.1 (by omega)) ?_)
    obtain ⟨e1, e2, e3⟩ := n1 (by omega)
    obtain ⟨f1, f2⟩ := n2 (by omega) (by omega)
    rw [hq, n3 (by omega), n6 (by omega), e1, e2, e3, f1, f2]
    rfl
end Go.Proofs.YtbgofajldkblmaaGreat
