import Derived.Test.YthkmohcdgnldgaaPg8
import Derived.Test.YthkmohcdgnldgaaBox
import Derived.Test.YthkmohcdgnldgaaGr
import Derived.Test.YthkmohcdgnldgaaSrcSeg
import Derived.Deep.Cut
import Derived.Test.YthkmohcdgnldgaaBlk
import Derived.Test.YthkmohcdgnldgaaRec15
import Derived.Test.YthkmohcdgnldgaaRecI
import Derived.Test.YthkmohcdgnldgaaRec7
import Derived.BigRegion
/- Rows of bytes that a call makes and fills. Own lemmas, no statement. -/
namespace Go.Proofs.Ythkmohcdgnldgaa
open Go.ChangeShapes Go.WideShapes Go.ChangeAt Go.RowKit

/-- A row of bytes of which the first ones are laid. -/
def fillL (n j C : Nat) : List UInt8 := rep C j ++ List.replicate (n - j) 0
def fillA (n j C : Nat) : Array Value := (bv (fillL n j C)).toArray
theorem fillL_length {n j C : Nat} (h : j ≤ n) : (fillL n j C).length = n := by simp [fillL, rep]; omega
theorem bv_set (l : List UInt8) (i : Nat) (x : UInt8) : (bv l).toArray.setIfInBounds i (.int .u8 (x.toNat : Int)) = (bv (l.set i x)).toArray := by
  unfold bv
  simp [List.map_set]
theorem fillA_set {n j C : Nat} (h : j < n) (hC : C < 256) : (fillA n j C).setIfInBounds j (.int .u8 (C : Int)) = fillA n (j + 1) C := by
  have e : (((UInt8.ofNat C).toNat : Nat) : Int) = (C : Int) := by rw [UInt8.toNat_ofNat']; omega
  rw [← e, fillA, bv_set, fillA]
  congr 2
  unfold fillL rep
  apply List.ext_getElem
  · simp; omega
  · intro i h1 h2
    simp only [List.getElem_set, List.getElem_append, List.length_replicate, List.getElem_replicate]
    by_cases e1 : j = i
    · subst e1; simp
    · rw [if_neg e1]
      by_cases e2 : i < j
      · rw [dif_pos e2, dif_pos (by omega)]
      · rw [dif_neg e2, dif_neg (by omega)]
theorem fillA_last (C k : Nat) (hk : k < 200) : (fillA 24 24 C).setIfInBounds 0 (.int .u8 ((k : Int) + 1)) = (bv (UInt8.ofNat (k + 1) :: rep C 23)).toArray := by
  have e : (((UInt8.ofNat (k + 1)).toNat : Nat) : Int) = (k : Int) + 1 := by rw [UInt8.toNat_ofNat']; omega
  rw [← e, fillA, bv_set]
  rfl
theorem fillA_all (n C : Nat) : fillA n n C = (bv (rep C n)).toArray := by
  unfold fillA fillL
  simp
theorem run_make8 (n C : Nat) (hn : n ≤ 512) (w : World) : (Instr.makeSlice 27 (.int .i64 (n : Int)) (.int .i64 (n : Int))).run Try.prog w = .ok (.slice (some ⟨w.heap.size, 0, none⟩) n n) (w.alloc (.cells (fillA n 0 C) 5)) := by
  obtain ⟨i0, hi, hz0, hz1, hz2⟩ := info_parts info8
  have := run_make (P := Try.prog) w 27 5 i0 (.int .u8 0) Try.underlying27 hi hz0 .i64 .i64 n n (by omega) (by omega) (by rw [hz2]; omega) (by omega)
  rw [this, hz1]
  simp only [Int.toNat_natCast, Nat.mul_one]
  have e : madeCells #[.int .u8 0] n = fillA n 0 C := by
    apply Array.toList_inj.1
    rw [toList_madeCells_one]
    unfold fillA fillL rep bv
    simp
  exact congrArg (fun a => Result.ok _ (w.alloc (.cells a 5))) e
theorem fill_cell {W : World} {g n j C : Nat} (h : Blk W g (fillA n j C) 5) (hj : j ≤ n) {i : Nat} (hi : i < n) : ∃ v, W.cell? ⟨g, i, none⟩ = some v := by
  have : i < (fillA n j C).size := by
    unfold fillA
    simp [bv_length, fillL_length hj]; exact hi
  exact ⟨_, by rw [h.cell]; exact Array.getElem?_eq_getElem this⟩
theorem row_str {W : World} {g n : Nat} {l : List UInt8} (h : Blk W g (bv l).toArray 5) (hl : l.length = n) (hn : n ≤ 512) : (convert 27 9 (.slice (some ⟨g, 0, none⟩) n n)).run Try.prog W = .ok (.string ⟨l.toArray⟩) W := by
  subst hl
  have := (Blk.src (k := l.length) (c := l.length) h (Nat.le_refl _) (Nat.le_refl _) (by unfold maxLen; omega)).str
  rw [List.take_length] at this
  exact this

end Go.Proofs.Ythkmohcdgnldgaa
/- Rows of cells, stored one by one. Own lemmas, no statement. -/
namespace Go.Proofs.Ythkmohcdgnldgaa
open Go.ChangeShapes Go.WideShapes Go.ChangeAt Go.RowKit

/-- A row of cells, stored from the i-th on. -/
def putL (w : World) (b : Nat) : Nat → List Value → World
  | _, [] => w
  | i, u :: t => putL (w.setCell ⟨b, i, none⟩ u) b (i + 1) t
theorem putL_other (b g : Nat) (hg : g ≠ b) : ∀ (us : List Value) (i : Nat) (w : World), (putL w b i us).heap[g]? = w.heap[g]?
  | [], _, _ => rfl
  | u :: t, i, w => by
    unfold putL
    rw [putL_other b g hg t (i + 1) _]
    exact Below.heap_setCell _ _ _ _ (by exact hg)
theorem putL_size (b : Nat) : ∀ (us : List Value) (i : Nat) (w : World), w.heap.size ≤ (putL w b i us).heap.size
  | [], _, _ => Nat.le_refl _
  | u :: t, i, w => by
    unfold putL
    exact Nat.le_trans (by simp) (putL_size b t (i + 1) _)
theorem putL_below {B b : Nat} (hb : B ≤ b) {a : World} : ∀ (us : List Value) (i : Nat) (w : World), Below B a w → Below B a (putL w b i us)
  | [], _, _, h => h
  | u :: t, i, w, h => by
    unfold putL
    exact putL_below hb t (i + 1) _ (h.setCell hb _)
theorem putL_blk {b : Nat} {T : TypeId} : ∀ (us : List Value) (pre rest : List Value) (w : World), Blk w b (pre ++ rest).toArray T → rest.length = us.length → Blk (putL w b pre.length us) b (pre ++ us).toArray T
  | [], pre, rest, w, h, hl => by
    have : rest = [] := List.eq_nil_of_length_eq_zero hl
    subst this
    exact h
  | u :: t, pre, rest, w, h, hl => by
    match rest, hl with
    | r :: rt, hl =>
      have h1 := h.set pre.length u
      have e : (pre ++ r :: rt).toArray.setIfInBounds pre.length u = ((pre ++ [u]) ++ rt).toArray := by simp
      rw [e] at h1
      have := putL_blk t (pre ++ [u]) rt _ h1 (by simpa using hl)
      unfold putL
      simpa using this
theorem putL_all {w : World} {b : Nat} {T : TypeId} {c : Array Value} (us : List Value) (h : Blk w b c T) (hl : c.size = us.length) : Blk (putL w b 0 us) b us.toArray T := by
  have := putL_blk us [] c.toList w (by simpa using h) (by simpa using hl)
  simpa using this
end Go.Proofs.Ythkmohcdgnldgaa
/- RecGreatest: the walk of the law's Go text. -/
set_option linter.unusedSimpArgs false
set_option linter.unusedVariables false
namespace Go.Proofs.Ythkmohcdgnldgaa
open Go.ChangeShapes Go.WideShapes Go.ChangeAt Go.RowKit

/-! The greatest record, plainly. -/
def kvC (C : Nat) : ByteArray := ⟨(rep C 24).toArray⟩
def lfG (C k : Nat) : Pg := ⟨1, grK 0 k, grV C k, [], 0, 0, 0, 0⟩
theorem lfG_right (C : Nat) : rightPg (lfG C 6) = true := by
  rw [rightPg, if_pos (show (lfG C 6).kind = 1 from rfl), leafOk_iff]
  refine ⟨?_, ?_, rfl, rfl, grK_ok _ _ (by omega), grV_ok _ _⟩
  · show (grK 0 6).length ≤ 6
    rw [grK_length]; omega
  · show (grV C 6).length = (grK 0 6).length
    rw [grK_length, grV_length]
theorem lfG_ok (C k : Nat) : (lfG C k).Ok := by
  refine ⟨fun s hs => ?_, fun s hs => ?_, fun n hn => ?_, by simp [lfG], by simp [lfG], by simp [lfG], by simp [lfG], by simp [lfG]⟩
  · rw [grK_size _ _ s hs]; unfold maxLen; omega
  · rw [grV_size _ _ s hs]; unfold maxLen; omega
  · simp [lfG] at hn
theorem lfG_least (C : Nat) : 444 ≤ (encP (lfG C 6) 0).length := by
  have h : ∀ i, i ≤ 6 → (leafTo (grK 0 6) (grV C 6) i).length = 74 * i := by
    intro i
    induction i with
    | zero => intro _; rfl
    | succ i ih =>
      intro hi
      unfold leafTo
      have e1 : ((grK 0 6).getD i .empty).size = 24 := by rw [grK_get 0 6 i (by omega), gk_size]
      have e2 : ((grV C 6).getD i .empty).size = 48 := by
        unfold grV
        simp only [List.getD, List.getElem?_replicate, show i < 6 by omega, if_true, Option.getD_some, gv_size]
      simp only [List.length_append, ih (by omega), txt_len1 (show ((grK 0 6).getD i .empty).size < 128 by omega), txt_len1 (show ((grV C 6).getD i .empty).size < 128 by omega), e1, e2]
      omega
  unfold encP bodyB
  rw [if_pos (show (lfG C 6).kind = 1 from rfl)]
  simp only [lfG, List.length_append, grK_length, h 6 (Nat.le_refl _)]
  omega
def chG (C : Nat) (ka : Option Addr) (kn kc : Nat) (va : Option Addr) (vn vc : Nat) (n : Int) : ChgV := ⟨n, lfG C 6, ka, kn, kc, va, vn, vc, none, 0, 0⟩
section
variable (C : Nat) (ka : Option Addr) (kn kc : Nat) (va : Option Addr) (vn vc : Nat)
def chs (k : Nat) : List ChgV := (List.range k).map fun i : Nat => chG C ka kn kc va vn vc (65000 + (i : Int))
theorem chs_length (k : Nat) : (chs C ka kn kc va vn vc k).length = k := by simp [chs]
theorem chs_succ (k : Nat) : chs C ka kn kc va vn vc (k + 1) = chs C ka kn kc va vn vc k ++ [chG C ka kn kc va vn vc (65000 + (k : Int))] := by simp [chs, List.range_succ]
theorem chs_get (k i : Nat) (h : i < k) : (chs C ka kn kc va vn vc k).getD i noChg = chG C ka kn kc va vn vc (65000 + (i : Int)) := by simp [chs, List.getD, h]
theorem chs_mem {k : Nat} {x : ChgV} (h : x ∈ chs C ka kn kc va vn vc k) : ∃ n : Int, x = chG C ka kn kc va vn vc n := by
  simp only [chs, List.mem_map] at h
  obtain ⟨i, _, rfl⟩ := h
  exact ⟨_, rfl⟩
theorem chs_fits : fitsB chgOk chgLt noChg 30 (chs C ka kn kc va vn vc 30) = true := by
  unfold fitsB
  rw [chs_length, Bool.and_eq_true, decide_eq_true_eq, allB_iff]
  refine ⟨Nat.le_refl _, fun i hi => ?_⟩
  unfold fitAt
  rw [chs_get _ _ _ _ _ _ _ 30 i hi]
  have h1 : chgOk (chG C ka kn kc va vn vc (65000 + (i : Int))) = true := by
    unfold chgOk
    show (decide (0 ≤ 65000 + (i : Int)) && decide (65000 + (i : Int) < 65536) && rightPg (lfG C 6)) = true
    rw [lfG_right, decide_eq_true (by omega), decide_eq_true (by omega)]
    rfl
  rw [h1, Bool.true_and]
  cases i with
  | zero => rfl
  | succ j =>
    rw [show j + 1 - 1 = j from rfl, chs_get _ _ _ _ _ _ _ 30 j (by omega)]
    unfold chgLt ltI chG
    simp
    omega
end
def gRec (tn ty : Int) (C : Nat) (ga : Option Addr) (gn gc : Nat) (gs : List ChgV) : RecV := ⟨1, tn, ty, kvC C, true, gv C, 4611686018427387904, none, 0, 0, [], none, 0, 0, [], ga, gn, gc, gs, none, 0, 0, [], none, 0, 0, []⟩
theorem kvC_size (C : Nat) : (kvC C).size = 24 := by simp [kvC, rep, ByteArray.size]
theorem kvC_ok (C : Nat) : keyOk (kvC C) = true := by unfold keyOk; rw [kvC_size]; rfl
theorem gRec_right {tn ty : Int} (C : Nat) (ga : Option Addr) (gn gc : Nat) (gs : List ChgV) (ht : tidOk tn ty = true) : rightRec (gRec tn ty C ga gn gc gs) = fitsB chgOk chgLt noChg 30 gs := by
  have e1 : rtTid (gRec tn ty C ga gn gc gs) = true := by unfold rtTid; rw [if_neg (by show ¬ (1 : Int) = 8; decide)]; exact ht
  have e2 : rtOld (gRec tn ty C ga gn gc gs) = true := by
    unfold rtOld
    rw [if_pos (show (gRec tn ty C ga gn gc gs).kind = 1 from rfl)]
    show (keyOk (kvC C) && decide ((gv C).size ≤ 48) && (true || _)) = true
    rw [kvC_ok, gv_size]
    rfl
  have e3 : rtTurn (gRec tn ty C ga gn gc gs) = fitsB chgOk chgLt noChg 30 gs := by
    unfold rtTurn
    rw [if_pos (.inl rfl)]
    show (decide ((4611686018427387904 : Int) ≤ 4611686018427387904) && _) = _
    rw [decide_eq_true (by omega), Bool.true_and]
    rfl
  have e4 : rtLists (gRec tn ty C ga gn gc gs) = true := rfl
  unfold rightRec
  rw [e1, e2, e3, e4]
  show ((((decide ((1 : Int) ≤ 1) && decide ((1 : Int) ≤ 8)) && true) && true) && _ && true) = _
  rw [decide_eq_true (by omega), decide_eq_true (by omega)]
  simp
theorem flat_count {α : Type} {f : α → List UInt8} {a b : Nat} : ∀ {l : List α}, (∀ x ∈ l, a ≤ (f x).length ∧ (f x).length ≤ b) → a * l.length ≤ (l.map f).flatten.length ∧ (l.map f).flatten.length ≤ b * l.length
  | [], _ => by simp
  | x :: t, h => by
    have h1 := h x List.mem_cons_self
    have h2 := flat_count (l := t) fun y hy => h y (List.mem_cons_of_mem _ hy)
    simp only [List.map_cons, List.flatten_cons, List.length_append, List.length_cons, Nat.mul_add, Nat.mul_one]
    omega
theorem gRec_bytes (tn ty : Int) (C : Nat) (ga : Option Addr) (gn gc : Nat) (ka : Option Addr) (kn kc : Nat) (va : Option Addr) (vn vc : Nat) :
    13000 < (recBytes (gRec tn ty C ga gn gc (chs C ka kn kc va vn vc 30))).length ∧ (recBytes (gRec tn ty C ga gn gc (chs C ka kn kc va vn vc 30))).length ≤ 16384 := by
  have hc : ∀ x ∈ chs C ka kn kc va vn vc 30, 444 ≤ (chgB x).length ∧ (chgB x).length ≤ 532 := fun x hx => by
    obtain ⟨n, rfl⟩ := chs_mem _ _ _ _ _ _ _ hx
    have h1 := lfG_least C
    have h2 := encP_length (lsn := 0) (lfG_right C)
    have h3 := int_bound n
    have h4 : (imageB (lfG C 6)).size = (encP (lfG C 6) 0).length := by simp [imageB, ByteArray.size]
    have h5 : (imageB (lfG C 6)).data.toList.length = (imageB (lfG C 6)).size := rfl
    have h6 := enc_length (imageB (lfG C 6)).size
    unfold chgB textB
    show 444 ≤ (intB n ++ (enc (imageB (lfG C 6)).size ++ (imageB (lfG C 6)).data.toList)).length ∧ _ ≤ 532
    show 444 ≤ (intB n ++ (enc (imageB (lfG C 6)).size ++ (imageB (lfG C 6)).data.toList)).length ∧ (intB n ++ (enc (imageB (lfG C 6)).size ++ (imageB (lfG C 6)).data.toList)).length ≤ 532
    rw [List.length_append, List.length_append]
    omega
  have hf := flat_count hc
  rw [chs_length] at hf
  have a1 := enc_length 1
  have a2 := enc_length tn.toNat
  have a3 := enc_length (uns ty)
  have a4 := text_bound (s := kvC C) (b := 24) (by rw [kvC_size]; omega)
  have a5 := text_bound (s := gv C) (b := 48) (by rw [gv_size]; omega)
  have a6 := enc_length (flagN true)
  have a7 := int_bound 4611686018427387904
  have a8 := enc_length 30
  have e : recBytes (gRec tn ty C ga gn gc (chs C ka kn kc va vn vc 30)) = (enc 1 ++ (enc tn.toNat ++ enc (uns ty))) ++ (textB (kvC C) ++ (enc (flagN true) ++ (textB (gv C) ++ (intB 4611686018427387904 ++ (enc 30 ++ ((chs C ka kn kc va vn vc 30).map chgB).flatten))))) := by
    unfold recBytes recB turnB allB8
    rw [if_pos (show (gRec tn ty C ga gn gc (chs C ka kn kc va vn vc 30)).kind = 1 from rfl)]
    show _ ++ (_ ++ (_ ++ (_ ++ (_ ++ (enc (chs C ka kn kc va vn vc 30).length ++ _))))) = _
    rw [chs_length]
    rfl
  rw [e]
  simp only [List.length_append]
  omega
theorem infoC : (Try.prog.info? 38).map (fun i => (i.zero, i.size, i.bytes)) = some (some (.agg #[.int .i64 0, .int .i64 0, .slice none 0 0, .slice none 0 0, .slice none 0 0, .int .i64 0, .int .i64 0, .int .i64 0, .int .i64 0]), 9, 120) := by kernel_rfl
theorem chgc_len (x : ChgV) : (ChgV.c x).length = 9 := rfl
theorem chgc_one (x : ChgV) : ∀ u ∈ ChgV.c x, u.oneCell' = true := by
  intro u hu
  simp only [ChgV.c, List.mem_cons, List.not_mem_nil, or_false] at hu
  rcases hu with rfl | rfl | rfl | rfl | rfl | rfl | rfl | rfl | rfl <;> rfl

theorem mem31 (C : Nat) (ka : Option Addr) (kn kc : Nat) (va : Option Addr) (vn vc : Nat) {x : ChgV} (h : x ∈ chs C ka kn kc va vn vc 30 ++ [chG C ka kn kc va vn vc 65530]) : ∃ n : Int, x = chG C ka kn kc va vn vc n := by
  rcases List.mem_append.1 h with h | h
  · exact chs_mem _ _ _ _ _ _ _ h
  · simp at h
    exact ⟨_, h⟩
theorem gr_one (tn ty : Int) (C : Nat) : (#[.int .i64 1, .int .u64 tn, .int .i64 ty, .string (kvC C), .bool true, .string (gv C), .int .u64 4611686018427387904, .slice none 0 0, .slice none 0 0, .slice none 0 0, .slice none 0 0, .slice none 0 0] : Array Value).all (·.oneCell') = true := by simp [Value.oneCell']
def zeroR : Array Value := #[.int .i64 0, .int .u64 0, .int .i64 0, .string ⟨#[]⟩, .bool false, .string ⟨#[]⟩, .int .u64 0, .slice none 0 0, .slice none 0 0, .slice none 0 0, .slice none 0 0, .slice none 0 0]
theorem exec_allocR {ρ : Operand → Value} {o : Oper} {w : World} (ho : o.op = .alloc 36) : (execOp ρ o).run Try.prog w = .ok (.value (.pointer (some ⟨w.heap.size, 0, none⟩))) (w.alloc (.cells zeroR 36)) := by
  unfold execOp
  rw [ho]
  go_simp
  rfl

set_option maxRecDepth 100000 in
set_option maxHeartbeats 8000000 in
theorem walk_RecGreatest (tn ty : Int) (c : Int) (w : World) (ht : (Lit.int .u64 tn).wf = true ∧ (Lit.int .i64 ty).wf = true) (hc : (Lit.int .u8 c).wf = true) :
    Calls Try.prog 3 #[.agg #[.int .u64 tn, .int .i64 ty], .int .u8 c] w fun e w' => e = .returned (.bool true) ∧ Below w.heap.size w w' := by
  have hcb := bounds_u8 hc
  have hnb := bounds_u64 ht.1
  obtain ⟨C, hC, hC256⟩ : ∃ C : Nat, c = (C : Int) ∧ C < 256 := ⟨c.toNat, by omega, by omega⟩
  subst hC
  have HNB : Hid (0 ≤ tn ∧ tn < 18446744073709551616) := by show _ ∧ _; omega
  clear hc hcb hnb ht
  have HT0 : Hid (Blk (w.alloc (.cells #[.int .u64 tn, .int .i64 ty] 24)) w.heap.size #[.int .u64 tn, .int .i64 ty] 24) := Blk.new _ _ _
  have HY0 : Hid (Below w.heap.size w (w.alloc (.cells #[.int .u64 tn, .int .i64 ty] 24))) := (Below.refl _ _).alloc (Nat.le_refl _) _
  go_enter Try.func3, Try.ntmps3
  go_upto_region 1 with fail
  generalize w.alloc (.cells #[.int .u64 tn, .int .i64 ty] 24) = w0 at *
  go_wp2_with fail
  refine (head11_any _).mono ?_
  rintro e w1 ⟨rfl, y⟩
  have HT1 : Hid (Blk w1 w.heap.size #[.int .u64 tn, .int .i64 ty] 24) := Blk.of HT0.out (y.block _ HT0.out.lt)
  have HY1 : Hid (Below w.heap.size w w1) := ext_trans HY0.out y
  clear y HT0 HY0
  have z0 : w1.cell? ⟨w.heap.size, 0, none⟩ = some (.int .u64 tn) := HT1.out.cell 0
  have z1 : w1.cell? ⟨w.heap.size, 1, none⟩ = some (.int .i64 ty) := HT1.out.cell 1
  go_wp2_with fail
  refine (tid11_any _ _ _).mono ?_
  rintro e w2 ⟨rfl, y⟩
  have HT2 : Hid (Blk w2 w.heap.size #[.int .u64 tn, .int .i64 ty] 24) := Blk.of HT1.out (y.block _ HT1.out.lt)
  have HY2 : Hid (Below w.heap.size w w2) := ext_trans HY1.out y
  clear y HT1 HY1 z0 z1
  cases htd : tidOk tn ty with
  | false =>
    clear htd
    go_wp2
    go_ret
    exact ⟨rfl, HY2.out⟩
  | true =>
    have HTD : Hid (tidOk tn ty = true) := htd
    clear htd
    have m48 : ∀ w, (Instr.makeSlice 27 (.int .i64 48) (.int .i64 48)).run Try.prog w = .ok (.slice (some ⟨w.heap.size, 0, none⟩) 48 48) (w.alloc (.cells (fillA 48 0 C) 5)) := run_make8 48 C (by omega)
    have HV0 : Hid (Blk (w2.alloc (.cells (fillA 48 0 C) 5)) w2.heap.size (fillA 48 0 C) 5) := Blk.new _ _ _
    have HT3 : Hid (Blk (w2.alloc (.cells (fillA 48 0 C) 5)) w.heap.size #[.int .u64 tn, .int .i64 ty] 24) := HT2.out.alloc _
    have HY3 : Hid (Below w.heap.size w (w2.alloc (.cells (fillA 48 0 C) 5))) := HY2.out.alloc HY2.out.size _
    have HVB : Hid (w.heap.size < w2.heap.size) := HT2.out.lt
    go_upto_region 6 with fail
    clear m48 HT2 HY2
    generalize w2.alloc (.cells (fillA 48 0 C) 5) = w3 at *
    obtain ⟨vb, hvb⟩ : ∃ x, w2.heap.size = x := ⟨_, rfl⟩
    rw [hvb] at HV0 HVB ⊢
    clear hvb
    go_wp2
    go_loopw [24] (fun v wr => ∃ j : Nat, v = .int .i64 (j : Int) ∧ j ≤ 48 ∧ Blk wr vb (fillA 48 j C) 5 ∧ Chg (fun g => g = vb) w3 wr) (fun v _ => 48 - (intOf v).toNat)
    case atStart => exact ⟨0, rfl, Nat.zero_le _, HV0.out, Chg.refl _ _⟩
    case round =>
      obtain ⟨j, rfl, hj, hB, hC1⟩ := hrel
      have HB : Hid (Blk wr vb (fillA 48 j C) 5) := hB
      have HC1 : Hid (Chg (fun g => g = vb) w3 wr) := hC1
      clear hB hC1
      by_cases hlt : j < 48
      · obtain ⟨x0, hx0⟩ := fill_cell HB.out hj hlt
        have hf := HB.out.frozen j
        go_wp2
        go_roundw
        case rel => exact ⟨j + 1, by go_num, by omega, by rw [← fillA_set hlt hC256]; exact HB.out.set _ _, HC1.out.setCell _ (fun _ => rfl) _⟩
        case measure => simp [intOf]; omega
      · have hj' : j = 48 := by omega
        subst hj'
        rw [show ((48 : Nat) : Int) = 48 from rfl]
        rename World => wv
        have HV4 : Hid (Blk wv vb (bv (rep C 48)).toArray 5) := by show Blk _ _ _ _; rw [← fillA_all]; exact HB.out
        have HT4 : Hid (Blk wv w.heap.size #[.int .u64 tn, .int .i64 ty] 24) := HT3.out.chg HC1.out (by have := HVB.out; omega)
        have HY4 : Hid (Below w.heap.size w wv) := HY3.out.trans (HC1.out.below (B := w.heap.size) (HY3.out.size) (fun i hi => by subst hi; exact Nat.le_of_lt HVB.out))
        have HB4 : Hid (Box (wv.alloc (.cells #[.int .i64 1, .slice none 0 0, .slice none 0 0, .slice none 0 0, .int .i64 0, .int .i64 0, .int .i64 0, .int .i64 0] 31)) w.heap.size wv.heap.size (lfG C 0) (.slice none 0 0) (.slice none 0 0) (.slice none 0 0)) :=
          ⟨Blk.new _ _ _, ⟨OwnV.nil _ _ _, OwnV.nil _ _ _, OwnV.nil _ _ _, fun g e => (by cases e), fun g e => (by cases e), fun g e => (by cases e)⟩, HY4.out.size, by simp [Value.ownBlock], by simp [Value.ownBlock], by simp [Value.ownBlock]⟩
        have HV5 : Hid (Blk (wv.alloc (.cells #[.int .i64 1, .slice none 0 0, .slice none 0 0, .slice none 0 0, .int .i64 0, .int .i64 0, .int .i64 0, .int .i64 0] 31)) vb (bv (rep C 48)).toArray 5) := HV4.out.alloc _
        have HT5 : Hid (Blk (wv.alloc (.cells #[.int .i64 1, .slice none 0 0, .slice none 0 0, .slice none 0 0, .int .i64 0, .int .i64 0, .int .i64 0, .int .i64 0] 31)) w.heap.size #[.int .u64 tn, .int .i64 ty] 24) := HT4.out.alloc _
        have HY5 : Hid (Below w.heap.size w (wv.alloc (.cells #[.int .i64 1, .slice none 0 0, .slice none 0 0, .slice none 0 0, .int .i64 0, .int .i64 0, .int .i64 0, .int .i64 0] 31))) := HY4.out.alloc HY4.out.size _
        have HLB : Hid (w.heap.size < wv.heap.size ∧ vb < wv.heap.size) := ⟨HT4.out.lt, HV4.out.lt⟩
        go_upto_region 12 with fail
        clear HB HC1 HV0 HT3 HY3 HV4 HT4 HY4 hj hlt
        generalize wv.alloc (.cells #[.int .i64 1, .slice none 0 0, .slice none 0 0, .slice none 0 0, .int .i64 0, .int .i64 0, .int .i64 0, .int .i64 0] 31) = w4 at *
        generalize wv.heap.size = lb at *
        have HB5 : Hid (Box w4 lb lb (lfG C 0) (.slice none 0 0) (.slice none 0 0) (.slice none 0 0)) :=
          ⟨HB4.out.box, ⟨OwnV.nil _ _ _, OwnV.nil _ _ _, OwnV.nil _ _ _, fun g e => (by cases e), fun g e => (by cases e), fun g e => (by cases e)⟩, Nat.le_refl _, by simp [Value.ownBlock], by simp [Value.ownBlock], by simp [Value.ownBlock]⟩
        clear HB4
        go_wp2
        go_loopw [8, 9] (fun vi _ wr => ∃ (k : Nat) (ka va : Option Addr) (kn kc vn vc : Nat), vi = .int .i64 (k : Int) ∧ k ≤ 6 ∧ Box wr lb lb (lfG C k) (.slice ka kn kc) (.slice va vn vc) (.slice none 0 0) ∧ Below lb w4 wr) (fun vi _ _ => 6 - (intOf vi).toNat)
        case atStart => exact ⟨0, _, _, _, _, _, _, rfl, Nat.zero_le _, HB5.out, Below.refl _ _⟩
        case round =>
          obtain ⟨k, ka, va, kn, kc, vn, vc, rfl, hk6, hb, hy⟩ := hrel
          clear HB5
          have BA : Hid (Box wr lb lb (lfG C k) (.slice ka kn kc) (.slice va vn vc) (.slice none 0 0)) := hb
          have HY : Hid (Below lb w4 wr) := hy
          clear hb hy
          by_cases hlt : k < 6
          · have m24 : ∀ w, (Instr.makeSlice 27 (.int .i64 24) (.int .i64 24)).run Try.prog w = .ok (.slice (some ⟨w.heap.size, 0, none⟩) 24 24) (w.alloc (.cells (fillA 24 24 0) 5)) := fun w => by have := run_make8 24 0 (by omega) w; exact this
            rename World => wo
            go_upto_region 16 with fail
            have HKB : Hid (Blk (wo.alloc (.cells (fillA 24 24 0) 5)) wo.heap.size (fillA 24 24 0) 5) := Blk.new _ _ _
            have HY1 : Hid (Below lb w4 (wo.alloc (.cells (fillA 24 24 0) 5))) := HY.out.alloc (BA.out.lt (.inl rfl) |>.2 |> Nat.le_of_lt) _
            have BA1 : Hid (Box (wo.alloc (.cells (fillA 24 24 0) 5)) lb lb (lfG C k) (.slice ka kn kc) (.slice va vn vc) (.slice none 0 0)) := BA.out.below (below_allocR _)
            have HKL : Hid (lb < wo.heap.size ∧ ∀ g, fp lb (.slice ka kn kc) (.slice va vn vc) (.slice none 0 0) g → g < wo.heap.size) := ⟨(BA.out.lt (.inl rfl)).2, fun g hg => (BA.out.lt hg).2⟩
            clear m24 HY
            generalize wo.alloc (.cells (fillA 24 24 0) 5) = w5 at *
            generalize wo.heap.size = kb at *
            obtain ⟨x0, hx0⟩ := fill_cell HKB.out (Nat.le_refl _) (show 0 < 24 by omega)
            have hf := HKB.out.frozen 0
            go_upto_region 17 with fail
            clear hx0 hf
            have HKB2 : Hid (Blk (w5.setCell ⟨kb, 0, none⟩ (.int .u8 ((k : Int) + 1))) kb (bv (UInt8.ofNat (k + 1) :: rep 0 23)).toArray 5) := by show Blk _ _ _ _; rw [← fillA_last 0 k (by omega)]; exact HKB.out.set _ _
            have HY2 : Hid (Below lb w4 (w5.setCell ⟨kb, 0, none⟩ (.int .u8 ((k : Int) + 1)))) := HY1.out.setCell (Nat.le_of_lt HKL.out.1) _
            have BA2 : Hid (Box (w5.setCell ⟨kb, 0, none⟩ (.int .u8 ((k : Int) + 1))) lb lb (lfG C k) (.slice ka kn kc) (.slice va vn vc) (.slice none 0 0)) := BA1.out.keep fun g hg => Below.heap_setCell _ _ _ _ (by have := HKL.out.2 g hg; show g ≠ kb; omega)
            clear HKB HY1 BA1
            generalize w5.setCell ⟨kb, 0, none⟩ (.int .u8 ((k : Int) + 1)) = WA at *
            obtain ⟨z0, z1, z2, z3, z4, z5, z6, z7⟩ := BA2.out.box.cells
            have lta := Blk.lt BA2.out.box
            have HSZ : Hid (lb ≤ WA.heap.size) := Nat.le_of_lt lta
            have hst : (convert 27 9 (.slice (some ⟨kb, 0, none⟩) 24 24)).run Try.prog WA = .ok (.string (gk 0 k)) WA := row_str HKB2.out (by simp [rep]) (by omega)
            go_wp2_with (at_builtin; refine wpList_pushS WA rfl _ _ rfl lb _ (lfG C k).keys (gk 0 k) BA2.out.own.keys rfl rfl (by show (grK 0 k).length < _; rw [grK_length]; omega) HSZ.out ?_)
            intro aa na ca Xa hna ho hg hat
            have BXa : Hid (Box (Xa.setCell ⟨lb, 1, none⟩ (.slice aa na ca)) lb lb _ (.slice aa na ca) (.slice va vn vc) (.slice none 0 0)) := BA2.out.pushK ho hg hat
            have HYa : Hid (Below lb w4 (Xa.setCell ⟨lb, 1, none⟩ (.slice aa na ca))) := push_below HY2.out HSZ.out (fun g e => (BA2.out.own.keys.blk g e).1) BA2.out.hb hg _
            have pre := BA2.out.pre BA2.out.nk hg
            clear z0 z1 z2 z3 z4 z5 z6 z7 ho hg hat lta hst
            obtain ⟨z0, z1, z2, z3, z4, z5, z6, z7⟩ := pre.cells
            have ff := pre.frozen 1
            clear pre HY2 hna HKB2 BA2 HSZ HKL
            go_upto_region 18 with fail
            generalize Xa.setCell ⟨lb, 1, none⟩ (.slice aa na ca) = WB at *
            clear z0 z1 z2 z3 z4 z5 z6 z7 ff
            obtain ⟨z0, z1, z2, z3, z4, z5, z6, z7⟩ := BXa.out.box.cells
            have ltb := Blk.lt BXa.out.box
            have HSZ : Hid (lb ≤ WB.heap.size) := Nat.le_of_lt ltb
            have hst : (convert 27 9 (.slice (some ⟨vb, 0, none⟩) 48 48)).run Try.prog WB = .ok (.string (gv C)) WB := row_str (HV5.out.of (HYa.out.block _ HLB.out.2)) (by simp [rep]) (by omega)
            go_wp2_with (at_builtin; refine wpList_pushS WB rfl _ _ rfl lb _ (lfG C k).vals (gv C) BXa.out.own.vals rfl rfl (by show (grV C k).length < _; rw [grV_length]; omega) HSZ.out ?_)
            intro ab nb cb Xb hnb ho hg hat
            have BXb : Hid (Box (Xb.setCell ⟨lb, 2, none⟩ (.slice ab nb cb)) lb lb _ (.slice aa na ca) (.slice ab nb cb) (.slice none 0 0)) := BXa.out.pushV ho hg hat
            have HYb : Hid (Below lb w4 (Xb.setCell ⟨lb, 2, none⟩ (.slice ab nb cb))) := push_below HYa.out HSZ.out (fun g e => (BXa.out.own.vals.blk g e).1) BXa.out.hb hg _
            have pre := BXa.out.pre BXa.out.nv hg
            clear z0 z1 z2 z3 z4 z5 z6 z7 ho hg hat ltb hst
            obtain ⟨z0, z1, z2, z3, z4, z5, z6, z7⟩ := pre.cells
            have ff := pre.frozen 2
            clear pre BXa HYa hnb HSZ
            go_upto_region 14 with fail
            generalize Xb.setCell ⟨lb, 2, none⟩ (.slice ab nb cb) = WC at *
            clear z0 z1 z2 z3 z4 z5 z6 z7 ff
            have hl1 : lfG C (k + 1) = { { lfG C k with keys := (lfG C k).keys ++ [gk 0 k] } with vals := (lfG C k).vals ++ [gv C] } := by show Pg.mk _ (grK 0 (k + 1)) (grV C (k + 1)) _ _ _ _ _ = _; rw [grK_succ, grV_succ]; rfl
            have R1 : Hid (Box WC lb lb (lfG C (k + 1)) (.slice aa na ca) (.slice ab nb cb) (.slice none 0 0)) := by rw [hl1]; exact BXb.out
            clear hl1 BXb BA
            go_wp2
            go_roundw
            case rel => exact ⟨k + 1, _, _, _, _, _, _, by go_num, by omega, R1.out, HYb.out⟩
            case measure => simp [intOf]; omega
          · have hk : k = 6 := by omega
            subst hk
            clear hlt hk6
            rw [show ((6 : Nat) : Int) = 6 from rfl]
            rename World => w6
            have HV6 : Hid (Blk w6 vb (bv (rep C 48)).toArray 5) := HV5.out.of (HY.out.block _ HLB.out.2)
            have HT6 : Hid (Blk w6 w.heap.size #[.int .u64 tn, .int .i64 ty] 24) := HT5.out.of (HY.out.block _ HLB.out.1)
            have HY6 : Hid (Below w.heap.size w w6) := HY5.out.trans (Below.mono HY.out (Nat.le_of_lt HLB.out.1))
            clear HV5 HT5 HY5 HY
            go_upto_region 19 with fail
            refine wp_region_ext (by kernel_rfl) ?_
            haveI nA := cls_ext w6.drew
            have q0 := cellX (W0 := w6.drew) (show w6.drew.cell? ⟨w.heap.size, 0, none⟩ = some (.int .u64 tn) from HT6.out.cell 0)
            have q1 := cellX (W0 := w6.drew) (show w6.drew.cell? ⟨w.heap.size, 1, none⟩ = some (.int .i64 ty) from HT6.out.cell 1)
            have u1 := Src.strE (W0 := w6.drew) (show Src w6.drew (.slice (some ⟨vb, 0, none⟩) 24 48) (rep C 24) from by
              have h := Blk.src (w := w6.drew) (l := rep C 48) (k := 24) (c := 48) HV6.out.drew (by simp [rep]) (by simp [rep]) (by unfold maxLen; omega)
              rw [show (rep C 48).take 24 = rep C 24 from by simp [rep]] at h
              exact h)
            have u2 := Src.strE (W0 := w6.drew) (show Src w6.drew (.slice (some ⟨vb, 0, none⟩) 48 48) (rep C 48) from by
              have h := Blk.src (w := w6.drew) (l := rep C 48) (k := 48) (c := 48) HV6.out.drew (by simp [rep]) (by simp [rep]) (by unfold maxLen; omega)
              rw [show (rep C 48).take 48 = rep C 48 from by simp [rep]] at h
              exact h)
            have HYD : Hid (Below w.heap.size w w6.drew) := Below.drew HY6.out
            have BAD : Hid (Box w6.drew lb lb (lfG C 6) (.slice ka kn kc) (.slice va vn vc) (.slice none 0 0)) := BA.out.below (Below.drew (Below.refl _ _))
            clear HT6 HV6 HY6 BA
            refine wpAnyH_seg (by kernel_rfl) (fun _ _ _ h => h) [0, 1, 2, 3, 4, 5, 6] 2 _ _ _ (Ext.refl _) (by kernel_rfl) ?_
            simp only [opsAt, List.getElem?_toArray, List.getElem?_cons_zero, List.getElem?_cons_succ, List.cons_append, List.nil_append]
            repeat (go_big_quiet_step (fail))
            refine wpQuiet_nil ?_
            clear nA q0 q1 u1 u2
            refine wpAnyH_all (rs := [7]) (fuel := 1) (by kernel_rfl) (by simp) fun j hj => ?_
            obtain rfl : j = 7 := by simpa using hj
            clear hj
            refine wpOp_value 10 rfl (by kernel_rfl) rfl (exec_allocR rfl) ?_
            have G1 : Hid (Blk (w6.drew.alloc (.cells zeroR 36)) w6.drew.heap.size zeroR 36) := Blk.new _ _ _
            have HY7 : Hid (Below w.heap.size w (w6.drew.alloc (.cells zeroR 36))) := HYD.out.alloc HYD.out.size _
            refine ⟨below_allocR _, ?_⟩
            simp only [Act.put, List.setIfInBounds_toArray, List.set_cons_succ, List.set_cons_zero]
            refine wpAnyH_all (rs := [8]) (fuel := 0) (by kernel_rfl) (by simp) fun j hj => ?_
            obtain rfl : j = 8 := by simpa using hj
            clear hj
            refine wpOp_storeN rfl (by kernel_rfl) 36 _ _ rfl rfl w6.drew.heap.size 0 #[.int .i64 1, .int .u64 tn, .int .i64 ty, .string (kvC C), .bool true, .string (gv C), .int .u64 4611686018427387904, .slice none 0 0, .slice none 0 0, .slice none 0 0, .slice none 0 0, .slice none 0 0] rfl rfl (thereN 12 G1.out (by simp [zeroR])) (by kernel_rfl) (gr_one _ _ _) ?_
            have hput : (w6.drew.alloc (.cells zeroR 36)).setCells w6.drew.heap.size 0 (#[.int .i64 1, .int .u64 tn, .int .i64 ty, .string (kvC C), .bool true, .string (gv C), .int .u64 4611686018427387904, .slice none 0 0, .slice none 0 0, .slice none 0 0, .slice none 0 0, .slice none 0 0]).toList = putL (w6.drew.alloc (.cells zeroR 36)) w6.drew.heap.size 0 [.int .i64 1, .int .u64 tn, .int .i64 ty, .string (kvC C), .bool true, .string (gv C), .int .u64 4611686018427387904, .slice none 0 0, .slice none 0 0, .slice none 0 0, .slice none 0 0, .slice none 0 0] := rfl
            rw [hput]
            have HRB : Hid (Blk (putL (w6.drew.alloc (.cells zeroR 36)) w6.drew.heap.size 0 [.int .i64 1, .int .u64 tn, .int .i64 ty, .string (kvC C), .bool true, .string (gv C), .int .u64 4611686018427387904, .slice none 0 0, .slice none 0 0, .slice none 0 0, .slice none 0 0, .slice none 0 0]) w6.drew.heap.size #[.int .i64 1, .int .u64 tn, .int .i64 ty, .string (kvC C), .bool true, .string (gv C), .int .u64 4611686018427387904, .slice none 0 0, .slice none 0 0, .slice none 0 0, .slice none 0 0, .slice none 0 0] 36) := putL_all [.int .i64 1, .int .u64 tn, .int .i64 ty, .string (kvC C), .bool true, .string (gv C), .int .u64 4611686018427387904, .slice none 0 0, .slice none 0 0, .slice none 0 0, .slice none 0 0, .slice none 0 0] G1.out rfl
            have HX8 : Hid (Below w6.drew.heap.size w6.drew (putL (w6.drew.alloc (.cells zeroR 36)) w6.drew.heap.size 0 [.int .i64 1, .int .u64 tn, .int .i64 ty, .string (kvC C), .bool true, .string (gv C), .int .u64 4611686018427387904, .slice none 0 0, .slice none 0 0, .slice none 0 0, .slice none 0 0, .slice none 0 0])) := putL_below (Nat.le_refl _) _ _ _ (below_allocR _)
            refine ⟨HX8.out, ?_⟩
            refine wpAnyH_done (by kernel_rfl) (NoPanic.normal ?_) 0
            have HY8 : Hid (Below w.heap.size w (putL (w6.drew.alloc (.cells zeroR 36)) w6.drew.heap.size 0 [.int .i64 1, .int .u64 tn, .int .i64 ty, .string (kvC C), .bool true, .string (gv C), .int .u64 4611686018427387904, .slice none 0 0, .slice none 0 0, .slice none 0 0, .slice none 0 0, .slice none 0 0])) := ext_trans HYD.out HX8.out
            have BA8 : Hid (Box (putL (w6.drew.alloc (.cells zeroR 36)) w6.drew.heap.size 0 [.int .i64 1, .int .u64 tn, .int .i64 ty, .string (kvC C), .bool true, .string (gv C), .int .u64 4611686018427387904, .slice none 0 0, .slice none 0 0, .slice none 0 0, .slice none 0 0, .slice none 0 0]) lb lb (lfG C 6) (.slice ka kn kc) (.slice va vn vc) (.slice none 0 0)) := BAD.out.below HX8.out
            have HRL : Hid (∀ g, fp lb (.slice ka kn kc) (.slice va vn vc) (.slice none 0 0) g → g < w6.drew.heap.size) := fun g hg => (BAD.out.lt hg).2
            have HWL : Hid (w.heap.size < w6.drew.heap.size) := Nat.lt_trans HLB.out.1 (BAD.out.lt (.inl rfl)).2
            clear hput G1 HY7 HYD BAD HX8
            generalize putL (w6.drew.alloc (.cells zeroR 36)) w6.drew.heap.size 0 [.int .i64 1, .int .u64 tn, .int .i64 ty, .string (kvC C), .bool true, .string (gv C), .int .u64 4611686018427387904, .slice none 0 0, .slice none 0 0, .slice none 0 0, .slice none 0 0, .slice none 0 0] = w8 at *
            generalize w6.drew.heap.size = rb at *
            go_wp2
            go_loopw [11] (fun vi wr => ∃ (k : Nat) (ga : Option Addr) (gn gc : Nat), vi = .int .i64 (k : Int) ∧ k ≤ 30 ∧ wr.ownsRow (rb + 1) 38 9 (.slice ga gn gc) (chs C ka kn kc va vn vc k).length ((chs C ka kn kc va vn vc k).map ChgV.c).flatten ∧ Blk wr rb #[.int .i64 1, .int .u64 tn, .int .i64 ty, .string (kvC C), .bool true, .string (gv C), .int .u64 4611686018427387904, .slice none 0 0, .slice none 0 0, .slice ga gn gc, .slice none 0 0, .slice none 0 0] 36 ∧ Box wr lb lb (lfG C 6) (.slice ka kn kc) (.slice va vn vc) (.slice none 0 0) ∧ Below w.heap.size w wr) (fun vi _ => 30 - (intOf vi).toNat)
            case atStart => exact ⟨0, _, _, _, rfl, Nat.zero_le _, World.ownsRow_nil _ _ _ _, HRB.out, BA8.out, HY8.out⟩
            case round =>
              obtain ⟨k, ga, gn, gc, rfl, hk30, ho, hbk, hbx, hy⟩ := hrel
              clear HRB BA8 HY8
              have OW : Hid (wr.ownsRow (rb + 1) 38 9 (.slice ga gn gc) (chs C ka kn kc va vn vc k).length ((chs C ka kn kc va vn vc k).map ChgV.c).flatten) := ho
              have BK : Hid (Blk wr rb #[.int .i64 1, .int .u64 tn, .int .i64 ty, .string (kvC C), .bool true, .string (gv C), .int .u64 4611686018427387904, .slice none 0 0, .slice none 0 0, .slice ga gn gc, .slice none 0 0, .slice none 0 0] 36) := hbk
              have BX : Hid (Box wr lb lb (lfG C 6) (.slice ka kn kc) (.slice va vn vc) (.slice none 0 0)) := hbx
              have HY : Hid (Below w.heap.size w wr) := hy
              clear ho hbk hbx hy
              by_cases hlt : k < 30
              · rename World => wo
                have y9 : wo.cell? ⟨rb, 9, none⟩ = some (.slice ga gn gc) := BK.out.cell 9
                obtain ⟨z0, z1, z2, z3, z4, z5, z6, z7⟩ := BX.out.box.cells
                have HSZ : Hid (rb + 1 ≤ wo.heap.size) := BK.out.lt
                go_wp2_with (at_builtin; refine wpList_pushN wo rfl _ _ 32 38 (.agg #[.int .i64 0, .int .i64 0, .slice none 0 0, .slice none 0 0, .slice none 0 0, .int .i64 0, .int .i64 0, .int .i64 0, .int .i64 0]) 9 120 Try.underlying32 infoC rfl (by decide) rfl (rb + 1) _ ChgV.c (chs C ka kn kc va vn vc k) (chG C ka kn kc va vn vc (65000 + (k : Int))) _ rfl chgc_len (chgc_one _) OW.out rfl rfl (by rw [chs_length]; omega) (by decide) HSZ.out ?_)
                intro aa na ca Xa hna ho hg hat
                have OWNa : Hid ((Xa.setCell ⟨rb, 9, none⟩ (.slice aa na ca)).ownsRow (rb + 1) 38 9 (.slice aa na ca) ((chs C ka kn kc va vn vc k) ++ [(chG C ka kn kc va vn vc (65000 + (k : Int)))]).length (((chs C ka kn kc va vn vc k) ++ [(chG C ka kn kc va vn vc (65000 + (k : Int)))]).map ChgV.c).flatten) := by
                  show World.ownsRow _ _ _ _ _ _ _
                  rw [List.length_append, List.length_singleton, List.map_append, List.flatten_append, List.map_singleton, List.flatten_singleton]
                  exact owns_kept ho fun g hgg => Below.heap_setCell _ _ _ _ (by have := (ho.lt g hgg).1; show g ≠ rb; omega)
                have pre : Blk Xa rb #[.int .i64 1, .int .u64 tn, .int .i64 ty, .string (kvC C), .bool true, .string (gv C), .int .u64 4611686018427387904, .slice none 0 0, .slice none 0 0, .slice ga gn gc, .slice none 0 0, .slice none 0 0] 36 := BK.out.of (by rw [hg.block rb (by have := BK.out.lt; simp; omega) (fun e => by have := (OW.out.lt rb e.symm).1; omega), Below.heap_alloc _ _ _ BK.out.lt])
                have BLKa : Hid (Blk (Xa.setCell ⟨rb, 9, none⟩ (.slice aa na ca)) rb #[.int .i64 1, .int .u64 tn, .int .i64 ty, .string (kvC C), .bool true, .string (gv C), .int .u64 4611686018427387904, .slice none 0 0, .slice none 0 0, .slice aa na ca, .slice none 0 0, .slice none 0 0] 36) := by show Blk _ _ _ _; have := pre.set 9 (.slice aa na ca); simpa using this
                have BXa : Hid (Box (Xa.setCell ⟨rb, 9, none⟩ (.slice aa na ca)) lb lb (lfG C 6) (.slice ka kn kc) (.slice va vn vc) (.slice none 0 0)) := BX.out.keep fun g hgg => turn_kept hg g (BX.out.lt hgg).2 (fun e => by have := (OW.out.lt g e).1; have := HRL.out g hgg; omega) (by have := HRL.out g hgg; omega) _
                have HYa : Hid (Below w.heap.size w (Xa.setCell ⟨rb, 9, none⟩ (.slice aa na ca))) := push_below HY.out HY.out.size (fun g e => by have := (OW.out.lt g e).1; have := HWL.out; omega) (Nat.le_of_lt HWL.out) hg _
                clear z0 z1 z2 z3 z4 z5 z6 z7 y9 ho hg hat HSZ hna
                have y9 := pre.cell 9
                have f9 := pre.frozen 9
                clear pre
                go_upto_region 22 with fail
                generalize Xa.setCell ⟨rb, 9, none⟩ (.slice aa na ca) = Wa at *
                clear y9 f9
                go_wp2
                go_roundw
                case rel => exact ⟨k + 1, _, _, _, by go_num, by omega, by rw [chs_succ]; exact OWNa.out, BLKa.out, BXa.out, HYa.out⟩
                case measure => simp [intOf]; omega
              · have hk : k = 30 := by omega
                subst hk
                clear hlt hk30
                rename World => wo
                have r0 : wo.cell? ⟨rb, 0, none⟩ = some (.int .i64 1) := BK.out.cell 0
                have r1 : wo.cell? ⟨rb, 1, none⟩ = some (.int .u64 tn) := BK.out.cell 1
                have r2 : wo.cell? ⟨rb, 2, none⟩ = some (.int .i64 ty) := BK.out.cell 2
                have r3 : wo.cell? ⟨rb, 3, none⟩ = some (.string (kvC C)) := BK.out.cell 3
                have r4 : wo.cell? ⟨rb, 4, none⟩ = some (.bool true) := BK.out.cell 4
                have r5 : wo.cell? ⟨rb, 5, none⟩ = some (.string (gv C)) := BK.out.cell 5
                have r6 : wo.cell? ⟨rb, 6, none⟩ = some (.int .u64 4611686018427387904) := BK.out.cell 6
                have r7 : wo.cell? ⟨rb, 7, none⟩ = some (.slice none 0 0) := BK.out.cell 7
                have r8 : wo.cell? ⟨rb, 8, none⟩ = some (.slice none 0 0) := BK.out.cell 8
                have r9 : wo.cell? ⟨rb, 9, none⟩ = some (.slice ga gn gc) := BK.out.cell 9
                have r10 : wo.cell? ⟨rb, 10, none⟩ = some (.slice none 0 0) := BK.out.cell 10
                have r11 : wo.cell? ⟨rb, 11, none⟩ = some (.slice none 0 0) := BK.out.cell 11
                go_wp2_with fail
                refine (encQ_any (gRec tn ty C ga gn gc (chs C ka kn kc va vn vc 30)) wo ⟨by show (kvC C).size ≤ maxLen; rw [kvC_size]; unfold maxLen; omega, by show (gv C).size ≤ maxLen; rw [gv_size]; unfold maxLen; omega, Rd.nil _, Rd.nil _, fun _ h => (by cases h), rows_of_own chgc_len OW.out, fun c hc => by obtain ⟨n, rfl⟩ := chs_mem _ _ _ _ _ _ _ hc; exact ⟨BX.out.own.at, lfG_ok C 6⟩, RowsN.nil _ _ _, fun _ h => (by cases h), RowsN.nil _ _ _, fun _ h => (by cases h)⟩ ⟨HNB.out, by show 0 ≤ (4611686018427387904 : Int) ∧ (4611686018427387904 : Int) < 18446744073709551616; omega, fun _ h => (by cases h), fun _ h => (by cases h)⟩).mono ?_
                rintro e w9 ⟨he, y⟩
                have HE1 : Hid (∃ (ao : Option Addr) (N m : Nat), e = .returned (.tuple #[.slice ao N m, .int .i64 0]) ∧ 13000 < N ∧ N ≤ 16384) := by
                  have hb := gRec_bytes tn ty C ga gn gc ka kn kc va vn vc
                  have hr : rightRec (gRec tn ty C ga gn gc (chs C ka kn kc va vn vc 30)) = true := by rw [gRec_right C ga gn gc _ HTD.out]; exact chs_fits _ _ _ _ _ _ _
                  rcases he with ⟨_, _, ao, m, h1, _⟩ | ⟨er, _, ⟨_, h2, _⟩ | ⟨h2, _⟩⟩
                  · exact ⟨ao, _, m, h1, hb⟩
                  · omega
                  · rw [hr] at h2; cases h2
                obtain ⟨ao, N, m, rfl, hN1, hN2⟩ := HE1.out
                have OW9 : Hid (w9.ownsRow (rb + 1) 38 9 (.slice ga gn gc) (chs C ka kn kc va vn vc 30).length ((chs C ka kn kc va vn vc 30).map ChgV.c).flatten) := owns_kept OW.out fun g hg => y.block g (OW.out.lt g hg).2
                have BK9 : Hid (Blk w9 rb #[.int .i64 1, .int .u64 tn, .int .i64 ty, .string (kvC C), .bool true, .string (gv C), .int .u64 4611686018427387904, .slice none 0 0, .slice none 0 0, .slice ga gn gc, .slice none 0 0, .slice none 0 0] 36) := BK.out.of (y.block _ BK.out.lt)
                have BX9 : Hid (Box w9 lb lb (lfG C 6) (.slice ka kn kc) (.slice va vn vc) (.slice none 0 0)) := BX.out.below y
                have HY9 : Hid (Below w.heap.size w w9) := ext_trans HY.out y
                have HNN : Hid (13000 < N ∧ N ≤ 16384) := ⟨hN1, hN2⟩
                clear he y HE1 OW BK BX HY hN1 hN2
                clear r0 r1 r2 r3 r4 r5 r6 r7 r8 r9 r10 r11
                go_upto_region 25 with fail
                have y9 : w9.cell? ⟨rb, 9, none⟩ = some (.slice ga gn gc) := BK9.out.cell 9
                obtain ⟨z0, z1, z2, z3, z4, z5, z6, z7⟩ := BX9.out.box.cells
                have HSZ : Hid (rb + 1 ≤ w9.heap.size) := BK9.out.lt
                go_wp2_with (at_builtin; refine wpList_pushN w9 rfl _ _ 32 38 (.agg #[.int .i64 0, .int .i64 0, .slice none 0 0, .slice none 0 0, .slice none 0 0, .int .i64 0, .int .i64 0, .int .i64 0, .int .i64 0]) 9 120 Try.underlying32 infoC rfl (by decide) rfl (rb + 1) _ ChgV.c (chs C ka kn kc va vn vc 30) (chG C ka kn kc va vn vc 65530) _ rfl chgc_len (chgc_one _) OW9.out rfl rfl (by rw [chs_length]; omega) (by decide) HSZ.out ?_)
                intro ab nb cb Xb hnb ho hg hat
                have OWNb : Hid ((Xb.setCell ⟨rb, 9, none⟩ (.slice ab nb cb)).ownsRow (rb + 1) 38 9 (.slice ab nb cb) ((chs C ka kn kc va vn vc 30) ++ [(chG C ka kn kc va vn vc 65530)]).length (((chs C ka kn kc va vn vc 30) ++ [(chG C ka kn kc va vn vc 65530)]).map ChgV.c).flatten) := by
                  show World.ownsRow _ _ _ _ _ _ _
                  rw [List.length_append, List.length_singleton, List.map_append, List.flatten_append, List.map_singleton, List.flatten_singleton]
                  exact owns_kept ho fun g hgg => Below.heap_setCell _ _ _ _ (by have := (ho.lt g hgg).1; show g ≠ rb; omega)
                have pre : Blk Xb rb #[.int .i64 1, .int .u64 tn, .int .i64 ty, .string (kvC C), .bool true, .string (gv C), .int .u64 4611686018427387904, .slice none 0 0, .slice none 0 0, .slice ga gn gc, .slice none 0 0, .slice none 0 0] 36 := BK9.out.of (by rw [hg.block rb (by have := BK9.out.lt; simp; omega) (fun e => by have := (OW9.out.lt rb e.symm).1; omega), Below.heap_alloc _ _ _ BK9.out.lt])
                have BLKb : Hid (Blk (Xb.setCell ⟨rb, 9, none⟩ (.slice ab nb cb)) rb #[.int .i64 1, .int .u64 tn, .int .i64 ty, .string (kvC C), .bool true, .string (gv C), .int .u64 4611686018427387904, .slice none 0 0, .slice none 0 0, .slice ab nb cb, .slice none 0 0, .slice none 0 0] 36) := by show Blk _ _ _ _; have := pre.set 9 (.slice ab nb cb); simpa using this
                have BXb : Hid (Box (Xb.setCell ⟨rb, 9, none⟩ (.slice ab nb cb)) lb lb (lfG C 6) (.slice ka kn kc) (.slice va vn vc) (.slice none 0 0)) := BX9.out.keep fun g hgg => turn_kept hg g (BX9.out.lt hgg).2 (fun e => by have := (OW9.out.lt g e).1; have := HRL.out g hgg; omega) (by have := HRL.out g hgg; omega) _
                have HYb : Hid (Below w.heap.size w (Xb.setCell ⟨rb, 9, none⟩ (.slice ab nb cb))) := push_below HY9.out HY9.out.size (fun g e => by have := (OW9.out.lt g e).1; have := HWL.out; omega) (Nat.le_of_lt HWL.out) hg _
                clear z0 z1 z2 z3 z4 z5 z6 z7 y9 ho hg hat HSZ hnb
                have y9 := pre.cell 9
                have f9 := pre.frozen 9
                clear pre
                go_upto_region 26 with fail
                generalize Xb.setCell ⟨rb, 9, none⟩ (.slice ab nb cb) = Wb at *
                clear y9 f9
                have r0 : Wb.cell? ⟨rb, 0, none⟩ = some (.int .i64 1) := BLKb.out.cell 0
                have r1 : Wb.cell? ⟨rb, 1, none⟩ = some (.int .u64 tn) := BLKb.out.cell 1
                have r2 : Wb.cell? ⟨rb, 2, none⟩ = some (.int .i64 ty) := BLKb.out.cell 2
                have r3 : Wb.cell? ⟨rb, 3, none⟩ = some (.string (kvC C)) := BLKb.out.cell 3
                have r4 : Wb.cell? ⟨rb, 4, none⟩ = some (.bool true) := BLKb.out.cell 4
                have r5 : Wb.cell? ⟨rb, 5, none⟩ = some (.string (gv C)) := BLKb.out.cell 5
                have r6 : Wb.cell? ⟨rb, 6, none⟩ = some (.int .u64 4611686018427387904) := BLKb.out.cell 6
                have r7 : Wb.cell? ⟨rb, 7, none⟩ = some (.slice none 0 0) := BLKb.out.cell 7
                have r8 : Wb.cell? ⟨rb, 8, none⟩ = some (.slice none 0 0) := BLKb.out.cell 8
                have r9 : Wb.cell? ⟨rb, 9, none⟩ = some (.slice ab nb cb) := BLKb.out.cell 9
                have r10 : Wb.cell? ⟨rb, 10, none⟩ = some (.slice none 0 0) := BLKb.out.cell 10
                have r11 : Wb.cell? ⟨rb, 11, none⟩ = some (.slice none 0 0) := BLKb.out.cell 11
                go_wp2_with fail
                refine (encQ_any (gRec tn ty C ab nb cb (chs C ka kn kc va vn vc 30 ++ [(chG C ka kn kc va vn vc 65530)])) Wb ⟨by show (kvC C).size ≤ maxLen; rw [kvC_size]; unfold maxLen; omega, by show (gv C).size ≤ maxLen; rw [gv_size]; unfold maxLen; omega, Rd.nil _, Rd.nil _, fun _ h => (by cases h), rows_of_own chgc_len OWNb.out, fun c hc => by obtain ⟨n, rfl⟩ := mem31 C ka kn kc va vn vc hc; exact ⟨BXb.out.own.at, lfG_ok C 6⟩, RowsN.nil _ _ _, fun _ h => (by cases h), RowsN.nil _ _ _, fun _ h => (by cases h)⟩ ⟨HNB.out, by show 0 ≤ (4611686018427387904 : Int) ∧ (4611686018427387904 : Int) < 18446744073709551616; omega, fun _ h => (by cases h), fun _ h => (by cases h)⟩).mono ?_
                rintro e w10 ⟨he, y⟩
                have HE2 : Hid (e = .returned (.tuple #[.slice none 0 0, .int .i64 1])) := by
                  have hr : rightRec (gRec tn ty C ab nb cb (chs C ka kn kc va vn vc 30 ++ [(chG C ka kn kc va vn vc 65530)])) = false := by
                    rw [gRec_right C ab nb cb _ HTD.out]
                    unfold fitsB
                    rw [List.length_append, chs_length, decide_eq_false (by simp)]
                    rfl
                  show _ = _
                  rcases he with ⟨h2, _⟩ | ⟨er, h1, ⟨h2, _⟩ | ⟨_, h2⟩⟩
                  · rw [hr] at h2; cases h2
                  · rw [hr] at h2; cases h2
                  · rw [h1, h2]
                have he2 := HE2.out
                subst he2
                have HY10 : Hid (Below w.heap.size w w10) := ext_trans HYb.out y
                clear he y HE2
                clear r0 r1 r2 r3 r4 r5 r6 r7 r8 r9 r10 r11
                have hN1 : 13000 < N := HNN.out.1
                have hN2 : N ≤ 16384 := HNN.out.2
                go_wp2
                go_ret
                exact ⟨rfl, HY10.out⟩
end Go.Proofs.Ythkmohcdgnldgaa
