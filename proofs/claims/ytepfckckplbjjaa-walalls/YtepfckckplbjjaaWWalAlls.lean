/- WalAlls: from any entry on; left early. Own walk, no statement. -/
import Derived.Test.YtepfckckplbjjaaWalG
namespace Go.Proofs.Ytepfckckplbjjaa
open Go.ChangeShapes Go.WideShapes Go.ChangeAt Go.RowKit Go Go.Shelf
attribute [local go_sem] Oper.semAt_some

/-- The law's own boxes, and what was there. -/
structure AlX (w W : World) (a0 : Option Addr) (len cap : Nat) (stop : Int) : Prop where
  b0 : Boxed W w.heap.size 64 (.slice a0 len cap)
  b1 : Boxed W (w.heap.size + 1) 3 (.int .i64 stop)
  b2 : Boxed W (w.heap.size + 1 + 1) 4 (.bool false)
  bel : Below w.heap.size w W
theorem AlX.below {w W W' : World} {a0 : Option Addr} {len cap : Nat} {stop : Int} (h : AlX w W a0 len cap stop) (hb : Below W.heap.size W W') : AlX w W' a0 len cap stop :=
  ⟨(hb.block _ h.b0.lt).trans h.b0, (hb.block _ h.b1.lt).trans h.b1, (hb.block _ h.b2.lt).trans h.b2, h.bel.trans (hb.mono h.bel.size)⟩

theorem alx_turn {w w1 w5 w6 : World} {a0 : Option Addr} {len cap g : Nat} {stop : Int} {f f' : Foot} {s : LSt} {st : DSt} (h : AlX w w5 a0 len cap stop) (hW : WS w1 w1.heap.size w5 g f s st) (hT : LTurn g f w5 f' w6) (hw : w.heap.size + 3 ≤ w1.heap.size) : AlX w w6 a0 len cap stop := by
  have hb : Below w1.heap.size w5 w6 := hT.chg.below hW.sz fun k e => by
    rcases e with rfl | e
    · exact hW.gB
    · exact hW.own k e
  exact ⟨(hb.block _ (by omega)).trans h.b0, (hb.block _ (by omega)).trans h.b1, (hb.block _ (by omega)).trans h.b2, h.bel.trans ⟨hb.os, hb.tape, hb.output, hb.size, fun k hk => hb.block k (by omega)⟩⟩
theorem alx_push {w w1 w6 w7 : World} {a0 : Option Addr} {len cap nb i : Nat} {stop : Int} {va : Value} {us : List Value} {tmp : Obj} (h : AlX w w6 a0 len cap stop) (ho : w6.ownsRow w1.heap.size 34 1 va i us) (hs : w1.heap.size ≤ w6.heap.size) (hw : w.heap.size + 3 ≤ w1.heap.size) (hg : (w6.alloc tmp).grownBy w7 va.ownBlock) (hn : w1.heap.size ≤ nb) (u : Value) :
    AlX w (w7.setCell ⟨nb, 0, none⟩ u) a0 len cap stop := by
  have hb : Below w1.heap.size w6 (w7.setCell ⟨nb, 0, none⟩ u) := by
    refine Below.setCell (p := ⟨nb, 0, none⟩) ?_ hn u
    refine ((Below.refl w1.heap.size w6).alloc hs tmp).grown hg (by simp; omega) fun k hk => ?_
    rcases ho.2 with ⟨rfl, _⟩ | ⟨g', cap', cur, rfl, hB, _⟩
    · cases hk
    · simp only [Value.ownBlock, Option.some.injEq] at hk
      omega
  exact ⟨(hb.block _ (by omega)).trans h.b0, (hb.block _ (by omega)).trans h.b1, (hb.block _ (by omega)).trans h.b2, h.bel.trans ⟨hb.os, hb.tape, hb.output, hb.size, fun k hk => hb.block k (by omega)⟩⟩
theorem ownsRow_pos {W : World} {B : Nat} {T : TypeId} {k n : Nat} {v : Value} {us : List Value} (h : W.ownsRow B T k v n us) (h0 : 0 < n) : ∃ g c, v = .slice (some ⟨g, 0, none⟩) n c := by
  rcases h.2 with ⟨rfl, rfl⟩ | ⟨g, cap, cur, rfl, _⟩
  · omega
  · exact ⟨_, _, rfl⟩
theorem alN_of {w w1 W : World} {a0 : Option Addr} {i cap nb g D nx lf : Nat} {stop : Int} {zs : List Int} {v : Value} {f : Foot} {st : DSt} {es : List (Nat × List UInt8)} (hX : AlX w W a0 i cap stop) (hA : AlS zs w1 W nb g v f nx st es lf i) (hw : w.heap.size + 3 ≤ w1.heap.size) (hD : W.heap[D]? = some (.deferred (some []))) (p : Nat) :
    AlN w w1 (W.setCell ⟨w.heap.size + 1, 0, none⟩ (.int .i64 (p : Int))) a0 i cap p nb g D v f nx st es := by
  have hne : ∀ k, k ≠ w.heap.size + 1 → (W.setCell ⟨w.heap.size + 1, 0, none⟩ (.int .i64 (p : Int))).heap[k]? = W.heap[k]? := fun k hk => Below.heap_setCell _ _ _ _ hk
  have hnb := hA.nb
  have hgB := hA.ws.gB
  have hchg : Chg (fun k => k = w.heap.size + 1) W (W.setCell ⟨w.heap.size + 1, 0, none⟩ (.int .i64 (p : Int))) := (Chg.refl (fun k => k = w.heap.size + 1) W).setCell ⟨w.heap.size + 1, 0, none⟩ (fun _ => rfl) _
  refine ⟨hA.ws.wl.chg hchg (fun e => ?_) (fun k hk e => ?_), (hne _ (by omega)).trans hA.bx, own_keptW hA.ow (fun k hk => hne k fun e => ?_), (hne _ (by omega)).trans hX.b0, Boxed.set _ hX.b1, (hne _ (by omega)).trans hX.b2, hX.bel.setCell (p := ⟨w.heap.size + 1, 0, none⟩) (by show w.heap.size ≤ w.heap.size + 1; omega) _, (KeepsOthers.setCell W _ _).same D _ hD rfl⟩
  · have e' : g = w.heap.size + 1 := e
    omega
  · have := hA.ws.own k hk
    have e' : k = w.heap.size + 1 := e
    omega
  · subst e
    obtain ⟨c, hc⟩ := own_block hA.ow hk
    have := (Blk.inj hc hX.b1).2
    exact absurd this (by decide)
theorem add_off (b j : Nat) : (⟨b, 0, none⟩ : Addr).add j = ⟨b, j, none⟩ := by by_cases h0 : j = 0 <;> simp [Addr.add, h0]
theorem AlS.bel2 {zs : List Int} {W0 w w' : World} {nb g nx lf i : Nat} {v : Value} {f : Foot} {st : DSt} {es : List (Nat × List UInt8)} (h : AlS zs W0 w nb g v f nx st es lf i) (hb : Below w.heap.size w w') : Boxed w' nb 33 v ∧ w'.ownsRow W0.heap.size 34 1 v i (es.map numE) := ⟨(h.below hb).bx, (h.below hb).ow⟩
theorem als_start {zs : List Int} {w1 w3 : World} {g : Nat} {f3 : Foot} {st3 : DSt} {lf3 : Nat} (hW : WS w1 w1.heap.size w3 g f3 (s10 0 98) st3) (hF : Fresh1 0 98 100 st3 lf3) :
    AlS zs w1 ((w3.alloc (.cells #[] 34)).alloc (.cells #[.slice (some ⟨w3.heap.size, 0, none⟩) 0 0] 33)) (w3.heap.size + 1) g (.slice (some ⟨w3.heap.size, 0, none⟩) 0 0) f3 0 st3 [] lf3 0 := by
  have h1 := hW.sz
  have k0 : Blk (w3.alloc (.cells #[] 34)) w3.heap.size #[] 34 := Blk.new _ _ _
  have k1 := Boxed.new (w3.alloc (.cells #[] 34)) 33 (.slice (some ⟨w3.heap.size, 0, none⟩) 0 0)
  simp only [World.size_alloc] at k1
  exact ⟨hW.below (((Below.refl _ _).alloc (Nat.le_refl _) _).alloc (by simp) _), hF.l, k1, ownsRow_empty _ _ _ (k0.alloc _) _ _ (by omega), by omega, Nat.zero_le _, by rw [hF.steps]; omega, by rw [hF.waits]; simp, rfl⟩

set_option maxRecDepth 100000 in
set_option maxHeartbeats 8000000 in
theorem walk_WalAlls (a0 : Option Addr) (len cap : Nat) (zs : List Int) (from_ stop : Int) (w : World) (hz : IsRow .i64 w a0 len cap zs) (_h2 : (Lit.int .i64 from_).wf = true) (_h3 : (Lit.int .i64 stop).wf = true) :
    Calls Try.prog 9 #[.slice a0 len cap, .int .i64 from_, .int .i64 stop] w fun e w' => e = .returned (.bool true) ∧ Below w.heap.size w w' := by
  have hX0 : AlX w (((w.alloc (.cells #[.slice a0 len cap] 64)).alloc (.cells #[.int .i64 stop] 3)).alloc (.cells #[.bool false] 4)) a0 len cap stop := by
    have k0 := Boxed.new w 64 (.slice a0 len cap)
    have k1 := Boxed.new (w.alloc (.cells #[.slice a0 len cap] 64)) 3 (.int .i64 stop)
    have k2 := Boxed.new ((w.alloc (.cells #[.slice a0 len cap] 64)).alloc (.cells #[.int .i64 stop] 3)) 4 (.bool false)
    simp only [World.size_alloc] at k1 k2
    exact ⟨(k0.alloc _).alloc _, k1.alloc _, k2, (((Below.refl _ w).alloc (Nat.le_refl _) _).alloc (by simp) _).alloc (by simp; omega) _⟩
  have HX0 : Hid (AlX w (((w.alloc (.cells #[.slice a0 len cap] 64)).alloc (.cells #[.int .i64 stop] 3)).alloc (.cells #[.bool false] 4)) a0 len cap stop) := hX0
  clear hX0
  refine (callsIn_wide (n := 6)).1 ?_
  refine callsIn_of_wp_marks Try.func9 rfl trivial ?_ rfl
  simp only [Try.ntmps9, List.size_toArray, List.length_cons, List.length_nil, Nat.reduceAdd, Nat.reduceSub, Array.replicate_succ, Array.replicate_zero, List.push_toArray, List.append_toArray, List.nil_append, List.cons_append]
  gi_wp2
  generalize ((w.alloc (.cells #[.slice a0 len cap] 64)).alloc (.cells #[.int .i64 stop] 3)).alloc (.cells #[.bool false] 4) = W0 at *
  refine ⟨trivial, ?_⟩
  refine (callsIn_wide.2 (head5_any _)).mono ?_
  rintro e w1 ⟨rfl, hb1⟩
  have HX1 : Hid (AlX w w1 a0 len cap stop) := HX0.out.below hb1
  have HSZ : Hid (w.heap.size + 3 ≤ w1.heap.size) := by have := HX1.out.b2.lt; show _ ≤ _; omega
  have c0 : w1.cell? ⟨w.heap.size, 0, none⟩ = some (.slice a0 len cap) := HX1.out.b0.cell
  have c2 : w1.cell? ⟨w.heap.size + 1 + 1, 0, none⟩ = some (.bool false) := HX1.out.b2.cell
  have f2 := HX1.out.b2.frozen
  clear HX0
  by_cases hbig : 12 < len
  · gi_wp2
    have hc5 := World.cell?_setCell_same' w1 ⟨w.heap.size + 1 + 1, 0, none⟩ (.bool true) (by rw [c2]; rfl)
    refine ⟨.bool true, by simp [results, Try.f9, go_sem, hc5], rfl, HX1.out.bel.setCell (by show w.heap.size ≤ w.heap.size + 1 + 1; omega) _⟩
  · have hnew := new_new 100 100 (nSec_of (n := 100) (by omega)) w1 w1.heap.size w1 (Below.refl _ _) (Nat.le_refl _)
    have HN : Hid (Calls _ _ _ _ _) := hnew
    clear hnew
    gi_wp2
    refine ⟨trivial, ?_⟩
    refine (callsIn_wide.2 HN.out).mono ?_
    rintro e w2 ⟨gd, f2', rfl, hD2, -, -⟩
    have hop := ws_fresh (from_ := 0) (room := 98) hD2 (by omega) (by omega) (by omega)
    have HOP : Hid (Calls Try.prog 16 #[dptr gd, .int .i64 0, .int .i64 100] w2 _) := hop
    clear hop hD2 HN
    unfold dptr at *
    gi_wp2
    refine ⟨trivial, ?_⟩
    refine (callsIn_wide.2 HOP.out).mono ?_
    rintro e w3 ⟨g, f3, st3, lf3, rfl, -, hW3, -, hF3⟩
    have HW3 : Hid (WS w1 w1.heap.size w3 g f3 (s10 0 98) st3) := hW3
    have HF3 : Hid (Fresh1 0 98 100 st3 lf3) := hF3
    have HX3 : Hid (AlX w w3 a0 len cap stop) := HX1.out.below hW3.bel
    have HA3 : Hid (AlS zs w1 ((w3.alloc (.cells #[] 34)).alloc (.cells #[.slice (some ⟨w3.heap.size, 0, none⟩) 0 0] 33)) (w3.heap.size + 1) g (.slice (some ⟨w3.heap.size, 0, none⟩) 0 0) f3 0 st3 [] lf3 0) :=
      als_start hW3 hF3
    have HX4 : Hid (AlX w ((w3.alloc (.cells #[] 34)).alloc (.cells #[.slice (some ⟨w3.heap.size, 0, none⟩) 0 0] 33)) a0 len cap stop) := HX3.out.below (((Below.refl _ _).alloc (Nat.le_refl _) _).alloc (by simp) _)
    clear hW3 hF3 HOP c0 c2 f2 HX1 hb1
    have c0 := HX4.out.b0.cell
    unfold lptr at *
    gi_wp2
    gi_loopw [35] (fun v wr => ∃ (i : Nat) (va : Value) (f : Foot) (nx : Nat) (st : DSt) (es : List (Nat × List UInt8)) (lf : Nat), v = .int .i64 (i : Int) ∧ i ≤ len ∧ AlX w wr a0 len cap stop ∧ AlS zs w1 wr (w3.heap.size + 1) g va f nx st es lf i) (fun v _ => len - (intOf v).toNat)
    case atStart => exact ⟨0, _, f3, 0, st3, [], lf3, rfl, Nat.zero_le _, HX4.out, HA3.out⟩
    case round =>
      clear HX4 HA3 HX3 c0
      obtain ⟨i, va, f, nx, st, es, lf, rfl, hi, hX, hA⟩ := hrel
      have HX : Hid (AlX w wr a0 len cap stop) := hX
      have HA : Hid (AlS zs w1 wr (w3.heap.size + 1) g va f nx st es lf i) := hA
      have hi12 : i ≤ 12 := by omega
      have c0 := hX.b0.cell
      by_cases hlt : i < len
      · obtain ⟨x, rfl, hxc⟩ : ∃ x, a0 = some x ∧ w.cell? (x.add i) = some (.int .i64 (zs.getD i 0)) := by
          rcases hz with ⟨_, h0, _, _⟩ | ⟨x, h0, h1, h2, h3, h4, _⟩
          · omega
          · exact ⟨x, h0, h4 i (by omega)⟩
        have hcz : wr.cell? (x.add i) = some (.int .i64 (zs.getD i 0)) := (hX.bel.cell (World.block_lt_of_cell? _ _ hxc)).trans hxc
        obtain ⟨hm, hm1⟩ := zOf_is zs i
        generalize zs.getD i 0 = zi at *
        generalize hzm : zOf zs i = m at *
        have kc : ∀ (w : World) (Sv : ByteArray), (convert 9 41 (.string Sv)).run Try.prog w = .ok (.slice (some ⟨w.heap.size, 0, none⟩) Sv.size (grownCap w Sv.size 0 5)) (Lib.bytesWorld w 5 Sv) := fun w Sv => Lib.run_convert_string_bytes (P := Try.prog) w 9 41 5 Sv Try.underlying9 Try.underlying41 Try.underlying5
        have hby := bytes5_any m i (by omega) (by omega) wr
        have hbl := bytesL_length m i
        obtain ⟨L, hLm⟩ : ∃ L, bytesL m i = L := ⟨_, rfl⟩
        rw [hLm] at hby hbl
        obtain ⟨Sv, hSv⟩ : ∃ Sv : ByteArray, (⟨L.toArray⟩ : ByteArray) = Sv := ⟨_, rfl⟩
        have hSL : Sv.data.toList = L := by rw [← hSv]
        have hSz : Sv.size = m := by rw [← hSv]; show L.toArray.size = m; rw [List.size_toArray]; exact hbl
        rw [hSv] at hby
        have HBY : Hid (Calls _ _ _ _ _) := hby
        have HLV : Hid (Sv.data.toList = L ∧ Sv.size = m ∧ L.length = m ∧ bytesL (zOf zs i) i = L) := ⟨hSL, hSz, hbl, by rw [hzm]; exact hLm⟩
        clear hby hSL hSv hSz hbl hLm hzm hX hA hz
        gi_wp2
        refine ⟨trivial, ?_⟩
        refine (callsIn_wide.2 HBY.out).mono ?_
        rintro e w4 ⟨rfl, hb4⟩
        gi_wp2
        obtain ⟨-, hSz, hbl, hLm⟩ := HLV.out
        have hA5 := (HA.out.below hb4).below (bytesW_below w4 5 Sv)
        have hX5 := (HX.out.below hb4).below (bytesW_below w4 5 Sv)
        have hws4 := (HA.out.ws.below hb4).wl.lt
        have hsrc := bytesW_src w4 Sv (by omega)
        rw [HLV.out.1] at hsrc
        have hk1 := needN_1023 hm1
        have hk0 := needN_pos m
        have hnx := HA.out.nx
        have hstp := HA.out.stp
        have hwts := HA.out.wts
        have happ := ws_appendT (n1 := w4.heap.size) hA5.ws hA5.lw hsrc ⟨hws4.2, hws4.1⟩ (fun ad e _ => by cases e; exact .inr (Nat.le_refl _)) (by omega) (by rw [hbl]; show needN m ≤ 98 - (nx - 0); omega) (by show nx < _; omega) (by show (1 : Nat) ≤ _; omega) (by omega) (by omega)
        obtain ⟨-, q2, q3⟩ := apTo_len ⟨0, 98, 1, 1, 0, 1, nx, 0⟩ L (needN L.length) st (needN L.length)
        rw [hbl] at happ q2 q3
        generalize (apTo ⟨0, 98, 1, 1, 0, 1, nx, 0⟩ L (needN m) st (needN m)).2 = st6 at *
        generalize needN m = kn at *
        have HA5 : Hid (AlS zs w1 (Lib.bytesWorld w4 5 Sv) (w3.heap.size + 1) g va f nx st es lf i) := hA5
        have HX5 : Hid (AlX w (Lib.bytesWorld w4 5 Sv) (some x) len cap stop) := hX5
        generalize Lib.bytesWorld w4 5 Sv = w5 at *
        have HAP : Hid (Calls _ _ _ _ _) := happ
        have HQ : Hid (nx + kn ≤ nx + 3 ∧ st6.steps ≤ st.steps + 3 ∧ st6.waits.length ≤ st.waits.length + 3 ∧ L = bytesL (zOf zs i) i) := ⟨by omega, by omega, by omega, hLm.symm⟩
        clear hSz hbl hLm hA5 hX5 hws4 hsrc hk1 hk0 hnx hstp hwts happ q2 q3 HBY hb4 HA HX c0 hcz hxc kc
        unfold lptr at HAP
        refine ⟨trivial, ?_⟩
        refine (callsIn_wide.2 HAP.out).mono ?_
        rintro e w6 ⟨f6, rfl, hW6, hL6, hT6⟩
        have hbx := (hT6.kept HA5.out.ws.wl HA5.out.bx (.inr rfl)).trans HA5.out.bx
        have c10 := Boxed.cell hbx
        have f10 := Boxed.frozen hbx
        have hX6 : AlX w w6 (some x) len cap stop := alx_turn HX5.out HA5.out.ws hT6 HSZ.out
        have HX6 : Hid (AlX w w6 (some x) len cap stop) := hX6
        have HW6 : Hid (WS w1 w1.heap.size w6 g f6 ⟨0, 98, 1, 1, 0, 1, nx + kn, 0⟩ st6) := hW6
        have HL6 : Hid (LW ⟨0, 98, 1, 1, 0, 1, nx + kn, 0⟩ st6 (es ++ [(nx, L)]) 1) := hL6
        have HT6 : Hid (LTurn g f w5 f6 w6) := hT6
        have HO6 : Hid (w6.ownsRow w1.heap.size 34 1 va i (es.map numE)) := own_keptW HA5.out.ow (fun k hk => by obtain ⟨c, hc⟩ := own_block HA5.out.ow hk; exact hT6.kept HA5.out.ws.wl hc (.inl rfl))
        have HS6 : Hid (w1.heap.size ≤ w6.heap.size) := hW6.sz
        clear hbx hX6 hW6 hL6 hT6 HAP HX5
        obtain ⟨i2, m1, m2, m3, m4⟩ := info_parts infoU64
        gi_wp2_with (first | (gi_at_builtin; refine wpListIn_append_own _ rfl _ _ 33 rfl w1.heap.size 34 i2 (.int .u64 0) 1 8 Try.underlying33 m1 m2 m3 m4 rfl (by decide) _ _ _ rfl (HO6.out.alloc _) ⟨w6.heap.size, 0, none⟩ 1 1 [.int .u64 (nx : Int)] rfl rfl (cell_one_new _ _ _) (by simp [Value.oneCell']) (by unfold maxLen; omega) (by omega) (by have := HS6.out; simp; omega) ?_; intro v' w7 hown' hgrow _; obtain ⟨gq, capq, rfl⟩ := ownsRow_succ hown'; have hP := AlS.push HA5.out HW6.out HL6.out HT6.out HQ.out.1 HQ.out.2.1 HQ.out.2.2.1 HQ.out.2.2.2 hown' hgrow; have HP : Hid (AlS zs w1 (w7.setCell ⟨w3.heap.size + 1, 0, none⟩ (.slice (some ⟨gq, 0, none⟩) (i + 1) capq)) (w3.heap.size + 1) g (.slice (some ⟨gq, 0, none⟩) (i + 1) capq) f6 (nx + kn) st6 (es ++ [(nx, L)]) 1 (i + 1)) := hP.1; have c11 := hP.2.cell; have f11 := hP.2.frozen; have HX7 : Hid (AlX w (w7.setCell ⟨w3.heap.size + 1, 0, none⟩ (.slice (some ⟨gq, 0, none⟩) (i + 1) capq)) (some x) len cap stop) := alx_push HX6.out HO6.out HS6.out HSZ.out hgrow hP.1.nb _; clear hP hown' hgrow HA5 HW6 HL6 HT6 HO6))
        go_roundw
        case rel => exact ⟨i + 1, _, f6, nx + kn, st6, _, 1, by go_num, by omega, HX7.out, HP.out⟩
        case measure => simp [intOf]; omega
      · obtain rfl : i = len := by omega
        have c2 := hX.b2.cell
        have f2 := hX.b2.frozen
        by_cases hl0 : i = 0
        · clear HA hA
          gi_wp2
          have hc5 := World.cell?_setCell_same' wr ⟨w.heap.size + 1 + 1, 0, none⟩ (.bool true) (by rw [c2]; rfl)
          refine ⟨.bool true, by simp [results, Try.f9, go_sem, hc5], rfl, HX.out.bel.setCell (by show w.heap.size ≤ w.heap.size + 1 + 1; omega) _⟩
        · obtain ⟨r, hr, ha⟩ := and_leW from_ 255 (by omega)
          have ha' : bits BinOp.and IntKind.i64 from_ 255 = (r : Int) := ha
          have hq : r % i < i := Nat.mod_lt _ (by omega)
          have hrem : Int.tmod (r : Int) (i : Int) = ((r % i : Nat) : Int) := by rw [Int.ofNat_tmod]
          generalize hqq : r % i = q at *
          have hw1 : IntKind.i64.wrap (q : Int) = (q : Int) := by rw [IntKind.wrap_i64]; omega
          clear ha hqq hX hA c2 f2
          obtain ⟨gq, capq, rfl⟩ := ownsRow_pos HA.out.ow (by omega)
          obtain ⟨⟨a, bt⟩, hxq⟩ : ∃ x, es[q]? = some x := ⟨_, List.getElem?_eq_getElem (by rw [HA.out.len]; exact hq)⟩
          have hA9 := HA.out.below ((Below.refl _ _).alloc (Nat.le_refl _) (.cells #[.int .i64 (q : Int)] 3))
          have hX9 := HX.out.below ((Below.refl _ _).alloc (Nat.le_refl _) (.cells #[.int .i64 (q : Int)] 3))
          have c10 := hA9.bx.cell
          have cq : (wr.alloc (.cells #[.int .i64 (q : Int)] 3)).cell? ⟨gq, q, none⟩ = some (.int .u64 (a : Int)) := by
            rw [← add_off gq q]
            exact World.ownsRow.cells hA9.ow rfl q (numE (a, bt)) (by rw [List.getElem?_map, hxq]; rfl)
          have hal := all_any g a (wr.alloc (.cells #[.int .i64 (q : Int)] 3))
          have hsz9 : (wr.alloc (.cells #[.int .i64 (q : Int)] 3)).heap.size = wr.heap.size + 1 := by simp
          rw [hsz9] at hal
          have HAL : Hid (Calls _ _ _ _ _) := hal
          have HQ : Hid (es[q]? = some (a, bt)) := hxq
          clear hA9 hX9 hal hsz9 hxq
          unfold lptr at HAL
          gi_wp2
          refine ⟨trivial, ?_⟩
          refine (callsIn_wide.2 HAL.out).mono ?_
          rintro e w10 ⟨rfl, hw10⟩
          have hx15 : Boxed w10 wr.heap.size 3 (.int .i64 (q : Int)) := by rw [hw10]; exact ((Boxed.new wr 3 (.int .i64 (q : Int))).alloc _).alloc _
          have hxl : Boxed w10 (wr.heap.size + 1) 28 (lptr g) := by
            have := (Boxed.new (wr.alloc (.cells #[.int .i64 (q : Int)] 3)) 28 (lptr g)).alloc (.cells #[.int .u64 (a : Int)] 34)
            rw [World.size_alloc] at this
            rw [hw10]
            exact this
          have hxa : Boxed w10 (wr.heap.size + 1 + 1) 34 (.int .u64 (a : Int)) := by
            have := Boxed.new ((wr.alloc (.cells #[.int .i64 (q : Int)] 3)).alloc (.cells #[lptr g] 28)) 34 (.int .u64 (a : Int))
            rw [World.size_alloc, World.size_alloc] at this
            rw [hw10]
            exact this
          have hb10 : Below wr.heap.size wr w10 := by rw [hw10]; exact (((Below.refl _ _).alloc (Nat.le_refl _) _).alloc (by simp) _).alloc (by simp; omega) _
          have HI0 : Hid (AlI wr.heap.size g q wr [] w10) := ⟨hx15, hxl, hb10⟩
          have HXA : Hid (Boxed w10 (wr.heap.size + 1 + 1) 34 (.int .u64 (a : Int))) := hxa
          have hfr := HA.out.lw.ch.from HQ.out
          clear hw10 hx15 hxl hxa hb10 HAL c10 cq c0
          gi_wp2
          refine wpIn_range_log (n₀ := wr.heap.size) (b0 := wr.heap.size + 1) (b1 := wr.heap.size + 1 + 1) (from_ := a) (es := es.drop q) (lf := lf) rfl (HA.out.ws.wl.below HI0.out.2.2) ⟨HA.out.ws.wl.lt.1, HA.out.ws.wl.lt.2⟩ HI0.out.2.2.size HI0.out.2.1 HXA.out hfr.2 (Nat.zero_le _) (by have := HA.out.nx; show nx < _; omega) (by show (1 : Nat) < _; omega)
            rfl (fun x t => (t.setIfInBounds 16 (.int .u64 (x.1 : Int))).setIfInBounds 17 x.2.1) (AlI wr.heap.size g q wr) (fun _ _ _ => False) (alI_own (Nat.le_refl _) HI0.out.2.2.size) (fun _ _ _ _ _ h _ _ => h) HI0.out ?assign ?body ?done (fun _ _ _ _ _ _ h _ => h.elim)
          case assign =>
            rintro l ⟨xn, xv, xt, xe⟩ W K hK
            unfold encE at *
            gi_wp2
            simp at hK
            exact hK
          case body =>
            rintro l pre ⟨xn, xv, xt, xe⟩ W hI hG hpx
            have hj : es[q + pre.length]? = some (xn, xt) := by
              have := prefix_next hpx
              rw [List.getElem?_drop] at this
              exact this
            have hAW := HA.out.bel2 hI.2.2
            have hXW := HX.out.below hI.2.2
            have hk15 := hI.1.cell
            have HI : Hid (AlI wr.heap.size g q wr pre W) := hI
            have HG : Hid (goodE (xn, xv, xt, xe) W) := hG
            obtain ⟨⟨ao, c, e, q1, q2, q3⟩, cs, hce⟩ := hG
            simp only at e q1 q2 q3 hce
            subst e
            have hsrc : Src W (.slice ao xt.length c) xt := ⟨ao, c, rfl, q1, q2, q3⟩
            have hji : q + pre.length < i := by have := (List.getElem?_eq_some_iff.1 hj).1; rw [HA.out.len] at this; exact this
            have hL : xt = bytesL (zOf zs (q + pre.length)) (q + pre.length) := by
              have h1 : (es.map (·.2))[q + pre.length]? = some xt := by rw [List.getElem?_map, hj]; rfl
              rw [HA.out.by_, lays, List.getElem?_map, List.getElem?_range hji] at h1
              simpa using h1.symm
            obtain ⟨x, rfl, hxc⟩ : ∃ x, a0 = some x ∧ w.cell? (x.add (q + pre.length)) = some (.int .i64 (zs.getD (q + pre.length) 0)) := by
              rcases hz with ⟨_, h0, _, _⟩ | ⟨x, h0, h1, h2, h3, h4, _⟩
              · omega
              · exact ⟨x, h0, h4 _ (by omega)⟩
            obtain ⟨hm, hm1⟩ := zOf_is zs (q + pre.length)
            have hcq : W.cell? ⟨gq, q + pre.length, none⟩ = some (.int .u64 (xn : Int)) := by
              rw [← add_off gq (q + pre.length)]
              exact World.ownsRow.cells hAW.2 rfl (q + pre.length) (numE (xn, xt)) (by rw [List.getElem?_map, hj]; rfl)
            have hcz : W.cell? (x.add (q + pre.length)) = some (.int .i64 (zs.getD (q + pre.length) 0)) := (hXW.bel.cell (World.block_lt_of_cell? _ _ hxc)).trans hxc
            generalize zs.getD (q + pre.length) 0 = zi at *
            generalize hmm : zOf zs (q + pre.length) = m at *
            have hpl : q + (pre ++ [(xn, Value.slice ao xt.length c, xt, xe)]).length = q + pre.length + 1 := by simp; omega
            generalize hjj : q + pre.length = j at *
            have kb : ∀ d os, CallsIn Fence.wide 3 Try.prog 17 #[.int .i64 (m : Int), .int .i64 (j : Int)] (Sort.grow (redrawn W d) os) fun e w'' => e = .returned (.string ⟨xt.toArray⟩) ∧ ∃ p : Regrown, w'' = Sort.grow (redrawn W p.d) p.os := fun d os => by
              rw [hL]
              exact (callsIn_wide.2 (bytes5_any m j (by omega) (by omega) _)).regrown_of
            have kv : ∀ d os, (convert 41 9 (.slice ao xt.length c)).run Try.prog (Sort.grow (redrawn W d) os) = .ok (.string ⟨xt.toArray⟩) (Sort.grow (redrawn W d) os) := fun d os => (hsrc.below (below_regrown W d os)).str
            have k15 : ∀ d os, (Sort.grow (redrawn W d) os).cell? ⟨wr.heap.size, 0, none⟩ = some (.int .i64 (j : Int)) := cell_regrown hk15
            have k3 : ∀ d os, (Sort.grow (redrawn W d) os).cell? ⟨w.heap.size, 0, none⟩ = some (.slice (some x) i cap) := cell_regrown hXW.b0.cell
            have k10 : ∀ d os, (Sort.grow (redrawn W d) os).cell? ⟨w3.heap.size + 1, 0, none⟩ = some (.slice (some ⟨gq, 0, none⟩) i capq) := cell_regrown hAW.1.cell
            have kq : ∀ d os, (Sort.grow (redrawn W d) os).cell? ⟨gq, j, none⟩ = some (.int .u64 (xn : Int)) := cell_regrown hcq
            have kz : ∀ d os, (Sort.grow (redrawn W d) os).cell? (x.add j) = some (.int .i64 zi) := cell_regrown hcz
            obtain ⟨Sx, hSx⟩ : ∃ Sx : ByteArray, (⟨xt.toArray⟩ : ByteArray) = Sx := ⟨_, rfl⟩
            rw [hSx] at kb kv
            have HPL : Hid (q + (pre ++ [(xn, Value.slice ao xt.length c, xt, xe)]).length = j + 1 ∧ q + pre.length = j) := ⟨hpl, hjj⟩
            clear hsrc hAW hXW hk15 hce q1 q2 q3 hxc hcq hcz hL hSx hz hpl hjj hj hpx hI
            have hge : decide ((i : Int) ≤ (j : Int)) = false := by simp; omega
            unfold encE
            gi_wp2
            refine wpIn_region_quiet_round rfl (by kernel_rfl) (by kernel_rfl) (by kernel_rfl) ?_
            repeat (refine wpQuietIn_step (fun _ _ _ _ => trivial) (fun K hK => ?_); go_simp; first | (refine hK _ ?_; clear hK K) | (apply Exists.intro; refine ⟨fun _ => ?_, hK _ ?_⟩; (first | exact kb _ _ | exact ⟨by simp, kb _ _⟩); clear hK K))
            refine wpQuietIn_nil ?_
            intro _ hw'
            obtain ⟨⟨dq, osq⟩, hw''⟩ := hw'
            subst hw''
            have hbW : Below W.heap.size W (Sort.grow (redrawn W dq) osq) := below_regrown W dq osq
            have hk15 := k15 dq osq
            show Exit.then _ (Exit.then _ (Exit.inBlock 3 _)) Exit.normal _ (Sort.grow (redrawn W dq) osq)
            have hbx : Boxed (Sort.grow (redrawn W dq) osq) wr.heap.size 3 (.int .i64 (j : Int)) := by
              have := (hbW.block _ HI.out.1.lt).trans HI.out.1
              rw [HPL.out.2] at this
              exact this
            clear k15 k3 k10 kq kz kv kb
            generalize Sort.grow (redrawn W dq) osq = W2 at *
            have hkf := hbx.frozen
            have HBW : Hid (Below W.heap.size W W2) := hbW
            have HBX : Hid (Boxed W2 wr.heap.size 3 (.int .i64 (j : Int))) := hbx
            clear hbW hbx
            gi_wp2
            have hs := alI_step HBW.out (Nat.le_of_lt HI.out.1.lt) HI.out.2.1.lt (by omega) HG.out (fun c hc => absurd (Blk.inj hc HI.out.1).2 (by decide)) (.int .i64 ((j : Int) + 1))
            refine ⟨hs.1.from _, hs.2, ?_, (hs.2.2.1).trans HI.out.2.1, HI.out.2.2.trans hs.2.1⟩
            rw [HPL.out.1]
            exact Boxed.set _ HBX.out
          case done =>
            rintro D xs W hD hxs hI hK
            have hlx : xs.length = i - q := by
              have := congrArg List.length hxs
              rw [List.length_map, List.length_drop, HA.out.len] at this
              exact this
            obtain ⟨p, hp7, hpa⟩ := and_leW stop 7 (by omega)
            have hpa' : bits BinOp.and IntKind.i64 stop 7 = (p : Int) := hpa
            have hx15 : Boxed W wr.heap.size 3 (.int .i64 (i : Int)) := by
              have := hI.1
              rw [hlx, show q + (i - q) = i by omega] at this
              exact this
            have hXW := HX.out.below hI.2.2
            have hAW := HA.out.below hI.2.2
            have hN := alN_of (D := D) hXW hAW HSZ.out hK p
            have HN : Hid (AlN w w1 (W.setCell ⟨w.heap.size + 1, 0, none⟩ (.int .i64 (p : Int))) a0 i cap p (w3.heap.size + 1) g D (.slice (some ⟨gq, 0, none⟩) i capq) f nx st es) := hN
            have HDw : Hid (w.heap.size ≤ D ∧ D < (W.setCell ⟨w.heap.size + 1, 0, none⟩ (.int .i64 (p : Int))).heap.size) := ⟨by have := hI.2.2.size; have := HX.out.bel.size; have := HI0.out.2.2.size; omega, (Array.getElem?_eq_some_iff.1 hN.d).1⟩
            have c15 := hx15.cell
            have c0 := hXW.b0.cell
            have c1 := hXW.b1.cell
            have f1 := hXW.b1.frozen
            have hNb := (Below.refl _ (W.setCell ⟨w.heap.size + 1, 0, none⟩ (.int .i64 (p : Int)))).alloc (Nat.le_refl _) (.cells #[.int .i64 0] 3)
            have hN2 := hN.below hNb
            have c10 := hN2.bx.cell
            have cq : ((W.setCell ⟨w.heap.size + 1, 0, none⟩ (.int .i64 (p : Int))).alloc (.cells #[.int .i64 0] 3)).cell? ⟨gq, q, none⟩ = some (.int .u64 (a : Int)) := by
              rw [← add_off gq q]
              exact World.ownsRow.cells hN2.ow rfl q (numE (a, bt)) (by rw [List.getElem?_map, HQ.out]; rfl)
            clear hpa hx15 hXW hAW hN hNb hN2 hI hxs hlx hK
            gi_wp2
            clear c15 c0 c1 f1 c10 cq hpa'
            have hszW : (W.setCell ⟨w.heap.size + 1, 0, none⟩ (.int .i64 (p : Int))).heap.size = W.heap.size := size_setCellW _ _ _
            generalize W.setCell ⟨w.heap.size + 1, 0, none⟩ (.int .i64 (p : Int)) = Wn at *
            rw [← hszW]
            clear hszW
            have hal := all_any g a (Wn.alloc (.cells #[.int .i64 0] 3))
            have hsz9 : (Wn.alloc (.cells #[.int .i64 0] 3)).heap.size = Wn.heap.size + 1 := by simp
            rw [hsz9] at hal
            unfold lptr at hal
            refine ⟨trivial, ?_⟩
            refine (callsIn_wide.2 hal).mono ?_
            clear hal hsz9
            rintro e w11 ⟨rfl, hw11⟩
            have hx18 : Boxed w11 Wn.heap.size 3 (.int .i64 ((0 + 0 : Nat) : Int)) := by rw [hw11]; exact ((Boxed.new Wn 3 (.int .i64 0)).alloc _).alloc _
            have hxl : Boxed w11 (Wn.heap.size + 1) 28 (lptr g) := by
              have := (Boxed.new (Wn.alloc (.cells #[.int .i64 0] 3)) 28 (lptr g)).alloc (.cells #[.int .u64 (a : Int)] 34)
              rw [World.size_alloc] at this
              rw [hw11]
              exact this
            have hxa : Boxed w11 (Wn.heap.size + 1 + 1) 34 (.int .u64 (a : Int)) := by
              have := Boxed.new ((Wn.alloc (.cells #[.int .i64 0] 3)).alloc (.cells #[lptr g] 28)) 34 (.int .u64 (a : Int))
              rw [World.size_alloc, World.size_alloc] at this
              rw [hw11]
              exact this
            have hb11 : Below Wn.heap.size Wn w11 := by rw [hw11]; exact (((Below.refl _ _).alloc (Nat.le_refl _) _).alloc (by simp) _).alloc (by simp; omega) _
            have HJ0 : Hid (AlJ Wn.heap.size g p Wn [] w11) := ⟨⟨hx18, hxl, hb11⟩, Nat.zero_le _⟩
            have HXB : Hid (Boxed w11 (Wn.heap.size + 1 + 1) 34 (.int .u64 (a : Int))) := hxa
            have HLN : Hid ((es.drop q).length = i - q) := by show _ = _; rw [List.length_drop, HA.out.len]
            clear hw11 hx18 hxl hxa hb11
            gi_wp2
            refine wpIn_range_log (n₀ := Wn.heap.size) (b0 := Wn.heap.size + 1) (b1 := Wn.heap.size + 1 + 1) (from_ := a) (es := es.drop q) (lf := lf) rfl (HN.out.wl.below HJ0.out.1.2.2) ⟨HN.out.wl.lt.1, HN.out.wl.lt.2⟩ HJ0.out.1.2.2.size HJ0.out.1.2.1 HXB.out hfr.2 (Nat.zero_le _) (by have := HA.out.nx; show nx < _; omega) (by show (1 : Nat) < _; omega)
              rfl (fun _ t => t) (AlJ Wn.heap.size g p Wn) (AlJx Wn.heap.size g p Wn) (alJ_own (Nat.le_refl _) HJ0.out.1.2.2.size) (alJx_own (Nat.le_refl _) HJ0.out.1.2.2.size) HJ0.out (fun _ _ _ _ hK => wpIn_skip hK) ?body2 ?done2 ?stop2
            case body2 =>
              rintro l pre ⟨xn, xv, xt, xe⟩ W ⟨hI, hle⟩ hG -
              have HI : Hid (AlI Wn.heap.size g 0 Wn pre W) := hI
              have HG : Hid (goodE (xn, xv, xt, xe) W) := hG
              have c18 : W.cell? ⟨Wn.heap.size, 0, none⟩ = some (.int .i64 (pre.length : Int)) := by
                have := hI.1.cell
                rw [Nat.zero_add] at this
                exact this
              have f18 := hI.1.frozen
              have c1 := (HN.out.below hI.2.2).b1.cell
              clear hI hG
              unfold encE
              by_cases hst : pre.length = p
              · gi_wp2
                refine ⟨KeepsFrom.refl _ _, rfl, by simp; omega, ?_, HI.out.2.2⟩
                have := HI.out.1
                rw [Nat.zero_add, hst] at this
                exact this
              · have hne : ¬ (pre.length : Int) = (p : Int) := by omega
                gi_wp2
                have hs := alI_step (Below.refl _ W) (Nat.le_of_lt HI.out.1.lt) HI.out.2.1.lt (by omega) HG.out (fun c hc => absurd (Blk.inj hc HI.out.1).2 (by decide)) (.int .i64 ((pre.length : Int) + 1))
                refine ⟨hs.1.from _, hs.2, ⟨?_, (hs.2.2.1).trans HI.out.2.1, HI.out.2.2.trans hs.2.1⟩, by rw [List.length_append]; show pre.length + 1 ≤ p; omega⟩
                have h18 := Boxed.set (.int .i64 ((pre.length : Int) + 1)) HI.out.1
                rw [List.length_append, show 0 + (pre.length + [((xn, xv, xt, xe) : Ent)].length) = pre.length + 1 by simp]
                exact h18
            case done2 =>
              rintro D2 ys W5 hD2 hys ⟨hI, hle⟩ hK
              have hn : ys.length = i - q := by
                have := congrArg List.length hys
                rw [List.length_map, HLN.out] at this
                exact this
              have c18 : W5.cell? ⟨Wn.heap.size, 0, none⟩ = some (.int .i64 ((i - q : Nat) : Int)) := by
                have := hI.1.cell
                rw [Nat.zero_add, hn] at this
                exact this
              have HB : Below Wn.heap.size Wn W5 := hI.2.2
              have hmin : decide (((i - q : Nat) : Int) = min (p : Int) ((i : Int) - (q : Int))) = true := by rw [decide_eq_true_eq]; omega
              have hnp : i - q ≤ p := by omega
              clear hI hys hn hle
              have hN5 := HN.out.below HB
              have hDD : D ≠ D2 := by have := HDw.out.2; have := HJ0.out.1.2.2.size; omega
              have hE := al_end hN5.b2 hN5.bel hN5.d hK hDD HDw.out.1 (by have := HDw.out.1; have := HDw.out.2; have := HJ0.out.1.2.2.size; omega)
              have HE : Hid (_ ∧ _ ∧ _ ∧ _) := hE
              have c0 := hN5.b0.cell
              have c1 := hN5.b1.cell
              have c2 := hN5.b2.cell
              have f2 := hN5.b2.frozen
              clear hN5 hE hDD hK HN HA HX HI0 HJ0 HXA HXB hfr
              gi_wp2
              · rw [show ((((i - q : Nat) : Int) == (i : Int) - (q : Int)) : Bool) = true by simp; omega]
                refine ⟨by simp, .inl ⟨_, _, rfl, run_takeDeferred HE.out.1, ?_⟩⟩
                refine ⟨by simp, .inl ⟨_, _, rfl, run_takeDeferred HE.out.2.1, ?_⟩⟩
                have hc5 := HE.out.2.2.1
                exact ⟨.bool true, by simp [results, Try.f9, go_sem, hc5], rfl, HE.out.2.2.2⟩
              · rw [show ((((i - q : Nat) : Int) == (p : Int)) : Bool) = true by simp; omega]
                refine ⟨by simp, .inl ⟨_, _, rfl, run_takeDeferred HE.out.1, ?_⟩⟩
                refine ⟨by simp, .inl ⟨_, _, rfl, run_takeDeferred HE.out.2.1, ?_⟩⟩
                have hc5 := HE.out.2.2.1
                exact ⟨.bool true, by simp [results, Try.f9, go_sem, hc5], rfl, HE.out.2.2.2⟩
            case stop2 =>
              rintro D2 c pre W5 hD2 hpx ⟨rfl, hpl, hx, hb⟩ hK
              have hle := hpx.length_le
              rw [List.length_map, HLN.out, hpl] at hle
              have c18 : W5.cell? ⟨Wn.heap.size, 0, none⟩ = some (.int .i64 (p : Int)) := hx.cell
              have HB : Below Wn.heap.size Wn W5 := hb
              have hmin : decide ((p : Int) = min (p : Int) ((i : Int) - (q : Int))) = true := by rw [decide_eq_true_eq]; omega
              clear hx hb hpx hpl
              have hN5 := HN.out.below HB
              have hDD : D ≠ D2 := by have := HDw.out.2; have := HJ0.out.1.2.2.size; omega
              have hE := al_end hN5.b2 hN5.bel hN5.d hK hDD HDw.out.1 (by have := HDw.out.1; have := HDw.out.2; have := HJ0.out.1.2.2.size; omega)
              have HE : Hid (_ ∧ _ ∧ _ ∧ _) := hE
              have c0 := hN5.b0.cell
              have c1 := hN5.b1.cell
              have c2 := hN5.b2.cell
              have f2 := hN5.b2.frozen
              clear hN5 hE hDD hK HN HA HX HI0 HJ0 HXA HXB hfr
              gi_wp2
              refine ⟨by simp, .inl ⟨_, _, rfl, run_takeDeferred HE.out.1, ?_⟩⟩
              refine ⟨by simp, .inl ⟨_, _, rfl, run_takeDeferred HE.out.2.1, ?_⟩⟩
              have hc5 := HE.out.2.2.1
              exact ⟨.bool true, by simp [results, Try.f9, go_sem, hc5], rfl, HE.out.2.2.2⟩
end Go.Proofs.Ytepfckckplbjjaa
