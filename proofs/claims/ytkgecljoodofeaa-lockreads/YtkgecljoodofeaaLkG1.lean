/- lock: line, Has, Waiting, Len of a table that is there; Free of a table that a law holds. Own lemmas, no statement. -/
import Derived.Test.YtkgecljoodofeaaLkFr
import Derived.Test.YtkgecljoodofeaaLkX
set_option linter.unusedSimpArgs false
set_option linter.unusedVariables false
namespace Go.Proofs.Ytkgecljoodofeaa
open Go.ChangeShapes Go.WideShapes Go.ChangeAt Go.RowKit

set_option maxRecDepth 100000 in
set_option maxHeartbeats 1000000 in
theorem line_any (B : Nat) (T : Tab) (k : ByteArray) (w : World) (h : TabAt B w T none_) (hk : k.size ≤ maxLen) :
    Calls Try.prog 38 #[.pointer (some ⟨T.g, 0, none⟩), .string k] w fun e w' => e = .returned (T.ln k).v ∧ Ext w w' := by
  obtain ⟨ha, hn, hc, wa, wn, wc, _, _, ev⟩ := (T.ln k).parts
  have HE0 : Hid (Ext w (w.alloc (.cells #[.slice none 0 0, .slice none 0 0] 67))) := ext_one _
  have HLK : Hid ((Instr.lookup 62 (.map (some T.mb)) (.string k) false).run Try.prog (w.alloc (.cells #[.slice none 0 0, .slice none 0 0] 67)) = .ok (.agg #[.slice ha hn hc, .slice wa wn wc]) (w.alloc (.cells #[.slice none 0 0, .slice none 0 0] 67))) := by
    have := (h.below HE0.out).lm.ask cLn_ok k hk
    rw [← ev]
    exact this
  have HZ : Hid (Blk (w.alloc (.cells #[.slice ha hn hc, .slice wa wn wc] 67)) w.heap.size #[.slice ha hn hc, .slice wa wn wc] 67) := Blk.new _ _ _
  have HE : Hid (Ext w (w.alloc (.cells #[.slice ha hn hc, .slice wa wn wc] 67))) := ext_one _
  have c0 : w.cell? ⟨T.g, 0, none⟩ = some (.map (some T.mb)) := h.blk.cell 0
  have hg := h.blk.lt
  rw [ev]
  clear h ev
  go_enter Try.func38, Try.ntmps38
  go_wp2_with (at_lookup; refine wpList_lookup_run _ rfl _ _ _ rfl _ _ rfl rfl HLK.out ?_)
  go_wp2
  refine bodyPost_ret (results_oneL (ty := 67) rfl _ _ w.heap.size 67 #[.slice ha hn hc, .slice wa wn wc] _ rfl HZ.out Try.underlying67 rfl (by kernel_rfl)) rfl ?_
  exact ⟨rfl, HE.out⟩
set_option maxRecDepth 100000 in
set_option maxHeartbeats 1000000 in
theorem hasT_any {B g n : Nat} {S : Say} {T : Tab} (w : World) (h : TT B w g n S T) (k : ByteArray) (hk : k.size ≤ maxLen) (hn9 : n ≤ 9000) :
    Calls Try.prog 18 #[.pointer (some ⟨g, 0, none⟩), .string k] w fun e w' => ∃ v, e = .returned v ∧ OwnW w' w.heap.size v (S.has k) ∧ Ext w w' := by
  have HL : Hid (Calls _ _ _ _ _) := line_any B T k w h.tab hk
  have HO : Hid (OwnL w B (T.ln k)) := h.tab.own
  have HLE : Hid ((S.has k).length ≤ 10000) := by
    have h1 := h.inv.len k
    have h2 := h.n
    show _ ≤ _
    rw [h.has k]
    omega
  have HSK : Hid (S.has k = (T.ln k).has) := h.has k
  obtain ⟨ha, hn, hc, wa, wn, wc, eh, ew, ev⟩ := (T.ln k).parts
  have HE : Hid ((T.ln k).hv = .slice ha hn hc) := eh
  rw [ev, h.at_] at HL
  clear h eh ew ev
  go_enter Try.func18, Try.ntmps18
  go_wp2_with fail
  refine HL.out.mono ?_
  rintro e w1 ⟨rfl, h1⟩
  have H1 : Hid (Ext w w1) := h1
  clear h1 HL
  have HCL : Hid (Calls _ _ _ _ _) := cloneW_any (.slice ha hn hc) (S.has k) w1 (by rw [HSK.out, ← HE.out]; exact (HO.out.1.row).below H1.out) HLE.out
  obtain ⟨hf, hg⟩ := line_field (.slice ha hn hc) (.slice wa wn wc) w1
  go_wp2_with fail
  refine HCL.out.mono ?_
  rintro e w2 ⟨v2, rfl, o2, h2⟩
  have HR : Hid (OwnW w2 w.heap.size v2 (S.has k) ∧ Ext w w2) := ⟨o2.mono H1.out.size, Ext.trans H1.out h2⟩
  clear o2 h2 HCL
  go_wp2
  go_ret
  exact ⟨_, rfl, HR.out.1, HR.out.2⟩
set_option maxRecDepth 100000 in
set_option maxHeartbeats 1000000 in
theorem waitingT_any {B g n : Nat} {S : Say} {T : Tab} (w : World) (h : TT B w g n S T) (k : ByteArray) (hk : k.size ≤ maxLen) (hn9 : n ≤ 9000) :
    Calls Try.prog 19 #[.pointer (some ⟨g, 0, none⟩), .string k] w fun e w' => ∃ v, e = .returned v ∧ OwnW w' w.heap.size v (S.waits k) ∧ Ext w w' := by
  have HL : Hid (Calls _ _ _ _ _) := line_any B T k w h.tab hk
  have HO : Hid (OwnL w B (T.ln k)) := h.tab.own
  have HLE : Hid ((S.waits k).length ≤ 10000) := by
    have h1 := h.inv.len k
    have h2 := h.n
    show _ ≤ _
    rw [h.waits k]
    omega
  have HSK : Hid (S.waits k = (T.ln k).waits) := h.waits k
  obtain ⟨ha, hn, hc, wa, wn, wc, eh, ew, ev⟩ := (T.ln k).parts
  have HE : Hid ((T.ln k).wv = .slice wa wn wc) := ew
  rw [ev, h.at_] at HL
  clear h eh ew ev
  go_enter Try.func19, Try.ntmps19
  go_wp2_with fail
  refine HL.out.mono ?_
  rintro e w1 ⟨rfl, h1⟩
  have H1 : Hid (Ext w w1) := h1
  clear h1 HL
  have HCL : Hid (Calls _ _ _ _ _) := cloneW_any (.slice wa wn wc) (S.waits k) w1 (by rw [HSK.out, ← HE.out]; exact (HO.out.2.row).below H1.out) HLE.out
  obtain ⟨hf, hg⟩ := line_field (.slice ha hn hc) (.slice wa wn wc) w1
  go_wp2_with fail
  refine HCL.out.mono ?_
  rintro e w2 ⟨v2, rfl, o2, h2⟩
  have HR : Hid (OwnW w2 w.heap.size v2 (S.waits k) ∧ Ext w w2) := ⟨o2.mono H1.out.size, Ext.trans H1.out h2⟩
  clear o2 h2 HCL
  go_wp2
  go_ret
  exact ⟨_, rfl, HR.out.1, HR.out.2⟩

theorem nodup_le {α : Type} [DecidableEq α] : ∀ (a b : List α), a.Nodup → (∀ x ∈ a, x ∈ b) → a.length ≤ b.length
  | [], b, _, _ => Nat.zero_le _
  | x :: r, b, hn, hs => by
    have h1 := List.nodup_cons.1 hn
    have hx : x ∈ b := hs x List.mem_cons_self
    have ih := nodup_le r (b.erase x) h1.2 fun y hy => (List.mem_erase_of_ne (fun e => h1.1 (by rw [← e]; exact hy))).2 (hs y (List.mem_cons_of_mem _ hy))
    rw [List.length_erase_of_mem hx] at ih
    have := List.length_pos_of_mem hx
    simp only [List.length_cons]
    omega
/-- Free of a table that a law holds; L has all keys that something is laid under. -/
theorem freeT_any {B g n c : Nat} {S : Say} {T : Tab} (w : World) (h : TT B w g n S T) (t : Td) (ht : t.wf) (hn : n ≤ 9000) (hB : B ≤ w.heap.size) (L : List ByteArray) (hL : ∀ q, inT t (S.has q) (S.waits q) = true → q ∈ L) (hc : L.length ≤ c) :
    Calls Try.prog 16 #[.pointer (some ⟨g, 0, none⟩), .agg #[.int .u64 t.num, .int .i64 t.node]] w fun e w' => ∃ (v : Value) (ks : List ByteArray) (T' : Tab), e = .returned v ∧ (ks.Pairwise fun a b => ltK a b = true) ∧ (∀ q, q ∈ ks ↔ inT t (S.has q) (S.waits q) = true) ∧ OwnG w' w.heap.size v (ks.flatMap fun q => freeG t q (S.has q) (S.waits q)) ∧ TT B w' g (n + c) (S.free t) T' ∧ StepT w T w' T' := by
  rw [← h.at_]
  refine (free_any B T t w h.tab h.inv ht (Nat.le_trans h.n hn) hB).mono ?_
  rintro e w' ⟨v, ks, os, T', rfl, hk, hl, hf, ht', ho, hs⟩
  have hq : ∀ q, q ∈ ks ↔ inT t (S.has q) (S.waits q) = true := fun q => by rw [hk.2 q, h.inv.asked t q, inT_iff, h.has, h.waits]
  have hkl : ks.length ≤ c := Nat.le_trans (nodup_le ks L (keys_nodup hk.1) fun q hx => hL q ((hq q).1 hx)) hc
  have hos : os = ks.flatMap fun q => freeG t q (S.has q) (S.waits q) := by
    rw [hf.os, List.take_length]
    congr 1
    funext q
    rw [h.has, h.waits]
  refine ⟨v, ks, T'.off t, rfl, hk.1, hq, by rw [← hos]; exact ho, ⟨?_, ht', hf.inv h.inv hk, ?_, fun q => ?_, fun q => ?_⟩, hs⟩
  · exact hf.g
  · show T'.N ≤ _
    rw [hf.n]
    have := h.n
    omega
  · show (if inT t (S.has q) (S.waits q) then freeH t (S.has q) (S.waits q) else S.has q) = _
    rw [h.has, h.waits]
    exact ((hf.ln h.inv hk q).1).symm
  · show (if inT t (S.has q) (S.waits q) then freeW t (S.has q) (S.waits q) else S.waits q) = _
    rw [h.has, h.waits]
    exact ((hf.ln h.inv hk q).2).symm
end Go.Proofs.Ytkgecljoodofeaa
