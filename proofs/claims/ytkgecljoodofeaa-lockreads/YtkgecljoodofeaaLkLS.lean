/- lock: how it stands with a law's table. Own lemmas, no statement. -/
import Derived.Test.YtkgecljoodofeaaG1
import Derived.Test.YtkgecljoodofeaaLkPk
set_option linter.unusedSimpArgs false
set_option linter.unusedVariables false
namespace Go.Proofs.Ytkgecljoodofeaa
open Go.ChangeShapes Go.WideShapes Go.ChangeAt Go.RowKit

/-- A table that the law made behind w, as it stands in wr. -/
structure LS (w wr : World) (B g n : Nat) (S : Say) (T : Tab) (L : List ByteArray) : Prop where
  tt : TT B wr g n S T
  base : w.heap.size ≤ B
  good : GoodS S
  inl : InL S L
  ext : Ext w wr
section
variable {w wr w' : World} {B g n n' : Nat} {S : Say} {T T' : Tab} {L L' : List ByteArray} {t : Td} {m : Int} {k : ByteArray}
theorem LS.new (he : Ext w wr) (ht : TT wr.heap.size w' g 0 say0 T) (hx : Ext wr w') : LS w w' wr.heap.size g 0 say0 T [] := ⟨ht, he.size, GoodS.zero, InL.zero _, Ext.trans he hx⟩
theorem LS.askd (h : LS w wr B g n S T L) (s : StepT wr T w' T') (ht : TT B w' g n' (S.askM t m k) T') (hk : k ∈ L') (hl : ∀ q ∈ L, q ∈ L') : LS w w' B g n' (S.askM t m k) T' L' :=
  ⟨ht, h.base, h.good.askM t m k, (h.inl.more hl).askM t m hk, s.ext h.ext h.base h.tt⟩
theorem LS.freed (h : LS w wr B g n S T L) (s : StepT wr T w' T') (ht : TT B w' g n' (S.free t) T') : LS w w' B g n' (S.free t) T' L :=
  ⟨ht, h.base, h.good.free t, h.inl.free t, s.ext h.ext h.base h.tt⟩
theorem LS.below (h : LS w wr B g n S T L) (hx : Ext wr w') : LS w w' B g n S T L := ⟨h.tt.below hx, h.base, h.good, h.inl, Ext.trans h.ext hx⟩
theorem LS.mono (h : LS w wr B g n S T L) (hn : n ≤ n') : LS w wr B g n' S T L := ⟨⟨h.tt.at_, h.tt.tab, h.tt.inv, Nat.le_trans h.tt.n hn, h.tt.has, h.tt.waits⟩, h.base, h.good, h.inl, h.ext⟩
theorem LS.more (h : LS w wr B g n S T L) (hl : ∀ q ∈ L, q ∈ L') : LS w wr B g n S T L' := ⟨h.tt, h.base, h.good, h.inl.more hl, h.ext⟩
theorem LS.chg {P : Nat → Prop} (h : LS w wr B g n S T L) (c : Chg P wr w') (hP : ∀ i, i < wr.heap.size → P i → w.heap.size ≤ i ∧ ¬ FT T none_ i) : LS w w' B g n S T L :=
  ⟨⟨h.tt.at_, h.tt.tab.chg (fun _ e => e) c (fun i hi e => (hP i (h.tt.ge hi).2 e).2 hi), h.tt.inv, h.tt.n, h.tt.has, h.tt.waits⟩, h.base, h.good, h.inl,
    Chg.below (S := fun i => w.heap.size ≤ i) (Chg.trans (Chg.of_below h.ext (fun i hi hn => hn)) c (fun i hi e => by
      rcases Nat.lt_or_ge i wr.heap.size with h1 | h1
      · exact (hP i h1 e).1
      · exact Nat.le_trans h.ext.size h1)) (Nat.le_refl _) (fun i e => e)⟩
theorem LS.bsize (h : LS w wr B g n S T L) : B ≤ wr.heap.size := h.tt.base
theorem LS.keepT {Bk : Nat} {v : Value} {ks : List Td} (h : LS w wr B g n S T L) (s : StepT wr T w' T') (ho : OwnT wr Bk v ks) : OwnT w' Bk v ks := ho.kept fun b hb => s.chg.block b (World.ownsRow.lt ho b hb).2 fun e => by
  obtain ⟨_, _, c, hc⟩ := ho.blk hb
  exact h.tt.tab.notFT hc (by decide) (by decide) e
theorem LS.keepB (h : LS w wr B g n S T L) (s : StepT wr T w' T') {b : Nat} {c : Array Value} {Y : TypeId} (hb : Blk wr b c Y) (h1 : Y ≠ 65) (h2 : Y ≠ 55) : Blk w' b c Y := s.box h.tt hb h1 h2
theorem LS.pushT {W : World} {Bk : Nat} {v : Value} {ks : List Td} (h : LS w wr B g n S T L) (he : Ext wr W) (ho : OwnT W Bk v ks) (hb : w.heap.size ≤ Bk) (hg : W.grownBy w' v.ownBlock) : LS w w' B g n S T L := by
  refine (h.below he).chg ((Chg.refl (fun i => v.ownBlock = some i) W).grown hg (fun k e _ => e)) fun i hi e => ⟨Nat.le_trans hb (ho.blk e).1, ?_⟩
  obtain ⟨_, _, c, hc⟩ := ho.blk e
  exact (h.below he).tt.tab.notFT hc (by decide) (by decide)
end
end Go.Proofs.Ytkgecljoodofeaa
