/- Calls through the interface: what the line's methods are called with; the walk up. Own lemmas, no statement. -/
import Derived.Test.YtgoejoiomjmfaaaDue3
namespace Go.Proofs.Ytgoejoiomjmfaaa
open Go.ChangeShapes Go.WideShapes Go.ChangeAt Go.RowKit

theorem wrapNil (xt : TypeId) (a : Addr) (name : String) : Builtin.ssaWrapNilChk_ #[xt] xt #[.pointer (some a), strVal "", strVal name] = pure (.pointer (some a)) := rfl
theorem method_val {P : Program} {w : World} {t elem : TypeId} {name : String} {m : Method} {i : TypeInfo} {f : FuncId} {g : Nat} {v : Value} (k : Nat) (hi : P.info? t = some i) (hm : i.methods.find? (·.name == name) = some m) (hp : m.path = #[]) (hf : m.func = some (f, false))
    (hu : P.underlying t = some (.pointer elem)) (hl : (loadVar elem ⟨g, 0, none⟩).run P w = .ok v w) : (method (k + 1) t (.pointer (some ⟨g, 0, none⟩)) name).run P w = .ok (f, v) w := by
  have hr : (receiverAt t (.val (.pointer (some ⟨g, 0, none⟩))) false (some ((name.splitOn ".").getLastD name))).run P w = .ok v w := by
    unfold receiverAt
    rw [Sem.run_bind, run_underlying hu w]
    simp only [Result.andThen_ok, Place.get, pure_bind, wrapNil, asAddr]
    simp [hl]
  unfold method
  simp only [typeInfo, Sem.run_bind]
  simp [hi, hm, hp, hf, follow]
  simp at hr
  rw [hr]
  simp
theorem load_slice {P : Program} {w : World} {t e : TypeId} {g : Nat} {a : Option Addr} {n c : Nat} (hu : P.underlying t = some (.slice e)) (hc : w.cell? ⟨g, 0, none⟩ = some (.slice a n c)) : (loadVar t ⟨g, 0, none⟩).run P w = .ok (.slice a n c) w := by
  have hagg : (isAgg t).run P w = .ok false w := by
    unfold isAgg
    rw [Sem.run_bind, run_underlying hu w]
    simp
  simp [loadVar, Sem.run_bind, hagg, hc]

section
variable {w : World} {g n c : Nat} {a : Option Addr}
theorem meth_Len (hc : w.cell? ⟨g, 0, none⟩ = some (.slice a n c)) : (method 190 61 (.pointer (some ⟨g, 0, none⟩)) "Len").run Try.prog w = .ok (40, .slice a n c) w := by
  obtain ⟨i, hi⟩ : ∃ i, Try.prog.info? 61 = some i := Option.isSome_iff_exists.1 (by kernel_rfl)
  have e : ((Try.prog.info? 61).bind fun i => (i.methods.find? (·.name == "Len")).map fun m => (m.path, m.func)) = some (#[], some (40, false)) := by kernel_rfl
  rw [hi] at e
  simp only [Option.bind_some, Option.map_eq_some_iff, Prod.mk.injEq] at e
  obtain ⟨m, hm, hp, hf⟩ := e
  exact method_val 189 hi hm hp hf Try.underlying61 (load_slice Try.underlying51 hc)
theorem meth_Less (hc : w.cell? ⟨g, 0, none⟩ = some (.slice a n c)) : (method 190 61 (.pointer (some ⟨g, 0, none⟩)) "Less").run Try.prog w = .ok (41, .slice a n c) w := by
  obtain ⟨i, hi⟩ : ∃ i, Try.prog.info? 61 = some i := Option.isSome_iff_exists.1 (by kernel_rfl)
  have e : ((Try.prog.info? 61).bind fun i => (i.methods.find? (·.name == "Less")).map fun m => (m.path, m.func)) = some (#[], some (41, false)) := by kernel_rfl
  rw [hi] at e
  simp only [Option.bind_some, Option.map_eq_some_iff, Prod.mk.injEq] at e
  obtain ⟨m, hm, hp, hf⟩ := e
  exact method_val 189 hi hm hp hf Try.underlying61 (load_slice Try.underlying51 hc)
theorem meth_Swap (hc : w.cell? ⟨g, 0, none⟩ = some (.slice a n c)) : (method 190 61 (.pointer (some ⟨g, 0, none⟩)) "Swap").run Try.prog w = .ok (42, .slice a n c) w := by
  obtain ⟨i, hi⟩ : ∃ i, Try.prog.info? 61 = some i := Option.isSome_iff_exists.1 (by kernel_rfl)
  have e : ((Try.prog.info? 61).bind fun i => (i.methods.find? (·.name == "Swap")).map fun m => (m.path, m.func)) = some (#[], some (42, false)) := by kernel_rfl
  rw [hi] at e
  simp only [Option.bind_some, Option.map_eq_some_iff, Prod.mk.injEq] at e
  obtain ⟨m, hm, hp, hf⟩ := e
  exact method_val 189 hi hm hp hf Try.underlying61 (load_slice Try.underlying51 hc)
end
end Go.Proofs.Ytgoejoiomjmfaaa
