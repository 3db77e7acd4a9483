/- The arguments of laws that take lists of numbers, opened. No statement is proved here. -/
import Derived.Test.YtmghbgnalkkppaaInt
import Derived.ProofKit
import Derived.OpenShut
namespace Go.Proofs.Ytmghbgnalkkppaa
open Go.RowKit Go.ChangeShapes Go.WideShapes
set_option linter.unusedVariables false
def tmLaws : RT → Option TypeId
  | .int => some 2
  | _ => none
theorem layInt : layOk Try.prog tmLaws 8 2 (tab .int) = true := by kernel_rfl
theorem layIs : layOk Try.prog tmLaws 8 22 [.sl .int] = true := by kernel_rfl
theorem layTab : LayTab Try.prog tmLaws := by
  intro r e h
  cases r
  case int =>
    obtain rfl : 2 = e := Option.some.inj h
    exact ⟨by kernel_rfl, layInt⟩
  all_goals exact absurd h (by simp [tmLaws])
set_option maxRecDepth 100000 in
theorem open_i {H : Type} {enc : TypeId × Value → H} {w : World} {base : Nat} {spare : Nat → Bool} {held : Bool} {r : Reach} {b0 : Nat} {v : Value} {d : DataW H} {p : List MemPlace} (hv : Value.okWide Try.prog w r b0 22 v) (h : DataW.Trod enc Try.prog w base spare held 22 v d p) :
    ∃ xs : List Int, Ri w.heap.size w v xs := by
  obtain ⟨a, len, cap, rfl⟩ := okWide_slice Try.underlying22 hv
  obtain ⟨fuel, hf⟩ := h
  obtain ⟨ds, hds⟩ := open_data layTab fuel 8 22 [.sl .int] _ _ layIs hf
  have hds' : Rds fuel w.heap.size w [.sl .int] [.slice a len cap] ds := by simpa [Value.cells] using hds
  obtain ⟨v', d', _, _, h1, _, h2, _⟩ := RdsOf.cons hds'
  obtain ⟨rfl, _⟩ := List.cons.inj h1
  exact Rd.ri h2
end Go.Proofs.Ytmghbgnalkkppaa
