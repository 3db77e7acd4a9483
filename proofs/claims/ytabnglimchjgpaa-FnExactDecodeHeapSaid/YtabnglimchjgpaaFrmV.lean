/- The arguments of laws that take heaps of names, opened. No statement is proved here. -/
import Derived.Test.YtabnglimchjgpaaStr
import Derived.ProofKit
import Derived.OpenShut
namespace Go.Proofs.Ytabnglimchjgpaa
open Go.RowKit Go.ChangeShapes Go.WideShapes
set_option linter.unusedVariables false
def tmV : RT → Option TypeId
  | .str => some 9
  | _ => none
theorem layStrV : layOk Try.prog tmV 8 9 (tab .str) = true := by kernel_rfl
theorem layTabV : LayTab Try.prog tmV := by
  intro r e h
  cases r
  case str =>
    obtain rfl : 9 = e := Option.some.inj h
    exact ⟨by kernel_rfl, layStrV⟩
  all_goals exact absurd h (by simp [tmV])
theorem lay_open_heap : layOk Try.prog tmV 8 24 [.sl .str] = true := by kernel_rfl
set_option maxRecDepth 100000 in
theorem open_heap {H : Type} {enc : TypeId × Value → H} {w : World} {base : Nat} {spare : Nat → Bool} {held : Bool} {r : Reach} {b0 : Nat} {v : Value} {d : DataW H} {p : List MemPlace} (hv : Value.okWide Try.prog w r b0 24 v) (h : DataW.Trod enc Try.prog w base spare held 24 v d p) :
    ∃ (v0 : Value) (xs0 : List ByteArray), v = .agg #[v0] ∧ RiT w.heap.size w v0 xs0 := by
  obtain ⟨cs, rfl, hsz⟩ := okWide_struct Try.underlying24 hv
  obtain ⟨fuel, hf⟩ := h
  obtain ⟨ds, hds⟩ := open_data layTabV fuel 8 24 [.sl .str] _ _ lay_open_heap hf
  have hds' : Rds fuel w.heap.size w [.sl .str] cs.toList ds := by simpa [Value.cells] using hds
  obtain ⟨u0, d0, us0, ds0, e1, rfl, h0, hr0⟩ := RdsOf.cons hds'
  obtain ⟨rfl, rfl⟩ := RdsOf.nil hr0
  obtain ⟨xs0, g0⟩ := Rd.rit h0
  refine ⟨u0, xs0, ?_, g0⟩
  obtain ⟨l⟩ := cs
  simp at e1
  rw [e1]
end Go.Proofs.Ytabnglimchjgpaa
