/- The arguments of laws that take lists of numbers, boxes and lists of boxes, opened. No statement is proved here. -/
import Derived.Test.YtbghekgghiamcaaBxL
import Derived.ProofKit
import Derived.OpenShut
namespace Go.Proofs.Ytbghekgghiamcaa
open Go.RowKit Go.ChangeShapes Go.WideShapes
set_option linter.unusedVariables false
def tmLaws : RT → Option TypeId
  | .int => some 2
  | .bx => some 70
  | _ => none
theorem layInt : layOk Try.prog tmLaws 8 2 (tab .int) = true := by kernel_rfl
theorem layBx : layOk Try.prog tmLaws 8 70 (tab .bx) = true := by kernel_rfl
theorem layIs : layOk Try.prog tmLaws 8 22 [.sl .int] = true := by kernel_rfl
theorem layBxs : layOk Try.prog tmLaws 8 40 [.sl .bx] = true := by kernel_rfl
theorem layTab : LayTab Try.prog tmLaws := by
  intro r e h
  cases r
  case int =>
    obtain rfl : 2 = e := Option.some.inj h
    exact ⟨by kernel_rfl, layInt⟩
  case bx =>
    obtain rfl : 70 = e := Option.some.inj h
    exact ⟨by kernel_rfl, layBx⟩
  all_goals exact absurd h (by simp [tmLaws])
set_option maxRecDepth 100000 in
theorem open_i {H : Type} {enc : TypeId × Value → H} {w : World} {base : Nat} {spare : Nat → Bool} {held : Bool} {r : Reach} {b0 : Nat} {v : Value} {d : DataW H} {p : List MemPlace} (hv : Value.okWide Try.prog w r b0 22 v) (h : DataW.Trod enc Try.prog w base spare held 22 v d p) :
    ∃ xs : List Int, Ri w.heap.size w v xs := by
  obtain ⟨a, len, cap, rfl⟩ := okWide_slice Try.underlying22 hv
  obtain ⟨fuel, hf⟩ := h
  obtain ⟨ds, hds⟩ := open_data layTab fuel 8 22 [.sl .int] _ _ layIs hf
  have hds' : Rds fuel w.heap.size w [.sl .int] [.slice a len cap] ds := by simpa [Value.cells] using hds
  obtain ⟨v', d', _, _, h1, _, h2, _⟩ := RdsOf.cons hds'
  obtain ⟨rfl, _⟩ := List.cons.inj h1
  exact Rd.ri h2
set_option maxRecDepth 100000 in
theorem open_boxes {H : Type} {enc : TypeId × Value → H} {w : World} {base : Nat} {spare : Nat → Bool} {held : Bool} {r : Reach} {b0 : Nat} {v : Value} {d : DataW H} {p : List MemPlace} (hv : Value.okWide Try.prog w r b0 40 v) (h : DataW.Trod enc Try.prog w base spare held 40 v d p) :
    ∃ bs : List Bx, RiB w.heap.size w v bs := by
  obtain ⟨a, len, cap, rfl⟩ := okWide_slice Try.underlying40 hv
  obtain ⟨fuel, hf⟩ := h
  obtain ⟨ds, hds⟩ := open_data layTab fuel 8 40 [.sl .bx] _ _ layBxs hf
  have hds' : Rds fuel w.heap.size w [.sl .bx] [.slice a len cap] ds := by simpa [Value.cells] using hds
  obtain ⟨v', d', _, _, h1, _, h2, _⟩ := RdsOf.cons hds'
  obtain ⟨rfl, _⟩ := List.cons.inj h1
  exact Rd.rib h2
theorem layBox : layOk Try.prog tmLaws 8 70 [.sl .int, .sl .int] = true := by kernel_rfl
set_option maxRecDepth 100000 in
theorem open_box {H : Type} {enc : TypeId × Value → H} {w : World} {base : Nat} {spare : Nat → Bool} {held : Bool} {r : Reach} {b0 : Nat} {v : Value} {d : DataW H} {p : List MemPlace} (hv : Value.okWide Try.prog w r b0 70 v) (h : DataW.Trod enc Try.prog w base spare held 70 v d p) :
    ∃ (v1 : Value) (xs : List Int) (v2 : Value) (ms : List Int), v = .agg #[v1, v2] ∧ Ri w.heap.size w v1 xs ∧ Ri w.heap.size w v2 ms := by
  obtain ⟨cs, rfl, hsz⟩ := okWide_struct Try.underlying70 hv
  obtain ⟨fuel, hf⟩ := h
  obtain ⟨ds, hds⟩ := open_data layTab fuel 8 70 [.sl .int, .sl .int] _ _ layBox hf
  have hds' : Rds fuel w.heap.size w [.sl .int, .sl .int] cs.toList ds := by simpa [Value.cells] using hds
  obtain ⟨v1, d1, vs', ds', e1, rfl, h1, hr⟩ := RdsOf.cons hds'
  obtain ⟨v2, d2, vs2, ds2, rfl, rfl, h2, hr2⟩ := RdsOf.cons hr
  obtain ⟨rfl, rfl⟩ := RdsOf.nil hr2
  obtain ⟨xs, g1⟩ := Rd.ri h1
  obtain ⟨ms, g2⟩ := Rd.ri h2
  refine ⟨v1, xs, v2, ms, ?_, g1, g2⟩
  obtain ⟨l⟩ := cs
  simp at e1
  rw [e1]
end Go.Proofs.Ytbghekgghiamcaa
