/- The arguments of laws that take filters, opened. No statement is proved here. -/
import Derived.Test.YtmddgncidgdglaaFil
import Derived.ProofKit
import Derived.OpenShut
namespace Go.Proofs.Ytmddgncidgdglaa
open Go.RowKit Go.ChangeShapes Go.WideShapes
set_option linter.unusedVariables false
def tmF : RT → Option TypeId
  | .fil => some 23
  | _ => none
theorem layFilF : layOk Try.prog tmF 8 23 (tab .fil) = true := by kernel_rfl
theorem layTabF : LayTab Try.prog tmF := by
  intro r e h
  cases r
  case fil =>
    obtain rfl : 23 = e := Option.some.inj h
    exact ⟨by kernel_rfl, layFilF⟩
  all_goals exact absurd h (by simp [tmF])
theorem lay_open_filters : layOk Try.prog tmF 8 34 [.sl .fil] = true := by kernel_rfl
set_option maxRecDepth 100000 in
theorem open_filters {H : Type} {enc : TypeId × Value → H} {w : World} {base : Nat} {spare : Nat → Bool} {held : Bool} {r : Reach} {b0 : Nat} {v : Value} {d : DataW H} {p : List MemPlace} (hv : Value.okWide Try.prog w r b0 34 v) (h : DataW.Trod enc Try.prog w base spare held 34 v d p) :
    ∃ bs : List EFI, RiFI w.heap.size w v bs := by
  obtain ⟨a, len, cap, rfl⟩ := okWide_slice Try.underlying34 hv
  obtain ⟨fuel, hf⟩ := h
  obtain ⟨ds, hds⟩ := open_data layTabF fuel 8 34 [.sl .fil] _ _ lay_open_filters hf
  have hds' : Rds fuel w.heap.size w [.sl .fil] [.slice a len cap] ds := by simpa [Value.cells] using hds
  obtain ⟨v', d', _, _, h1, _, h2, _⟩ := RdsOf.cons hds'
  obtain ⟨rfl, _⟩ := List.cons.inj h1
  exact Rd.rifi h2
theorem lay_open_filter : layOk Try.prog tmF 8 23 [.int, .int, .bool] = true := by kernel_rfl
set_option maxRecDepth 100000 in
theorem open_filter {H : Type} {enc : TypeId × Value → H} {w : World} {base : Nat} {spare : Nat → Bool} {held : Bool} {r : Reach} {b0 : Nat} {v : Value} {d : DataW H} {p : List MemPlace} (hv : Value.okWide Try.prog w r b0 23 v) (h : DataW.Trod enc Try.prog w base spare held 23 v d p) :
    ∃ (n0 : Int) (n1 : Int) (n2 : Bool), v = .agg #[.int .i64 n0, .int .i64 n1, .bool n2] ∧ InI n0 ∧ InI n1 := by
  obtain ⟨cs, rfl, hsz⟩ := okWide_struct Try.underlying23 hv
  obtain ⟨fuel, hf⟩ := h
  obtain ⟨ds, hds⟩ := open_data layTabF fuel 8 23 [.int, .int, .bool] _ _ lay_open_filter hf
  have hds' : Rds fuel w.heap.size w [.int, .int, .bool] cs.toList ds := by simpa [Value.cells] using hds
  obtain ⟨u0, d0, us0, ds0, e1, rfl, h0, hr0⟩ := RdsOf.cons hds'
  obtain ⟨u1, d1, us1, ds1, rfl, rfl, h1, hr1⟩ := RdsOf.cons hr0
  obtain ⟨u2, d2, us2, ds2, rfl, rfl, h2, hr2⟩ := RdsOf.cons hr1
  obtain ⟨rfl, rfl⟩ := RdsOf.nil hr2
  obtain ⟨n0, rfl, rfl, g0⟩ := Rd.int h0
  obtain ⟨n1, rfl, rfl, g1⟩ := Rd.int h1
  obtain ⟨n2, rfl, rfl⟩ := Rd.bool h2
  refine ⟨n0, n1, n2, ?_, g0, g1⟩
  obtain ⟨l⟩ := cs
  simp at e1
  rw [e1]
end Go.Proofs.Ytmddgncidgdglaa
