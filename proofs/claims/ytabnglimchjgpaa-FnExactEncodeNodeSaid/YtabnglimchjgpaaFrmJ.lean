/- The arguments of laws that take nodes, opened. No statement is proved here. -/
import Derived.Test.YtabnglimchjgpaaNod
import Derived.ProofKit
import Derived.OpenShut
namespace Go.Proofs.Ytabnglimchjgpaa
open Go.RowKit Go.ChangeShapes Go.WideShapes
set_option linter.unusedVariables false
def tmJ : RT → Option TypeId
  | .int => some 2
  | .chu => some 126
  | _ => none
theorem layIntJ : layOk Try.prog tmJ 8 2 (tab .int) = true := by kernel_rfl
theorem layChuJ : layOk Try.prog tmJ 8 126 (tab .chu) = true := by kernel_rfl
theorem layTabJ : LayTab Try.prog tmJ := by
  intro r e h
  cases r
  case int =>
    obtain rfl : 2 = e := Option.some.inj h
    exact ⟨by kernel_rfl, layIntJ⟩
  case chu =>
    obtain rfl : 126 = e := Option.some.inj h
    exact ⟨by kernel_rfl, layChuJ⟩
  all_goals exact absurd h (by simp [tmJ])
theorem lay_open_node : layOk Try.prog tmJ 8 49 [.bool, .sl .chu, .sl .int, .sl .int] = true := by kernel_rfl
set_option maxRecDepth 100000 in
theorem open_node {H : Type} {enc : TypeId × Value → H} {w : World} {base : Nat} {spare : Nat → Bool} {held : Bool} {r : Reach} {b0 : Nat} {v : Value} {d : DataW H} {p : List MemPlace} (hv : Value.okWide Try.prog w r b0 49 v) (h : DataW.Trod enc Try.prog w base spare held 49 v d p) :
    ∃ (n0 : Bool) (v1 : Value) (xs1 : List EC) (v2 : Value) (xs2 : List Int) (v3 : Value) (xs3 : List Int), v = .agg #[.bool n0, v1, v2, v3] ∧ RiC w.heap.size w v1 xs1 ∧ Ri w.heap.size w v2 xs2 ∧ Ri w.heap.size w v3 xs3 := by
  obtain ⟨cs, rfl, hsz⟩ := okWide_struct Try.underlying49 hv
  obtain ⟨fuel, hf⟩ := h
  obtain ⟨ds, hds⟩ := open_data layTabJ fuel 8 49 [.bool, .sl .chu, .sl .int, .sl .int] _ _ lay_open_node hf
  have hds' : Rds fuel w.heap.size w [.bool, .sl .chu, .sl .int, .sl .int] cs.toList ds := by simpa [Value.cells] using hds
  obtain ⟨u0, d0, us0, ds0, e1, rfl, h0, hr0⟩ := RdsOf.cons hds'
  obtain ⟨u1, d1, us1, ds1, rfl, rfl, h1, hr1⟩ := RdsOf.cons hr0
  obtain ⟨u2, d2, us2, ds2, rfl, rfl, h2, hr2⟩ := RdsOf.cons hr1
  obtain ⟨u3, d3, us3, ds3, rfl, rfl, h3, hr3⟩ := RdsOf.cons hr2
  obtain ⟨rfl, rfl⟩ := RdsOf.nil hr3
  obtain ⟨n0, rfl, rfl⟩ := Rd.bool h0
  obtain ⟨xs1, g1⟩ := Rd.ric h1
  obtain ⟨xs2, g2⟩ := Rd.ri h2
  obtain ⟨xs3, g3⟩ := Rd.ri h3
  refine ⟨n0, u1, xs1, u2, xs2, u3, xs3, ?_, g1, g2, g3⟩
  obtain ⟨l⟩ := cs
  simp at e1
  rw [e1]
end Go.Proofs.Ytabnglimchjgpaa
