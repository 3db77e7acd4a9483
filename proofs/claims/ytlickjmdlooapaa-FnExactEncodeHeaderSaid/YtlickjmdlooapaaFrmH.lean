/- The arguments of laws that take headers, opened. No statement is proved here. -/
import Derived.Test.YtlickjmdlooapaaMsg
import Derived.ProofKit
import Derived.OpenShut
namespace Go.Proofs.Ytlickjmdlooapaa
open Go.RowKit Go.ChangeShapes Go.WideShapes
set_option linter.unusedVariables false
def tmH : RT → Option TypeId
  | .msg => some 228
  | _ => none
theorem layMsgH : layOk Try.prog tmH 8 228 (tab .msg) = true := by kernel_rfl
theorem layTabH : LayTab Try.prog tmH := by
  intro r e h
  cases r
  case msg =>
    obtain rfl : 228 = e := Option.some.inj h
    exact ⟨by kernel_rfl, layMsgH⟩
  all_goals exact absurd h (by simp [tmH])
theorem lay_open_header : layOk Try.prog tmH 8 59 [.int, .int, .sl .msg] = true := by kernel_rfl
set_option maxRecDepth 100000 in
theorem open_header {H : Type} {enc : TypeId × Value → H} {w : World} {base : Nat} {spare : Nat → Bool} {held : Bool} {r : Reach} {b0 : Nat} {v : Value} {d : DataW H} {p : List MemPlace} (hv : Value.okWide Try.prog w r b0 59 v) (h : DataW.Trod enc Try.prog w base spare held 59 v d p) :
    ∃ (n0 : Int) (n1 : Int) (v2 : Value) (xs2 : List EM), v = .agg #[.int .i64 n0, .int .i64 n1, v2] ∧ InI n0 ∧ InI n1 ∧ RiM w.heap.size w v2 xs2 := by
  obtain ⟨cs, rfl, hsz⟩ := okWide_struct Try.underlying59 hv
  obtain ⟨fuel, hf⟩ := h
  obtain ⟨ds, hds⟩ := open_data layTabH fuel 8 59 [.int, .int, .sl .msg] _ _ lay_open_header hf
  have hds' : Rds fuel w.heap.size w [.int, .int, .sl .msg] cs.toList ds := by simpa [Value.cells] using hds
  obtain ⟨u0, d0, us0, ds0, e1, rfl, h0, hr0⟩ := RdsOf.cons hds'
  obtain ⟨u1, d1, us1, ds1, rfl, rfl, h1, hr1⟩ := RdsOf.cons hr0
  obtain ⟨u2, d2, us2, ds2, rfl, rfl, h2, hr2⟩ := RdsOf.cons hr1
  obtain ⟨rfl, rfl⟩ := RdsOf.nil hr2
  obtain ⟨n0, rfl, rfl, g0⟩ := Rd.int h0
  obtain ⟨n1, rfl, rfl, g1⟩ := Rd.int h1
  obtain ⟨xs2, g2⟩ := Rd.rim h2
  refine ⟨n0, n1, u2, xs2, ?_, g0, g1, g2⟩
  obtain ⟨l⟩ := cs
  simp at e1
  rw [e1]
end Go.Proofs.Ytlickjmdlooapaa
