/- The arguments of laws that take lists of numbers and selections, opened. No statement is proved here. -/
import Derived.Test.YtbghekgghiamcaaPts
import Derived.ProofKit
import Derived.OpenShut
namespace Go.Proofs.Ytbghekgghiamcaa
open Go.RowKit Go.ChangeShapes Go.WideShapes
set_option linter.unusedVariables false
def tmLaws : RT → Option TypeId
  | .int => some 2
  | .pnt => some 90
  | _ => none
theorem layInt : layOk Try.prog tmLaws 8 2 (tab .int) = true := by kernel_rfl
theorem layPnt : layOk Try.prog tmLaws 8 90 (tab .pnt) = true := by kernel_rfl
theorem layIs : layOk Try.prog tmLaws 8 22 [.sl .int] = true := by kernel_rfl
theorem layTab : LayTab Try.prog tmLaws := by
  intro r e h
  cases r
  case int =>
    obtain rfl : 2 = e := Option.some.inj h
    exact ⟨by kernel_rfl, layInt⟩
  case pnt =>
    obtain rfl : 90 = e := Option.some.inj h
    exact ⟨by kernel_rfl, layPnt⟩
  all_goals exact absurd h (by simp [tmLaws])
set_option maxRecDepth 100000 in
theorem open_i {H : Type} {enc : TypeId × Value → H} {w : World} {base : Nat} {spare : Nat → Bool} {held : Bool} {r : Reach} {b0 : Nat} {v : Value} {d : DataW H} {p : List MemPlace} (hv : Value.okWide Try.prog w r b0 22 v) (h : DataW.Trod enc Try.prog w base spare held 22 v d p) :
    ∃ xs : List Int, Ri w.heap.size w v xs := by
  obtain ⟨a, len, cap, rfl⟩ := okWide_slice Try.underlying22 hv
  obtain ⟨fuel, hf⟩ := h
  obtain ⟨ds, hds⟩ := open_data layTab fuel 8 22 [.sl .int] _ _ layIs hf
  have hds' : Rds fuel w.heap.size w [.sl .int] [.slice a len cap] ds := by simpa [Value.cells] using hds
  obtain ⟨v', d', _, _, h1, _, h2, _⟩ := RdsOf.cons hds'
  obtain ⟨rfl, _⟩ := List.cons.inj h1
  exact Rd.ri h2
def selSh : List Sh := [.int, .sl .int, .sl .int, .sl .int, .sl .int, .sl .pnt]
theorem laySel : layOk Try.prog tmLaws 8 35 selSh = true := by kernel_rfl
set_option maxRecDepth 100000 in
theorem open_sel {H : Type} {enc : TypeId × Value → H} {w : World} {base : Nat} {spare : Nat → Bool} {held : Bool} {r : Reach} {b0 : Nat} {v : Value} {d : DataW H} {p : List MemPlace} (hv : Value.okWide Try.prog w r b0 35 v) (h : DataW.Trod enc Try.prog w base spare held 35 v d p) :
    ∃ (n0 : Int) (v1 : Value) (xs1 : List Int) (v2 : Value) (xs2 : List Int) (v3 : Value) (xs3 : List Int) (v4 : Value) (xs4 : List Int) (v5 : Value) (xs5 : List (List Int)), v = .agg #[.int .i64 n0, v1, v2, v3, v4, v5] ∧ InI n0 ∧ Ri w.heap.size w v1 xs1 ∧ Ri w.heap.size w v2 xs2 ∧ Ri w.heap.size w v3 xs3 ∧ Ri w.heap.size w v4 xs4 ∧ RiP w.heap.size w v5 xs5 := by
  obtain ⟨cs, rfl, hsz⟩ := okWide_struct Try.underlying35 hv
  obtain ⟨fuel, hf⟩ := h
  obtain ⟨ds, hds⟩ := open_data layTab fuel 8 35 selSh _ _ laySel hf
  have hds' : Rds fuel w.heap.size w selSh cs.toList ds := by simpa [Value.cells] using hds
  obtain ⟨v0, d0, vs0, ds0, e1, rfl, h0, hr0⟩ := RdsOf.cons hds'
  obtain ⟨v1, d1, vs1, ds1, rfl, rfl, h1, hr1⟩ := RdsOf.cons hr0
  obtain ⟨v2, d2, vs2, ds2, rfl, rfl, h2, hr2⟩ := RdsOf.cons hr1
  obtain ⟨v3, d3, vs3, ds3, rfl, rfl, h3, hr3⟩ := RdsOf.cons hr2
  obtain ⟨v4, d4, vs4, ds4, rfl, rfl, h4, hr4⟩ := RdsOf.cons hr3
  obtain ⟨v5, d5, vs5, ds5, rfl, rfl, h5, hr5⟩ := RdsOf.cons hr4
  obtain ⟨rfl, rfl⟩ := RdsOf.nil hr5
  obtain ⟨n0, rfl, rfl, g0⟩ := Rd.int h0
  obtain ⟨xs1, g1⟩ := Rd.ri h1
  obtain ⟨xs2, g2⟩ := Rd.ri h2
  obtain ⟨xs3, g3⟩ := Rd.ri h3
  obtain ⟨xs4, g4⟩ := Rd.ri h4
  obtain ⟨xs5, g5⟩ := Rd.rip h5
  refine ⟨n0, v1, xs1, v2, xs2, v3, xs3, v4, xs4, v5, xs5, ?_, g0, g1, g2, g3, g4, g5⟩
  obtain ⟨l⟩ := cs
  simp at e1
  rw [e1]
end Go.Proofs.Ytbghekgghiamcaa
