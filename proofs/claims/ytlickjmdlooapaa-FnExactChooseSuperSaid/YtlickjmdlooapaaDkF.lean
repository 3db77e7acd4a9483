/- SetFuse: the model's function. No statement is proved here. -/
import Derived.Test.YtlickjmdlooapaaDkO
namespace Go.Proofs.Ytlickjmdlooapaa
open Go.RowKit
set_option linter.unusedVariables false
def sfY (ss : List ByteArray) (ps : List Pt) (fz f : Int) : Bool := dskOk ss ps fz && inB f (-1) 100000
def sfC (ss : List ByteArray) (ps : List Pt) (fz f : Int) : Int := if dskOk ss ps fz then (if inB f (-1) 100000 then 0 else 2) else 1
def sfS (ss : List ByteArray) (ps : List Pt) (fz f : Int) : List ByteArray := if sfY ss ps fz f then ss else []
def sfP (ss : List ByteArray) (ps : List Pt) (fz f : Int) : List Pt := if sfY ss ps fz f then ps else []
def sfF (ss : List ByteArray) (ps : List Pt) (fz f : Int) : Int := if sfY ss ps fz f then f else 0
def sfO (ss : List ByteArray) (ps : List Pt) (fz f : Int) (off : Bool) : Bool := if sfY ss ps fz f then off else false
theorem infoD4 (v1 v2 : Value) (fz : Int) (off : Bool) : (Try.prog.info? 38).map (·.size) = some (#[v1, v2, .int .i64 fz, .bool off] : Array Value).size := by kernel_rfl
theorem oneD4 {A1 A2 : Option Addr} {n1 c1 n2 c2 : Nat} {fz : Int} {off : Bool} : (#[.slice A1 n1 c1, .slice A2 n2 c2, .int .i64 fz, .bool off] : Array Value).all (·.oneCell') = true := by simp [Value.oneCell']
theorem sf_sub (ss : List ByteArray) (ps : List Pt) (fz f : Int) : (∀ x ∈ sfS ss ps fz f, x ∈ ss) ∧ (∀ p ∈ sfP ss ps fz f, p ∈ ps) ∧ (sfS ss ps fz f).length ≤ ss.length + 1 ∧ (sfP ss ps fz f).length ≤ ps.length + 1 := by
  unfold sfS sfP
  cases sfY ss ps fz f <;> simp
end Go.Proofs.Ytlickjmdlooapaa
