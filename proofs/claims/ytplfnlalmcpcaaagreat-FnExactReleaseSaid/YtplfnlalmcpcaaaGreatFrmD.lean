/- The arguments of laws that take disks, opened. No statement is proved here. -/
import Derived.Test.YtplfnlalmcpcaaaGreatPut
import Derived.ProofKit
import Derived.OpenShut
namespace Go.Proofs.YtplfnlalmcpcaaaGreat
open Go.RowKit Go.ChangeShapes Go.WideShapes
set_option linter.unusedVariables false
def tmLaws : RT → Option TypeId
  | .str => some 9
  | .put => some 177
  | _ => none
theorem layStr : layOk Tryz.prog tmLaws 8 9 (tab .str) = true := by kernel_rfl
theorem layPut : layOk Tryz.prog tmLaws 8 177 (tab .put) = true := by kernel_rfl
theorem layTab : LayTab Tryz.prog tmLaws := by
  intro r e h
  cases r
  case str =>
    obtain rfl : 9 = e := Option.some.inj h
    exact ⟨by kernel_rfl, layStr⟩
  case put =>
    obtain rfl : 177 = e := Option.some.inj h
    exact ⟨by kernel_rfl, layPut⟩
  all_goals exact absurd h (by simp [tmLaws])
def dskSh : List Sh := [.sl .str, .sl .put, .int, .bool]
theorem layDsk : layOk Tryz.prog tmLaws 8 25 dskSh = true := by kernel_rfl
set_option maxRecDepth 100000 in
theorem open_disk {H : Type} {enc : TypeId × Value → H} {w : World} {base : Nat} {spare : Nat → Bool} {held : Bool} {r : Reach} {b0 : Nat} {v : Value} {d : DataW H} {p : List MemPlace} (hv : Value.okWide Tryz.prog w r b0 25 v) (h : DataW.Trod enc Tryz.prog w base spare held 25 v d p) :
    ∃ (v1 : Value) (ss : List ByteArray) (v2 : Value) (ps : List Pt) (fz : Int) (off : Bool), v = .agg #[v1, v2, .int .i64 fz, .bool off] ∧ RiT w.heap.size w v1 ss ∧ RiU w.heap.size w v2 ps ∧ InI fz := by
  obtain ⟨cs, rfl, hsz⟩ := okWide_struct Tryz.underlying25 hv
  obtain ⟨fuel, hf⟩ := h
  obtain ⟨ds, hds⟩ := open_data layTab fuel 8 25 dskSh _ _ layDsk hf
  have hds' : Rds fuel w.heap.size w dskSh cs.toList ds := by simpa [Value.cells] using hds
  obtain ⟨v0, d0, vs0, ds0, e1, rfl, h0, hr0⟩ := RdsOf.cons hds'
  obtain ⟨v1, d1, vs1, ds1, rfl, rfl, h1, hr1⟩ := RdsOf.cons hr0
  obtain ⟨v2, d2, vs2, ds2, rfl, rfl, h2, hr2⟩ := RdsOf.cons hr1
  obtain ⟨v3, d3, vs3, ds3, rfl, rfl, h3, hr3⟩ := RdsOf.cons hr2
  obtain ⟨rfl, rfl⟩ := RdsOf.nil hr3
  obtain ⟨ss, g0⟩ := Rd.rit h0
  obtain ⟨ps, g1⟩ := Rd.riu h1
  obtain ⟨fz, rfl, rfl, g2⟩ := Rd.int h2
  obtain ⟨off, rfl, rfl⟩ := Rd.bool h3
  refine ⟨v0, ss, v1, ps, fz, off, ?_, g0, g1, g2⟩
  obtain ⟨l⟩ := cs
  simp at e1
  rw [e1]
end Go.Proofs.YtplfnlalmcpcaaaGreat
