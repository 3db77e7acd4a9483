/- Contracts of the model's reading of a block of a disk. No statement is proved here. -/
import Derived.Test.YtplfnlalmcpcaaaDkV
namespace Go.Proofs.Ytplfnlalmcpcaaa
open Go.RowKit
set_option linter.unusedVariables false
/-- Block k where the pending writes up to i have been looked at: the last one counts. -/
def rdI (ss : List ByteArray) (ps : List Pt) (k : Nat) : Nat → ByteArray
  | 0 => ss.getD k ByteArray.empty
  | i + 1 => if (ps.getD i (0, ByteArray.empty)).1 = (k : Int) then (ps.getD i (0, ByteArray.empty)).2 else rdI ss ps k i
def rdB (ss : List ByteArray) (ps : List Pt) (k : Nat) : ByteArray := rdI ss ps k ps.length
theorem rdI_succ {ss : List ByteArray} {ps : List Pt} {k i : Nat} (h : i < ps.length) : rdI ss ps k (i + 1) = if ps[i].1 = (k : Int) then ps[i].2 else rdI ss ps k i := by
  rw [rdI, List.getD_eq_getElem?_getD, List.getElem?_eq_getElem h]; rfl
theorem rdI_zero {ss : List ByteArray} {ps : List Pt} {k : Nat} (h : k < ss.length) : rdI ss ps k 0 = ss[k] := by
  rw [rdI, List.getD_eq_getElem?_getD, List.getElem?_eq_getElem h]; rfl
def rdC (ss : List ByteArray) (ps : List Pt) (fz k : Int) : Int := if dskOk ss ps fz then (if inB k 0 ((ss.length : Int) - 1) then 0 else 2) else 1
def rdS (ss : List ByteArray) (ps : List Pt) (fz k : Int) : ByteArray := if dskOk ss ps fz then (if inB k 0 ((ss.length : Int) - 1) then rdB ss ps k.toNat else ⟨#[]⟩) else ⟨#[]⟩
end Go.Proofs.Ytplfnlalmcpcaaa
