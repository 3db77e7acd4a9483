/- New disks: the model's function. No statement is proved here. -/
import Derived.Test.YtplfnlalmcpcaaaGreatDkN
import Derived.Test.YtplfnlalmcpcaaaGreatAcc
namespace Go.Proofs.YtplfnlalmcpcaaaGreat
open Go.RowKit
set_option linter.unusedVariables false
theorem DskO.ans {w W : World} {v1 v2 : Value} {ss : List ByteArray} {ps : List Pt} {fz c : Int} {off : Bool} (h : DskO W w.heap.size v1 v2 ss ps) (hb : Below w.heap.size w W) : AnsDC ss ps fz off c w (.returned (.tuple #[.agg #[v1, v2, .int .i64 fz, .bool off], .int .i64 c])) W := ⟨v1, v2, rfl, h, hb⟩
def ndS (n : Int) : List ByteArray := if inB n 16 256 then zs n.toNat else []
def ndF (n : Int) : Int := if inB n 16 256 then -1 else 0
def ndC (n : Int) : Int := if inB n 16 256 then 0 else 2
theorem ndS_in (n : Int) : ∀ x ∈ ndS n, x.size ≤ maxLen := by
  intro x hx
  unfold ndS at hx
  split at hx
  · rw [List.eq_of_mem_replicate hx]; decide
  · cases hx
theorem ndS_le (n : Int) : (ndS n).length ≤ 1048576 := by
  unfold ndS
  split
  · rename_i h; rw [zs_len]; have := inB_iff.1 h; omega
  · simp
end Go.Proofs.YtplfnlalmcpcaaaGreat
