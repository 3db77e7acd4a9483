/- Where a block is in a list of pages: contracts of the model's functions, and of its checks of records. No statement is proved here. -/
import Derived.Test.YtplfnlalmcpcaaaPgs
namespace Go.Proofs.Ytplfnlalmcpcaaa
open Go.RowKit
set_option linter.unusedVariables false
theorem pg_cases (ps : List Pt) (x : Int) : (∃ k, ∃ h : k < ps.length, pgI ps x = (k : Int) ∧ pgX ps x = ps[k].2 ∧ pgY ps x = true) ∨ (pgI ps x = -1 ∧ pgX ps x = ByteArray.empty ∧ pgY ps x = false) := by
  unfold pgI pgX pgY
  cases h : pgF ps x with
  | none => exact .inr ⟨rfl, rfl, rfl⟩
  | some k => exact .inl ⟨k, pgF_lt h, rfl, pgS_at ps k (pgF_lt h), rfl⟩
end Go.Proofs.Ytplfnlalmcpcaaa
