/- Contracts of the functions that copy a list by append. No statement is proved here. -/
import Derived.Test.YtmghbgnalkkppaaMrk
namespace Go.Proofs.Ytmghbgnalkkppaa
open Go.RowKit
set_option linter.unusedVariables false
/-- A new list of one's own. -/
def MadeO (xs : List Int) (w : World) (e : Ending) (w' : World) : Prop := ∃ v, e = .returned v ∧ OI w' w.heap.size v xs ∧ Below w.heap.size w w'
theorem infoI : (Try.prog.info? 2).map (fun i => (i.zero, i.size, i.bytes)) = some (some (.int .i64 0), 1, 8) := by kernel_rfl
theorem eql_none (w : World) : Sem.run Try.prog (binOp BinOp.eql 22 (Value.slice none 0 0) (Value.slice none 0 0)) w = .ok (.bool true) w := by kernel_rfl
theorem eql_some (w : World) (ad : Addr) (n c : Nat) : Sem.run Try.prog (binOp BinOp.eql 22 (Value.slice (some ad) n c) (Value.slice none 0 0)) w = .ok (.bool false) w := by kernel_rfl
end Go.Proofs.Ytmghbgnalkkppaa
