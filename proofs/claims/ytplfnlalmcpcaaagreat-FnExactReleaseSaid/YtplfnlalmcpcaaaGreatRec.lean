/- Records in memory: contracts of the laws' functions that bound, copy and compare them. No statement is proved here. -/
import Derived.Test.YtplfnlalmcpcaaaGreatPag
import Derived.Test.YtplfnlalmcpcaaaGreatDsk2
namespace Go.Proofs.YtplfnlalmcpcaaaGreat
open Go.RowKit
set_option linter.unusedVariables false
theorem row_part {w : World} {b o : Nat} {C : Array Value} {t : TypeId} {cs : List Value} (h : w.heap[b]? = some (.cells C t (0, 0))) (hs : ∀ (j : Nat) (u : Value), cs[j]? = some u → C[o + j]? = some u) : ∀ (j : Nat) (u : Value), cs[j]? = some u → w.cell? ⟨b, o + j, none⟩ = some u := fun j u hj => by rw [cell_of_row _ _ _ _ _ _ h]; exact hs j u hj
theorem Wi.wide {lo hi lo' hi' : Nat} {v : Value} (h : Wi lo hi v) (h1 : lo' ≤ lo) (h2 : hi ≤ hi') : Wi lo' hi' v := fun g hg => ⟨Nat.le_trans h1 (h g hg).1, Nat.lt_of_lt_of_le (h g hg).2 h2⟩
/-- A struct Record in new memory, and where its slices lie. -/
def AtRecord (n0 : Int) (xs1 : List Pt) (w : World) (e : Ending) (w' : World) : Prop := ∃ (A1 : Option Addr) , e = .returned (.agg #[.int .i64 n0, .slice A1 xs1.length xs1.length]) ∧ OG w' w.heap.size (.slice A1 xs1.length xs1.length) xs1 ∧ Wi w.heap.size w'.heap.size (.slice A1 xs1.length xs1.length) ∧ Below w.heap.size w w'
end Go.Proofs.YtplfnlalmcpcaaaGreat
