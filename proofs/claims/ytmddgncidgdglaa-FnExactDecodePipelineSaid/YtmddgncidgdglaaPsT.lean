/- append of one string, as a step of a walk. No statement is proved here. -/
import Derived.Test.YtmddgncidgdglaaStr
import Derived.Deep.AppendLies
import Derived.OwnWalk
import Derived.Laws.ResultCell
namespace Go.Proofs.Ytmddgncidgdglaa
open Go.RowKit
set_option linter.unusedVariables false
theorem infoTp : (Try.prog.info? 9).map (fun i => (i.zero, i.size, i.bytes)) = some (some (.string ⟨#[]⟩), 1, 16) := by kernel_rfl
theorem info_partsT {i : Option TypeInfo} {z : Option Value} {s b : Nat} (h : i.map (fun i => (i.zero, i.size, i.bytes)) = some (z, s, b)) : ∃ i0, i = some i0 ∧ i0.zero = z ∧ i0.size = s ∧ i0.bytes = b := by
  cases i with
  | none => cases h
  | some i0 =>
    have h2 := Option.some.inj h
    simp only [Prod.mk.injEq] at h2
    exact ⟨i0, rfl, h2.1, h2.2.1, h2.2.2⟩
/-- Only what lies above has changed: a block of one string, and the list that has grown. -/
theorem pushT_bel {W W2 z : World} {lo B : Nat} {o : Obj} {v : Value} {xs : List ByteArray} (hz : Below B z W) (h1 : OT W lo v xs) (hB : B ≤ lo) (hlo : B ≤ W.heap.size) (hgr : (W.alloc o).grownBy W2 v.ownBlock) : Below B z W2 :=
  (hz.alloc hlo o).grown hgr (by simp; omega) (fun k hk => Nat.le_trans hB (own_wi h1 k hk).1)
end Go.Proofs.Ytmddgncidgdglaa
