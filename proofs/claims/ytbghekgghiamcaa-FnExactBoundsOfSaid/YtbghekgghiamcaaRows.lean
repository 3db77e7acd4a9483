/-
  No cell of these rows narrows 'for every input' (looked for: loops, veiled, ifaces, maps, wideKeys, modest, calm, conditions, laid).
  DERIVED. THE GIVEN ROWS OF THIS SEAT. 5 by the template 'for every input the law returns true; each argument reads behind the call as it read before'; 0 by the template 'total and deterministic' (their statements: YtbghekgghiamcaaTotals.lean).
  GIVEN WITH THE SEED: the statements are not yours to turn. If you find one false, say at which input.
  Laid BY PROGRAM, IN A SANDBOX (cutbox-rows.mjs): the forced cells as the released guide's own fill.sh prints them over the translation 5499f9cd610a1c05… (all of the seat's roots in one cut). By AI agents, Wed Nov 11 2026. No macro, syntax, notation, axiom, sorry.
-/
import Derived.Test.YtbghekgghiamcaaChecked
import GoSem.Claim
import GoSem.ClaimJoined
import GoSem.ClaimMapViews
import Derived.JoinedTies
import Derived.KernelRfl
namespace Go.Proofs.Ytbghekgghiamcaa
/- THE CELL 'sum', in the pinned program and in every row, IS THE sha256 OF THE DUMP (.gsa) THAT YtbghekgghiamcaaProg.lean LOADS. Nothing in Lean hashes anything: it is a label: what it is worth is what the hold of that sum in a sandbox is worth. -/
noncomputable def Try.pinned : Pinned := { name := "ytbghekgghiamcaa", sum := "5499f9cd610a1c05a8addc41e41743df994be9117aea213b5657e1307456a2d5", checked := Try.checked }
namespace Rows
def none {H : Type} : Left H := { results := [], args := [] }

/-- 'laws.FnExactRangeOf': WHATEVER THE INPUT: true; the input reads as it did. -/
def fnExactRangeOfSpec : ChangeSpec := { name := "fnExactRangeOf", fn := fun _ => fun
  | [d1, d2] => { results := [.lit (.bool true)], args := [d1, d2] }
  | _ => none }
def fnExactRangeOfRow : OpenClaim := { program := "ytbghekgghiamcaa", sum := "5499f9cd610a1c05a8addc41e41743df994be9117aea213b5657e1307456a2d5", func := "loop.example/g00904/laws.FnExactRangeOf", spec := "fnExactRangeOf", apart := false }
def FnExactRangeOfSaid : Prop := fnExactRangeOfRow.holds Try.pinned (OpenSpec.ofChange fnExactRangeOfSpec)

/-- ITS FALSE NEIGHBOUR: 'it returns false'. Refute it at one input. -/
def fnExactRangeOfWrong : ChangeSpec := { name := "fnExactRangeOf", fn := fun _ => fun
  | [d1, d2] => { results := [.lit (.bool false)], args := [d1, d2] }
  | _ => none }
def FnExactRangeOfWrongFalsely : Prop := fnExactRangeOfRow.holds Try.pinned (OpenSpec.ofChange fnExactRangeOfWrong)

/-- 'laws.FnExactShiftSelection': WHATEVER THE INPUT: true; the input reads as it did. -/
def fnExactShiftSelectionSpec : ChangeSpec := { name := "fnExactShiftSelection", fn := fun _ => fun
  | [d1, d2] => { results := [.lit (.bool true)], args := [d1, d2] }
  | _ => none }
def fnExactShiftSelectionRow : OpenClaim := { program := "ytbghekgghiamcaa", sum := "5499f9cd610a1c05a8addc41e41743df994be9117aea213b5657e1307456a2d5", func := "loop.example/g00904/laws.FnExactShiftSelection", spec := "fnExactShiftSelection", unfollowed := true, recurses := true, apart := false }
def FnExactShiftSelectionSaid : Prop := fnExactShiftSelectionRow.holds Try.pinned (OpenSpec.ofChange fnExactShiftSelectionSpec)

/-- ITS FALSE NEIGHBOUR: 'it returns false'. Refute it at one input. -/
def fnExactShiftSelectionWrong : ChangeSpec := { name := "fnExactShiftSelection", fn := fun _ => fun
  | [d1, d2] => { results := [.lit (.bool false)], args := [d1, d2] }
  | _ => none }
def FnExactShiftSelectionWrongFalsely : Prop := fnExactShiftSelectionRow.holds Try.pinned (OpenSpec.ofChange fnExactShiftSelectionWrong)

/-- 'laws.FnExactBoundsOf': WHATEVER THE INPUT: true; the input reads as it did. -/
def fnExactBoundsOfSpec : ChangeSpec := { name := "fnExactBoundsOf", fn := fun _ => fun
  | [d] => { results := [.lit (.bool true)], args := [d] }
  | _ => none }
def fnExactBoundsOfRow : OpenClaim := { program := "ytbghekgghiamcaa", sum := "5499f9cd610a1c05a8addc41e41743df994be9117aea213b5657e1307456a2d5", func := "loop.example/g00904/laws.FnExactBoundsOf", spec := "fnExactBoundsOf", apart := false }
def FnExactBoundsOfSaid : Prop := fnExactBoundsOfRow.holds Try.pinned (OpenSpec.ofChange fnExactBoundsOfSpec)

/-- ITS FALSE NEIGHBOUR: 'it returns false'. Refute it at one input. -/
def fnExactBoundsOfWrong : ChangeSpec := { name := "fnExactBoundsOf", fn := fun _ => fun
  | [d] => { results := [.lit (.bool false)], args := [d] }
  | _ => none }
def FnExactBoundsOfWrongFalsely : Prop := fnExactBoundsOfRow.holds Try.pinned (OpenSpec.ofChange fnExactBoundsOfWrong)

/-- 'laws.FnExactSelectedIndices': WHATEVER THE INPUT: true; the input reads as it did. -/
def fnExactSelectedIndicesSpec : ChangeSpec := { name := "fnExactSelectedIndices", fn := fun _ => fun
  | [d1, d2] => { results := [.lit (.bool true)], args := [d1, d2] }
  | _ => none }
def fnExactSelectedIndicesRow : OpenClaim := { program := "ytbghekgghiamcaa", sum := "5499f9cd610a1c05a8addc41e41743df994be9117aea213b5657e1307456a2d5", func := "loop.example/g00904/laws.FnExactSelectedIndices", spec := "fnExactSelectedIndices", unfollowed := true, recurses := true, apart := false }
def FnExactSelectedIndicesSaid : Prop := fnExactSelectedIndicesRow.holds Try.pinned (OpenSpec.ofChange fnExactSelectedIndicesSpec)

/-- ITS FALSE NEIGHBOUR: 'it returns false'. Refute it at one input. -/
def fnExactSelectedIndicesWrong : ChangeSpec := { name := "fnExactSelectedIndices", fn := fun _ => fun
  | [d1, d2] => { results := [.lit (.bool false)], args := [d1, d2] }
  | _ => none }
def FnExactSelectedIndicesWrongFalsely : Prop := fnExactSelectedIndicesRow.holds Try.pinned (OpenSpec.ofChange fnExactSelectedIndicesWrong)

/-- 'laws.FnExactIsSelected': WHATEVER THE INPUT: true; the input reads as it did. -/
def fnExactIsSelectedSpec : ChangeSpec := { name := "fnExactIsSelected", fn := fun _ => fun
  | [d1, d2, d3] => { results := [.lit (.bool true)], args := [d1, d2, d3] }
  | _ => none }
def fnExactIsSelectedRow : OpenClaim := { program := "ytbghekgghiamcaa", sum := "5499f9cd610a1c05a8addc41e41743df994be9117aea213b5657e1307456a2d5", func := "loop.example/g00904/laws.FnExactIsSelected", spec := "fnExactIsSelected", unfollowed := true, recurses := true, apart := false }
def FnExactIsSelectedSaid : Prop := fnExactIsSelectedRow.holds Try.pinned (OpenSpec.ofChange fnExactIsSelectedSpec)

/-- ITS FALSE NEIGHBOUR: 'it returns false'. Refute it at one input. -/
def fnExactIsSelectedWrong : ChangeSpec := { name := "fnExactIsSelected", fn := fun _ => fun
  | [d1, d2, d3] => { results := [.lit (.bool false)], args := [d1, d2, d3] }
  | _ => none }
def FnExactIsSelectedWrongFalsely : Prop := fnExactIsSelectedRow.holds Try.pinned (OpenSpec.ofChange fnExactIsSelectedWrong)

/- THE SECOND FORM. 'bulk': how many values and letters a reading holds, each counted each time it is reached (what is shared counts as often as it is met; a slice's spare places count too). A statement '..UptoSaid' is the law's where the arguments, and the package variables that the reading takes, are together of bulk at most 1048576: NARROWER than '..Said'. Prove '..Said' where nothing that the law and all that it calls make is longer than what came in: it says more and counts as full. Else prove '..UptoSaid'. A law counts once. -/
mutual
def uptoBulk {H : Type} : DataW H → Nat
  | .lit (.string bytes) => bytes.length + 1
  | .lit _ => 1
  | .nil => 1
  | .ptr d => uptoBulk d + 1
  | .slice elems spare => uptoBulkAll elems + uptoBulkAll spare + 1
  | .agg parts => uptoBulkAll parts + 1
  | .iface _ d => uptoBulk d + 1
  | .map entries => uptoBulkEntries entries + 1
  | .held _ => 1
def uptoBulkAll {H : Type} : List (DataW H) → Nat
  | [] => 0
  | d :: r => uptoBulk d + uptoBulkAll r
def uptoBulkEntries {H : Type} : List (Lit × DataW H) → Nat
  | [] => 0
  | x :: r => uptoBulkEntry x + uptoBulkEntries r
def uptoBulkEntry {H : Type} : Lit × DataW H → Nat
  | (.string bytes, d) => bytes.length + uptoBulk d + 1
  | (_, d) => uptoBulk d + 1
 end
def uptoSmall : (H : Type) → List (DataW H) → Bool := fun _ ds => decide (uptoBulkAll ds ≤ 1048576)
def OpenSpec.upto (s : _root_.Go.ChangeSpec) : _root_.Go.OpenSpec := { _root_.Go.OpenSpec.ofChange s with cond := some uptoSmall }

/-- 'laws.FnExactRangeOf', WHERE WHAT IT READS IS OF BULK AT MOST 1048576: true; the input reads as it did. -/
def fnExactRangeOfUptoRow : OpenClaim := { program := "ytbghekgghiamcaa", sum := "5499f9cd610a1c05a8addc41e41743df994be9117aea213b5657e1307456a2d5", func := "loop.example/g00904/laws.FnExactRangeOf", spec := "fnExactRangeOf", apart := false, narrowed := true }
def FnExactRangeOfUptoSaid : Prop := fnExactRangeOfUptoRow.holds Try.pinned (OpenSpec.upto fnExactRangeOfSpec)

/-- 'laws.FnExactShiftSelection', WHERE WHAT IT READS IS OF BULK AT MOST 1048576: true; the input reads as it did. -/
def fnExactShiftSelectionUptoRow : OpenClaim := { program := "ytbghekgghiamcaa", sum := "5499f9cd610a1c05a8addc41e41743df994be9117aea213b5657e1307456a2d5", func := "loop.example/g00904/laws.FnExactShiftSelection", spec := "fnExactShiftSelection", unfollowed := true, recurses := true, apart := false, narrowed := true }
def FnExactShiftSelectionUptoSaid : Prop := fnExactShiftSelectionUptoRow.holds Try.pinned (OpenSpec.upto fnExactShiftSelectionSpec)

/-- 'laws.FnExactBoundsOf', WHERE WHAT IT READS IS OF BULK AT MOST 1048576: true; the input reads as it did. -/
def fnExactBoundsOfUptoRow : OpenClaim := { program := "ytbghekgghiamcaa", sum := "5499f9cd610a1c05a8addc41e41743df994be9117aea213b5657e1307456a2d5", func := "loop.example/g00904/laws.FnExactBoundsOf", spec := "fnExactBoundsOf", apart := false, narrowed := true }
def FnExactBoundsOfUptoSaid : Prop := fnExactBoundsOfUptoRow.holds Try.pinned (OpenSpec.upto fnExactBoundsOfSpec)

/-- 'laws.FnExactSelectedIndices', WHERE WHAT IT READS IS OF BULK AT MOST 1048576: true; the input reads as it did. -/
def fnExactSelectedIndicesUptoRow : OpenClaim := { program := "ytbghekgghiamcaa", sum := "5499f9cd610a1c05a8addc41e41743df994be9117aea213b5657e1307456a2d5", func := "loop.example/g00904/laws.FnExactSelectedIndices", spec := "fnExactSelectedIndices", unfollowed := true, recurses := true, apart := false, narrowed := true }
def FnExactSelectedIndicesUptoSaid : Prop := fnExactSelectedIndicesUptoRow.holds Try.pinned (OpenSpec.upto fnExactSelectedIndicesSpec)

/-- 'laws.FnExactIsSelected', WHERE WHAT IT READS IS OF BULK AT MOST 1048576: true; the input reads as it did. -/
def fnExactIsSelectedUptoRow : OpenClaim := { program := "ytbghekgghiamcaa", sum := "5499f9cd610a1c05a8addc41e41743df994be9117aea213b5657e1307456a2d5", func := "loop.example/g00904/laws.FnExactIsSelected", spec := "fnExactIsSelected", unfollowed := true, recurses := true, apart := false, narrowed := true }
def FnExactIsSelectedUptoSaid : Prop := fnExactIsSelectedUptoRow.holds Try.pinned (OpenSpec.upto fnExactIsSelectedSpec)

end Rows
end Go.Proofs.Ytbghekgghiamcaa
