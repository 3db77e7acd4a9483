/-
  No cell of these rows narrows 'for every input' (looked for: loops, veiled, ifaces, maps, wideKeys, modest, calm, conditions, laid).
  DERIVED. THE GIVEN ROWS OF THIS SEAT. 8 by the template 'for every input the law returns true; each argument reads behind the call as it read before'; 0 by the template 'total and deterministic' (their statements: YtkgkhdnpgcgoeaaTotals.lean).
  GIVEN WITH THE SEED: the statements are not yours to turn. If you find one false, say at which input.
  Laid BY PROGRAM, IN A SANDBOX (cutbox-rows.mjs): the forced cells as the released guide's own fill.sh prints them over the translation 1e9e0113a9c6b973… (all of the seat's roots in one cut). By AI agents, Wed Nov 11 2026. No macro, syntax, notation, axiom, sorry.
-/
import Derived.Test.YtkgkhdnpgcgoeaaChecked
import GoSem.Claim
import GoSem.ClaimJoined
import GoSem.ClaimMapViews
import Derived.JoinedTies
import Derived.KernelRfl
namespace Go.Proofs.Ytkgkhdnpgcgoeaa
/- THE CELL 'sum', in the pinned program and in every row, IS THE sha256 OF THE DUMP (.gsa) THAT YtkgkhdnpgcgoeaaProg.lean LOADS. Nothing in Lean hashes anything: it is a label: what it is worth is what the hold of that sum in a sandbox is worth. -/
noncomputable def Try.pinned : Pinned := { name := "ytkgkhdnpgcgoeaa", sum := "1e9e0113a9c6b9735b5ebf170f69543cdd9eb30e0e597bd3b72ee2bc5949c8dd", checked := Try.checked }
namespace Rows
def none {H : Type} : Left H := { results := [], args := [] }

/-- 'laws.FnExactFormedSelection': WHATEVER THE INPUT: true; the input reads as it did. -/
def fnExactFormedSelectionSpec : ChangeSpec := { name := "fnExactFormedSelection", fn := fun _ => fun
  | [d] => { results := [.lit (.bool true)], args := [d] }
  | _ => none }
def fnExactFormedSelectionRow : OpenClaim := { program := "ytkgkhdnpgcgoeaa", sum := "1e9e0113a9c6b9735b5ebf170f69543cdd9eb30e0e597bd3b72ee2bc5949c8dd", func := "loop.example/g00904/laws.FnExactFormedSelection", spec := "fnExactFormedSelection", apart := false }
def FnExactFormedSelectionSaid : Prop := fnExactFormedSelectionRow.holds Try.pinned (OpenSpec.ofChange fnExactFormedSelectionSpec)

/-- ITS FALSE NEIGHBOUR: 'it returns false'. Refute it at one input. -/
def fnExactFormedSelectionWrong : ChangeSpec := { name := "fnExactFormedSelection", fn := fun _ => fun
  | [d] => { results := [.lit (.bool false)], args := [d] }
  | _ => none }
def FnExactFormedSelectionWrongFalsely : Prop := fnExactFormedSelectionRow.holds Try.pinned (OpenSpec.ofChange fnExactFormedSelectionWrong)

/-- 'laws.FnExactValidSelection': WHATEVER THE INPUT: true; the input reads as it did. -/
def fnExactValidSelectionSpec : ChangeSpec := { name := "fnExactValidSelection", fn := fun _ => fun
  | [d1, d2] => { results := [.lit (.bool true)], args := [d1, d2] }
  | _ => none }
def fnExactValidSelectionRow : OpenClaim := { program := "ytkgkhdnpgcgoeaa", sum := "1e9e0113a9c6b9735b5ebf170f69543cdd9eb30e0e597bd3b72ee2bc5949c8dd", func := "loop.example/g00904/laws.FnExactValidSelection", spec := "fnExactValidSelection", unfollowed := true, recurses := true, apart := false }
def FnExactValidSelectionSaid : Prop := fnExactValidSelectionRow.holds Try.pinned (OpenSpec.ofChange fnExactValidSelectionSpec)

/-- ITS FALSE NEIGHBOUR: 'it returns false'. Refute it at one input. -/
def fnExactValidSelectionWrong : ChangeSpec := { name := "fnExactValidSelection", fn := fun _ => fun
  | [d1, d2] => { results := [.lit (.bool false)], args := [d1, d2] }
  | _ => none }
def FnExactValidSelectionWrongFalsely : Prop := fnExactValidSelectionRow.holds Try.pinned (OpenSpec.ofChange fnExactValidSelectionWrong)

/-- 'laws.FnExactSameSelection': WHATEVER THE INPUT: true; the input reads as it did. -/
def fnExactSameSelectionSpec : ChangeSpec := { name := "fnExactSameSelection", fn := fun _ => fun
  | [d1, d2] => { results := [.lit (.bool true)], args := [d1, d2] }
  | _ => none }
def fnExactSameSelectionRow : OpenClaim := { program := "ytkgkhdnpgcgoeaa", sum := "1e9e0113a9c6b9735b5ebf170f69543cdd9eb30e0e597bd3b72ee2bc5949c8dd", func := "loop.example/g00904/laws.FnExactSameSelection", spec := "fnExactSameSelection", unfollowed := true, recurses := true, apart := false }
def FnExactSameSelectionSaid : Prop := fnExactSameSelectionRow.holds Try.pinned (OpenSpec.ofChange fnExactSameSelectionSpec)

/-- ITS FALSE NEIGHBOUR: 'it returns false'. Refute it at one input. -/
def fnExactSameSelectionWrong : ChangeSpec := { name := "fnExactSameSelection", fn := fun _ => fun
  | [d1, d2] => { results := [.lit (.bool false)], args := [d1, d2] }
  | _ => none }
def FnExactSameSelectionWrongFalsely : Prop := fnExactSameSelectionRow.holds Try.pinned (OpenSpec.ofChange fnExactSameSelectionWrong)

/-- 'laws.FnExactSelectedCount': WHATEVER THE INPUT: true; the input reads as it did. -/
def fnExactSelectedCountSpec : ChangeSpec := { name := "fnExactSelectedCount", fn := fun _ => fun
  | [d1, d2] => { results := [.lit (.bool true)], args := [d1, d2] }
  | _ => none }
def fnExactSelectedCountRow : OpenClaim := { program := "ytkgkhdnpgcgoeaa", sum := "1e9e0113a9c6b9735b5ebf170f69543cdd9eb30e0e597bd3b72ee2bc5949c8dd", func := "loop.example/g00904/laws.FnExactSelectedCount", spec := "fnExactSelectedCount", unfollowed := true, recurses := true, apart := false }
def FnExactSelectedCountSaid : Prop := fnExactSelectedCountRow.holds Try.pinned (OpenSpec.ofChange fnExactSelectedCountSpec)

/-- ITS FALSE NEIGHBOUR: 'it returns false'. Refute it at one input. -/
def fnExactSelectedCountWrong : ChangeSpec := { name := "fnExactSelectedCount", fn := fun _ => fun
  | [d1, d2] => { results := [.lit (.bool false)], args := [d1, d2] }
  | _ => none }
def FnExactSelectedCountWrongFalsely : Prop := fnExactSelectedCountRow.holds Try.pinned (OpenSpec.ofChange fnExactSelectedCountWrong)

/-- 'laws.FnExactRangeOf': WHATEVER THE INPUT: true; the input reads as it did. -/
def fnExactRangeOfSpec : ChangeSpec := { name := "fnExactRangeOf", fn := fun _ => fun
  | [d1, d2] => { results := [.lit (.bool true)], args := [d1, d2] }
  | _ => none }
def fnExactRangeOfRow : OpenClaim := { program := "ytkgkhdnpgcgoeaa", sum := "1e9e0113a9c6b9735b5ebf170f69543cdd9eb30e0e597bd3b72ee2bc5949c8dd", func := "loop.example/g00904/laws.FnExactRangeOf", spec := "fnExactRangeOf", apart := false }
def FnExactRangeOfSaid : Prop := fnExactRangeOfRow.holds Try.pinned (OpenSpec.ofChange fnExactRangeOfSpec)

/-- ITS FALSE NEIGHBOUR: 'it returns false'. Refute it at one input. -/
def fnExactRangeOfWrong : ChangeSpec := { name := "fnExactRangeOf", fn := fun _ => fun
  | [d1, d2] => { results := [.lit (.bool false)], args := [d1, d2] }
  | _ => none }
def FnExactRangeOfWrongFalsely : Prop := fnExactRangeOfRow.holds Try.pinned (OpenSpec.ofChange fnExactRangeOfWrong)

/-- 'laws.FnExactShiftSelection': WHATEVER THE INPUT: true; the input reads as it did. -/
def fnExactShiftSelectionSpec : ChangeSpec := { name := "fnExactShiftSelection", fn := fun _ => fun
  | [d1, d2] => { results := [.lit (.bool true)], args := [d1, d2] }
  | _ => none }
def fnExactShiftSelectionRow : OpenClaim := { program := "ytkgkhdnpgcgoeaa", sum := "1e9e0113a9c6b9735b5ebf170f69543cdd9eb30e0e597bd3b72ee2bc5949c8dd", func := "loop.example/g00904/laws.FnExactShiftSelection", spec := "fnExactShiftSelection", unfollowed := true, recurses := true, apart := false }
def FnExactShiftSelectionSaid : Prop := fnExactShiftSelectionRow.holds Try.pinned (OpenSpec.ofChange fnExactShiftSelectionSpec)

/-- ITS FALSE NEIGHBOUR: 'it returns false'. Refute it at one input. -/
def fnExactShiftSelectionWrong : ChangeSpec := { name := "fnExactShiftSelection", fn := fun _ => fun
  | [d1, d2] => { results := [.lit (.bool false)], args := [d1, d2] }
  | _ => none }
def FnExactShiftSelectionWrongFalsely : Prop := fnExactShiftSelectionRow.holds Try.pinned (OpenSpec.ofChange fnExactShiftSelectionWrong)

/-- 'laws.FnExactSelectedIndices': WHATEVER THE INPUT: true; the input reads as it did. -/
def fnExactSelectedIndicesSpec : ChangeSpec := { name := "fnExactSelectedIndices", fn := fun _ => fun
  | [d1, d2] => { results := [.lit (.bool true)], args := [d1, d2] }
  | _ => none }
def fnExactSelectedIndicesRow : OpenClaim := { program := "ytkgkhdnpgcgoeaa", sum := "1e9e0113a9c6b9735b5ebf170f69543cdd9eb30e0e597bd3b72ee2bc5949c8dd", func := "loop.example/g00904/laws.FnExactSelectedIndices", spec := "fnExactSelectedIndices", unfollowed := true, recurses := true, apart := false }
def FnExactSelectedIndicesSaid : Prop := fnExactSelectedIndicesRow.holds Try.pinned (OpenSpec.ofChange fnExactSelectedIndicesSpec)

/-- ITS FALSE NEIGHBOUR: 'it returns false'. Refute it at one input. -/
def fnExactSelectedIndicesWrong : ChangeSpec := { name := "fnExactSelectedIndices", fn := fun _ => fun
  | [d1, d2] => { results := [.lit (.bool false)], args := [d1, d2] }
  | _ => none }
def FnExactSelectedIndicesWrongFalsely : Prop := fnExactSelectedIndicesRow.holds Try.pinned (OpenSpec.ofChange fnExactSelectedIndicesWrong)

/-- 'laws.FnExactIsSelected': WHATEVER THE INPUT: true; the input reads as it did. -/
def fnExactIsSelectedSpec : ChangeSpec := { name := "fnExactIsSelected", fn := fun _ => fun
  | [d1, d2, d3] => { results := [.lit (.bool true)], args := [d1, d2, d3] }
  | _ => none }
def fnExactIsSelectedRow : OpenClaim := { program := "ytkgkhdnpgcgoeaa", sum := "1e9e0113a9c6b9735b5ebf170f69543cdd9eb30e0e597bd3b72ee2bc5949c8dd", func := "loop.example/g00904/laws.FnExactIsSelected", spec := "fnExactIsSelected", unfollowed := true, recurses := true, apart := false }
def FnExactIsSelectedSaid : Prop := fnExactIsSelectedRow.holds Try.pinned (OpenSpec.ofChange fnExactIsSelectedSpec)

/-- ITS FALSE NEIGHBOUR: 'it returns false'. Refute it at one input. -/
def fnExactIsSelectedWrong : ChangeSpec := { name := "fnExactIsSelected", fn := fun _ => fun
  | [d1, d2, d3] => { results := [.lit (.bool false)], args := [d1, d2, d3] }
  | _ => none }
def FnExactIsSelectedWrongFalsely : Prop := fnExactIsSelectedRow.holds Try.pinned (OpenSpec.ofChange fnExactIsSelectedWrong)

/- THE SECOND FORM. 'bulk': how many values and letters a reading holds, each counted each time it is reached (what is shared counts as often as it is met; a slice's spare places count too). A statement '..UptoSaid' is the law's where the arguments, and the package variables that the reading takes, are together of bulk at most 1048576: NARROWER than '..Said'. Prove '..Said' where nothing that the law and all that it calls make is longer than what came in: it says more and counts as full. Else prove '..UptoSaid'. A law counts once. -/
mutual
def uptoBulk {H : Type} : DataW H → Nat
  | .lit (.string bytes) => bytes.length + 1
  | .lit _ => 1
  | .nil => 1
  | .ptr d => uptoBulk d + 1
  | .slice elems spare => uptoBulkAll elems + uptoBulkAll spare + 1
  | .agg parts => uptoBulkAll parts + 1
  | .iface _ d => uptoBulk d + 1
  | .map entries => uptoBulkEntries entries + 1
  | .held _ => 1
def uptoBulkAll {H : Type} : List (DataW H) → Nat
  | [] => 0
  | d :: r => uptoBulk d + uptoBulkAll r
def uptoBulkEntries {H : Type} : List (Lit × DataW H) → Nat
  | [] => 0
  | x :: r => uptoBulkEntry x + uptoBulkEntries r
def uptoBulkEntry {H : Type} : Lit × DataW H → Nat
  | (.string bytes, d) => bytes.length + uptoBulk d + 1
  | (_, d) => uptoBulk d + 1
 end
def uptoSmall : (H : Type) → List (DataW H) → Bool := fun _ ds => decide (uptoBulkAll ds ≤ 1048576)
def OpenSpec.upto (s : _root_.Go.ChangeSpec) : _root_.Go.OpenSpec := { _root_.Go.OpenSpec.ofChange s with cond := some uptoSmall }

/-- 'laws.FnExactFormedSelection', WHERE WHAT IT READS IS OF BULK AT MOST 1048576: true; the input reads as it did. -/
def fnExactFormedSelectionUptoRow : OpenClaim := { program := "ytkgkhdnpgcgoeaa", sum := "1e9e0113a9c6b9735b5ebf170f69543cdd9eb30e0e597bd3b72ee2bc5949c8dd", func := "loop.example/g00904/laws.FnExactFormedSelection", spec := "fnExactFormedSelection", apart := false, narrowed := true }
def FnExactFormedSelectionUptoSaid : Prop := fnExactFormedSelectionUptoRow.holds Try.pinned (OpenSpec.upto fnExactFormedSelectionSpec)

/-- 'laws.FnExactValidSelection', WHERE WHAT IT READS IS OF BULK AT MOST 1048576: true; the input reads as it did. -/
def fnExactValidSelectionUptoRow : OpenClaim := { program := "ytkgkhdnpgcgoeaa", sum := "1e9e0113a9c6b9735b5ebf170f69543cdd9eb30e0e597bd3b72ee2bc5949c8dd", func := "loop.example/g00904/laws.FnExactValidSelection", spec := "fnExactValidSelection", unfollowed := true, recurses := true, apart := false, narrowed := true }
def FnExactValidSelectionUptoSaid : Prop := fnExactValidSelectionUptoRow.holds Try.pinned (OpenSpec.upto fnExactValidSelectionSpec)

/-- 'laws.FnExactSameSelection', WHERE WHAT IT READS IS OF BULK AT MOST 1048576: true; the input reads as it did. -/
def fnExactSameSelectionUptoRow : OpenClaim := { program := "ytkgkhdnpgcgoeaa", sum := "1e9e0113a9c6b9735b5ebf170f69543cdd9eb30e0e597bd3b72ee2bc5949c8dd", func := "loop.example/g00904/laws.FnExactSameSelection", spec := "fnExactSameSelection", unfollowed := true, recurses := true, apart := false, narrowed := true }
def FnExactSameSelectionUptoSaid : Prop := fnExactSameSelectionUptoRow.holds Try.pinned (OpenSpec.upto fnExactSameSelectionSpec)

/-- 'laws.FnExactSelectedCount', WHERE WHAT IT READS IS OF BULK AT MOST 1048576: true; the input reads as it did. -/
def fnExactSelectedCountUptoRow : OpenClaim := { program := "ytkgkhdnpgcgoeaa", sum := "1e9e0113a9c6b9735b5ebf170f69543cdd9eb30e0e597bd3b72ee2bc5949c8dd", func := "loop.example/g00904/laws.FnExactSelectedCount", spec := "fnExactSelectedCount", unfollowed := true, recurses := true, apart := false, narrowed := true }
def FnExactSelectedCountUptoSaid : Prop := fnExactSelectedCountUptoRow.holds Try.pinned (OpenSpec.upto fnExactSelectedCountSpec)

/-- 'laws.FnExactRangeOf', WHERE WHAT IT READS IS OF BULK AT MOST 1048576: true; the input reads as it did. -/
def fnExactRangeOfUptoRow : OpenClaim := { program := "ytkgkhdnpgcgoeaa", sum := "1e9e0113a9c6b9735b5ebf170f69543cdd9eb30e0e597bd3b72ee2bc5949c8dd", func := "loop.example/g00904/laws.FnExactRangeOf", spec := "fnExactRangeOf", apart := false, narrowed := true }
def FnExactRangeOfUptoSaid : Prop := fnExactRangeOfUptoRow.holds Try.pinned (OpenSpec.upto fnExactRangeOfSpec)

/-- 'laws.FnExactShiftSelection', WHERE WHAT IT READS IS OF BULK AT MOST 1048576: true; the input reads as it did. -/
def fnExactShiftSelectionUptoRow : OpenClaim := { program := "ytkgkhdnpgcgoeaa", sum := "1e9e0113a9c6b9735b5ebf170f69543cdd9eb30e0e597bd3b72ee2bc5949c8dd", func := "loop.example/g00904/laws.FnExactShiftSelection", spec := "fnExactShiftSelection", unfollowed := true, recurses := true, apart := false, narrowed := true }
def FnExactShiftSelectionUptoSaid : Prop := fnExactShiftSelectionUptoRow.holds Try.pinned (OpenSpec.upto fnExactShiftSelectionSpec)

/-- 'laws.FnExactSelectedIndices', WHERE WHAT IT READS IS OF BULK AT MOST 1048576: true; the input reads as it did. -/
def fnExactSelectedIndicesUptoRow : OpenClaim := { program := "ytkgkhdnpgcgoeaa", sum := "1e9e0113a9c6b9735b5ebf170f69543cdd9eb30e0e597bd3b72ee2bc5949c8dd", func := "loop.example/g00904/laws.FnExactSelectedIndices", spec := "fnExactSelectedIndices", unfollowed := true, recurses := true, apart := false, narrowed := true }
def FnExactSelectedIndicesUptoSaid : Prop := fnExactSelectedIndicesUptoRow.holds Try.pinned (OpenSpec.upto fnExactSelectedIndicesSpec)

/-- 'laws.FnExactIsSelected', WHERE WHAT IT READS IS OF BULK AT MOST 1048576: true; the input reads as it did. -/
def fnExactIsSelectedUptoRow : OpenClaim := { program := "ytkgkhdnpgcgoeaa", sum := "1e9e0113a9c6b9735b5ebf170f69543cdd9eb30e0e597bd3b72ee2bc5949c8dd", func := "loop.example/g00904/laws.FnExactIsSelected", spec := "fnExactIsSelected", unfollowed := true, recurses := true, apart := false, narrowed := true }
def FnExactIsSelectedUptoSaid : Prop := fnExactIsSelectedUptoRow.holds Try.pinned (OpenSpec.upto fnExactIsSelectedSpec)

end Rows
end Go.Proofs.Ytkgkhdnpgcgoeaa
