/-
  No cell of these rows narrows 'for every input' (looked for: loops, veiled, ifaces, maps, wideKeys, modest, calm, conditions, laid).
  DERIVED. THE GIVEN ROWS OF THIS SEAT. 12 by the template 'for every input the law returns true; each argument reads behind the call as it read before'; 0 by the template 'total and deterministic' (their statements: YtaokifppaagalaaTotals.lean).
  GIVEN WITH THE SEED: the statements are not yours to turn. If you find one false, say at which input.
  Laid BY PROGRAM, IN A SANDBOX (cutbox-rows.mjs): the forced cells as the released guide's own fill.sh prints them over the translation 3ba83170a201af0a… (all of the seat's roots in one cut). By AI agents, Wed Nov 11 2026. No macro, syntax, notation, axiom, sorry.
-/
import Derived.Test.YtaokifppaagalaaChecked
import GoSem.Claim
import GoSem.ClaimJoined
import GoSem.ClaimMapViews
import Derived.JoinedTies
import Derived.KernelRfl
namespace Go.Proofs.Ytaokifppaagalaa
/- THE CELL 'sum', in the pinned program and in every row, IS THE sha256 OF THE DUMP (.gsa) THAT YtaokifppaagalaaProg.lean LOADS. Nothing in Lean hashes anything: it is a label: what it is worth is what the hold of that sum in a sandbox is worth. -/
noncomputable def Try.pinned : Pinned := { name := "ytaokifppaagalaa", sum := "3ba83170a201af0a61631999a4530fedd159785b2cf1c0437f9e1f1163d5c08d", checked := Try.checked }
namespace Rows
def none {H : Type} : Left H := { results := [], args := [] }

/-- 'laws.FnExactDecodeSpace': WHATEVER THE INPUT: true; the input reads as it did. -/
def fnExactDecodeSpaceSpec : ChangeSpec := { name := "fnExactDecodeSpace", fn := fun _ => fun
  | [d] => { results := [.lit (.bool true)], args := [d] }
  | _ => none }
def fnExactDecodeSpaceRow : OpenClaim := { program := "ytaokifppaagalaa", sum := "3ba83170a201af0a61631999a4530fedd159785b2cf1c0437f9e1f1163d5c08d", func := "loop.example/g00904/laws.FnExactDecodeSpace", spec := "fnExactDecodeSpace", apart := false }
def FnExactDecodeSpaceSaid : Prop := fnExactDecodeSpaceRow.holds Try.pinned (OpenSpec.ofChange fnExactDecodeSpaceSpec)

/-- ITS FALSE NEIGHBOUR: 'it returns false'. Refute it at one input. -/
def fnExactDecodeSpaceWrong : ChangeSpec := { name := "fnExactDecodeSpace", fn := fun _ => fun
  | [d] => { results := [.lit (.bool false)], args := [d] }
  | _ => none }
def FnExactDecodeSpaceWrongFalsely : Prop := fnExactDecodeSpaceRow.holds Try.pinned (OpenSpec.ofChange fnExactDecodeSpaceWrong)

/-- 'laws.FnExactSelectedIndices': WHATEVER THE INPUT: true; the input reads as it did. -/
def fnExactSelectedIndicesSpec : ChangeSpec := { name := "fnExactSelectedIndices", fn := fun _ => fun
  | [d1, d2] => { results := [.lit (.bool true)], args := [d1, d2] }
  | _ => none }
def fnExactSelectedIndicesRow : OpenClaim := { program := "ytaokifppaagalaa", sum := "3ba83170a201af0a61631999a4530fedd159785b2cf1c0437f9e1f1163d5c08d", func := "loop.example/g00904/laws.FnExactSelectedIndices", spec := "fnExactSelectedIndices", unfollowed := true, recurses := true, apart := false }
def FnExactSelectedIndicesSaid : Prop := fnExactSelectedIndicesRow.holds Try.pinned (OpenSpec.ofChange fnExactSelectedIndicesSpec)

/-- ITS FALSE NEIGHBOUR: 'it returns false'. Refute it at one input. -/
def fnExactSelectedIndicesWrong : ChangeSpec := { name := "fnExactSelectedIndices", fn := fun _ => fun
  | [d1, d2] => { results := [.lit (.bool false)], args := [d1, d2] }
  | _ => none }
def FnExactSelectedIndicesWrongFalsely : Prop := fnExactSelectedIndicesRow.holds Try.pinned (OpenSpec.ofChange fnExactSelectedIndicesWrong)

/-- 'laws.FnExactIsSelected': WHATEVER THE INPUT: true; the input reads as it did. -/
def fnExactIsSelectedSpec : ChangeSpec := { name := "fnExactIsSelected", fn := fun _ => fun
  | [d1, d2, d3] => { results := [.lit (.bool true)], args := [d1, d2, d3] }
  | _ => none }
def fnExactIsSelectedRow : OpenClaim := { program := "ytaokifppaagalaa", sum := "3ba83170a201af0a61631999a4530fedd159785b2cf1c0437f9e1f1163d5c08d", func := "loop.example/g00904/laws.FnExactIsSelected", spec := "fnExactIsSelected", unfollowed := true, recurses := true, apart := false }
def FnExactIsSelectedSaid : Prop := fnExactIsSelectedRow.holds Try.pinned (OpenSpec.ofChange fnExactIsSelectedSpec)

/-- ITS FALSE NEIGHBOUR: 'it returns false'. Refute it at one input. -/
def fnExactIsSelectedWrong : ChangeSpec := { name := "fnExactIsSelected", fn := fun _ => fun
  | [d1, d2, d3] => { results := [.lit (.bool false)], args := [d1, d2, d3] }
  | _ => none }
def FnExactIsSelectedWrongFalsely : Prop := fnExactIsSelectedRow.holds Try.pinned (OpenSpec.ofChange fnExactIsSelectedWrong)

/-- 'laws.FnExactRangeOf': WHATEVER THE INPUT: true; the input reads as it did. -/
def fnExactRangeOfSpec : ChangeSpec := { name := "fnExactRangeOf", fn := fun _ => fun
  | [d1, d2] => { results := [.lit (.bool true)], args := [d1, d2] }
  | _ => none }
def fnExactRangeOfRow : OpenClaim := { program := "ytaokifppaagalaa", sum := "3ba83170a201af0a61631999a4530fedd159785b2cf1c0437f9e1f1163d5c08d", func := "loop.example/g00904/laws.FnExactRangeOf", spec := "fnExactRangeOf", apart := false }
def FnExactRangeOfSaid : Prop := fnExactRangeOfRow.holds Try.pinned (OpenSpec.ofChange fnExactRangeOfSpec)

/-- ITS FALSE NEIGHBOUR: 'it returns false'. Refute it at one input. -/
def fnExactRangeOfWrong : ChangeSpec := { name := "fnExactRangeOf", fn := fun _ => fun
  | [d1, d2] => { results := [.lit (.bool false)], args := [d1, d2] }
  | _ => none }
def FnExactRangeOfWrongFalsely : Prop := fnExactRangeOfRow.holds Try.pinned (OpenSpec.ofChange fnExactRangeOfWrong)

/-- 'laws.FnExactShiftSelection': WHATEVER THE INPUT: true; the input reads as it did. -/
def fnExactShiftSelectionSpec : ChangeSpec := { name := "fnExactShiftSelection", fn := fun _ => fun
  | [d1, d2] => { results := [.lit (.bool true)], args := [d1, d2] }
  | _ => none }
def fnExactShiftSelectionRow : OpenClaim := { program := "ytaokifppaagalaa", sum := "3ba83170a201af0a61631999a4530fedd159785b2cf1c0437f9e1f1163d5c08d", func := "loop.example/g00904/laws.FnExactShiftSelection", spec := "fnExactShiftSelection", unfollowed := true, recurses := true, apart := false }
def FnExactShiftSelectionSaid : Prop := fnExactShiftSelectionRow.holds Try.pinned (OpenSpec.ofChange fnExactShiftSelectionSpec)

/-- ITS FALSE NEIGHBOUR: 'it returns false'. Refute it at one input. -/
def fnExactShiftSelectionWrong : ChangeSpec := { name := "fnExactShiftSelection", fn := fun _ => fun
  | [d1, d2] => { results := [.lit (.bool false)], args := [d1, d2] }
  | _ => none }
def FnExactShiftSelectionWrongFalsely : Prop := fnExactShiftSelectionRow.holds Try.pinned (OpenSpec.ofChange fnExactShiftSelectionWrong)

/-- 'laws.FnExactValidBox': WHATEVER THE INPUT: true; the input reads as it did. -/
def fnExactValidBoxSpec : ChangeSpec := { name := "fnExactValidBox", fn := fun _ => fun
  | [d] => { results := [.lit (.bool true)], args := [d] }
  | _ => none }
def fnExactValidBoxRow : OpenClaim := { program := "ytaokifppaagalaa", sum := "3ba83170a201af0a61631999a4530fedd159785b2cf1c0437f9e1f1163d5c08d", func := "loop.example/g00904/laws.FnExactValidBox", spec := "fnExactValidBox", apart := false }
def FnExactValidBoxSaid : Prop := fnExactValidBoxRow.holds Try.pinned (OpenSpec.ofChange fnExactValidBoxSpec)

/-- ITS FALSE NEIGHBOUR: 'it returns false'. Refute it at one input. -/
def fnExactValidBoxWrong : ChangeSpec := { name := "fnExactValidBox", fn := fun _ => fun
  | [d] => { results := [.lit (.bool false)], args := [d] }
  | _ => none }
def FnExactValidBoxWrongFalsely : Prop := fnExactValidBoxRow.holds Try.pinned (OpenSpec.ofChange fnExactValidBoxWrong)

/-- 'laws.FnExactSameBoxes': WHATEVER THE INPUT: true; the input reads as it did. -/
def fnExactSameBoxesSpec : ChangeSpec := { name := "fnExactSameBoxes", fn := fun _ => fun
  | [d1, d2] => { results := [.lit (.bool true)], args := [d1, d2] }
  | _ => none }
def fnExactSameBoxesRow : OpenClaim := { program := "ytaokifppaagalaa", sum := "3ba83170a201af0a61631999a4530fedd159785b2cf1c0437f9e1f1163d5c08d", func := "loop.example/g00904/laws.FnExactSameBoxes", spec := "fnExactSameBoxes", unfollowed := true, recurses := true, apart := false }
def FnExactSameBoxesSaid : Prop := fnExactSameBoxesRow.holds Try.pinned (OpenSpec.ofChange fnExactSameBoxesSpec)

/-- ITS FALSE NEIGHBOUR: 'it returns false'. Refute it at one input. -/
def fnExactSameBoxesWrong : ChangeSpec := { name := "fnExactSameBoxes", fn := fun _ => fun
  | [d1, d2] => { results := [.lit (.bool false)], args := [d1, d2] }
  | _ => none }
def FnExactSameBoxesWrongFalsely : Prop := fnExactSameBoxesRow.holds Try.pinned (OpenSpec.ofChange fnExactSameBoxesWrong)

/-- 'laws.FnExactBoxSize': WHATEVER THE INPUT: true; the input reads as it did. -/
def fnExactBoxSizeSpec : ChangeSpec := { name := "fnExactBoxSize", fn := fun _ => fun
  | [d] => { results := [.lit (.bool true)], args := [d] }
  | _ => none }
def fnExactBoxSizeRow : OpenClaim := { program := "ytaokifppaagalaa", sum := "3ba83170a201af0a61631999a4530fedd159785b2cf1c0437f9e1f1163d5c08d", func := "loop.example/g00904/laws.FnExactBoxSize", spec := "fnExactBoxSize", apart := false }
def FnExactBoxSizeSaid : Prop := fnExactBoxSizeRow.holds Try.pinned (OpenSpec.ofChange fnExactBoxSizeSpec)

/-- ITS FALSE NEIGHBOUR: 'it returns false'. Refute it at one input. -/
def fnExactBoxSizeWrong : ChangeSpec := { name := "fnExactBoxSize", fn := fun _ => fun
  | [d] => { results := [.lit (.bool false)], args := [d] }
  | _ => none }
def FnExactBoxSizeWrongFalsely : Prop := fnExactBoxSizeRow.holds Try.pinned (OpenSpec.ofChange fnExactBoxSizeWrong)

/-- 'laws.FnExactInBoxes': WHATEVER THE INPUT: true; the input reads as it did. -/
def fnExactInBoxesSpec : ChangeSpec := { name := "fnExactInBoxes", fn := fun _ => fun
  | [d1, d2] => { results := [.lit (.bool true)], args := [d1, d2] }
  | _ => none }
def fnExactInBoxesRow : OpenClaim := { program := "ytaokifppaagalaa", sum := "3ba83170a201af0a61631999a4530fedd159785b2cf1c0437f9e1f1163d5c08d", func := "loop.example/g00904/laws.FnExactInBoxes", spec := "fnExactInBoxes", unfollowed := true, recurses := true, apart := false }
def FnExactInBoxesSaid : Prop := fnExactInBoxesRow.holds Try.pinned (OpenSpec.ofChange fnExactInBoxesSpec)

/-- ITS FALSE NEIGHBOUR: 'it returns false'. Refute it at one input. -/
def fnExactInBoxesWrong : ChangeSpec := { name := "fnExactInBoxes", fn := fun _ => fun
  | [d1, d2] => { results := [.lit (.bool false)], args := [d1, d2] }
  | _ => none }
def FnExactInBoxesWrongFalsely : Prop := fnExactInBoxesRow.holds Try.pinned (OpenSpec.ofChange fnExactInBoxesWrong)

/-- 'laws.FnExactCutBox': WHATEVER THE INPUT: true; the input reads as it did. -/
def fnExactCutBoxSpec : ChangeSpec := { name := "fnExactCutBox", fn := fun _ => fun
  | [d1, d2] => { results := [.lit (.bool true)], args := [d1, d2] }
  | _ => none }
def fnExactCutBoxRow : OpenClaim := { program := "ytaokifppaagalaa", sum := "3ba83170a201af0a61631999a4530fedd159785b2cf1c0437f9e1f1163d5c08d", func := "loop.example/g00904/laws.FnExactCutBox", spec := "fnExactCutBox", apart := false }
def FnExactCutBoxSaid : Prop := fnExactCutBoxRow.holds Try.pinned (OpenSpec.ofChange fnExactCutBoxSpec)

/-- ITS FALSE NEIGHBOUR: 'it returns false'. Refute it at one input. -/
def fnExactCutBoxWrong : ChangeSpec := { name := "fnExactCutBox", fn := fun _ => fun
  | [d1, d2] => { results := [.lit (.bool false)], args := [d1, d2] }
  | _ => none }
def FnExactCutBoxWrongFalsely : Prop := fnExactCutBoxRow.holds Try.pinned (OpenSpec.ofChange fnExactCutBoxWrong)

/-- 'laws.FnExactNormalBoxes': WHATEVER THE INPUT: true; the input reads as it did. -/
def fnExactNormalBoxesSpec : ChangeSpec := { name := "fnExactNormalBoxes", fn := fun _ => fun
  | [d] => { results := [.lit (.bool true)], args := [d] }
  | _ => none }
def fnExactNormalBoxesRow : OpenClaim := { program := "ytaokifppaagalaa", sum := "3ba83170a201af0a61631999a4530fedd159785b2cf1c0437f9e1f1163d5c08d", func := "loop.example/g00904/laws.FnExactNormalBoxes", spec := "fnExactNormalBoxes", unfollowed := true, recurses := true, apart := false }
def FnExactNormalBoxesSaid : Prop := fnExactNormalBoxesRow.holds Try.pinned (OpenSpec.ofChange fnExactNormalBoxesSpec)

/-- ITS FALSE NEIGHBOUR: 'it returns false'. Refute it at one input. -/
def fnExactNormalBoxesWrong : ChangeSpec := { name := "fnExactNormalBoxes", fn := fun _ => fun
  | [d] => { results := [.lit (.bool false)], args := [d] }
  | _ => none }
def FnExactNormalBoxesWrongFalsely : Prop := fnExactNormalBoxesRow.holds Try.pinned (OpenSpec.ofChange fnExactNormalBoxesWrong)

/-- 'laws.FnExactBoundsOf': WHATEVER THE INPUT: true; the input reads as it did. -/
def fnExactBoundsOfSpec : ChangeSpec := { name := "fnExactBoundsOf", fn := fun _ => fun
  | [d] => { results := [.lit (.bool true)], args := [d] }
  | _ => none }
def fnExactBoundsOfRow : OpenClaim := { program := "ytaokifppaagalaa", sum := "3ba83170a201af0a61631999a4530fedd159785b2cf1c0437f9e1f1163d5c08d", func := "loop.example/g00904/laws.FnExactBoundsOf", spec := "fnExactBoundsOf", apart := false }
def FnExactBoundsOfSaid : Prop := fnExactBoundsOfRow.holds Try.pinned (OpenSpec.ofChange fnExactBoundsOfSpec)

/-- ITS FALSE NEIGHBOUR: 'it returns false'. Refute it at one input. -/
def fnExactBoundsOfWrong : ChangeSpec := { name := "fnExactBoundsOf", fn := fun _ => fun
  | [d] => { results := [.lit (.bool false)], args := [d] }
  | _ => none }
def FnExactBoundsOfWrongFalsely : Prop := fnExactBoundsOfRow.holds Try.pinned (OpenSpec.ofChange fnExactBoundsOfWrong)

/- THE SECOND FORM. 'bulk': how many values and letters a reading holds, each counted each time it is reached (what is shared counts as often as it is met; a slice's spare places count too). A statement '..UptoSaid' is the law's where the arguments, and the package variables that the reading takes, are together of bulk at most 1048576: NARROWER than '..Said'. Prove '..Said' where nothing that the law and all that it calls make is longer than what came in: it says more and counts as full. Else prove '..UptoSaid'. A law counts once. -/
mutual
def uptoBulk {H : Type} : DataW H → Nat
  | .lit (.string bytes) => bytes.length + 1
  | .lit _ => 1
  | .nil => 1
  | .ptr d => uptoBulk d + 1
  | .slice elems spare => uptoBulkAll elems + uptoBulkAll spare + 1
  | .agg parts => uptoBulkAll parts + 1
  | .iface _ d => uptoBulk d + 1
  | .map entries => uptoBulkEntries entries + 1
  | .held _ => 1
def uptoBulkAll {H : Type} : List (DataW H) → Nat
  | [] => 0
  | d :: r => uptoBulk d + uptoBulkAll r
def uptoBulkEntries {H : Type} : List (Lit × DataW H) → Nat
  | [] => 0
  | x :: r => uptoBulkEntry x + uptoBulkEntries r
def uptoBulkEntry {H : Type} : Lit × DataW H → Nat
  | (.string bytes, d) => bytes.length + uptoBulk d + 1
  | (_, d) => uptoBulk d + 1
 end
def uptoSmall : (H : Type) → List (DataW H) → Bool := fun _ ds => decide (uptoBulkAll ds ≤ 1048576)
def OpenSpec.upto (s : _root_.Go.ChangeSpec) : _root_.Go.OpenSpec := { _root_.Go.OpenSpec.ofChange s with cond := some uptoSmall }

/-- 'laws.FnExactDecodeSpace', WHERE WHAT IT READS IS OF BULK AT MOST 1048576: true; the input reads as it did. -/
def fnExactDecodeSpaceUptoRow : OpenClaim := { program := "ytaokifppaagalaa", sum := "3ba83170a201af0a61631999a4530fedd159785b2cf1c0437f9e1f1163d5c08d", func := "loop.example/g00904/laws.FnExactDecodeSpace", spec := "fnExactDecodeSpace", apart := false, narrowed := true }
def FnExactDecodeSpaceUptoSaid : Prop := fnExactDecodeSpaceUptoRow.holds Try.pinned (OpenSpec.upto fnExactDecodeSpaceSpec)

/-- 'laws.FnExactSelectedIndices', WHERE WHAT IT READS IS OF BULK AT MOST 1048576: true; the input reads as it did. -/
def fnExactSelectedIndicesUptoRow : OpenClaim := { program := "ytaokifppaagalaa", sum := "3ba83170a201af0a61631999a4530fedd159785b2cf1c0437f9e1f1163d5c08d", func := "loop.example/g00904/laws.FnExactSelectedIndices", spec := "fnExactSelectedIndices", unfollowed := true, recurses := true, apart := false, narrowed := true }
def FnExactSelectedIndicesUptoSaid : Prop := fnExactSelectedIndicesUptoRow.holds Try.pinned (OpenSpec.upto fnExactSelectedIndicesSpec)

/-- 'laws.FnExactIsSelected', WHERE WHAT IT READS IS OF BULK AT MOST 1048576: true; the input reads as it did. -/
def fnExactIsSelectedUptoRow : OpenClaim := { program := "ytaokifppaagalaa", sum := "3ba83170a201af0a61631999a4530fedd159785b2cf1c0437f9e1f1163d5c08d", func := "loop.example/g00904/laws.FnExactIsSelected", spec := "fnExactIsSelected", unfollowed := true, recurses := true, apart := false, narrowed := true }
def FnExactIsSelectedUptoSaid : Prop := fnExactIsSelectedUptoRow.holds Try.pinned (OpenSpec.upto fnExactIsSelectedSpec)

/-- 'laws.FnExactRangeOf', WHERE WHAT IT READS IS OF BULK AT MOST 1048576: true; the input reads as it did. -/
def fnExactRangeOfUptoRow : OpenClaim := { program := "ytaokifppaagalaa", sum := "3ba83170a201af0a61631999a4530fedd159785b2cf1c0437f9e1f1163d5c08d", func := "loop.example/g00904/laws.FnExactRangeOf", spec := "fnExactRangeOf", apart := false, narrowed := true }
def FnExactRangeOfUptoSaid : Prop := fnExactRangeOfUptoRow.holds Try.pinned (OpenSpec.upto fnExactRangeOfSpec)

/-- 'laws.FnExactShiftSelection', WHERE WHAT IT READS IS OF BULK AT MOST 1048576: true; the input reads as it did. -/
def fnExactShiftSelectionUptoRow : OpenClaim := { program := "ytaokifppaagalaa", sum := "3ba83170a201af0a61631999a4530fedd159785b2cf1c0437f9e1f1163d5c08d", func := "loop.example/g00904/laws.FnExactShiftSelection", spec := "fnExactShiftSelection", unfollowed := true, recurses := true, apart := false, narrowed := true }
def FnExactShiftSelectionUptoSaid : Prop := fnExactShiftSelectionUptoRow.holds Try.pinned (OpenSpec.upto fnExactShiftSelectionSpec)

/-- 'laws.FnExactValidBox', WHERE WHAT IT READS IS OF BULK AT MOST 1048576: true; the input reads as it did. -/
def fnExactValidBoxUptoRow : OpenClaim := { program := "ytaokifppaagalaa", sum := "3ba83170a201af0a61631999a4530fedd159785b2cf1c0437f9e1f1163d5c08d", func := "loop.example/g00904/laws.FnExactValidBox", spec := "fnExactValidBox", apart := false, narrowed := true }
def FnExactValidBoxUptoSaid : Prop := fnExactValidBoxUptoRow.holds Try.pinned (OpenSpec.upto fnExactValidBoxSpec)

/-- 'laws.FnExactSameBoxes', WHERE WHAT IT READS IS OF BULK AT MOST 1048576: true; the input reads as it did. -/
def fnExactSameBoxesUptoRow : OpenClaim := { program := "ytaokifppaagalaa", sum := "3ba83170a201af0a61631999a4530fedd159785b2cf1c0437f9e1f1163d5c08d", func := "loop.example/g00904/laws.FnExactSameBoxes", spec := "fnExactSameBoxes", unfollowed := true, recurses := true, apart := false, narrowed := true }
def FnExactSameBoxesUptoSaid : Prop := fnExactSameBoxesUptoRow.holds Try.pinned (OpenSpec.upto fnExactSameBoxesSpec)

/-- 'laws.FnExactBoxSize', WHERE WHAT IT READS IS OF BULK AT MOST 1048576: true; the input reads as it did. -/
def fnExactBoxSizeUptoRow : OpenClaim := { program := "ytaokifppaagalaa", sum := "3ba83170a201af0a61631999a4530fedd159785b2cf1c0437f9e1f1163d5c08d", func := "loop.example/g00904/laws.FnExactBoxSize", spec := "fnExactBoxSize", apart := false, narrowed := true }
def FnExactBoxSizeUptoSaid : Prop := fnExactBoxSizeUptoRow.holds Try.pinned (OpenSpec.upto fnExactBoxSizeSpec)

/-- 'laws.FnExactInBoxes', WHERE WHAT IT READS IS OF BULK AT MOST 1048576: true; the input reads as it did. -/
def fnExactInBoxesUptoRow : OpenClaim := { program := "ytaokifppaagalaa", sum := "3ba83170a201af0a61631999a4530fedd159785b2cf1c0437f9e1f1163d5c08d", func := "loop.example/g00904/laws.FnExactInBoxes", spec := "fnExactInBoxes", unfollowed := true, recurses := true, apart := false, narrowed := true }
def FnExactInBoxesUptoSaid : Prop := fnExactInBoxesUptoRow.holds Try.pinned (OpenSpec.upto fnExactInBoxesSpec)

/-- 'laws.FnExactCutBox', WHERE WHAT IT READS IS OF BULK AT MOST 1048576: true; the input reads as it did. -/
def fnExactCutBoxUptoRow : OpenClaim := { program := "ytaokifppaagalaa", sum := "3ba83170a201af0a61631999a4530fedd159785b2cf1c0437f9e1f1163d5c08d", func := "loop.example/g00904/laws.FnExactCutBox", spec := "fnExactCutBox", apart := false, narrowed := true }
def FnExactCutBoxUptoSaid : Prop := fnExactCutBoxUptoRow.holds Try.pinned (OpenSpec.upto fnExactCutBoxSpec)

/-- 'laws.FnExactNormalBoxes', WHERE WHAT IT READS IS OF BULK AT MOST 1048576: true; the input reads as it did. -/
def fnExactNormalBoxesUptoRow : OpenClaim := { program := "ytaokifppaagalaa", sum := "3ba83170a201af0a61631999a4530fedd159785b2cf1c0437f9e1f1163d5c08d", func := "loop.example/g00904/laws.FnExactNormalBoxes", spec := "fnExactNormalBoxes", unfollowed := true, recurses := true, apart := false, narrowed := true }
def FnExactNormalBoxesUptoSaid : Prop := fnExactNormalBoxesUptoRow.holds Try.pinned (OpenSpec.upto fnExactNormalBoxesSpec)

/-- 'laws.FnExactBoundsOf', WHERE WHAT IT READS IS OF BULK AT MOST 1048576: true; the input reads as it did. -/
def fnExactBoundsOfUptoRow : OpenClaim := { program := "ytaokifppaagalaa", sum := "3ba83170a201af0a61631999a4530fedd159785b2cf1c0437f9e1f1163d5c08d", func := "loop.example/g00904/laws.FnExactBoundsOf", spec := "fnExactBoundsOf", apart := false, narrowed := true }
def FnExactBoundsOfUptoSaid : Prop := fnExactBoundsOfUptoRow.holds Try.pinned (OpenSpec.upto fnExactBoundsOfSpec)

end Rows
end Go.Proofs.Ytaokifppaagalaa
