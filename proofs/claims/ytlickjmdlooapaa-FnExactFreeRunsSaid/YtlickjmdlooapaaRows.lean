/-
  No cell of these rows narrows 'for every input' (looked for: loops, veiled, ifaces, maps, wideKeys, modest, calm, conditions, laid).
  DERIVED. THE GIVEN ROWS OF THIS SEAT. 16 by the template 'for every input the law returns true; each argument reads behind the call as it read before'; 0 by the template 'total and deterministic' (their statements: YtlickjmdlooapaaTotals.lean).
  GIVEN WITH THE SEED: the statements are not yours to turn. If you find one false, say at which input.
  Laid BY PROGRAM, IN A SANDBOX (cutbox-rows.mjs): the forced cells as the released guide's own fill.sh prints them over the translation ab7eba27ed289e29… (all of the seat's roots in one cut). By AI agents, Wed Nov 11 2026. No macro, syntax, notation, axiom, sorry.
-/
import Derived.Test.YtlickjmdlooapaaChecked
import GoSem.Claim
import GoSem.ClaimJoined
import GoSem.ClaimMapViews
import Derived.JoinedTies
import Derived.KernelRfl
namespace Go.Proofs.Ytlickjmdlooapaa
/- THE CELL 'sum', in the pinned program and in every row, IS THE sha256 OF THE DUMP (.gsa) THAT YtlickjmdlooapaaProg.lean LOADS. Nothing in Lean hashes anything: it is a label: what it is worth is what the hold of that sum in a sandbox is worth. -/
noncomputable def Try.pinned : Pinned := { name := "ytlickjmdlooapaa", sum := "ab7eba27ed289e29fdedfd3c565a3a47493ea7feeed58a365747294055e49721", checked := Try.checked }
namespace Rows
def none {H : Type} : Left H := { results := [], args := [] }

/-- 'laws.FnExactBlocksFor': WHATEVER THE INPUT: true; the input reads as it did. -/
def fnExactBlocksForSpec : ChangeSpec := { name := "fnExactBlocksFor", fn := fun _ => fun
  | [d] => { results := [.lit (.bool true)], args := [d] }
  | _ => none }
def fnExactBlocksForRow : OpenClaim := { program := "ytlickjmdlooapaa", sum := "ab7eba27ed289e29fdedfd3c565a3a47493ea7feeed58a365747294055e49721", func := "loop.example/g00904/laws.FnExactBlocksFor", spec := "fnExactBlocksFor", apart := false }
def FnExactBlocksForSaid : Prop := fnExactBlocksForRow.holds Try.pinned (OpenSpec.ofChange fnExactBlocksForSpec)

/-- ITS FALSE NEIGHBOUR: 'it returns false'. Refute it at one input. -/
def fnExactBlocksForWrong : ChangeSpec := { name := "fnExactBlocksFor", fn := fun _ => fun
  | [d] => { results := [.lit (.bool false)], args := [d] }
  | _ => none }
def FnExactBlocksForWrongFalsely : Prop := fnExactBlocksForRow.holds Try.pinned (OpenSpec.ofChange fnExactBlocksForWrong)

/-- 'laws.FnExactRootOf': WHATEVER THE INPUT: true; the input reads as it did. -/
def fnExactRootOfSpec : ChangeSpec := { name := "fnExactRootOf", fn := fun _ => fun
  | [d] => { results := [.lit (.bool true)], args := [d] }
  | _ => none }
def fnExactRootOfRow : OpenClaim := { program := "ytlickjmdlooapaa", sum := "ab7eba27ed289e29fdedfd3c565a3a47493ea7feeed58a365747294055e49721", func := "loop.example/g00904/laws.FnExactRootOf", spec := "fnExactRootOf", unfollowed := true, recurses := true, apart := false }
def FnExactRootOfSaid : Prop := fnExactRootOfRow.holds Try.pinned (OpenSpec.ofChange fnExactRootOfSpec)

/-- ITS FALSE NEIGHBOUR: 'it returns false'. Refute it at one input. -/
def fnExactRootOfWrong : ChangeSpec := { name := "fnExactRootOf", fn := fun _ => fun
  | [d] => { results := [.lit (.bool false)], args := [d] }
  | _ => none }
def FnExactRootOfWrongFalsely : Prop := fnExactRootOfRow.holds Try.pinned (OpenSpec.ofChange fnExactRootOfWrong)

/-- 'laws.FnExactIsAllocated': WHATEVER THE INPUT: true; the input reads as it did. -/
def fnExactIsAllocatedSpec : ChangeSpec := { name := "fnExactIsAllocated", fn := fun _ => fun
  | [d1, d2] => { results := [.lit (.bool true)], args := [d1, d2] }
  | _ => none }
def fnExactIsAllocatedRow : OpenClaim := { program := "ytlickjmdlooapaa", sum := "ab7eba27ed289e29fdedfd3c565a3a47493ea7feeed58a365747294055e49721", func := "loop.example/g00904/laws.FnExactIsAllocated", spec := "fnExactIsAllocated", unfollowed := true, recurses := true, apart := false }
def FnExactIsAllocatedSaid : Prop := fnExactIsAllocatedRow.holds Try.pinned (OpenSpec.ofChange fnExactIsAllocatedSpec)

/-- ITS FALSE NEIGHBOUR: 'it returns false'. Refute it at one input. -/
def fnExactIsAllocatedWrong : ChangeSpec := { name := "fnExactIsAllocated", fn := fun _ => fun
  | [d1, d2] => { results := [.lit (.bool false)], args := [d1, d2] }
  | _ => none }
def FnExactIsAllocatedWrongFalsely : Prop := fnExactIsAllocatedRow.holds Try.pinned (OpenSpec.ofChange fnExactIsAllocatedWrong)

/-- 'laws.FnExactFreeCount': WHATEVER THE INPUT: true; the input reads as it did. -/
def fnExactFreeCountSpec : ChangeSpec := { name := "fnExactFreeCount", fn := fun _ => fun
  | [d] => { results := [.lit (.bool true)], args := [d] }
  | _ => none }
def fnExactFreeCountRow : OpenClaim := { program := "ytlickjmdlooapaa", sum := "ab7eba27ed289e29fdedfd3c565a3a47493ea7feeed58a365747294055e49721", func := "loop.example/g00904/laws.FnExactFreeCount", spec := "fnExactFreeCount", unfollowed := true, recurses := true, apart := false }
def FnExactFreeCountSaid : Prop := fnExactFreeCountRow.holds Try.pinned (OpenSpec.ofChange fnExactFreeCountSpec)

/-- ITS FALSE NEIGHBOUR: 'it returns false'. Refute it at one input. -/
def fnExactFreeCountWrong : ChangeSpec := { name := "fnExactFreeCount", fn := fun _ => fun
  | [d] => { results := [.lit (.bool false)], args := [d] }
  | _ => none }
def FnExactFreeCountWrongFalsely : Prop := fnExactFreeCountRow.holds Try.pinned (OpenSpec.ofChange fnExactFreeCountWrong)

/-- 'laws.FnExactFreeRuns': WHATEVER THE INPUT: true; the input reads as it did. -/
def fnExactFreeRunsSpec : ChangeSpec := { name := "fnExactFreeRuns", fn := fun _ => fun
  | [d] => { results := [.lit (.bool true)], args := [d] }
  | _ => none }
def fnExactFreeRunsRow : OpenClaim := { program := "ytlickjmdlooapaa", sum := "ab7eba27ed289e29fdedfd3c565a3a47493ea7feeed58a365747294055e49721", func := "loop.example/g00904/laws.FnExactFreeRuns", spec := "fnExactFreeRuns", unfollowed := true, recurses := true, apart := false }
def FnExactFreeRunsSaid : Prop := fnExactFreeRunsRow.holds Try.pinned (OpenSpec.ofChange fnExactFreeRunsSpec)

/-- ITS FALSE NEIGHBOUR: 'it returns false'. Refute it at one input. -/
def fnExactFreeRunsWrong : ChangeSpec := { name := "fnExactFreeRuns", fn := fun _ => fun
  | [d] => { results := [.lit (.bool false)], args := [d] }
  | _ => none }
def FnExactFreeRunsWrongFalsely : Prop := fnExactFreeRunsRow.holds Try.pinned (OpenSpec.ofChange fnExactFreeRunsWrong)

/-- 'laws.FnExactReadRun': WHATEVER THE INPUT: true; the input reads as it did. -/
def fnExactReadRunSpec : ChangeSpec := { name := "fnExactReadRun", fn := fun _ => fun
  | [d1, d2, d3] => { results := [.lit (.bool true)], args := [d1, d2, d3] }
  | _ => none }
def fnExactReadRunRow : OpenClaim := { program := "ytlickjmdlooapaa", sum := "ab7eba27ed289e29fdedfd3c565a3a47493ea7feeed58a365747294055e49721", func := "loop.example/g00904/laws.FnExactReadRun", spec := "fnExactReadRun", inPlace := ["internal/abi.NoEscape"], unfollowed := true, recurses := true, apart := false }
def FnExactReadRunSaid : Prop := fnExactReadRunRow.holds Try.pinned (OpenSpec.ofChange fnExactReadRunSpec)

/-- ITS FALSE NEIGHBOUR: 'it returns false'. Refute it at one input. -/
def fnExactReadRunWrong : ChangeSpec := { name := "fnExactReadRun", fn := fun _ => fun
  | [d1, d2, d3] => { results := [.lit (.bool false)], args := [d1, d2, d3] }
  | _ => none }
def FnExactReadRunWrongFalsely : Prop := fnExactReadRunRow.holds Try.pinned (OpenSpec.ofChange fnExactReadRunWrong)

/-- 'laws.FnExactValidHeader': WHATEVER THE INPUT: true; the input reads as it did. -/
def fnExactValidHeaderSpec : ChangeSpec := { name := "fnExactValidHeader", fn := fun _ => fun
  | [d] => { results := [.lit (.bool true)], args := [d] }
  | _ => none }
def fnExactValidHeaderRow : OpenClaim := { program := "ytlickjmdlooapaa", sum := "ab7eba27ed289e29fdedfd3c565a3a47493ea7feeed58a365747294055e49721", func := "loop.example/g00904/laws.FnExactValidHeader", spec := "fnExactValidHeader", unfollowed := true, recurses := true, apart := false }
def FnExactValidHeaderSaid : Prop := fnExactValidHeaderRow.holds Try.pinned (OpenSpec.ofChange fnExactValidHeaderSpec)

/-- ITS FALSE NEIGHBOUR: 'it returns false'. Refute it at one input. -/
def fnExactValidHeaderWrong : ChangeSpec := { name := "fnExactValidHeader", fn := fun _ => fun
  | [d] => { results := [.lit (.bool false)], args := [d] }
  | _ => none }
def FnExactValidHeaderWrongFalsely : Prop := fnExactValidHeaderRow.holds Try.pinned (OpenSpec.ofChange fnExactValidHeaderWrong)

/-- 'laws.FnExactSameHeader': WHATEVER THE INPUT: true; the input reads as it did. -/
def fnExactSameHeaderSpec : ChangeSpec := { name := "fnExactSameHeader", fn := fun _ => fun
  | [d1, d2] => { results := [.lit (.bool true)], args := [d1, d2] }
  | _ => none }
def fnExactSameHeaderRow : OpenClaim := { program := "ytlickjmdlooapaa", sum := "ab7eba27ed289e29fdedfd3c565a3a47493ea7feeed58a365747294055e49721", func := "loop.example/g00904/laws.FnExactSameHeader", spec := "fnExactSameHeader", apart := false }
def FnExactSameHeaderSaid : Prop := fnExactSameHeaderRow.holds Try.pinned (OpenSpec.ofChange fnExactSameHeaderSpec)

/-- ITS FALSE NEIGHBOUR: 'it returns false'. Refute it at one input. -/
def fnExactSameHeaderWrong : ChangeSpec := { name := "fnExactSameHeader", fn := fun _ => fun
  | [d1, d2] => { results := [.lit (.bool false)], args := [d1, d2] }
  | _ => none }
def FnExactSameHeaderWrongFalsely : Prop := fnExactSameHeaderRow.holds Try.pinned (OpenSpec.ofChange fnExactSameHeaderWrong)

/-- 'laws.FnExactMessageOf': WHATEVER THE INPUT: true; the input reads as it did. -/
def fnExactMessageOfSpec : ChangeSpec := { name := "fnExactMessageOf", fn := fun _ => fun
  | [d1, d2] => { results := [.lit (.bool true)], args := [d1, d2] }
  | _ => none }
def fnExactMessageOfRow : OpenClaim := { program := "ytlickjmdlooapaa", sum := "ab7eba27ed289e29fdedfd3c565a3a47493ea7feeed58a365747294055e49721", func := "loop.example/g00904/laws.FnExactMessageOf", spec := "fnExactMessageOf", unfollowed := true, recurses := true, apart := false }
def FnExactMessageOfSaid : Prop := fnExactMessageOfRow.holds Try.pinned (OpenSpec.ofChange fnExactMessageOfSpec)

/-- ITS FALSE NEIGHBOUR: 'it returns false'. Refute it at one input. -/
def fnExactMessageOfWrong : ChangeSpec := { name := "fnExactMessageOf", fn := fun _ => fun
  | [d1, d2] => { results := [.lit (.bool false)], args := [d1, d2] }
  | _ => none }
def FnExactMessageOfWrongFalsely : Prop := fnExactMessageOfRow.holds Try.pinned (OpenSpec.ofChange fnExactMessageOfWrong)

/-- 'laws.FnExactEncodeHeader': WHATEVER THE INPUT: true; the input reads as it did. -/
def fnExactEncodeHeaderSpec : ChangeSpec := { name := "fnExactEncodeHeader", fn := fun _ => fun
  | [d] => { results := [.lit (.bool true)], args := [d] }
  | _ => none }
def fnExactEncodeHeaderRow : OpenClaim := { program := "ytlickjmdlooapaa", sum := "ab7eba27ed289e29fdedfd3c565a3a47493ea7feeed58a365747294055e49721", func := "loop.example/g00904/laws.FnExactEncodeHeader", spec := "fnExactEncodeHeader", inPlace := ["internal/abi.NoEscape"], unfollowed := true, recurses := true, apart := false }
def FnExactEncodeHeaderSaid : Prop := fnExactEncodeHeaderRow.holds Try.pinned (OpenSpec.ofChange fnExactEncodeHeaderSpec)

/-- ITS FALSE NEIGHBOUR: 'it returns false'. Refute it at one input. -/
def fnExactEncodeHeaderWrong : ChangeSpec := { name := "fnExactEncodeHeader", fn := fun _ => fun
  | [d] => { results := [.lit (.bool false)], args := [d] }
  | _ => none }
def FnExactEncodeHeaderWrongFalsely : Prop := fnExactEncodeHeaderRow.holds Try.pinned (OpenSpec.ofChange fnExactEncodeHeaderWrong)

/-- 'laws.FnExactGetPage': WHATEVER THE INPUT: true; the input reads as it did. -/
def fnExactGetPageSpec : ChangeSpec := { name := "fnExactGetPage", fn := fun _ => fun
  | [d1, d2] => { results := [.lit (.bool true)], args := [d1, d2] }
  | _ => none }
def fnExactGetPageRow : OpenClaim := { program := "ytlickjmdlooapaa", sum := "ab7eba27ed289e29fdedfd3c565a3a47493ea7feeed58a365747294055e49721", func := "loop.example/g00904/laws.FnExactGetPage", spec := "fnExactGetPage", unfollowed := true, recurses := true, apart := false }
def FnExactGetPageSaid : Prop := fnExactGetPageRow.holds Try.pinned (OpenSpec.ofChange fnExactGetPageSpec)

/-- ITS FALSE NEIGHBOUR: 'it returns false'. Refute it at one input. -/
def fnExactGetPageWrong : ChangeSpec := { name := "fnExactGetPage", fn := fun _ => fun
  | [d1, d2] => { results := [.lit (.bool false)], args := [d1, d2] }
  | _ => none }
def FnExactGetPageWrongFalsely : Prop := fnExactGetPageRow.holds Try.pinned (OpenSpec.ofChange fnExactGetPageWrong)

/-- 'laws.FnExactDecodeSuper': WHATEVER THE INPUT: true; the input reads as it did. -/
def fnExactDecodeSuperSpec : ChangeSpec := { name := "fnExactDecodeSuper", fn := fun _ => fun
  | [d] => { results := [.lit (.bool true)], args := [d] }
  | _ => none }
def fnExactDecodeSuperRow : OpenClaim := { program := "ytlickjmdlooapaa", sum := "ab7eba27ed289e29fdedfd3c565a3a47493ea7feeed58a365747294055e49721", func := "loop.example/g00904/laws.FnExactDecodeSuper", spec := "fnExactDecodeSuper", apart := false }
def FnExactDecodeSuperSaid : Prop := fnExactDecodeSuperRow.holds Try.pinned (OpenSpec.ofChange fnExactDecodeSuperSpec)

/-- ITS FALSE NEIGHBOUR: 'it returns false'. Refute it at one input. -/
def fnExactDecodeSuperWrong : ChangeSpec := { name := "fnExactDecodeSuper", fn := fun _ => fun
  | [d] => { results := [.lit (.bool false)], args := [d] }
  | _ => none }
def FnExactDecodeSuperWrongFalsely : Prop := fnExactDecodeSuperRow.holds Try.pinned (OpenSpec.ofChange fnExactDecodeSuperWrong)

/-- 'laws.FnExactChooseSuper': WHATEVER THE INPUT: true; the input reads as it did. -/
def fnExactChooseSuperSpec : ChangeSpec := { name := "fnExactChooseSuper", fn := fun _ => fun
  | [d] => { results := [.lit (.bool true)], args := [d] }
  | _ => none }
def fnExactChooseSuperRow : OpenClaim := { program := "ytlickjmdlooapaa", sum := "ab7eba27ed289e29fdedfd3c565a3a47493ea7feeed58a365747294055e49721", func := "loop.example/g00904/laws.FnExactChooseSuper", spec := "fnExactChooseSuper", unfollowed := true, recurses := true, apart := false }
def FnExactChooseSuperSaid : Prop := fnExactChooseSuperRow.holds Try.pinned (OpenSpec.ofChange fnExactChooseSuperSpec)

/-- ITS FALSE NEIGHBOUR: 'it returns false'. Refute it at one input. -/
def fnExactChooseSuperWrong : ChangeSpec := { name := "fnExactChooseSuper", fn := fun _ => fun
  | [d] => { results := [.lit (.bool false)], args := [d] }
  | _ => none }
def FnExactChooseSuperWrongFalsely : Prop := fnExactChooseSuperRow.holds Try.pinned (OpenSpec.ofChange fnExactChooseSuperWrong)

/-- 'laws.FnExactEncodeRecord': WHATEVER THE INPUT: true; the input reads as it did. -/
def fnExactEncodeRecordSpec : ChangeSpec := { name := "fnExactEncodeRecord", fn := fun _ => fun
  | [d] => { results := [.lit (.bool true)], args := [d] }
  | _ => none }
def fnExactEncodeRecordRow : OpenClaim := { program := "ytlickjmdlooapaa", sum := "ab7eba27ed289e29fdedfd3c565a3a47493ea7feeed58a365747294055e49721", func := "loop.example/g00904/laws.FnExactEncodeRecord", spec := "fnExactEncodeRecord", inPlace := ["internal/abi.NoEscape", "internal/bytealg.MakeNoZero", "slices.overlaps[string]"], unfollowed := true, recurses := true, apart := false }
def FnExactEncodeRecordSaid : Prop := fnExactEncodeRecordRow.holds Try.pinned (OpenSpec.ofChange fnExactEncodeRecordSpec)

/-- ITS FALSE NEIGHBOUR: 'it returns false'. Refute it at one input. -/
def fnExactEncodeRecordWrong : ChangeSpec := { name := "fnExactEncodeRecord", fn := fun _ => fun
  | [d] => { results := [.lit (.bool false)], args := [d] }
  | _ => none }
def FnExactEncodeRecordWrongFalsely : Prop := fnExactEncodeRecordRow.holds Try.pinned (OpenSpec.ofChange fnExactEncodeRecordWrong)

/-- 'laws.FnExactCutPower': WHATEVER THE INPUT: true; the input reads as it did. -/
def fnExactCutPowerSpec : ChangeSpec := { name := "fnExactCutPower", fn := fun _ => fun
  | [d1, d2, d3, d4] => { results := [.lit (.bool true)], args := [d1, d2, d3, d4] }
  | _ => none }
def fnExactCutPowerRow : OpenClaim := { program := "ytlickjmdlooapaa", sum := "ab7eba27ed289e29fdedfd3c565a3a47493ea7feeed58a365747294055e49721", func := "loop.example/g00904/laws.FnExactCutPower", spec := "fnExactCutPower", unfollowed := true, recurses := true, apart := false }
def FnExactCutPowerSaid : Prop := fnExactCutPowerRow.holds Try.pinned (OpenSpec.ofChange fnExactCutPowerSpec)

/-- ITS FALSE NEIGHBOUR: 'it returns false'. Refute it at one input. -/
def fnExactCutPowerWrong : ChangeSpec := { name := "fnExactCutPower", fn := fun _ => fun
  | [d1, d2, d3, d4] => { results := [.lit (.bool false)], args := [d1, d2, d3, d4] }
  | _ => none }
def FnExactCutPowerWrongFalsely : Prop := fnExactCutPowerRow.holds Try.pinned (OpenSpec.ofChange fnExactCutPowerWrong)

/-- 'laws.FnExactDecodeHeader': WHATEVER THE INPUT: true; the input reads as it did. -/
def fnExactDecodeHeaderSpec : ChangeSpec := { name := "fnExactDecodeHeader", fn := fun _ => fun
  | [d] => { results := [.lit (.bool true)], args := [d] }
  | _ => none }
def fnExactDecodeHeaderRow : OpenClaim := { program := "ytlickjmdlooapaa", sum := "ab7eba27ed289e29fdedfd3c565a3a47493ea7feeed58a365747294055e49721", func := "loop.example/g00904/laws.FnExactDecodeHeader", spec := "fnExactDecodeHeader", inPlace := ["internal/abi.NoEscape"], unfollowed := true, recurses := true, apart := false }
def FnExactDecodeHeaderSaid : Prop := fnExactDecodeHeaderRow.holds Try.pinned (OpenSpec.ofChange fnExactDecodeHeaderSpec)

/-- ITS FALSE NEIGHBOUR: 'it returns false'. Refute it at one input. -/
def fnExactDecodeHeaderWrong : ChangeSpec := { name := "fnExactDecodeHeader", fn := fun _ => fun
  | [d] => { results := [.lit (.bool false)], args := [d] }
  | _ => none }
def FnExactDecodeHeaderWrongFalsely : Prop := fnExactDecodeHeaderRow.holds Try.pinned (OpenSpec.ofChange fnExactDecodeHeaderWrong)

/- THE SECOND FORM. 'bulk': how many values and letters a reading holds, each counted each time it is reached (what is shared counts as often as it is met; a slice's spare places count too). A statement '..UptoSaid' is the law's where the arguments, and the package variables that the reading takes, are together of bulk at most 1048576: NARROWER than '..Said'. Prove '..Said' where nothing that the law and all that it calls make is longer than what came in: it says more and counts as full. Else prove '..UptoSaid'. A law counts once. -/
mutual
def uptoBulk {H : Type} : DataW H → Nat
  | .lit (.string bytes) => bytes.length + 1
  | .lit _ => 1
  | .nil => 1
  | .ptr d => uptoBulk d + 1
  | .slice elems spare => uptoBulkAll elems + uptoBulkAll spare + 1
  | .agg parts => uptoBulkAll parts + 1
  | .iface _ d => uptoBulk d + 1
  | .map entries => uptoBulkEntries entries + 1
  | .held _ => 1
def uptoBulkAll {H : Type} : List (DataW H) → Nat
  | [] => 0
  | d :: r => uptoBulk d + uptoBulkAll r
def uptoBulkEntries {H : Type} : List (Lit × DataW H) → Nat
  | [] => 0
  | x :: r => uptoBulkEntry x + uptoBulkEntries r
def uptoBulkEntry {H : Type} : Lit × DataW H → Nat
  | (.string bytes, d) => bytes.length + uptoBulk d + 1
  | (_, d) => uptoBulk d + 1
 end
def uptoSmall : (H : Type) → List (DataW H) → Bool := fun _ ds => decide (uptoBulkAll ds ≤ 1048576)
def OpenSpec.upto (s : _root_.Go.ChangeSpec) : _root_.Go.OpenSpec := { _root_.Go.OpenSpec.ofChange s with cond := some uptoSmall }

/-- 'laws.FnExactBlocksFor', WHERE WHAT IT READS IS OF BULK AT MOST 1048576: true; the input reads as it did. -/
def fnExactBlocksForUptoRow : OpenClaim := { program := "ytlickjmdlooapaa", sum := "ab7eba27ed289e29fdedfd3c565a3a47493ea7feeed58a365747294055e49721", func := "loop.example/g00904/laws.FnExactBlocksFor", spec := "fnExactBlocksFor", apart := false, narrowed := true }
def FnExactBlocksForUptoSaid : Prop := fnExactBlocksForUptoRow.holds Try.pinned (OpenSpec.upto fnExactBlocksForSpec)

/-- 'laws.FnExactRootOf', WHERE WHAT IT READS IS OF BULK AT MOST 1048576: true; the input reads as it did. -/
def fnExactRootOfUptoRow : OpenClaim := { program := "ytlickjmdlooapaa", sum := "ab7eba27ed289e29fdedfd3c565a3a47493ea7feeed58a365747294055e49721", func := "loop.example/g00904/laws.FnExactRootOf", spec := "fnExactRootOf", unfollowed := true, recurses := true, apart := false, narrowed := true }
def FnExactRootOfUptoSaid : Prop := fnExactRootOfUptoRow.holds Try.pinned (OpenSpec.upto fnExactRootOfSpec)

/-- 'laws.FnExactIsAllocated', WHERE WHAT IT READS IS OF BULK AT MOST 1048576: true; the input reads as it did. -/
def fnExactIsAllocatedUptoRow : OpenClaim := { program := "ytlickjmdlooapaa", sum := "ab7eba27ed289e29fdedfd3c565a3a47493ea7feeed58a365747294055e49721", func := "loop.example/g00904/laws.FnExactIsAllocated", spec := "fnExactIsAllocated", unfollowed := true, recurses := true, apart := false, narrowed := true }
def FnExactIsAllocatedUptoSaid : Prop := fnExactIsAllocatedUptoRow.holds Try.pinned (OpenSpec.upto fnExactIsAllocatedSpec)

/-- 'laws.FnExactFreeCount', WHERE WHAT IT READS IS OF BULK AT MOST 1048576: true; the input reads as it did. -/
def fnExactFreeCountUptoRow : OpenClaim := { program := "ytlickjmdlooapaa", sum := "ab7eba27ed289e29fdedfd3c565a3a47493ea7feeed58a365747294055e49721", func := "loop.example/g00904/laws.FnExactFreeCount", spec := "fnExactFreeCount", unfollowed := true, recurses := true, apart := false, narrowed := true }
def FnExactFreeCountUptoSaid : Prop := fnExactFreeCountUptoRow.holds Try.pinned (OpenSpec.upto fnExactFreeCountSpec)

/-- 'laws.FnExactFreeRuns', WHERE WHAT IT READS IS OF BULK AT MOST 1048576: true; the input reads as it did. -/
def fnExactFreeRunsUptoRow : OpenClaim := { program := "ytlickjmdlooapaa", sum := "ab7eba27ed289e29fdedfd3c565a3a47493ea7feeed58a365747294055e49721", func := "loop.example/g00904/laws.FnExactFreeRuns", spec := "fnExactFreeRuns", unfollowed := true, recurses := true, apart := false, narrowed := true }
def FnExactFreeRunsUptoSaid : Prop := fnExactFreeRunsUptoRow.holds Try.pinned (OpenSpec.upto fnExactFreeRunsSpec)

/-- 'laws.FnExactReadRun', WHERE WHAT IT READS IS OF BULK AT MOST 1048576: true; the input reads as it did. -/
def fnExactReadRunUptoRow : OpenClaim := { program := "ytlickjmdlooapaa", sum := "ab7eba27ed289e29fdedfd3c565a3a47493ea7feeed58a365747294055e49721", func := "loop.example/g00904/laws.FnExactReadRun", spec := "fnExactReadRun", inPlace := ["internal/abi.NoEscape"], unfollowed := true, recurses := true, apart := false, narrowed := true }
def FnExactReadRunUptoSaid : Prop := fnExactReadRunUptoRow.holds Try.pinned (OpenSpec.upto fnExactReadRunSpec)

/-- 'laws.FnExactValidHeader', WHERE WHAT IT READS IS OF BULK AT MOST 1048576: true; the input reads as it did. -/
def fnExactValidHeaderUptoRow : OpenClaim := { program := "ytlickjmdlooapaa", sum := "ab7eba27ed289e29fdedfd3c565a3a47493ea7feeed58a365747294055e49721", func := "loop.example/g00904/laws.FnExactValidHeader", spec := "fnExactValidHeader", unfollowed := true, recurses := true, apart := false, narrowed := true }
def FnExactValidHeaderUptoSaid : Prop := fnExactValidHeaderUptoRow.holds Try.pinned (OpenSpec.upto fnExactValidHeaderSpec)

/-- 'laws.FnExactSameHeader', WHERE WHAT IT READS IS OF BULK AT MOST 1048576: true; the input reads as it did. -/
def fnExactSameHeaderUptoRow : OpenClaim := { program := "ytlickjmdlooapaa", sum := "ab7eba27ed289e29fdedfd3c565a3a47493ea7feeed58a365747294055e49721", func := "loop.example/g00904/laws.FnExactSameHeader", spec := "fnExactSameHeader", apart := false, narrowed := true }
def FnExactSameHeaderUptoSaid : Prop := fnExactSameHeaderUptoRow.holds Try.pinned (OpenSpec.upto fnExactSameHeaderSpec)

/-- 'laws.FnExactMessageOf', WHERE WHAT IT READS IS OF BULK AT MOST 1048576: true; the input reads as it did. -/
def fnExactMessageOfUptoRow : OpenClaim := { program := "ytlickjmdlooapaa", sum := "ab7eba27ed289e29fdedfd3c565a3a47493ea7feeed58a365747294055e49721", func := "loop.example/g00904/laws.FnExactMessageOf", spec := "fnExactMessageOf", unfollowed := true, recurses := true, apart := false, narrowed := true }
def FnExactMessageOfUptoSaid : Prop := fnExactMessageOfUptoRow.holds Try.pinned (OpenSpec.upto fnExactMessageOfSpec)

/-- 'laws.FnExactEncodeHeader', WHERE WHAT IT READS IS OF BULK AT MOST 1048576: true; the input reads as it did. -/
def fnExactEncodeHeaderUptoRow : OpenClaim := { program := "ytlickjmdlooapaa", sum := "ab7eba27ed289e29fdedfd3c565a3a47493ea7feeed58a365747294055e49721", func := "loop.example/g00904/laws.FnExactEncodeHeader", spec := "fnExactEncodeHeader", inPlace := ["internal/abi.NoEscape"], unfollowed := true, recurses := true, apart := false, narrowed := true }
def FnExactEncodeHeaderUptoSaid : Prop := fnExactEncodeHeaderUptoRow.holds Try.pinned (OpenSpec.upto fnExactEncodeHeaderSpec)

/-- 'laws.FnExactGetPage', WHERE WHAT IT READS IS OF BULK AT MOST 1048576: true; the input reads as it did. -/
def fnExactGetPageUptoRow : OpenClaim := { program := "ytlickjmdlooapaa", sum := "ab7eba27ed289e29fdedfd3c565a3a47493ea7feeed58a365747294055e49721", func := "loop.example/g00904/laws.FnExactGetPage", spec := "fnExactGetPage", unfollowed := true, recurses := true, apart := false, narrowed := true }
def FnExactGetPageUptoSaid : Prop := fnExactGetPageUptoRow.holds Try.pinned (OpenSpec.upto fnExactGetPageSpec)

/-- 'laws.FnExactDecodeSuper', WHERE WHAT IT READS IS OF BULK AT MOST 1048576: true; the input reads as it did. -/
def fnExactDecodeSuperUptoRow : OpenClaim := { program := "ytlickjmdlooapaa", sum := "ab7eba27ed289e29fdedfd3c565a3a47493ea7feeed58a365747294055e49721", func := "loop.example/g00904/laws.FnExactDecodeSuper", spec := "fnExactDecodeSuper", apart := false, narrowed := true }
def FnExactDecodeSuperUptoSaid : Prop := fnExactDecodeSuperUptoRow.holds Try.pinned (OpenSpec.upto fnExactDecodeSuperSpec)

/-- 'laws.FnExactChooseSuper', WHERE WHAT IT READS IS OF BULK AT MOST 1048576: true; the input reads as it did. -/
def fnExactChooseSuperUptoRow : OpenClaim := { program := "ytlickjmdlooapaa", sum := "ab7eba27ed289e29fdedfd3c565a3a47493ea7feeed58a365747294055e49721", func := "loop.example/g00904/laws.FnExactChooseSuper", spec := "fnExactChooseSuper", unfollowed := true, recurses := true, apart := false, narrowed := true }
def FnExactChooseSuperUptoSaid : Prop := fnExactChooseSuperUptoRow.holds Try.pinned (OpenSpec.upto fnExactChooseSuperSpec)

/-- 'laws.FnExactEncodeRecord', WHERE WHAT IT READS IS OF BULK AT MOST 1048576: true; the input reads as it did. -/
def fnExactEncodeRecordUptoRow : OpenClaim := { program := "ytlickjmdlooapaa", sum := "ab7eba27ed289e29fdedfd3c565a3a47493ea7feeed58a365747294055e49721", func := "loop.example/g00904/laws.FnExactEncodeRecord", spec := "fnExactEncodeRecord", inPlace := ["internal/abi.NoEscape", "internal/bytealg.MakeNoZero", "slices.overlaps[string]"], unfollowed := true, recurses := true, apart := false, narrowed := true }
def FnExactEncodeRecordUptoSaid : Prop := fnExactEncodeRecordUptoRow.holds Try.pinned (OpenSpec.upto fnExactEncodeRecordSpec)

/-- 'laws.FnExactCutPower', WHERE WHAT IT READS IS OF BULK AT MOST 1048576: true; the input reads as it did. -/
def fnExactCutPowerUptoRow : OpenClaim := { program := "ytlickjmdlooapaa", sum := "ab7eba27ed289e29fdedfd3c565a3a47493ea7feeed58a365747294055e49721", func := "loop.example/g00904/laws.FnExactCutPower", spec := "fnExactCutPower", unfollowed := true, recurses := true, apart := false, narrowed := true }
def FnExactCutPowerUptoSaid : Prop := fnExactCutPowerUptoRow.holds Try.pinned (OpenSpec.upto fnExactCutPowerSpec)

/-- 'laws.FnExactDecodeHeader', WHERE WHAT IT READS IS OF BULK AT MOST 1048576: true; the input reads as it did. -/
def fnExactDecodeHeaderUptoRow : OpenClaim := { program := "ytlickjmdlooapaa", sum := "ab7eba27ed289e29fdedfd3c565a3a47493ea7feeed58a365747294055e49721", func := "loop.example/g00904/laws.FnExactDecodeHeader", spec := "fnExactDecodeHeader", inPlace := ["internal/abi.NoEscape"], unfollowed := true, recurses := true, apart := false, narrowed := true }
def FnExactDecodeHeaderUptoSaid : Prop := fnExactDecodeHeaderUptoRow.holds Try.pinned (OpenSpec.upto fnExactDecodeHeaderSpec)

end Rows
end Go.Proofs.Ytlickjmdlooapaa
