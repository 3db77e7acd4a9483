/-
  No cell of these rows narrows 'for every input' (looked for: loops, veiled, ifaces, maps, wideKeys, modest, calm, conditions, laid).
  DERIVED. THE GIVEN ROWS OF THIS SEAT. 14 by the template 'for every input the law returns true; each argument reads behind the call as it read before'; 0 by the template 'total and deterministic' (their statements: YtmddgncidgdglaaTotals.lean).
  GIVEN WITH THE SEED: the statements are not yours to turn. If you find one false, say at which input.
  Laid BY PROGRAM, IN A SANDBOX (cutbox-rows.mjs): the forced cells as the released guide's own fill.sh prints them over the translation 18877e7db95db5f9… (all of the seat's roots in one cut). By AI agents, Wed Nov 11 2026. No macro, syntax, notation, axiom, sorry.
-/
import Derived.Test.YtmddgncidgdglaaChecked
import GoSem.Claim
import GoSem.ClaimJoined
import GoSem.ClaimMapViews
import Derived.JoinedTies
import Derived.KernelRfl
namespace Go.Proofs.Ytmddgncidgdglaa
/- THE CELL 'sum', in the pinned program and in every row, IS THE sha256 OF THE DUMP (.gsa) THAT YtmddgncidgdglaaProg.lean LOADS. Nothing in Lean hashes anything: it is a label: what it is worth is what the hold of that sum in a sandbox is worth. -/
noncomputable def Try.pinned : Pinned := { name := "ytmddgncidgdglaa", sum := "18877e7db95db5f9f4116100797efdb57981a2df8cba825be533df3073f7bfb3", checked := Try.checked }
namespace Rows
def none {H : Type} : Left H := { results := [], args := [] }

/-- 'laws.FnExactValidFilter': WHATEVER THE INPUT: true; the input reads as it did. -/
def fnExactValidFilterSpec : ChangeSpec := { name := "fnExactValidFilter", fn := fun _ => fun
  | [d] => { results := [.lit (.bool true)], args := [d] }
  | _ => none }
def fnExactValidFilterRow : OpenClaim := { program := "ytmddgncidgdglaa", sum := "18877e7db95db5f9f4116100797efdb57981a2df8cba825be533df3073f7bfb3", func := "loop.example/g00904/laws.FnExactValidFilter", spec := "fnExactValidFilter", apart := false }
def FnExactValidFilterSaid : Prop := fnExactValidFilterRow.holds Try.pinned (OpenSpec.ofChange fnExactValidFilterSpec)

/-- ITS FALSE NEIGHBOUR: 'it returns false'. Refute it at one input. -/
def fnExactValidFilterWrong : ChangeSpec := { name := "fnExactValidFilter", fn := fun _ => fun
  | [d] => { results := [.lit (.bool false)], args := [d] }
  | _ => none }
def FnExactValidFilterWrongFalsely : Prop := fnExactValidFilterRow.holds Try.pinned (OpenSpec.ofChange fnExactValidFilterWrong)

/-- 'laws.FnExactShuffle': WHATEVER THE INPUT: true; the input reads as it did. -/
def fnExactShuffleSpec : ChangeSpec := { name := "fnExactShuffle", fn := fun _ => fun
  | [d1, d2] => { results := [.lit (.bool true)], args := [d1, d2] }
  | _ => none }
def fnExactShuffleRow : OpenClaim := { program := "ytmddgncidgdglaa", sum := "18877e7db95db5f9f4116100797efdb57981a2df8cba825be533df3073f7bfb3", func := "loop.example/g00904/laws.FnExactShuffle", spec := "fnExactShuffle", apart := false }
def FnExactShuffleSaid : Prop := fnExactShuffleRow.holds Try.pinned (OpenSpec.ofChange fnExactShuffleSpec)

/-- ITS FALSE NEIGHBOUR: 'it returns false'. Refute it at one input. -/
def fnExactShuffleWrong : ChangeSpec := { name := "fnExactShuffle", fn := fun _ => fun
  | [d1, d2] => { results := [.lit (.bool false)], args := [d1, d2] }
  | _ => none }
def FnExactShuffleWrongFalsely : Prop := fnExactShuffleRow.holds Try.pinned (OpenSpec.ofChange fnExactShuffleWrong)

/-- 'laws.FnExactUnshuffle': WHATEVER THE INPUT: true; the input reads as it did. -/
def fnExactUnshuffleSpec : ChangeSpec := { name := "fnExactUnshuffle", fn := fun _ => fun
  | [d1, d2] => { results := [.lit (.bool true)], args := [d1, d2] }
  | _ => none }
def fnExactUnshuffleRow : OpenClaim := { program := "ytmddgncidgdglaa", sum := "18877e7db95db5f9f4116100797efdb57981a2df8cba825be533df3073f7bfb3", func := "loop.example/g00904/laws.FnExactUnshuffle", spec := "fnExactUnshuffle", apart := false }
def FnExactUnshuffleSaid : Prop := fnExactUnshuffleRow.holds Try.pinned (OpenSpec.ofChange fnExactUnshuffleSpec)

/-- ITS FALSE NEIGHBOUR: 'it returns false'. Refute it at one input. -/
def fnExactUnshuffleWrong : ChangeSpec := { name := "fnExactUnshuffle", fn := fun _ => fun
  | [d1, d2] => { results := [.lit (.bool false)], args := [d1, d2] }
  | _ => none }
def FnExactUnshuffleWrongFalsely : Prop := fnExactUnshuffleRow.holds Try.pinned (OpenSpec.ofChange fnExactUnshuffleWrong)

/-- 'laws.FnExactDelta': WHATEVER THE INPUT: true; the input reads as it did. -/
def fnExactDeltaSpec : ChangeSpec := { name := "fnExactDelta", fn := fun _ => fun
  | [d1, d2] => { results := [.lit (.bool true)], args := [d1, d2] }
  | _ => none }
def fnExactDeltaRow : OpenClaim := { program := "ytmddgncidgdglaa", sum := "18877e7db95db5f9f4116100797efdb57981a2df8cba825be533df3073f7bfb3", func := "loop.example/g00904/laws.FnExactDelta", spec := "fnExactDelta", unfollowed := true, recurses := true, apart := false }
def FnExactDeltaSaid : Prop := fnExactDeltaRow.holds Try.pinned (OpenSpec.ofChange fnExactDeltaSpec)

/-- ITS FALSE NEIGHBOUR: 'it returns false'. Refute it at one input. -/
def fnExactDeltaWrong : ChangeSpec := { name := "fnExactDelta", fn := fun _ => fun
  | [d1, d2] => { results := [.lit (.bool false)], args := [d1, d2] }
  | _ => none }
def FnExactDeltaWrongFalsely : Prop := fnExactDeltaRow.holds Try.pinned (OpenSpec.ofChange fnExactDeltaWrong)

/-- 'laws.FnExactUndelta': WHATEVER THE INPUT: true; the input reads as it did. -/
def fnExactUndeltaSpec : ChangeSpec := { name := "fnExactUndelta", fn := fun _ => fun
  | [d1, d2] => { results := [.lit (.bool true)], args := [d1, d2] }
  | _ => none }
def fnExactUndeltaRow : OpenClaim := { program := "ytmddgncidgdglaa", sum := "18877e7db95db5f9f4116100797efdb57981a2df8cba825be533df3073f7bfb3", func := "loop.example/g00904/laws.FnExactUndelta", spec := "fnExactUndelta", unfollowed := true, recurses := true, apart := false }
def FnExactUndeltaSaid : Prop := fnExactUndeltaRow.holds Try.pinned (OpenSpec.ofChange fnExactUndeltaSpec)

/-- ITS FALSE NEIGHBOUR: 'it returns false'. Refute it at one input. -/
def fnExactUndeltaWrong : ChangeSpec := { name := "fnExactUndelta", fn := fun _ => fun
  | [d1, d2] => { results := [.lit (.bool false)], args := [d1, d2] }
  | _ => none }
def FnExactUndeltaWrongFalsely : Prop := fnExactUndeltaRow.holds Try.pinned (OpenSpec.ofChange fnExactUndeltaWrong)

/-- 'laws.FnExactRunEncode': WHATEVER THE INPUT: true; the input reads as it did. -/
def fnExactRunEncodeSpec : ChangeSpec := { name := "fnExactRunEncode", fn := fun _ => fun
  | [d] => { results := [.lit (.bool true)], args := [d] }
  | _ => none }
def fnExactRunEncodeRow : OpenClaim := { program := "ytmddgncidgdglaa", sum := "18877e7db95db5f9f4116100797efdb57981a2df8cba825be533df3073f7bfb3", func := "loop.example/g00904/laws.FnExactRunEncode", spec := "fnExactRunEncode", apart := false }
def FnExactRunEncodeSaid : Prop := fnExactRunEncodeRow.holds Try.pinned (OpenSpec.ofChange fnExactRunEncodeSpec)

/-- ITS FALSE NEIGHBOUR: 'it returns false'. Refute it at one input. -/
def fnExactRunEncodeWrong : ChangeSpec := { name := "fnExactRunEncode", fn := fun _ => fun
  | [d] => { results := [.lit (.bool false)], args := [d] }
  | _ => none }
def FnExactRunEncodeWrongFalsely : Prop := fnExactRunEncodeRow.holds Try.pinned (OpenSpec.ofChange fnExactRunEncodeWrong)

/-- 'laws.FnExactRunDecode': WHATEVER THE INPUT: true; the input reads as it did. -/
def fnExactRunDecodeSpec : ChangeSpec := { name := "fnExactRunDecode", fn := fun _ => fun
  | [d] => { results := [.lit (.bool true)], args := [d] }
  | _ => none }
def fnExactRunDecodeRow : OpenClaim := { program := "ytmddgncidgdglaa", sum := "18877e7db95db5f9f4116100797efdb57981a2df8cba825be533df3073f7bfb3", func := "loop.example/g00904/laws.FnExactRunDecode", spec := "fnExactRunDecode", inPlace := ["internal/abi.NoEscape", "internal/bytealg.MakeNoZero"], apart := false }
def FnExactRunDecodeSaid : Prop := fnExactRunDecodeRow.holds Try.pinned (OpenSpec.ofChange fnExactRunDecodeSpec)

/-- ITS FALSE NEIGHBOUR: 'it returns false'. Refute it at one input. -/
def fnExactRunDecodeWrong : ChangeSpec := { name := "fnExactRunDecode", fn := fun _ => fun
  | [d] => { results := [.lit (.bool false)], args := [d] }
  | _ => none }
def FnExactRunDecodeWrongFalsely : Prop := fnExactRunDecodeRow.holds Try.pinned (OpenSpec.ofChange fnExactRunDecodeWrong)

/-- 'laws.FnExactLzDecode': WHATEVER THE INPUT: true; the input reads as it did. -/
def fnExactLzDecodeSpec : ChangeSpec := { name := "fnExactLzDecode", fn := fun _ => fun
  | [d] => { results := [.lit (.bool true)], args := [d] }
  | _ => none }
def fnExactLzDecodeRow : OpenClaim := { program := "ytmddgncidgdglaa", sum := "18877e7db95db5f9f4116100797efdb57981a2df8cba825be533df3073f7bfb3", func := "loop.example/g00904/laws.FnExactLzDecode", spec := "fnExactLzDecode", apart := false }
def FnExactLzDecodeSaid : Prop := fnExactLzDecodeRow.holds Try.pinned (OpenSpec.ofChange fnExactLzDecodeSpec)

/-- ITS FALSE NEIGHBOUR: 'it returns false'. Refute it at one input. -/
def fnExactLzDecodeWrong : ChangeSpec := { name := "fnExactLzDecode", fn := fun _ => fun
  | [d] => { results := [.lit (.bool false)], args := [d] }
  | _ => none }
def FnExactLzDecodeWrongFalsely : Prop := fnExactLzDecodeRow.holds Try.pinned (OpenSpec.ofChange fnExactLzDecodeWrong)

/-- 'laws.FnExactValidPipeline': WHATEVER THE INPUT: true; the input reads as it did. -/
def fnExactValidPipelineSpec : ChangeSpec := { name := "fnExactValidPipeline", fn := fun _ => fun
  | [d] => { results := [.lit (.bool true)], args := [d] }
  | _ => none }
def fnExactValidPipelineRow : OpenClaim := { program := "ytmddgncidgdglaa", sum := "18877e7db95db5f9f4116100797efdb57981a2df8cba825be533df3073f7bfb3", func := "loop.example/g00904/laws.FnExactValidPipeline", spec := "fnExactValidPipeline", unfollowed := true, recurses := true, apart := false }
def FnExactValidPipelineSaid : Prop := fnExactValidPipelineRow.holds Try.pinned (OpenSpec.ofChange fnExactValidPipelineSpec)

/-- ITS FALSE NEIGHBOUR: 'it returns false'. Refute it at one input. -/
def fnExactValidPipelineWrong : ChangeSpec := { name := "fnExactValidPipeline", fn := fun _ => fun
  | [d] => { results := [.lit (.bool false)], args := [d] }
  | _ => none }
def FnExactValidPipelineWrongFalsely : Prop := fnExactValidPipelineRow.holds Try.pinned (OpenSpec.ofChange fnExactValidPipelineWrong)

/-- 'laws.FnExactSamePipeline': WHATEVER THE INPUT: true; the input reads as it did. -/
def fnExactSamePipelineSpec : ChangeSpec := { name := "fnExactSamePipeline", fn := fun _ => fun
  | [d1, d2] => { results := [.lit (.bool true)], args := [d1, d2] }
  | _ => none }
def fnExactSamePipelineRow : OpenClaim := { program := "ytmddgncidgdglaa", sum := "18877e7db95db5f9f4116100797efdb57981a2df8cba825be533df3073f7bfb3", func := "loop.example/g00904/laws.FnExactSamePipeline", spec := "fnExactSamePipeline", apart := false }
def FnExactSamePipelineSaid : Prop := fnExactSamePipelineRow.holds Try.pinned (OpenSpec.ofChange fnExactSamePipelineSpec)

/-- ITS FALSE NEIGHBOUR: 'it returns false'. Refute it at one input. -/
def fnExactSamePipelineWrong : ChangeSpec := { name := "fnExactSamePipeline", fn := fun _ => fun
  | [d1, d2] => { results := [.lit (.bool false)], args := [d1, d2] }
  | _ => none }
def FnExactSamePipelineWrongFalsely : Prop := fnExactSamePipelineRow.holds Try.pinned (OpenSpec.ofChange fnExactSamePipelineWrong)

/-- 'laws.FnExactEncodePipeline': WHATEVER THE INPUT: true; the input reads as it did. -/
def fnExactEncodePipelineSpec : ChangeSpec := { name := "fnExactEncodePipeline", fn := fun _ => fun
  | [d] => { results := [.lit (.bool true)], args := [d] }
  | _ => none }
def fnExactEncodePipelineRow : OpenClaim := { program := "ytmddgncidgdglaa", sum := "18877e7db95db5f9f4116100797efdb57981a2df8cba825be533df3073f7bfb3", func := "loop.example/g00904/laws.FnExactEncodePipeline", spec := "fnExactEncodePipeline", unfollowed := true, recurses := true, apart := false }
def FnExactEncodePipelineSaid : Prop := fnExactEncodePipelineRow.holds Try.pinned (OpenSpec.ofChange fnExactEncodePipelineSpec)

/-- ITS FALSE NEIGHBOUR: 'it returns false'. Refute it at one input. -/
def fnExactEncodePipelineWrong : ChangeSpec := { name := "fnExactEncodePipeline", fn := fun _ => fun
  | [d] => { results := [.lit (.bool false)], args := [d] }
  | _ => none }
def FnExactEncodePipelineWrongFalsely : Prop := fnExactEncodePipelineRow.holds Try.pinned (OpenSpec.ofChange fnExactEncodePipelineWrong)

/-- 'laws.FnExactDecodePipeline': WHATEVER THE INPUT: true; the input reads as it did. -/
def fnExactDecodePipelineSpec : ChangeSpec := { name := "fnExactDecodePipeline", fn := fun _ => fun
  | [d] => { results := [.lit (.bool true)], args := [d] }
  | _ => none }
def fnExactDecodePipelineRow : OpenClaim := { program := "ytmddgncidgdglaa", sum := "18877e7db95db5f9f4116100797efdb57981a2df8cba825be533df3073f7bfb3", func := "loop.example/g00904/laws.FnExactDecodePipeline", spec := "fnExactDecodePipeline", unfollowed := true, recurses := true, apart := false }
def FnExactDecodePipelineSaid : Prop := fnExactDecodePipelineRow.holds Try.pinned (OpenSpec.ofChange fnExactDecodePipelineSpec)

/-- ITS FALSE NEIGHBOUR: 'it returns false'. Refute it at one input. -/
def fnExactDecodePipelineWrong : ChangeSpec := { name := "fnExactDecodePipeline", fn := fun _ => fun
  | [d] => { results := [.lit (.bool false)], args := [d] }
  | _ => none }
def FnExactDecodePipelineWrongFalsely : Prop := fnExactDecodePipelineRow.holds Try.pinned (OpenSpec.ofChange fnExactDecodePipelineWrong)

/-- 'laws.FnExactValidMask': WHATEVER THE INPUT: true; the input reads as it did. -/
def fnExactValidMaskSpec : ChangeSpec := { name := "fnExactValidMask", fn := fun _ => fun
  | [d1, d2] => { results := [.lit (.bool true)], args := [d1, d2] }
  | _ => none }
def fnExactValidMaskRow : OpenClaim := { program := "ytmddgncidgdglaa", sum := "18877e7db95db5f9f4116100797efdb57981a2df8cba825be533df3073f7bfb3", func := "loop.example/g00904/laws.FnExactValidMask", spec := "fnExactValidMask", unfollowed := true, recurses := true, apart := false }
def FnExactValidMaskSaid : Prop := fnExactValidMaskRow.holds Try.pinned (OpenSpec.ofChange fnExactValidMaskSpec)

/-- ITS FALSE NEIGHBOUR: 'it returns false'. Refute it at one input. -/
def fnExactValidMaskWrong : ChangeSpec := { name := "fnExactValidMask", fn := fun _ => fun
  | [d1, d2] => { results := [.lit (.bool false)], args := [d1, d2] }
  | _ => none }
def FnExactValidMaskWrongFalsely : Prop := fnExactValidMaskRow.holds Try.pinned (OpenSpec.ofChange fnExactValidMaskWrong)

/-- 'laws.FnExactDecodeNode': WHATEVER THE INPUT: true; the input reads as it did. -/
def fnExactDecodeNodeSpec : ChangeSpec := { name := "fnExactDecodeNode", fn := fun _ => fun
  | [d] => { results := [.lit (.bool true)], args := [d] }
  | _ => none }
def fnExactDecodeNodeRow : OpenClaim := { program := "ytmddgncidgdglaa", sum := "18877e7db95db5f9f4116100797efdb57981a2df8cba825be533df3073f7bfb3", func := "loop.example/g00904/laws.FnExactDecodeNode", spec := "fnExactDecodeNode", inPlace := ["internal/abi.NoEscape", "internal/bytealg.MakeNoZero"], unfollowed := true, recurses := true, apart := false }
def FnExactDecodeNodeSaid : Prop := fnExactDecodeNodeRow.holds Try.pinned (OpenSpec.ofChange fnExactDecodeNodeSpec)

/-- ITS FALSE NEIGHBOUR: 'it returns false'. Refute it at one input. -/
def fnExactDecodeNodeWrong : ChangeSpec := { name := "fnExactDecodeNode", fn := fun _ => fun
  | [d] => { results := [.lit (.bool false)], args := [d] }
  | _ => none }
def FnExactDecodeNodeWrongFalsely : Prop := fnExactDecodeNodeRow.holds Try.pinned (OpenSpec.ofChange fnExactDecodeNodeWrong)

/- THE SECOND FORM. 'bulk': how many values and letters a reading holds, each counted each time it is reached (what is shared counts as often as it is met; a slice's spare places count too). A statement '..UptoSaid' is the law's where the arguments, and the package variables that the reading takes, are together of bulk at most 1048576: NARROWER than '..Said'. Prove '..Said' where nothing that the law and all that it calls make is longer than what came in: it says more and counts as full. Else prove '..UptoSaid'. A law counts once. -/
mutual
def uptoBulk {H : Type} : DataW H → Nat
  | .lit (.string bytes) => bytes.length + 1
  | .lit _ => 1
  | .nil => 1
  | .ptr d => uptoBulk d + 1
  | .slice elems spare => uptoBulkAll elems + uptoBulkAll spare + 1
  | .agg parts => uptoBulkAll parts + 1
  | .iface _ d => uptoBulk d + 1
  | .map entries => uptoBulkEntries entries + 1
  | .held _ => 1
def uptoBulkAll {H : Type} : List (DataW H) → Nat
  | [] => 0
  | d :: r => uptoBulk d + uptoBulkAll r
def uptoBulkEntries {H : Type} : List (Lit × DataW H) → Nat
  | [] => 0
  | x :: r => uptoBulkEntry x + uptoBulkEntries r
def uptoBulkEntry {H : Type} : Lit × DataW H → Nat
  | (.string bytes, d) => bytes.length + uptoBulk d + 1
  | (_, d) => uptoBulk d + 1
 end
def uptoSmall : (H : Type) → List (DataW H) → Bool := fun _ ds => decide (uptoBulkAll ds ≤ 1048576)
def OpenSpec.upto (s : _root_.Go.ChangeSpec) : _root_.Go.OpenSpec := { _root_.Go.OpenSpec.ofChange s with cond := some uptoSmall }

/-- 'laws.FnExactValidFilter', WHERE WHAT IT READS IS OF BULK AT MOST 1048576: true; the input reads as it did. -/
def fnExactValidFilterUptoRow : OpenClaim := { program := "ytmddgncidgdglaa", sum := "18877e7db95db5f9f4116100797efdb57981a2df8cba825be533df3073f7bfb3", func := "loop.example/g00904/laws.FnExactValidFilter", spec := "fnExactValidFilter", apart := false, narrowed := true }
def FnExactValidFilterUptoSaid : Prop := fnExactValidFilterUptoRow.holds Try.pinned (OpenSpec.upto fnExactValidFilterSpec)

/-- 'laws.FnExactShuffle', WHERE WHAT IT READS IS OF BULK AT MOST 1048576: true; the input reads as it did. -/
def fnExactShuffleUptoRow : OpenClaim := { program := "ytmddgncidgdglaa", sum := "18877e7db95db5f9f4116100797efdb57981a2df8cba825be533df3073f7bfb3", func := "loop.example/g00904/laws.FnExactShuffle", spec := "fnExactShuffle", apart := false, narrowed := true }
def FnExactShuffleUptoSaid : Prop := fnExactShuffleUptoRow.holds Try.pinned (OpenSpec.upto fnExactShuffleSpec)

/-- 'laws.FnExactUnshuffle', WHERE WHAT IT READS IS OF BULK AT MOST 1048576: true; the input reads as it did. -/
def fnExactUnshuffleUptoRow : OpenClaim := { program := "ytmddgncidgdglaa", sum := "18877e7db95db5f9f4116100797efdb57981a2df8cba825be533df3073f7bfb3", func := "loop.example/g00904/laws.FnExactUnshuffle", spec := "fnExactUnshuffle", apart := false, narrowed := true }
def FnExactUnshuffleUptoSaid : Prop := fnExactUnshuffleUptoRow.holds Try.pinned (OpenSpec.upto fnExactUnshuffleSpec)

/-- 'laws.FnExactDelta', WHERE WHAT IT READS IS OF BULK AT MOST 1048576: true; the input reads as it did. -/
def fnExactDeltaUptoRow : OpenClaim := { program := "ytmddgncidgdglaa", sum := "18877e7db95db5f9f4116100797efdb57981a2df8cba825be533df3073f7bfb3", func := "loop.example/g00904/laws.FnExactDelta", spec := "fnExactDelta", unfollowed := true, recurses := true, apart := false, narrowed := true }
def FnExactDeltaUptoSaid : Prop := fnExactDeltaUptoRow.holds Try.pinned (OpenSpec.upto fnExactDeltaSpec)

/-- 'laws.FnExactUndelta', WHERE WHAT IT READS IS OF BULK AT MOST 1048576: true; the input reads as it did. -/
def fnExactUndeltaUptoRow : OpenClaim := { program := "ytmddgncidgdglaa", sum := "18877e7db95db5f9f4116100797efdb57981a2df8cba825be533df3073f7bfb3", func := "loop.example/g00904/laws.FnExactUndelta", spec := "fnExactUndelta", unfollowed := true, recurses := true, apart := false, narrowed := true }
def FnExactUndeltaUptoSaid : Prop := fnExactUndeltaUptoRow.holds Try.pinned (OpenSpec.upto fnExactUndeltaSpec)

/-- 'laws.FnExactRunEncode', WHERE WHAT IT READS IS OF BULK AT MOST 1048576: true; the input reads as it did. -/
def fnExactRunEncodeUptoRow : OpenClaim := { program := "ytmddgncidgdglaa", sum := "18877e7db95db5f9f4116100797efdb57981a2df8cba825be533df3073f7bfb3", func := "loop.example/g00904/laws.FnExactRunEncode", spec := "fnExactRunEncode", apart := false, narrowed := true }
def FnExactRunEncodeUptoSaid : Prop := fnExactRunEncodeUptoRow.holds Try.pinned (OpenSpec.upto fnExactRunEncodeSpec)

/-- 'laws.FnExactRunDecode', WHERE WHAT IT READS IS OF BULK AT MOST 1048576: true; the input reads as it did. -/
def fnExactRunDecodeUptoRow : OpenClaim := { program := "ytmddgncidgdglaa", sum := "18877e7db95db5f9f4116100797efdb57981a2df8cba825be533df3073f7bfb3", func := "loop.example/g00904/laws.FnExactRunDecode", spec := "fnExactRunDecode", inPlace := ["internal/abi.NoEscape", "internal/bytealg.MakeNoZero"], apart := false, narrowed := true }
def FnExactRunDecodeUptoSaid : Prop := fnExactRunDecodeUptoRow.holds Try.pinned (OpenSpec.upto fnExactRunDecodeSpec)

/-- 'laws.FnExactLzDecode', WHERE WHAT IT READS IS OF BULK AT MOST 1048576: true; the input reads as it did. -/
def fnExactLzDecodeUptoRow : OpenClaim := { program := "ytmddgncidgdglaa", sum := "18877e7db95db5f9f4116100797efdb57981a2df8cba825be533df3073f7bfb3", func := "loop.example/g00904/laws.FnExactLzDecode", spec := "fnExactLzDecode", apart := false, narrowed := true }
def FnExactLzDecodeUptoSaid : Prop := fnExactLzDecodeUptoRow.holds Try.pinned (OpenSpec.upto fnExactLzDecodeSpec)

/-- 'laws.FnExactValidPipeline', WHERE WHAT IT READS IS OF BULK AT MOST 1048576: true; the input reads as it did. -/
def fnExactValidPipelineUptoRow : OpenClaim := { program := "ytmddgncidgdglaa", sum := "18877e7db95db5f9f4116100797efdb57981a2df8cba825be533df3073f7bfb3", func := "loop.example/g00904/laws.FnExactValidPipeline", spec := "fnExactValidPipeline", unfollowed := true, recurses := true, apart := false, narrowed := true }
def FnExactValidPipelineUptoSaid : Prop := fnExactValidPipelineUptoRow.holds Try.pinned (OpenSpec.upto fnExactValidPipelineSpec)

/-- 'laws.FnExactSamePipeline', WHERE WHAT IT READS IS OF BULK AT MOST 1048576: true; the input reads as it did. -/
def fnExactSamePipelineUptoRow : OpenClaim := { program := "ytmddgncidgdglaa", sum := "18877e7db95db5f9f4116100797efdb57981a2df8cba825be533df3073f7bfb3", func := "loop.example/g00904/laws.FnExactSamePipeline", spec := "fnExactSamePipeline", apart := false, narrowed := true }
def FnExactSamePipelineUptoSaid : Prop := fnExactSamePipelineUptoRow.holds Try.pinned (OpenSpec.upto fnExactSamePipelineSpec)

/-- 'laws.FnExactEncodePipeline', WHERE WHAT IT READS IS OF BULK AT MOST 1048576: true; the input reads as it did. -/
def fnExactEncodePipelineUptoRow : OpenClaim := { program := "ytmddgncidgdglaa", sum := "18877e7db95db5f9f4116100797efdb57981a2df8cba825be533df3073f7bfb3", func := "loop.example/g00904/laws.FnExactEncodePipeline", spec := "fnExactEncodePipeline", unfollowed := true, recurses := true, apart := false, narrowed := true }
def FnExactEncodePipelineUptoSaid : Prop := fnExactEncodePipelineUptoRow.holds Try.pinned (OpenSpec.upto fnExactEncodePipelineSpec)

/-- 'laws.FnExactDecodePipeline', WHERE WHAT IT READS IS OF BULK AT MOST 1048576: true; the input reads as it did. -/
def fnExactDecodePipelineUptoRow : OpenClaim := { program := "ytmddgncidgdglaa", sum := "18877e7db95db5f9f4116100797efdb57981a2df8cba825be533df3073f7bfb3", func := "loop.example/g00904/laws.FnExactDecodePipeline", spec := "fnExactDecodePipeline", unfollowed := true, recurses := true, apart := false, narrowed := true }
def FnExactDecodePipelineUptoSaid : Prop := fnExactDecodePipelineUptoRow.holds Try.pinned (OpenSpec.upto fnExactDecodePipelineSpec)

/-- 'laws.FnExactValidMask', WHERE WHAT IT READS IS OF BULK AT MOST 1048576: true; the input reads as it did. -/
def fnExactValidMaskUptoRow : OpenClaim := { program := "ytmddgncidgdglaa", sum := "18877e7db95db5f9f4116100797efdb57981a2df8cba825be533df3073f7bfb3", func := "loop.example/g00904/laws.FnExactValidMask", spec := "fnExactValidMask", unfollowed := true, recurses := true, apart := false, narrowed := true }
def FnExactValidMaskUptoSaid : Prop := fnExactValidMaskUptoRow.holds Try.pinned (OpenSpec.upto fnExactValidMaskSpec)

/-- 'laws.FnExactDecodeNode', WHERE WHAT IT READS IS OF BULK AT MOST 1048576: true; the input reads as it did. -/
def fnExactDecodeNodeUptoRow : OpenClaim := { program := "ytmddgncidgdglaa", sum := "18877e7db95db5f9f4116100797efdb57981a2df8cba825be533df3073f7bfb3", func := "loop.example/g00904/laws.FnExactDecodeNode", spec := "fnExactDecodeNode", inPlace := ["internal/abi.NoEscape", "internal/bytealg.MakeNoZero"], unfollowed := true, recurses := true, apart := false, narrowed := true }
def FnExactDecodeNodeUptoSaid : Prop := fnExactDecodeNodeUptoRow.holds Try.pinned (OpenSpec.upto fnExactDecodeNodeSpec)

end Rows
end Go.Proofs.Ytmddgncidgdglaa
