/-
  No cell of these rows narrows 'for every input' (looked for: loops, veiled, ifaces, maps, wideKeys, modest, calm, conditions, laid).
  DERIVED. THE GIVEN ROWS OF THIS SEAT. 16 by the template 'for every input the law returns true; each argument reads behind the call as it read before'; 0 by the template 'total and deterministic' (their statements: YtpjkeikaonkohaaTotals.lean).
  GIVEN WITH THE SEED: the statements are not yours to turn. If you find one false, say at which input.
  Laid BY PROGRAM, IN A SANDBOX (cutbox-rows.mjs): the forced cells as the released guide's own fill.sh prints them over the translation a1fd9b3f5db50853… (all of the seat's roots in one cut). By AI agents, Wed Nov 11 2026. No macro, syntax, notation, axiom, sorry.
-/
import Derived.Test.YtpjkeikaonkohaaChecked
import GoSem.Claim
import GoSem.ClaimJoined
import GoSem.ClaimMapViews
import Derived.JoinedTies
import Derived.KernelRfl
namespace Go.Proofs.Ytpjkeikaonkohaa
/- THE CELL 'sum', in the pinned program and in every row, IS THE sha256 OF THE DUMP (.gsa) THAT YtpjkeikaonkohaaProg.lean LOADS. Nothing in Lean hashes anything: it is a label: what it is worth is what the hold of that sum in a sandbox is worth. -/
noncomputable def Try.pinned : Pinned := { name := "ytpjkeikaonkohaa", sum := "a1fd9b3f5db50853ef03edb95bfa8bb345564ffb3b64bf4211d234b95bd8e101", checked := Try.checked }
namespace Rows
def none {H : Type} : Left H := { results := [], args := [] }

/-- 'laws.FnExactValidDisk': WHATEVER THE INPUT: true; the input reads as it did. -/
def fnExactValidDiskSpec : ChangeSpec := { name := "fnExactValidDisk", fn := fun _ => fun
  | [d] => { results := [.lit (.bool true)], args := [d] }
  | _ => none }
def fnExactValidDiskRow : OpenClaim := { program := "ytpjkeikaonkohaa", sum := "a1fd9b3f5db50853ef03edb95bfa8bb345564ffb3b64bf4211d234b95bd8e101", func := "loop.example/g00904/laws.FnExactValidDisk", spec := "fnExactValidDisk", apart := false }
def FnExactValidDiskSaid : Prop := fnExactValidDiskRow.holds Try.pinned (OpenSpec.ofChange fnExactValidDiskSpec)

/-- ITS FALSE NEIGHBOUR: 'it returns false'. Refute it at one input. -/
def fnExactValidDiskWrong : ChangeSpec := { name := "fnExactValidDisk", fn := fun _ => fun
  | [d] => { results := [.lit (.bool false)], args := [d] }
  | _ => none }
def FnExactValidDiskWrongFalsely : Prop := fnExactValidDiskRow.holds Try.pinned (OpenSpec.ofChange fnExactValidDiskWrong)

/-- 'laws.FnExactSameDisk': WHATEVER THE INPUT: true; the input reads as it did. -/
def fnExactSameDiskSpec : ChangeSpec := { name := "fnExactSameDisk", fn := fun _ => fun
  | [d1, d2] => { results := [.lit (.bool true)], args := [d1, d2] }
  | _ => none }
def fnExactSameDiskRow : OpenClaim := { program := "ytpjkeikaonkohaa", sum := "a1fd9b3f5db50853ef03edb95bfa8bb345564ffb3b64bf4211d234b95bd8e101", func := "loop.example/g00904/laws.FnExactSameDisk", spec := "fnExactSameDisk", apart := false }
def FnExactSameDiskSaid : Prop := fnExactSameDiskRow.holds Try.pinned (OpenSpec.ofChange fnExactSameDiskSpec)

/-- ITS FALSE NEIGHBOUR: 'it returns false'. Refute it at one input. -/
def fnExactSameDiskWrong : ChangeSpec := { name := "fnExactSameDisk", fn := fun _ => fun
  | [d1, d2] => { results := [.lit (.bool false)], args := [d1, d2] }
  | _ => none }
def FnExactSameDiskWrongFalsely : Prop := fnExactSameDiskRow.holds Try.pinned (OpenSpec.ofChange fnExactSameDiskWrong)

/-- 'laws.FnExactNewDisk': WHATEVER THE INPUT: true; the input reads as it did. -/
def fnExactNewDiskSpec : ChangeSpec := { name := "fnExactNewDisk", fn := fun _ => fun
  | [d] => { results := [.lit (.bool true)], args := [d] }
  | _ => none }
def fnExactNewDiskRow : OpenClaim := { program := "ytpjkeikaonkohaa", sum := "a1fd9b3f5db50853ef03edb95bfa8bb345564ffb3b64bf4211d234b95bd8e101", func := "loop.example/g00904/laws.FnExactNewDisk", spec := "fnExactNewDisk", apart := false }
def FnExactNewDiskSaid : Prop := fnExactNewDiskRow.holds Try.pinned (OpenSpec.ofChange fnExactNewDiskSpec)

/-- ITS FALSE NEIGHBOUR: 'it returns false'. Refute it at one input. -/
def fnExactNewDiskWrong : ChangeSpec := { name := "fnExactNewDisk", fn := fun _ => fun
  | [d] => { results := [.lit (.bool false)], args := [d] }
  | _ => none }
def FnExactNewDiskWrongFalsely : Prop := fnExactNewDiskRow.holds Try.pinned (OpenSpec.ofChange fnExactNewDiskWrong)

/-- 'laws.FnExactSetFuse': WHATEVER THE INPUT: true; the input reads as it did. -/
def fnExactSetFuseSpec : ChangeSpec := { name := "fnExactSetFuse", fn := fun _ => fun
  | [d1, d2] => { results := [.lit (.bool true)], args := [d1, d2] }
  | _ => none }
def fnExactSetFuseRow : OpenClaim := { program := "ytpjkeikaonkohaa", sum := "a1fd9b3f5db50853ef03edb95bfa8bb345564ffb3b64bf4211d234b95bd8e101", func := "loop.example/g00904/laws.FnExactSetFuse", spec := "fnExactSetFuse", apart := false }
def FnExactSetFuseSaid : Prop := fnExactSetFuseRow.holds Try.pinned (OpenSpec.ofChange fnExactSetFuseSpec)

/-- ITS FALSE NEIGHBOUR: 'it returns false'. Refute it at one input. -/
def fnExactSetFuseWrong : ChangeSpec := { name := "fnExactSetFuse", fn := fun _ => fun
  | [d1, d2] => { results := [.lit (.bool false)], args := [d1, d2] }
  | _ => none }
def FnExactSetFuseWrongFalsely : Prop := fnExactSetFuseRow.holds Try.pinned (OpenSpec.ofChange fnExactSetFuseWrong)

/-- 'laws.FnExactReadBlock': WHATEVER THE INPUT: true; the input reads as it did. -/
def fnExactReadBlockSpec : ChangeSpec := { name := "fnExactReadBlock", fn := fun _ => fun
  | [d1, d2] => { results := [.lit (.bool true)], args := [d1, d2] }
  | _ => none }
def fnExactReadBlockRow : OpenClaim := { program := "ytpjkeikaonkohaa", sum := "a1fd9b3f5db50853ef03edb95bfa8bb345564ffb3b64bf4211d234b95bd8e101", func := "loop.example/g00904/laws.FnExactReadBlock", spec := "fnExactReadBlock", unfollowed := true, recurses := true, apart := false }
def FnExactReadBlockSaid : Prop := fnExactReadBlockRow.holds Try.pinned (OpenSpec.ofChange fnExactReadBlockSpec)

/-- ITS FALSE NEIGHBOUR: 'it returns false'. Refute it at one input. -/
def fnExactReadBlockWrong : ChangeSpec := { name := "fnExactReadBlock", fn := fun _ => fun
  | [d1, d2] => { results := [.lit (.bool false)], args := [d1, d2] }
  | _ => none }
def FnExactReadBlockWrongFalsely : Prop := fnExactReadBlockRow.holds Try.pinned (OpenSpec.ofChange fnExactReadBlockWrong)

/-- 'laws.FnExactWriteBlock': WHATEVER THE INPUT: true; the input reads as it did. -/
def fnExactWriteBlockSpec : ChangeSpec := { name := "fnExactWriteBlock", fn := fun _ => fun
  | [d1, d2, d3] => { results := [.lit (.bool true)], args := [d1, d2, d3] }
  | _ => none }
def fnExactWriteBlockRow : OpenClaim := { program := "ytpjkeikaonkohaa", sum := "a1fd9b3f5db50853ef03edb95bfa8bb345564ffb3b64bf4211d234b95bd8e101", func := "loop.example/g00904/laws.FnExactWriteBlock", spec := "fnExactWriteBlock", unfollowed := true, recurses := true, apart := false }
def FnExactWriteBlockSaid : Prop := fnExactWriteBlockRow.holds Try.pinned (OpenSpec.ofChange fnExactWriteBlockSpec)

/-- ITS FALSE NEIGHBOUR: 'it returns false'. Refute it at one input. -/
def fnExactWriteBlockWrong : ChangeSpec := { name := "fnExactWriteBlock", fn := fun _ => fun
  | [d1, d2, d3] => { results := [.lit (.bool false)], args := [d1, d2, d3] }
  | _ => none }
def FnExactWriteBlockWrongFalsely : Prop := fnExactWriteBlockRow.holds Try.pinned (OpenSpec.ofChange fnExactWriteBlockWrong)

/-- 'laws.FnExactBarrier': WHATEVER THE INPUT: true; the input reads as it did. -/
def fnExactBarrierSpec : ChangeSpec := { name := "fnExactBarrier", fn := fun _ => fun
  | [d] => { results := [.lit (.bool true)], args := [d] }
  | _ => none }
def fnExactBarrierRow : OpenClaim := { program := "ytpjkeikaonkohaa", sum := "a1fd9b3f5db50853ef03edb95bfa8bb345564ffb3b64bf4211d234b95bd8e101", func := "loop.example/g00904/laws.FnExactBarrier", spec := "fnExactBarrier", unfollowed := true, recurses := true, apart := false }
def FnExactBarrierSaid : Prop := fnExactBarrierRow.holds Try.pinned (OpenSpec.ofChange fnExactBarrierSpec)

/-- ITS FALSE NEIGHBOUR: 'it returns false'. Refute it at one input. -/
def fnExactBarrierWrong : ChangeSpec := { name := "fnExactBarrier", fn := fun _ => fun
  | [d] => { results := [.lit (.bool false)], args := [d] }
  | _ => none }
def FnExactBarrierWrongFalsely : Prop := fnExactBarrierRow.holds Try.pinned (OpenSpec.ofChange fnExactBarrierWrong)

/-- 'laws.FnExactCutPower': WHATEVER THE INPUT: true; the input reads as it did. -/
def fnExactCutPowerSpec : ChangeSpec := { name := "fnExactCutPower", fn := fun _ => fun
  | [d1, d2, d3, d4] => { results := [.lit (.bool true)], args := [d1, d2, d3, d4] }
  | _ => none }
def fnExactCutPowerRow : OpenClaim := { program := "ytpjkeikaonkohaa", sum := "a1fd9b3f5db50853ef03edb95bfa8bb345564ffb3b64bf4211d234b95bd8e101", func := "loop.example/g00904/laws.FnExactCutPower", spec := "fnExactCutPower", unfollowed := true, recurses := true, apart := false }
def FnExactCutPowerSaid : Prop := fnExactCutPowerRow.holds Try.pinned (OpenSpec.ofChange fnExactCutPowerSpec)

/-- ITS FALSE NEIGHBOUR: 'it returns false'. Refute it at one input. -/
def fnExactCutPowerWrong : ChangeSpec := { name := "fnExactCutPower", fn := fun _ => fun
  | [d1, d2, d3, d4] => { results := [.lit (.bool false)], args := [d1, d2, d3, d4] }
  | _ => none }
def FnExactCutPowerWrongFalsely : Prop := fnExactCutPowerRow.holds Try.pinned (OpenSpec.ofChange fnExactCutPowerWrong)

/-- 'laws.FnExactValidSuper': WHATEVER THE INPUT: true; the input reads as it did. -/
def fnExactValidSuperSpec : ChangeSpec := { name := "fnExactValidSuper", fn := fun _ => fun
  | [d] => { results := [.lit (.bool true)], args := [d] }
  | _ => none }
def fnExactValidSuperRow : OpenClaim := { program := "ytpjkeikaonkohaa", sum := "a1fd9b3f5db50853ef03edb95bfa8bb345564ffb3b64bf4211d234b95bd8e101", func := "loop.example/g00904/laws.FnExactValidSuper", spec := "fnExactValidSuper", apart := false }
def FnExactValidSuperSaid : Prop := fnExactValidSuperRow.holds Try.pinned (OpenSpec.ofChange fnExactValidSuperSpec)

/-- ITS FALSE NEIGHBOUR: 'it returns false'. Refute it at one input. -/
def fnExactValidSuperWrong : ChangeSpec := { name := "fnExactValidSuper", fn := fun _ => fun
  | [d] => { results := [.lit (.bool false)], args := [d] }
  | _ => none }
def FnExactValidSuperWrongFalsely : Prop := fnExactValidSuperRow.holds Try.pinned (OpenSpec.ofChange fnExactValidSuperWrong)

/-- 'laws.FnExactEncodeSuper': WHATEVER THE INPUT: true; the input reads as it did. -/
def fnExactEncodeSuperSpec : ChangeSpec := { name := "fnExactEncodeSuper", fn := fun _ => fun
  | [d] => { results := [.lit (.bool true)], args := [d] }
  | _ => none }
def fnExactEncodeSuperRow : OpenClaim := { program := "ytpjkeikaonkohaa", sum := "a1fd9b3f5db50853ef03edb95bfa8bb345564ffb3b64bf4211d234b95bd8e101", func := "loop.example/g00904/laws.FnExactEncodeSuper", spec := "fnExactEncodeSuper", apart := false }
def FnExactEncodeSuperSaid : Prop := fnExactEncodeSuperRow.holds Try.pinned (OpenSpec.ofChange fnExactEncodeSuperSpec)

/-- ITS FALSE NEIGHBOUR: 'it returns false'. Refute it at one input. -/
def fnExactEncodeSuperWrong : ChangeSpec := { name := "fnExactEncodeSuper", fn := fun _ => fun
  | [d] => { results := [.lit (.bool false)], args := [d] }
  | _ => none }
def FnExactEncodeSuperWrongFalsely : Prop := fnExactEncodeSuperRow.holds Try.pinned (OpenSpec.ofChange fnExactEncodeSuperWrong)

/-- 'laws.FnExactDecodeSuper': WHATEVER THE INPUT: true; the input reads as it did. -/
def fnExactDecodeSuperSpec : ChangeSpec := { name := "fnExactDecodeSuper", fn := fun _ => fun
  | [d] => { results := [.lit (.bool true)], args := [d] }
  | _ => none }
def fnExactDecodeSuperRow : OpenClaim := { program := "ytpjkeikaonkohaa", sum := "a1fd9b3f5db50853ef03edb95bfa8bb345564ffb3b64bf4211d234b95bd8e101", func := "loop.example/g00904/laws.FnExactDecodeSuper", spec := "fnExactDecodeSuper", unfollowed := true, recurses := true, apart := false }
def FnExactDecodeSuperSaid : Prop := fnExactDecodeSuperRow.holds Try.pinned (OpenSpec.ofChange fnExactDecodeSuperSpec)

/-- ITS FALSE NEIGHBOUR: 'it returns false'. Refute it at one input. -/
def fnExactDecodeSuperWrong : ChangeSpec := { name := "fnExactDecodeSuper", fn := fun _ => fun
  | [d] => { results := [.lit (.bool false)], args := [d] }
  | _ => none }
def FnExactDecodeSuperWrongFalsely : Prop := fnExactDecodeSuperRow.holds Try.pinned (OpenSpec.ofChange fnExactDecodeSuperWrong)

/-- 'laws.FnExactChooseSuper': WHATEVER THE INPUT: true; the input reads as it did. -/
def fnExactChooseSuperSpec : ChangeSpec := { name := "fnExactChooseSuper", fn := fun _ => fun
  | [d] => { results := [.lit (.bool true)], args := [d] }
  | _ => none }
def fnExactChooseSuperRow : OpenClaim := { program := "ytpjkeikaonkohaa", sum := "a1fd9b3f5db50853ef03edb95bfa8bb345564ffb3b64bf4211d234b95bd8e101", func := "loop.example/g00904/laws.FnExactChooseSuper", spec := "fnExactChooseSuper", unfollowed := true, recurses := true, apart := false }
def FnExactChooseSuperSaid : Prop := fnExactChooseSuperRow.holds Try.pinned (OpenSpec.ofChange fnExactChooseSuperSpec)

/-- ITS FALSE NEIGHBOUR: 'it returns false'. Refute it at one input. -/
def fnExactChooseSuperWrong : ChangeSpec := { name := "fnExactChooseSuper", fn := fun _ => fun
  | [d] => { results := [.lit (.bool false)], args := [d] }
  | _ => none }
def FnExactChooseSuperWrongFalsely : Prop := fnExactChooseSuperRow.holds Try.pinned (OpenSpec.ofChange fnExactChooseSuperWrong)

/-- 'laws.FnExactWriteSuper': WHATEVER THE INPUT: true; the input reads as it did. -/
def fnExactWriteSuperSpec : ChangeSpec := { name := "fnExactWriteSuper", fn := fun _ => fun
  | [d1, d2] => { results := [.lit (.bool true)], args := [d1, d2] }
  | _ => none }
def fnExactWriteSuperRow : OpenClaim := { program := "ytpjkeikaonkohaa", sum := "a1fd9b3f5db50853ef03edb95bfa8bb345564ffb3b64bf4211d234b95bd8e101", func := "loop.example/g00904/laws.FnExactWriteSuper", spec := "fnExactWriteSuper", unfollowed := true, recurses := true, apart := false }
def FnExactWriteSuperSaid : Prop := fnExactWriteSuperRow.holds Try.pinned (OpenSpec.ofChange fnExactWriteSuperSpec)

/-- ITS FALSE NEIGHBOUR: 'it returns false'. Refute it at one input. -/
def fnExactWriteSuperWrong : ChangeSpec := { name := "fnExactWriteSuper", fn := fun _ => fun
  | [d1, d2] => { results := [.lit (.bool false)], args := [d1, d2] }
  | _ => none }
def FnExactWriteSuperWrongFalsely : Prop := fnExactWriteSuperRow.holds Try.pinned (OpenSpec.ofChange fnExactWriteSuperWrong)

/-- 'laws.FnExactAreaBlock': WHATEVER THE INPUT: true; the input reads as it did. -/
def fnExactAreaBlockSpec : ChangeSpec := { name := "fnExactAreaBlock", fn := fun _ => fun
  | [d] => { results := [.lit (.bool true)], args := [d] }
  | _ => none }
def fnExactAreaBlockRow : OpenClaim := { program := "ytpjkeikaonkohaa", sum := "a1fd9b3f5db50853ef03edb95bfa8bb345564ffb3b64bf4211d234b95bd8e101", func := "loop.example/g00904/laws.FnExactAreaBlock", spec := "fnExactAreaBlock", apart := false }
def FnExactAreaBlockSaid : Prop := fnExactAreaBlockRow.holds Try.pinned (OpenSpec.ofChange fnExactAreaBlockSpec)

/-- ITS FALSE NEIGHBOUR: 'it returns false'. Refute it at one input. -/
def fnExactAreaBlockWrong : ChangeSpec := { name := "fnExactAreaBlock", fn := fun _ => fun
  | [d] => { results := [.lit (.bool false)], args := [d] }
  | _ => none }
def FnExactAreaBlockWrongFalsely : Prop := fnExactAreaBlockRow.holds Try.pinned (OpenSpec.ofChange fnExactAreaBlockWrong)

/-- 'laws.FnExactDataFirst': WHATEVER THE INPUT: true; the input reads as it did. -/
def fnExactDataFirstSpec : ChangeSpec := { name := "fnExactDataFirst", fn := fun _ => fun
  | [d] => { results := [.lit (.bool true)], args := [d] }
  | _ => none }
def fnExactDataFirstRow : OpenClaim := { program := "ytpjkeikaonkohaa", sum := "a1fd9b3f5db50853ef03edb95bfa8bb345564ffb3b64bf4211d234b95bd8e101", func := "loop.example/g00904/laws.FnExactDataFirst", spec := "fnExactDataFirst", apart := false }
def FnExactDataFirstSaid : Prop := fnExactDataFirstRow.holds Try.pinned (OpenSpec.ofChange fnExactDataFirstSpec)

/-- ITS FALSE NEIGHBOUR: 'it returns false'. Refute it at one input. -/
def fnExactDataFirstWrong : ChangeSpec := { name := "fnExactDataFirst", fn := fun _ => fun
  | [d] => { results := [.lit (.bool false)], args := [d] }
  | _ => none }
def FnExactDataFirstWrongFalsely : Prop := fnExactDataFirstRow.holds Try.pinned (OpenSpec.ofChange fnExactDataFirstWrong)

/-- 'laws.FnExactFormatDisk': WHATEVER THE INPUT: true; the input reads as it did. -/
def fnExactFormatDiskSpec : ChangeSpec := { name := "fnExactFormatDisk", fn := fun _ => fun
  | [d1, d2] => { results := [.lit (.bool true)], args := [d1, d2] }
  | _ => none }
def fnExactFormatDiskRow : OpenClaim := { program := "ytpjkeikaonkohaa", sum := "a1fd9b3f5db50853ef03edb95bfa8bb345564ffb3b64bf4211d234b95bd8e101", func := "loop.example/g00904/laws.FnExactFormatDisk", spec := "fnExactFormatDisk", unfollowed := true, recurses := true, apart := false }
def FnExactFormatDiskSaid : Prop := fnExactFormatDiskRow.holds Try.pinned (OpenSpec.ofChange fnExactFormatDiskSpec)

/-- ITS FALSE NEIGHBOUR: 'it returns false'. Refute it at one input. -/
def fnExactFormatDiskWrong : ChangeSpec := { name := "fnExactFormatDisk", fn := fun _ => fun
  | [d1, d2] => { results := [.lit (.bool false)], args := [d1, d2] }
  | _ => none }
def FnExactFormatDiskWrongFalsely : Prop := fnExactFormatDiskRow.holds Try.pinned (OpenSpec.ofChange fnExactFormatDiskWrong)

/- THE SECOND FORM. 'bulk': how many values and letters a reading holds, each counted each time it is reached (what is shared counts as often as it is met; a slice's spare places count too). A statement '..UptoSaid' is the law's where the arguments, and the package variables that the reading takes, are together of bulk at most 1048576: NARROWER than '..Said'. Prove '..Said' where nothing that the law and all that it calls make is longer than what came in: it says more and counts as full. Else prove '..UptoSaid'. A law counts once. -/
mutual
def uptoBulk {H : Type} : DataW H → Nat
  | .lit (.string bytes) => bytes.length + 1
  | .lit _ => 1
  | .nil => 1
  | .ptr d => uptoBulk d + 1
  | .slice elems spare => uptoBulkAll elems + uptoBulkAll spare + 1
  | .agg parts => uptoBulkAll parts + 1
  | .iface _ d => uptoBulk d + 1
  | .map entries => uptoBulkEntries entries + 1
  | .held _ => 1
def uptoBulkAll {H : Type} : List (DataW H) → Nat
  | [] => 0
  | d :: r => uptoBulk d + uptoBulkAll r
def uptoBulkEntries {H : Type} : List (Lit × DataW H) → Nat
  | [] => 0
  | x :: r => uptoBulkEntry x + uptoBulkEntries r
def uptoBulkEntry {H : Type} : Lit × DataW H → Nat
  | (.string bytes, d) => bytes.length + uptoBulk d + 1
  | (_, d) => uptoBulk d + 1
 end
def uptoSmall : (H : Type) → List (DataW H) → Bool := fun _ ds => decide (uptoBulkAll ds ≤ 1048576)
def OpenSpec.upto (s : _root_.Go.ChangeSpec) : _root_.Go.OpenSpec := { _root_.Go.OpenSpec.ofChange s with cond := some uptoSmall }

/-- 'laws.FnExactValidDisk', WHERE WHAT IT READS IS OF BULK AT MOST 1048576: true; the input reads as it did. -/
def fnExactValidDiskUptoRow : OpenClaim := { program := "ytpjkeikaonkohaa", sum := "a1fd9b3f5db50853ef03edb95bfa8bb345564ffb3b64bf4211d234b95bd8e101", func := "loop.example/g00904/laws.FnExactValidDisk", spec := "fnExactValidDisk", apart := false, narrowed := true }
def FnExactValidDiskUptoSaid : Prop := fnExactValidDiskUptoRow.holds Try.pinned (OpenSpec.upto fnExactValidDiskSpec)

/-- 'laws.FnExactSameDisk', WHERE WHAT IT READS IS OF BULK AT MOST 1048576: true; the input reads as it did. -/
def fnExactSameDiskUptoRow : OpenClaim := { program := "ytpjkeikaonkohaa", sum := "a1fd9b3f5db50853ef03edb95bfa8bb345564ffb3b64bf4211d234b95bd8e101", func := "loop.example/g00904/laws.FnExactSameDisk", spec := "fnExactSameDisk", apart := false, narrowed := true }
def FnExactSameDiskUptoSaid : Prop := fnExactSameDiskUptoRow.holds Try.pinned (OpenSpec.upto fnExactSameDiskSpec)

/-- 'laws.FnExactNewDisk', WHERE WHAT IT READS IS OF BULK AT MOST 1048576: true; the input reads as it did. -/
def fnExactNewDiskUptoRow : OpenClaim := { program := "ytpjkeikaonkohaa", sum := "a1fd9b3f5db50853ef03edb95bfa8bb345564ffb3b64bf4211d234b95bd8e101", func := "loop.example/g00904/laws.FnExactNewDisk", spec := "fnExactNewDisk", apart := false, narrowed := true }
def FnExactNewDiskUptoSaid : Prop := fnExactNewDiskUptoRow.holds Try.pinned (OpenSpec.upto fnExactNewDiskSpec)

/-- 'laws.FnExactSetFuse', WHERE WHAT IT READS IS OF BULK AT MOST 1048576: true; the input reads as it did. -/
def fnExactSetFuseUptoRow : OpenClaim := { program := "ytpjkeikaonkohaa", sum := "a1fd9b3f5db50853ef03edb95bfa8bb345564ffb3b64bf4211d234b95bd8e101", func := "loop.example/g00904/laws.FnExactSetFuse", spec := "fnExactSetFuse", apart := false, narrowed := true }
def FnExactSetFuseUptoSaid : Prop := fnExactSetFuseUptoRow.holds Try.pinned (OpenSpec.upto fnExactSetFuseSpec)

/-- 'laws.FnExactReadBlock', WHERE WHAT IT READS IS OF BULK AT MOST 1048576: true; the input reads as it did. -/
def fnExactReadBlockUptoRow : OpenClaim := { program := "ytpjkeikaonkohaa", sum := "a1fd9b3f5db50853ef03edb95bfa8bb345564ffb3b64bf4211d234b95bd8e101", func := "loop.example/g00904/laws.FnExactReadBlock", spec := "fnExactReadBlock", unfollowed := true, recurses := true, apart := false, narrowed := true }
def FnExactReadBlockUptoSaid : Prop := fnExactReadBlockUptoRow.holds Try.pinned (OpenSpec.upto fnExactReadBlockSpec)

/-- 'laws.FnExactWriteBlock', WHERE WHAT IT READS IS OF BULK AT MOST 1048576: true; the input reads as it did. -/
def fnExactWriteBlockUptoRow : OpenClaim := { program := "ytpjkeikaonkohaa", sum := "a1fd9b3f5db50853ef03edb95bfa8bb345564ffb3b64bf4211d234b95bd8e101", func := "loop.example/g00904/laws.FnExactWriteBlock", spec := "fnExactWriteBlock", unfollowed := true, recurses := true, apart := false, narrowed := true }
def FnExactWriteBlockUptoSaid : Prop := fnExactWriteBlockUptoRow.holds Try.pinned (OpenSpec.upto fnExactWriteBlockSpec)

/-- 'laws.FnExactBarrier', WHERE WHAT IT READS IS OF BULK AT MOST 1048576: true; the input reads as it did. -/
def fnExactBarrierUptoRow : OpenClaim := { program := "ytpjkeikaonkohaa", sum := "a1fd9b3f5db50853ef03edb95bfa8bb345564ffb3b64bf4211d234b95bd8e101", func := "loop.example/g00904/laws.FnExactBarrier", spec := "fnExactBarrier", unfollowed := true, recurses := true, apart := false, narrowed := true }
def FnExactBarrierUptoSaid : Prop := fnExactBarrierUptoRow.holds Try.pinned (OpenSpec.upto fnExactBarrierSpec)

/-- 'laws.FnExactCutPower', WHERE WHAT IT READS IS OF BULK AT MOST 1048576: true; the input reads as it did. -/
def fnExactCutPowerUptoRow : OpenClaim := { program := "ytpjkeikaonkohaa", sum := "a1fd9b3f5db50853ef03edb95bfa8bb345564ffb3b64bf4211d234b95bd8e101", func := "loop.example/g00904/laws.FnExactCutPower", spec := "fnExactCutPower", unfollowed := true, recurses := true, apart := false, narrowed := true }
def FnExactCutPowerUptoSaid : Prop := fnExactCutPowerUptoRow.holds Try.pinned (OpenSpec.upto fnExactCutPowerSpec)

/-- 'laws.FnExactValidSuper', WHERE WHAT IT READS IS OF BULK AT MOST 1048576: true; the input reads as it did. -/
def fnExactValidSuperUptoRow : OpenClaim := { program := "ytpjkeikaonkohaa", sum := "a1fd9b3f5db50853ef03edb95bfa8bb345564ffb3b64bf4211d234b95bd8e101", func := "loop.example/g00904/laws.FnExactValidSuper", spec := "fnExactValidSuper", apart := false, narrowed := true }
def FnExactValidSuperUptoSaid : Prop := fnExactValidSuperUptoRow.holds Try.pinned (OpenSpec.upto fnExactValidSuperSpec)

/-- 'laws.FnExactEncodeSuper', WHERE WHAT IT READS IS OF BULK AT MOST 1048576: true; the input reads as it did. -/
def fnExactEncodeSuperUptoRow : OpenClaim := { program := "ytpjkeikaonkohaa", sum := "a1fd9b3f5db50853ef03edb95bfa8bb345564ffb3b64bf4211d234b95bd8e101", func := "loop.example/g00904/laws.FnExactEncodeSuper", spec := "fnExactEncodeSuper", apart := false, narrowed := true }
def FnExactEncodeSuperUptoSaid : Prop := fnExactEncodeSuperUptoRow.holds Try.pinned (OpenSpec.upto fnExactEncodeSuperSpec)

/-- 'laws.FnExactDecodeSuper', WHERE WHAT IT READS IS OF BULK AT MOST 1048576: true; the input reads as it did. -/
def fnExactDecodeSuperUptoRow : OpenClaim := { program := "ytpjkeikaonkohaa", sum := "a1fd9b3f5db50853ef03edb95bfa8bb345564ffb3b64bf4211d234b95bd8e101", func := "loop.example/g00904/laws.FnExactDecodeSuper", spec := "fnExactDecodeSuper", unfollowed := true, recurses := true, apart := false, narrowed := true }
def FnExactDecodeSuperUptoSaid : Prop := fnExactDecodeSuperUptoRow.holds Try.pinned (OpenSpec.upto fnExactDecodeSuperSpec)

/-- 'laws.FnExactChooseSuper', WHERE WHAT IT READS IS OF BULK AT MOST 1048576: true; the input reads as it did. -/
def fnExactChooseSuperUptoRow : OpenClaim := { program := "ytpjkeikaonkohaa", sum := "a1fd9b3f5db50853ef03edb95bfa8bb345564ffb3b64bf4211d234b95bd8e101", func := "loop.example/g00904/laws.FnExactChooseSuper", spec := "fnExactChooseSuper", unfollowed := true, recurses := true, apart := false, narrowed := true }
def FnExactChooseSuperUptoSaid : Prop := fnExactChooseSuperUptoRow.holds Try.pinned (OpenSpec.upto fnExactChooseSuperSpec)

/-- 'laws.FnExactWriteSuper', WHERE WHAT IT READS IS OF BULK AT MOST 1048576: true; the input reads as it did. -/
def fnExactWriteSuperUptoRow : OpenClaim := { program := "ytpjkeikaonkohaa", sum := "a1fd9b3f5db50853ef03edb95bfa8bb345564ffb3b64bf4211d234b95bd8e101", func := "loop.example/g00904/laws.FnExactWriteSuper", spec := "fnExactWriteSuper", unfollowed := true, recurses := true, apart := false, narrowed := true }
def FnExactWriteSuperUptoSaid : Prop := fnExactWriteSuperUptoRow.holds Try.pinned (OpenSpec.upto fnExactWriteSuperSpec)

/-- 'laws.FnExactAreaBlock', WHERE WHAT IT READS IS OF BULK AT MOST 1048576: true; the input reads as it did. -/
def fnExactAreaBlockUptoRow : OpenClaim := { program := "ytpjkeikaonkohaa", sum := "a1fd9b3f5db50853ef03edb95bfa8bb345564ffb3b64bf4211d234b95bd8e101", func := "loop.example/g00904/laws.FnExactAreaBlock", spec := "fnExactAreaBlock", apart := false, narrowed := true }
def FnExactAreaBlockUptoSaid : Prop := fnExactAreaBlockUptoRow.holds Try.pinned (OpenSpec.upto fnExactAreaBlockSpec)

/-- 'laws.FnExactDataFirst', WHERE WHAT IT READS IS OF BULK AT MOST 1048576: true; the input reads as it did. -/
def fnExactDataFirstUptoRow : OpenClaim := { program := "ytpjkeikaonkohaa", sum := "a1fd9b3f5db50853ef03edb95bfa8bb345564ffb3b64bf4211d234b95bd8e101", func := "loop.example/g00904/laws.FnExactDataFirst", spec := "fnExactDataFirst", apart := false, narrowed := true }
def FnExactDataFirstUptoSaid : Prop := fnExactDataFirstUptoRow.holds Try.pinned (OpenSpec.upto fnExactDataFirstSpec)

/-- 'laws.FnExactFormatDisk', WHERE WHAT IT READS IS OF BULK AT MOST 1048576: true; the input reads as it did. -/
def fnExactFormatDiskUptoRow : OpenClaim := { program := "ytpjkeikaonkohaa", sum := "a1fd9b3f5db50853ef03edb95bfa8bb345564ffb3b64bf4211d234b95bd8e101", func := "loop.example/g00904/laws.FnExactFormatDisk", spec := "fnExactFormatDisk", unfollowed := true, recurses := true, apart := false, narrowed := true }
def FnExactFormatDiskUptoSaid : Prop := fnExactFormatDiskUptoRow.holds Try.pinned (OpenSpec.upto fnExactFormatDiskSpec)

end Rows
end Go.Proofs.Ytpjkeikaonkohaa
