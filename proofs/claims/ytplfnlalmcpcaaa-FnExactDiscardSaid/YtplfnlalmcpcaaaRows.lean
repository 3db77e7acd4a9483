/-
  No cell of these rows narrows 'for every input' (looked for: loops, veiled, ifaces, maps, wideKeys, modest, calm, conditions, laid).
  DERIVED. THE GIVEN ROWS OF THIS SEAT. 5 by the template 'for every input the law returns true; each argument reads behind the call as it read before'; 0 by the template 'total and deterministic' (their statements: YtplfnlalmcpcaaaTotals.lean).
  GIVEN WITH THE SEED: the statements are not yours to turn. If you find one false, say at which input.
  Laid BY PROGRAM, IN A SANDBOX (cutbox-rows.mjs): the forced cells as the released guide's own fill.sh prints them over the translation c764c0f2752897f2… (all of the seat's roots in one cut). By AI agents, Wed Nov 11 2026. No macro, syntax, notation, axiom, sorry.
-/
import Derived.Test.YtplfnlalmcpcaaaChecked
import GoSem.Claim
import GoSem.ClaimJoined
import GoSem.ClaimMapViews
import Derived.JoinedTies
import Derived.KernelRfl
namespace Go.Proofs.Ytplfnlalmcpcaaa
/- THE CELL 'sum', in the pinned program and in every row, IS THE sha256 OF THE DUMP (.gsa) THAT YtplfnlalmcpcaaaProg.lean LOADS. Nothing in Lean hashes anything: it is a label: what it is worth is what the hold of that sum in a sandbox is worth. -/
noncomputable def Try.pinned : Pinned := { name := "ytplfnlalmcpcaaa", sum := "c764c0f2752897f2adc0da962115f113b4c2cfb4ce32c52552db8b26f7276451", checked := Try.checked }
namespace Rows
def none {H : Type} : Left H := { results := [], args := [] }

/-- 'laws.FnExactDiscard': WHATEVER THE INPUT: true; the input reads as it did. -/
def fnExactDiscardSpec : ChangeSpec := { name := "fnExactDiscard", fn := fun _ => fun
  | [d] => { results := [.lit (.bool true)], args := [d] }
  | _ => none }
def fnExactDiscardRow : OpenClaim := { program := "ytplfnlalmcpcaaa", sum := "c764c0f2752897f2adc0da962115f113b4c2cfb4ce32c52552db8b26f7276451", func := "loop.example/g00904/laws.FnExactDiscard", spec := "fnExactDiscard", unfollowed := true, recurses := true, apart := false }
def FnExactDiscardSaid : Prop := fnExactDiscardRow.holds Try.pinned (OpenSpec.ofChange fnExactDiscardSpec)

/-- ITS FALSE NEIGHBOUR: 'it returns false'. Refute it at one input. -/
def fnExactDiscardWrong : ChangeSpec := { name := "fnExactDiscard", fn := fun _ => fun
  | [d] => { results := [.lit (.bool false)], args := [d] }
  | _ => none }
def FnExactDiscardWrongFalsely : Prop := fnExactDiscardRow.holds Try.pinned (OpenSpec.ofChange fnExactDiscardWrong)

/-- 'laws.FnExactDecodeHeader': WHATEVER THE INPUT: true; the input reads as it did. -/
def fnExactDecodeHeaderSpec : ChangeSpec := { name := "fnExactDecodeHeader", fn := fun _ => fun
  | [d] => { results := [.lit (.bool true)], args := [d] }
  | _ => none }
def fnExactDecodeHeaderRow : OpenClaim := { program := "ytplfnlalmcpcaaa", sum := "c764c0f2752897f2adc0da962115f113b4c2cfb4ce32c52552db8b26f7276451", func := "loop.example/g00904/laws.FnExactDecodeHeader", spec := "fnExactDecodeHeader", inPlace := ["internal/abi.NoEscape"], unfollowed := true, recurses := true, apart := false }
def FnExactDecodeHeaderSaid : Prop := fnExactDecodeHeaderRow.holds Try.pinned (OpenSpec.ofChange fnExactDecodeHeaderSpec)

/-- ITS FALSE NEIGHBOUR: 'it returns false'. Refute it at one input. -/
def fnExactDecodeHeaderWrong : ChangeSpec := { name := "fnExactDecodeHeader", fn := fun _ => fun
  | [d] => { results := [.lit (.bool false)], args := [d] }
  | _ => none }
def FnExactDecodeHeaderWrongFalsely : Prop := fnExactDecodeHeaderRow.holds Try.pinned (OpenSpec.ofChange fnExactDecodeHeaderWrong)

/-- 'laws.FnExactValidNode': WHATEVER THE INPUT: true; the input reads as it did. -/
def fnExactValidNodeSpec : ChangeSpec := { name := "fnExactValidNode", fn := fun _ => fun
  | [d] => { results := [.lit (.bool true)], args := [d] }
  | _ => none }
def fnExactValidNodeRow : OpenClaim := { program := "ytplfnlalmcpcaaa", sum := "c764c0f2752897f2adc0da962115f113b4c2cfb4ce32c52552db8b26f7276451", func := "loop.example/g00904/laws.FnExactValidNode", spec := "fnExactValidNode", unfollowed := true, recurses := true, apart := false }
def FnExactValidNodeSaid : Prop := fnExactValidNodeRow.holds Try.pinned (OpenSpec.ofChange fnExactValidNodeSpec)

/-- ITS FALSE NEIGHBOUR: 'it returns false'. Refute it at one input. -/
def fnExactValidNodeWrong : ChangeSpec := { name := "fnExactValidNode", fn := fun _ => fun
  | [d] => { results := [.lit (.bool false)], args := [d] }
  | _ => none }
def FnExactValidNodeWrongFalsely : Prop := fnExactValidNodeRow.holds Try.pinned (OpenSpec.ofChange fnExactValidNodeWrong)

/-- 'laws.FnExactEncodeNode': WHATEVER THE INPUT: true; the input reads as it did. -/
def fnExactEncodeNodeSpec : ChangeSpec := { name := "fnExactEncodeNode", fn := fun _ => fun
  | [d] => { results := [.lit (.bool true)], args := [d] }
  | _ => none }
def fnExactEncodeNodeRow : OpenClaim := { program := "ytplfnlalmcpcaaa", sum := "c764c0f2752897f2adc0da962115f113b4c2cfb4ce32c52552db8b26f7276451", func := "loop.example/g00904/laws.FnExactEncodeNode", spec := "fnExactEncodeNode", inPlace := ["internal/abi.NoEscape", "internal/bytealg.MakeNoZero"], unfollowed := true, recurses := true, apart := false }
def FnExactEncodeNodeSaid : Prop := fnExactEncodeNodeRow.holds Try.pinned (OpenSpec.ofChange fnExactEncodeNodeSpec)

/-- ITS FALSE NEIGHBOUR: 'it returns false'. Refute it at one input. -/
def fnExactEncodeNodeWrong : ChangeSpec := { name := "fnExactEncodeNode", fn := fun _ => fun
  | [d] => { results := [.lit (.bool false)], args := [d] }
  | _ => none }
def FnExactEncodeNodeWrongFalsely : Prop := fnExactEncodeNodeRow.holds Try.pinned (OpenSpec.ofChange fnExactEncodeNodeWrong)

/-- 'laws.FnExactDecodeNode': WHATEVER THE INPUT: true; the input reads as it did. -/
def fnExactDecodeNodeSpec : ChangeSpec := { name := "fnExactDecodeNode", fn := fun _ => fun
  | [d] => { results := [.lit (.bool true)], args := [d] }
  | _ => none }
def fnExactDecodeNodeRow : OpenClaim := { program := "ytplfnlalmcpcaaa", sum := "c764c0f2752897f2adc0da962115f113b4c2cfb4ce32c52552db8b26f7276451", func := "loop.example/g00904/laws.FnExactDecodeNode", spec := "fnExactDecodeNode", inPlace := ["internal/abi.NoEscape", "internal/bytealg.MakeNoZero"], unfollowed := true, recurses := true, apart := false }
def FnExactDecodeNodeSaid : Prop := fnExactDecodeNodeRow.holds Try.pinned (OpenSpec.ofChange fnExactDecodeNodeSpec)

/-- ITS FALSE NEIGHBOUR: 'it returns false'. Refute it at one input. -/
def fnExactDecodeNodeWrong : ChangeSpec := { name := "fnExactDecodeNode", fn := fun _ => fun
  | [d] => { results := [.lit (.bool false)], args := [d] }
  | _ => none }
def FnExactDecodeNodeWrongFalsely : Prop := fnExactDecodeNodeRow.holds Try.pinned (OpenSpec.ofChange fnExactDecodeNodeWrong)

/- THE SECOND FORM. 'bulk': how many values and letters a reading holds, each counted each time it is reached (what is shared counts as often as it is met; a slice's spare places count too). A statement '..UptoSaid' is the law's where the arguments, and the package variables that the reading takes, are together of bulk at most 1048576: NARROWER than '..Said'. Prove '..Said' where nothing that the law and all that it calls make is longer than what came in: it says more and counts as full. Else prove '..UptoSaid'. A law counts once. -/
mutual
def uptoBulk {H : Type} : DataW H → Nat
  | .lit (.string bytes) => bytes.length + 1
  | .lit _ => 1
  | .nil => 1
  | .ptr d => uptoBulk d + 1
  | .slice elems spare => uptoBulkAll elems + uptoBulkAll spare + 1
  | .agg parts => uptoBulkAll parts + 1
  | .iface _ d => uptoBulk d + 1
  | .map entries => uptoBulkEntries entries + 1
  | .held _ => 1
def uptoBulkAll {H : Type} : List (DataW H) → Nat
  | [] => 0
  | d :: r => uptoBulk d + uptoBulkAll r
def uptoBulkEntries {H : Type} : List (Lit × DataW H) → Nat
  | [] => 0
  | x :: r => uptoBulkEntry x + uptoBulkEntries r
def uptoBulkEntry {H : Type} : Lit × DataW H → Nat
  | (.string bytes, d) => bytes.length + uptoBulk d + 1
  | (_, d) => uptoBulk d + 1
 end
def uptoSmall : (H : Type) → List (DataW H) → Bool := fun _ ds => decide (uptoBulkAll ds ≤ 1048576)
def OpenSpec.upto (s : _root_.Go.ChangeSpec) : _root_.Go.OpenSpec := { _root_.Go.OpenSpec.ofChange s with cond := some uptoSmall }

/-- 'laws.FnExactDiscard', WHERE WHAT IT READS IS OF BULK AT MOST 1048576: true; the input reads as it did. -/
def fnExactDiscardUptoRow : OpenClaim := { program := "ytplfnlalmcpcaaa", sum := "c764c0f2752897f2adc0da962115f113b4c2cfb4ce32c52552db8b26f7276451", func := "loop.example/g00904/laws.FnExactDiscard", spec := "fnExactDiscard", unfollowed := true, recurses := true, apart := false, narrowed := true }
def FnExactDiscardUptoSaid : Prop := fnExactDiscardUptoRow.holds Try.pinned (OpenSpec.upto fnExactDiscardSpec)

/-- 'laws.FnExactDecodeHeader', WHERE WHAT IT READS IS OF BULK AT MOST 1048576: true; the input reads as it did. -/
def fnExactDecodeHeaderUptoRow : OpenClaim := { program := "ytplfnlalmcpcaaa", sum := "c764c0f2752897f2adc0da962115f113b4c2cfb4ce32c52552db8b26f7276451", func := "loop.example/g00904/laws.FnExactDecodeHeader", spec := "fnExactDecodeHeader", inPlace := ["internal/abi.NoEscape"], unfollowed := true, recurses := true, apart := false, narrowed := true }
def FnExactDecodeHeaderUptoSaid : Prop := fnExactDecodeHeaderUptoRow.holds Try.pinned (OpenSpec.upto fnExactDecodeHeaderSpec)

/-- 'laws.FnExactValidNode', WHERE WHAT IT READS IS OF BULK AT MOST 1048576: true; the input reads as it did. -/
def fnExactValidNodeUptoRow : OpenClaim := { program := "ytplfnlalmcpcaaa", sum := "c764c0f2752897f2adc0da962115f113b4c2cfb4ce32c52552db8b26f7276451", func := "loop.example/g00904/laws.FnExactValidNode", spec := "fnExactValidNode", unfollowed := true, recurses := true, apart := false, narrowed := true }
def FnExactValidNodeUptoSaid : Prop := fnExactValidNodeUptoRow.holds Try.pinned (OpenSpec.upto fnExactValidNodeSpec)

/-- 'laws.FnExactEncodeNode', WHERE WHAT IT READS IS OF BULK AT MOST 1048576: true; the input reads as it did. -/
def fnExactEncodeNodeUptoRow : OpenClaim := { program := "ytplfnlalmcpcaaa", sum := "c764c0f2752897f2adc0da962115f113b4c2cfb4ce32c52552db8b26f7276451", func := "loop.example/g00904/laws.FnExactEncodeNode", spec := "fnExactEncodeNode", inPlace := ["internal/abi.NoEscape", "internal/bytealg.MakeNoZero"], unfollowed := true, recurses := true, apart := false, narrowed := true }
def FnExactEncodeNodeUptoSaid : Prop := fnExactEncodeNodeUptoRow.holds Try.pinned (OpenSpec.upto fnExactEncodeNodeSpec)

/-- 'laws.FnExactDecodeNode', WHERE WHAT IT READS IS OF BULK AT MOST 1048576: true; the input reads as it did. -/
def fnExactDecodeNodeUptoRow : OpenClaim := { program := "ytplfnlalmcpcaaa", sum := "c764c0f2752897f2adc0da962115f113b4c2cfb4ce32c52552db8b26f7276451", func := "loop.example/g00904/laws.FnExactDecodeNode", spec := "fnExactDecodeNode", inPlace := ["internal/abi.NoEscape", "internal/bytealg.MakeNoZero"], unfollowed := true, recurses := true, apart := false, narrowed := true }
def FnExactDecodeNodeUptoSaid : Prop := fnExactDecodeNodeUptoRow.holds Try.pinned (OpenSpec.upto fnExactDecodeNodeSpec)

end Rows
end Go.Proofs.Ytplfnlalmcpcaaa
