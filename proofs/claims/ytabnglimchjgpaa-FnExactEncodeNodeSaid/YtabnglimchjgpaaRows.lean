/-
  No cell of these rows narrows 'for every input' (looked for: loops, veiled, ifaces, maps, wideKeys, modest, calm, conditions, laid).
  DERIVED. THE GIVEN ROWS OF THIS SEAT. 11 by the template 'for every input the law returns true; each argument reads behind the call as it read before'; 0 by the template 'total and deterministic' (their statements: YtabnglimchjgpaaTotals.lean).
  GIVEN WITH THE SEED: the statements are not yours to turn. If you find one false, say at which input.
  Laid BY PROGRAM, IN A SANDBOX (cutbox-rows.mjs): the forced cells as the released guide's own fill.sh prints them over the translation 7389b50fa718a41f… (all of the seat's roots in one cut). By AI agents, Wed Nov 11 2026. No macro, syntax, notation, axiom, sorry.
-/
import Derived.Test.YtabnglimchjgpaaChecked
import GoSem.Claim
import GoSem.ClaimJoined
import GoSem.ClaimMapViews
import Derived.JoinedTies
import Derived.KernelRfl
namespace Go.Proofs.Ytabnglimchjgpaa
/- THE CELL 'sum', in the pinned program and in every row, IS THE sha256 OF THE DUMP (.gsa) THAT YtabnglimchjgpaaProg.lean LOADS. Nothing in Lean hashes anything: it is a label: what it is worth is what the hold of that sum in a sandbox is worth. -/
noncomputable def Try.pinned : Pinned := { name := "ytabnglimchjgpaa", sum := "7389b50fa718a41fab6101e340b82f682a5589c36bdcb64aaca16d2fa971ed02", checked := Try.checked }
namespace Rows
def none {H : Type} : Left H := { results := [], args := [] }

/-- 'laws.FnExactValidHeap': WHATEVER THE INPUT: true; the input reads as it did. -/
def fnExactValidHeapSpec : ChangeSpec := { name := "fnExactValidHeap", fn := fun _ => fun
  | [d] => { results := [.lit (.bool true)], args := [d] }
  | _ => none }
def fnExactValidHeapRow : OpenClaim := { program := "ytabnglimchjgpaa", sum := "7389b50fa718a41fab6101e340b82f682a5589c36bdcb64aaca16d2fa971ed02", func := "loop.example/g00904/laws.FnExactValidHeap", spec := "fnExactValidHeap", unfollowed := true, recurses := true, apart := false }
def FnExactValidHeapSaid : Prop := fnExactValidHeapRow.holds Try.pinned (OpenSpec.ofChange fnExactValidHeapSpec)

/-- ITS FALSE NEIGHBOUR: 'it returns false'. Refute it at one input. -/
def fnExactValidHeapWrong : ChangeSpec := { name := "fnExactValidHeap", fn := fun _ => fun
  | [d] => { results := [.lit (.bool false)], args := [d] }
  | _ => none }
def FnExactValidHeapWrongFalsely : Prop := fnExactValidHeapRow.holds Try.pinned (OpenSpec.ofChange fnExactValidHeapWrong)

/-- 'laws.FnExactSameHeap': WHATEVER THE INPUT: true; the input reads as it did. -/
def fnExactSameHeapSpec : ChangeSpec := { name := "fnExactSameHeap", fn := fun _ => fun
  | [d1, d2] => { results := [.lit (.bool true)], args := [d1, d2] }
  | _ => none }
def fnExactSameHeapRow : OpenClaim := { program := "ytabnglimchjgpaa", sum := "7389b50fa718a41fab6101e340b82f682a5589c36bdcb64aaca16d2fa971ed02", func := "loop.example/g00904/laws.FnExactSameHeap", spec := "fnExactSameHeap", apart := false }
def FnExactSameHeapSaid : Prop := fnExactSameHeapRow.holds Try.pinned (OpenSpec.ofChange fnExactSameHeapSpec)

/-- ITS FALSE NEIGHBOUR: 'it returns false'. Refute it at one input. -/
def fnExactSameHeapWrong : ChangeSpec := { name := "fnExactSameHeap", fn := fun _ => fun
  | [d1, d2] => { results := [.lit (.bool false)], args := [d1, d2] }
  | _ => none }
def FnExactSameHeapWrongFalsely : Prop := fnExactSameHeapRow.holds Try.pinned (OpenSpec.ofChange fnExactSameHeapWrong)

/-- 'laws.FnExactPutName': WHATEVER THE INPUT: true; the input reads as it did. -/
def fnExactPutNameSpec : ChangeSpec := { name := "fnExactPutName", fn := fun _ => fun
  | [d1, d2] => { results := [.lit (.bool true)], args := [d1, d2] }
  | _ => none }
def fnExactPutNameRow : OpenClaim := { program := "ytabnglimchjgpaa", sum := "7389b50fa718a41fab6101e340b82f682a5589c36bdcb64aaca16d2fa971ed02", func := "loop.example/g00904/laws.FnExactPutName", spec := "fnExactPutName", unfollowed := true, recurses := true, apart := false }
def FnExactPutNameSaid : Prop := fnExactPutNameRow.holds Try.pinned (OpenSpec.ofChange fnExactPutNameSpec)

/-- ITS FALSE NEIGHBOUR: 'it returns false'. Refute it at one input. -/
def fnExactPutNameWrong : ChangeSpec := { name := "fnExactPutName", fn := fun _ => fun
  | [d1, d2] => { results := [.lit (.bool false)], args := [d1, d2] }
  | _ => none }
def FnExactPutNameWrongFalsely : Prop := fnExactPutNameRow.holds Try.pinned (OpenSpec.ofChange fnExactPutNameWrong)

/-- 'laws.FnExactNameAt': WHATEVER THE INPUT: true; the input reads as it did. -/
def fnExactNameAtSpec : ChangeSpec := { name := "fnExactNameAt", fn := fun _ => fun
  | [d1, d2] => { results := [.lit (.bool true)], args := [d1, d2] }
  | _ => none }
def fnExactNameAtRow : OpenClaim := { program := "ytabnglimchjgpaa", sum := "7389b50fa718a41fab6101e340b82f682a5589c36bdcb64aaca16d2fa971ed02", func := "loop.example/g00904/laws.FnExactNameAt", spec := "fnExactNameAt", unfollowed := true, recurses := true, apart := false }
def FnExactNameAtSaid : Prop := fnExactNameAtRow.holds Try.pinned (OpenSpec.ofChange fnExactNameAtSpec)

/-- ITS FALSE NEIGHBOUR: 'it returns false'. Refute it at one input. -/
def fnExactNameAtWrong : ChangeSpec := { name := "fnExactNameAt", fn := fun _ => fun
  | [d1, d2] => { results := [.lit (.bool false)], args := [d1, d2] }
  | _ => none }
def FnExactNameAtWrongFalsely : Prop := fnExactNameAtRow.holds Try.pinned (OpenSpec.ofChange fnExactNameAtWrong)

/-- 'laws.FnExactDropName': WHATEVER THE INPUT: true; the input reads as it did. -/
def fnExactDropNameSpec : ChangeSpec := { name := "fnExactDropName", fn := fun _ => fun
  | [d1, d2] => { results := [.lit (.bool true)], args := [d1, d2] }
  | _ => none }
def fnExactDropNameRow : OpenClaim := { program := "ytabnglimchjgpaa", sum := "7389b50fa718a41fab6101e340b82f682a5589c36bdcb64aaca16d2fa971ed02", func := "loop.example/g00904/laws.FnExactDropName", spec := "fnExactDropName", unfollowed := true, recurses := true, apart := false }
def FnExactDropNameSaid : Prop := fnExactDropNameRow.holds Try.pinned (OpenSpec.ofChange fnExactDropNameSpec)

/-- ITS FALSE NEIGHBOUR: 'it returns false'. Refute it at one input. -/
def fnExactDropNameWrong : ChangeSpec := { name := "fnExactDropName", fn := fun _ => fun
  | [d1, d2] => { results := [.lit (.bool false)], args := [d1, d2] }
  | _ => none }
def FnExactDropNameWrongFalsely : Prop := fnExactDropNameRow.holds Try.pinned (OpenSpec.ofChange fnExactDropNameWrong)

/-- 'laws.FnExactSlotOf': WHATEVER THE INPUT: true; the input reads as it did. -/
def fnExactSlotOfSpec : ChangeSpec := { name := "fnExactSlotOf", fn := fun _ => fun
  | [d1, d2] => { results := [.lit (.bool true)], args := [d1, d2] }
  | _ => none }
def fnExactSlotOfRow : OpenClaim := { program := "ytabnglimchjgpaa", sum := "7389b50fa718a41fab6101e340b82f682a5589c36bdcb64aaca16d2fa971ed02", func := "loop.example/g00904/laws.FnExactSlotOf", spec := "fnExactSlotOf", unfollowed := true, recurses := true, apart := false }
def FnExactSlotOfSaid : Prop := fnExactSlotOfRow.holds Try.pinned (OpenSpec.ofChange fnExactSlotOfSpec)

/-- ITS FALSE NEIGHBOUR: 'it returns false'. Refute it at one input. -/
def fnExactSlotOfWrong : ChangeSpec := { name := "fnExactSlotOf", fn := fun _ => fun
  | [d1, d2] => { results := [.lit (.bool false)], args := [d1, d2] }
  | _ => none }
def FnExactSlotOfWrongFalsely : Prop := fnExactSlotOfRow.holds Try.pinned (OpenSpec.ofChange fnExactSlotOfWrong)

/-- 'laws.FnExactEncodeHeap': WHATEVER THE INPUT: true; the input reads as it did. -/
def fnExactEncodeHeapSpec : ChangeSpec := { name := "fnExactEncodeHeap", fn := fun _ => fun
  | [d] => { results := [.lit (.bool true)], args := [d] }
  | _ => none }
def fnExactEncodeHeapRow : OpenClaim := { program := "ytabnglimchjgpaa", sum := "7389b50fa718a41fab6101e340b82f682a5589c36bdcb64aaca16d2fa971ed02", func := "loop.example/g00904/laws.FnExactEncodeHeap", spec := "fnExactEncodeHeap", inPlace := ["internal/abi.NoEscape"], unfollowed := true, recurses := true, apart := false }
def FnExactEncodeHeapSaid : Prop := fnExactEncodeHeapRow.holds Try.pinned (OpenSpec.ofChange fnExactEncodeHeapSpec)

/-- ITS FALSE NEIGHBOUR: 'it returns false'. Refute it at one input. -/
def fnExactEncodeHeapWrong : ChangeSpec := { name := "fnExactEncodeHeap", fn := fun _ => fun
  | [d] => { results := [.lit (.bool false)], args := [d] }
  | _ => none }
def FnExactEncodeHeapWrongFalsely : Prop := fnExactEncodeHeapRow.holds Try.pinned (OpenSpec.ofChange fnExactEncodeHeapWrong)

/-- 'laws.FnExactDecodeHeap': WHATEVER THE INPUT: true; the input reads as it did. -/
def fnExactDecodeHeapSpec : ChangeSpec := { name := "fnExactDecodeHeap", fn := fun _ => fun
  | [d] => { results := [.lit (.bool true)], args := [d] }
  | _ => none }
def fnExactDecodeHeapRow : OpenClaim := { program := "ytabnglimchjgpaa", sum := "7389b50fa718a41fab6101e340b82f682a5589c36bdcb64aaca16d2fa971ed02", func := "loop.example/g00904/laws.FnExactDecodeHeap", spec := "fnExactDecodeHeap", inPlace := ["internal/abi.NoEscape"], unfollowed := true, recurses := true, apart := false }
def FnExactDecodeHeapSaid : Prop := fnExactDecodeHeapRow.holds Try.pinned (OpenSpec.ofChange fnExactDecodeHeapSpec)

/-- ITS FALSE NEIGHBOUR: 'it returns false'. Refute it at one input. -/
def fnExactDecodeHeapWrong : ChangeSpec := { name := "fnExactDecodeHeap", fn := fun _ => fun
  | [d] => { results := [.lit (.bool false)], args := [d] }
  | _ => none }
def FnExactDecodeHeapWrongFalsely : Prop := fnExactDecodeHeapRow.holds Try.pinned (OpenSpec.ofChange fnExactDecodeHeapWrong)

/-- 'laws.FnExactValidNode': WHATEVER THE INPUT: true; the input reads as it did. -/
def fnExactValidNodeSpec : ChangeSpec := { name := "fnExactValidNode", fn := fun _ => fun
  | [d] => { results := [.lit (.bool true)], args := [d] }
  | _ => none }
def fnExactValidNodeRow : OpenClaim := { program := "ytabnglimchjgpaa", sum := "7389b50fa718a41fab6101e340b82f682a5589c36bdcb64aaca16d2fa971ed02", func := "loop.example/g00904/laws.FnExactValidNode", spec := "fnExactValidNode", unfollowed := true, recurses := true, apart := false }
def FnExactValidNodeSaid : Prop := fnExactValidNodeRow.holds Try.pinned (OpenSpec.ofChange fnExactValidNodeSpec)

/-- ITS FALSE NEIGHBOUR: 'it returns false'. Refute it at one input. -/
def fnExactValidNodeWrong : ChangeSpec := { name := "fnExactValidNode", fn := fun _ => fun
  | [d] => { results := [.lit (.bool false)], args := [d] }
  | _ => none }
def FnExactValidNodeWrongFalsely : Prop := fnExactValidNodeRow.holds Try.pinned (OpenSpec.ofChange fnExactValidNodeWrong)

/-- 'laws.FnExactEncodeNode': WHATEVER THE INPUT: true; the input reads as it did. -/
def fnExactEncodeNodeSpec : ChangeSpec := { name := "fnExactEncodeNode", fn := fun _ => fun
  | [d] => { results := [.lit (.bool true)], args := [d] }
  | _ => none }
def fnExactEncodeNodeRow : OpenClaim := { program := "ytabnglimchjgpaa", sum := "7389b50fa718a41fab6101e340b82f682a5589c36bdcb64aaca16d2fa971ed02", func := "loop.example/g00904/laws.FnExactEncodeNode", spec := "fnExactEncodeNode", inPlace := ["internal/abi.NoEscape", "internal/bytealg.MakeNoZero"], unfollowed := true, recurses := true, apart := false }
def FnExactEncodeNodeSaid : Prop := fnExactEncodeNodeRow.holds Try.pinned (OpenSpec.ofChange fnExactEncodeNodeSpec)

/-- ITS FALSE NEIGHBOUR: 'it returns false'. Refute it at one input. -/
def fnExactEncodeNodeWrong : ChangeSpec := { name := "fnExactEncodeNode", fn := fun _ => fun
  | [d] => { results := [.lit (.bool false)], args := [d] }
  | _ => none }
def FnExactEncodeNodeWrongFalsely : Prop := fnExactEncodeNodeRow.holds Try.pinned (OpenSpec.ofChange fnExactEncodeNodeWrong)

/-- 'laws.FnExactDecodeNode': WHATEVER THE INPUT: true; the input reads as it did. -/
def fnExactDecodeNodeSpec : ChangeSpec := { name := "fnExactDecodeNode", fn := fun _ => fun
  | [d] => { results := [.lit (.bool true)], args := [d] }
  | _ => none }
def fnExactDecodeNodeRow : OpenClaim := { program := "ytabnglimchjgpaa", sum := "7389b50fa718a41fab6101e340b82f682a5589c36bdcb64aaca16d2fa971ed02", func := "loop.example/g00904/laws.FnExactDecodeNode", spec := "fnExactDecodeNode", inPlace := ["internal/abi.NoEscape", "internal/bytealg.MakeNoZero"], unfollowed := true, recurses := true, apart := false }
def FnExactDecodeNodeSaid : Prop := fnExactDecodeNodeRow.holds Try.pinned (OpenSpec.ofChange fnExactDecodeNodeSpec)

/-- ITS FALSE NEIGHBOUR: 'it returns false'. Refute it at one input. -/
def fnExactDecodeNodeWrong : ChangeSpec := { name := "fnExactDecodeNode", fn := fun _ => fun
  | [d] => { results := [.lit (.bool false)], args := [d] }
  | _ => none }
def FnExactDecodeNodeWrongFalsely : Prop := fnExactDecodeNodeRow.holds Try.pinned (OpenSpec.ofChange fnExactDecodeNodeWrong)

/- THE SECOND FORM. 'bulk': how many values and letters a reading holds, each counted each time it is reached (what is shared counts as often as it is met; a slice's spare places count too). A statement '..UptoSaid' is the law's where the arguments, and the package variables that the reading takes, are together of bulk at most 1048576: NARROWER than '..Said'. Prove '..Said' where nothing that the law and all that it calls make is longer than what came in: it says more and counts as full. Else prove '..UptoSaid'. A law counts once. -/
mutual
def uptoBulk {H : Type} : DataW H → Nat
  | .lit (.string bytes) => bytes.length + 1
  | .lit _ => 1
  | .nil => 1
  | .ptr d => uptoBulk d + 1
  | .slice elems spare => uptoBulkAll elems + uptoBulkAll spare + 1
  | .agg parts => uptoBulkAll parts + 1
  | .iface _ d => uptoBulk d + 1
  | .map entries => uptoBulkEntries entries + 1
  | .held _ => 1
def uptoBulkAll {H : Type} : List (DataW H) → Nat
  | [] => 0
  | d :: r => uptoBulk d + uptoBulkAll r
def uptoBulkEntries {H : Type} : List (Lit × DataW H) → Nat
  | [] => 0
  | x :: r => uptoBulkEntry x + uptoBulkEntries r
def uptoBulkEntry {H : Type} : Lit × DataW H → Nat
  | (.string bytes, d) => bytes.length + uptoBulk d + 1
  | (_, d) => uptoBulk d + 1
 end
def uptoSmall : (H : Type) → List (DataW H) → Bool := fun _ ds => decide (uptoBulkAll ds ≤ 1048576)
def OpenSpec.upto (s : _root_.Go.ChangeSpec) : _root_.Go.OpenSpec := { _root_.Go.OpenSpec.ofChange s with cond := some uptoSmall }

/-- 'laws.FnExactValidHeap', WHERE WHAT IT READS IS OF BULK AT MOST 1048576: true; the input reads as it did. -/
def fnExactValidHeapUptoRow : OpenClaim := { program := "ytabnglimchjgpaa", sum := "7389b50fa718a41fab6101e340b82f682a5589c36bdcb64aaca16d2fa971ed02", func := "loop.example/g00904/laws.FnExactValidHeap", spec := "fnExactValidHeap", unfollowed := true, recurses := true, apart := false, narrowed := true }
def FnExactValidHeapUptoSaid : Prop := fnExactValidHeapUptoRow.holds Try.pinned (OpenSpec.upto fnExactValidHeapSpec)

/-- 'laws.FnExactSameHeap', WHERE WHAT IT READS IS OF BULK AT MOST 1048576: true; the input reads as it did. -/
def fnExactSameHeapUptoRow : OpenClaim := { program := "ytabnglimchjgpaa", sum := "7389b50fa718a41fab6101e340b82f682a5589c36bdcb64aaca16d2fa971ed02", func := "loop.example/g00904/laws.FnExactSameHeap", spec := "fnExactSameHeap", apart := false, narrowed := true }
def FnExactSameHeapUptoSaid : Prop := fnExactSameHeapUptoRow.holds Try.pinned (OpenSpec.upto fnExactSameHeapSpec)

/-- 'laws.FnExactPutName', WHERE WHAT IT READS IS OF BULK AT MOST 1048576: true; the input reads as it did. -/
def fnExactPutNameUptoRow : OpenClaim := { program := "ytabnglimchjgpaa", sum := "7389b50fa718a41fab6101e340b82f682a5589c36bdcb64aaca16d2fa971ed02", func := "loop.example/g00904/laws.FnExactPutName", spec := "fnExactPutName", unfollowed := true, recurses := true, apart := false, narrowed := true }
def FnExactPutNameUptoSaid : Prop := fnExactPutNameUptoRow.holds Try.pinned (OpenSpec.upto fnExactPutNameSpec)

/-- 'laws.FnExactNameAt', WHERE WHAT IT READS IS OF BULK AT MOST 1048576: true; the input reads as it did. -/
def fnExactNameAtUptoRow : OpenClaim := { program := "ytabnglimchjgpaa", sum := "7389b50fa718a41fab6101e340b82f682a5589c36bdcb64aaca16d2fa971ed02", func := "loop.example/g00904/laws.FnExactNameAt", spec := "fnExactNameAt", unfollowed := true, recurses := true, apart := false, narrowed := true }
def FnExactNameAtUptoSaid : Prop := fnExactNameAtUptoRow.holds Try.pinned (OpenSpec.upto fnExactNameAtSpec)

/-- 'laws.FnExactDropName', WHERE WHAT IT READS IS OF BULK AT MOST 1048576: true; the input reads as it did. -/
def fnExactDropNameUptoRow : OpenClaim := { program := "ytabnglimchjgpaa", sum := "7389b50fa718a41fab6101e340b82f682a5589c36bdcb64aaca16d2fa971ed02", func := "loop.example/g00904/laws.FnExactDropName", spec := "fnExactDropName", unfollowed := true, recurses := true, apart := false, narrowed := true }
def FnExactDropNameUptoSaid : Prop := fnExactDropNameUptoRow.holds Try.pinned (OpenSpec.upto fnExactDropNameSpec)

/-- 'laws.FnExactSlotOf', WHERE WHAT IT READS IS OF BULK AT MOST 1048576: true; the input reads as it did. -/
def fnExactSlotOfUptoRow : OpenClaim := { program := "ytabnglimchjgpaa", sum := "7389b50fa718a41fab6101e340b82f682a5589c36bdcb64aaca16d2fa971ed02", func := "loop.example/g00904/laws.FnExactSlotOf", spec := "fnExactSlotOf", unfollowed := true, recurses := true, apart := false, narrowed := true }
def FnExactSlotOfUptoSaid : Prop := fnExactSlotOfUptoRow.holds Try.pinned (OpenSpec.upto fnExactSlotOfSpec)

/-- 'laws.FnExactEncodeHeap', WHERE WHAT IT READS IS OF BULK AT MOST 1048576: true; the input reads as it did. -/
def fnExactEncodeHeapUptoRow : OpenClaim := { program := "ytabnglimchjgpaa", sum := "7389b50fa718a41fab6101e340b82f682a5589c36bdcb64aaca16d2fa971ed02", func := "loop.example/g00904/laws.FnExactEncodeHeap", spec := "fnExactEncodeHeap", inPlace := ["internal/abi.NoEscape"], unfollowed := true, recurses := true, apart := false, narrowed := true }
def FnExactEncodeHeapUptoSaid : Prop := fnExactEncodeHeapUptoRow.holds Try.pinned (OpenSpec.upto fnExactEncodeHeapSpec)

/-- 'laws.FnExactDecodeHeap', WHERE WHAT IT READS IS OF BULK AT MOST 1048576: true; the input reads as it did. -/
def fnExactDecodeHeapUptoRow : OpenClaim := { program := "ytabnglimchjgpaa", sum := "7389b50fa718a41fab6101e340b82f682a5589c36bdcb64aaca16d2fa971ed02", func := "loop.example/g00904/laws.FnExactDecodeHeap", spec := "fnExactDecodeHeap", inPlace := ["internal/abi.NoEscape"], unfollowed := true, recurses := true, apart := false, narrowed := true }
def FnExactDecodeHeapUptoSaid : Prop := fnExactDecodeHeapUptoRow.holds Try.pinned (OpenSpec.upto fnExactDecodeHeapSpec)

/-- 'laws.FnExactValidNode', WHERE WHAT IT READS IS OF BULK AT MOST 1048576: true; the input reads as it did. -/
def fnExactValidNodeUptoRow : OpenClaim := { program := "ytabnglimchjgpaa", sum := "7389b50fa718a41fab6101e340b82f682a5589c36bdcb64aaca16d2fa971ed02", func := "loop.example/g00904/laws.FnExactValidNode", spec := "fnExactValidNode", unfollowed := true, recurses := true, apart := false, narrowed := true }
def FnExactValidNodeUptoSaid : Prop := fnExactValidNodeUptoRow.holds Try.pinned (OpenSpec.upto fnExactValidNodeSpec)

/-- 'laws.FnExactEncodeNode', WHERE WHAT IT READS IS OF BULK AT MOST 1048576: true; the input reads as it did. -/
def fnExactEncodeNodeUptoRow : OpenClaim := { program := "ytabnglimchjgpaa", sum := "7389b50fa718a41fab6101e340b82f682a5589c36bdcb64aaca16d2fa971ed02", func := "loop.example/g00904/laws.FnExactEncodeNode", spec := "fnExactEncodeNode", inPlace := ["internal/abi.NoEscape", "internal/bytealg.MakeNoZero"], unfollowed := true, recurses := true, apart := false, narrowed := true }
def FnExactEncodeNodeUptoSaid : Prop := fnExactEncodeNodeUptoRow.holds Try.pinned (OpenSpec.upto fnExactEncodeNodeSpec)

/-- 'laws.FnExactDecodeNode', WHERE WHAT IT READS IS OF BULK AT MOST 1048576: true; the input reads as it did. -/
def fnExactDecodeNodeUptoRow : OpenClaim := { program := "ytabnglimchjgpaa", sum := "7389b50fa718a41fab6101e340b82f682a5589c36bdcb64aaca16d2fa971ed02", func := "loop.example/g00904/laws.FnExactDecodeNode", spec := "fnExactDecodeNode", inPlace := ["internal/abi.NoEscape", "internal/bytealg.MakeNoZero"], unfollowed := true, recurses := true, apart := false, narrowed := true }
def FnExactDecodeNodeUptoSaid : Prop := fnExactDecodeNodeUptoRow.holds Try.pinned (OpenSpec.upto fnExactDecodeNodeSpec)

end Rows
end Go.Proofs.Ytabnglimchjgpaa
