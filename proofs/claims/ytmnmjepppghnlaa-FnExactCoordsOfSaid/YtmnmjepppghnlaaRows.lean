/-
  No cell of these rows narrows 'for every input' (looked for: loops, veiled, ifaces, maps, wideKeys, modest, calm, conditions, laid).
  DERIVED. THE GIVEN ROWS OF THIS SEAT. 9 by the template 'for every input the law returns true; each argument reads behind the call as it read before'; 0 by the template 'total and deterministic' (their statements: YtmnmjepppghnlaaTotals.lean).
  GIVEN WITH THE SEED: the statements are not yours to turn. If you find one false, say at which input.
  Laid BY PROGRAM, IN A SANDBOX (cutbox-rows.mjs): the forced cells as the released guide's own fill.sh prints them over the translation 32c2a05c89fc15e9… (all of the seat's roots in one cut). By AI agents, Wed Nov 11 2026. No macro, syntax, notation, axiom, sorry.
-/
import Derived.Test.YtmnmjepppghnlaaChecked
import GoSem.Claim
import GoSem.ClaimJoined
import GoSem.ClaimMapViews
import Derived.JoinedTies
import Derived.KernelRfl
namespace Go.Proofs.Ytmnmjepppghnlaa
/- THE CELL 'sum', in the pinned program and in every row, IS THE sha256 OF THE DUMP (.gsa) THAT YtmnmjepppghnlaaProg.lean LOADS. Nothing in Lean hashes anything: it is a label: what it is worth is what the hold of that sum in a sandbox is worth. -/
noncomputable def Try.pinned : Pinned := { name := "ytmnmjepppghnlaa", sum := "32c2a05c89fc15e9a36034a28f717a818cc6649d26dc3f680d04e87c8bb25ee9", checked := Try.checked }
namespace Rows
def none {H : Type} : Left H := { results := [], args := [] }

/-- 'laws.FnExactValidDims': WHATEVER THE INPUT: true; the input reads as it did. -/
def fnExactValidDimsSpec : ChangeSpec := { name := "fnExactValidDims", fn := fun _ => fun
  | [d] => { results := [.lit (.bool true)], args := [d] }
  | _ => none }
def fnExactValidDimsRow : OpenClaim := { program := "ytmnmjepppghnlaa", sum := "32c2a05c89fc15e9a36034a28f717a818cc6649d26dc3f680d04e87c8bb25ee9", func := "loop.example/g00904/laws.FnExactValidDims", spec := "fnExactValidDims", apart := false }
def FnExactValidDimsSaid : Prop := fnExactValidDimsRow.holds Try.pinned (OpenSpec.ofChange fnExactValidDimsSpec)

/-- ITS FALSE NEIGHBOUR: 'it returns false'. Refute it at one input. -/
def fnExactValidDimsWrong : ChangeSpec := { name := "fnExactValidDims", fn := fun _ => fun
  | [d] => { results := [.lit (.bool false)], args := [d] }
  | _ => none }
def FnExactValidDimsWrongFalsely : Prop := fnExactValidDimsRow.holds Try.pinned (OpenSpec.ofChange fnExactValidDimsWrong)

/-- 'laws.FnExactElementsOf': WHATEVER THE INPUT: true; the input reads as it did. -/
def fnExactElementsOfSpec : ChangeSpec := { name := "fnExactElementsOf", fn := fun _ => fun
  | [d] => { results := [.lit (.bool true)], args := [d] }
  | _ => none }
def fnExactElementsOfRow : OpenClaim := { program := "ytmnmjepppghnlaa", sum := "32c2a05c89fc15e9a36034a28f717a818cc6649d26dc3f680d04e87c8bb25ee9", func := "loop.example/g00904/laws.FnExactElementsOf", spec := "fnExactElementsOf", apart := false }
def FnExactElementsOfSaid : Prop := fnExactElementsOfRow.holds Try.pinned (OpenSpec.ofChange fnExactElementsOfSpec)

/-- ITS FALSE NEIGHBOUR: 'it returns false'. Refute it at one input. -/
def fnExactElementsOfWrong : ChangeSpec := { name := "fnExactElementsOf", fn := fun _ => fun
  | [d] => { results := [.lit (.bool false)], args := [d] }
  | _ => none }
def FnExactElementsOfWrongFalsely : Prop := fnExactElementsOfRow.holds Try.pinned (OpenSpec.ofChange fnExactElementsOfWrong)

/-- 'laws.FnExactIndexOf': WHATEVER THE INPUT: true; the input reads as it did. -/
def fnExactIndexOfSpec : ChangeSpec := { name := "fnExactIndexOf", fn := fun _ => fun
  | [d1, d2] => { results := [.lit (.bool true)], args := [d1, d2] }
  | _ => none }
def fnExactIndexOfRow : OpenClaim := { program := "ytmnmjepppghnlaa", sum := "32c2a05c89fc15e9a36034a28f717a818cc6649d26dc3f680d04e87c8bb25ee9", func := "loop.example/g00904/laws.FnExactIndexOf", spec := "fnExactIndexOf", apart := false }
def FnExactIndexOfSaid : Prop := fnExactIndexOfRow.holds Try.pinned (OpenSpec.ofChange fnExactIndexOfSpec)

/-- ITS FALSE NEIGHBOUR: 'it returns false'. Refute it at one input. -/
def fnExactIndexOfWrong : ChangeSpec := { name := "fnExactIndexOf", fn := fun _ => fun
  | [d1, d2] => { results := [.lit (.bool false)], args := [d1, d2] }
  | _ => none }
def FnExactIndexOfWrongFalsely : Prop := fnExactIndexOfRow.holds Try.pinned (OpenSpec.ofChange fnExactIndexOfWrong)

/-- 'laws.FnExactCoordsOf': WHATEVER THE INPUT: true; the input reads as it did. -/
def fnExactCoordsOfSpec : ChangeSpec := { name := "fnExactCoordsOf", fn := fun _ => fun
  | [d1, d2] => { results := [.lit (.bool true)], args := [d1, d2] }
  | _ => none }
def fnExactCoordsOfRow : OpenClaim := { program := "ytmnmjepppghnlaa", sum := "32c2a05c89fc15e9a36034a28f717a818cc6649d26dc3f680d04e87c8bb25ee9", func := "loop.example/g00904/laws.FnExactCoordsOf", spec := "fnExactCoordsOf", unfollowed := true, recurses := true, apart := false }
def FnExactCoordsOfSaid : Prop := fnExactCoordsOfRow.holds Try.pinned (OpenSpec.ofChange fnExactCoordsOfSpec)

/-- ITS FALSE NEIGHBOUR: 'it returns false'. Refute it at one input. -/
def fnExactCoordsOfWrong : ChangeSpec := { name := "fnExactCoordsOf", fn := fun _ => fun
  | [d1, d2] => { results := [.lit (.bool false)], args := [d1, d2] }
  | _ => none }
def FnExactCoordsOfWrongFalsely : Prop := fnExactCoordsOfRow.holds Try.pinned (OpenSpec.ofChange fnExactCoordsOfWrong)

/-- 'laws.FnExactValidSpace': WHATEVER THE INPUT: true; the input reads as it did. -/
def fnExactValidSpaceSpec : ChangeSpec := { name := "fnExactValidSpace", fn := fun _ => fun
  | [d] => { results := [.lit (.bool true)], args := [d] }
  | _ => none }
def fnExactValidSpaceRow : OpenClaim := { program := "ytmnmjepppghnlaa", sum := "32c2a05c89fc15e9a36034a28f717a818cc6649d26dc3f680d04e87c8bb25ee9", func := "loop.example/g00904/laws.FnExactValidSpace", spec := "fnExactValidSpace", apart := false }
def FnExactValidSpaceSaid : Prop := fnExactValidSpaceRow.holds Try.pinned (OpenSpec.ofChange fnExactValidSpaceSpec)

/-- ITS FALSE NEIGHBOUR: 'it returns false'. Refute it at one input. -/
def fnExactValidSpaceWrong : ChangeSpec := { name := "fnExactValidSpace", fn := fun _ => fun
  | [d] => { results := [.lit (.bool false)], args := [d] }
  | _ => none }
def FnExactValidSpaceWrongFalsely : Prop := fnExactValidSpaceRow.holds Try.pinned (OpenSpec.ofChange fnExactValidSpaceWrong)

/-- 'laws.FnExactSameSpace': WHATEVER THE INPUT: true; the input reads as it did. -/
def fnExactSameSpaceSpec : ChangeSpec := { name := "fnExactSameSpace", fn := fun _ => fun
  | [d1, d2] => { results := [.lit (.bool true)], args := [d1, d2] }
  | _ => none }
def fnExactSameSpaceRow : OpenClaim := { program := "ytmnmjepppghnlaa", sum := "32c2a05c89fc15e9a36034a28f717a818cc6649d26dc3f680d04e87c8bb25ee9", func := "loop.example/g00904/laws.FnExactSameSpace", spec := "fnExactSameSpace", apart := false }
def FnExactSameSpaceSaid : Prop := fnExactSameSpaceRow.holds Try.pinned (OpenSpec.ofChange fnExactSameSpaceSpec)

/-- ITS FALSE NEIGHBOUR: 'it returns false'. Refute it at one input. -/
def fnExactSameSpaceWrong : ChangeSpec := { name := "fnExactSameSpace", fn := fun _ => fun
  | [d1, d2] => { results := [.lit (.bool false)], args := [d1, d2] }
  | _ => none }
def FnExactSameSpaceWrongFalsely : Prop := fnExactSameSpaceRow.holds Try.pinned (OpenSpec.ofChange fnExactSameSpaceWrong)

/-- 'laws.FnExactEncodeSpace': WHATEVER THE INPUT: true; the input reads as it did. -/
def fnExactEncodeSpaceSpec : ChangeSpec := { name := "fnExactEncodeSpace", fn := fun _ => fun
  | [d] => { results := [.lit (.bool true)], args := [d] }
  | _ => none }
def fnExactEncodeSpaceRow : OpenClaim := { program := "ytmnmjepppghnlaa", sum := "32c2a05c89fc15e9a36034a28f717a818cc6649d26dc3f680d04e87c8bb25ee9", func := "loop.example/g00904/laws.FnExactEncodeSpace", spec := "fnExactEncodeSpace", apart := false }
def FnExactEncodeSpaceSaid : Prop := fnExactEncodeSpaceRow.holds Try.pinned (OpenSpec.ofChange fnExactEncodeSpaceSpec)

/-- ITS FALSE NEIGHBOUR: 'it returns false'. Refute it at one input. -/
def fnExactEncodeSpaceWrong : ChangeSpec := { name := "fnExactEncodeSpace", fn := fun _ => fun
  | [d] => { results := [.lit (.bool false)], args := [d] }
  | _ => none }
def FnExactEncodeSpaceWrongFalsely : Prop := fnExactEncodeSpaceRow.holds Try.pinned (OpenSpec.ofChange fnExactEncodeSpaceWrong)

/-- 'laws.FnExactDecodeSpace': WHATEVER THE INPUT: true; the input reads as it did. -/
def fnExactDecodeSpaceSpec : ChangeSpec := { name := "fnExactDecodeSpace", fn := fun _ => fun
  | [d] => { results := [.lit (.bool true)], args := [d] }
  | _ => none }
def fnExactDecodeSpaceRow : OpenClaim := { program := "ytmnmjepppghnlaa", sum := "32c2a05c89fc15e9a36034a28f717a818cc6649d26dc3f680d04e87c8bb25ee9", func := "loop.example/g00904/laws.FnExactDecodeSpace", spec := "fnExactDecodeSpace", apart := false }
def FnExactDecodeSpaceSaid : Prop := fnExactDecodeSpaceRow.holds Try.pinned (OpenSpec.ofChange fnExactDecodeSpaceSpec)

/-- ITS FALSE NEIGHBOUR: 'it returns false'. Refute it at one input. -/
def fnExactDecodeSpaceWrong : ChangeSpec := { name := "fnExactDecodeSpace", fn := fun _ => fun
  | [d] => { results := [.lit (.bool false)], args := [d] }
  | _ => none }
def FnExactDecodeSpaceWrongFalsely : Prop := fnExactDecodeSpaceRow.holds Try.pinned (OpenSpec.ofChange fnExactDecodeSpaceWrong)

/-- 'laws.FnExactResizeSpace': WHATEVER THE INPUT: true; the input reads as it did. -/
def fnExactResizeSpaceSpec : ChangeSpec := { name := "fnExactResizeSpace", fn := fun _ => fun
  | [d1, d2] => { results := [.lit (.bool true)], args := [d1, d2] }
  | _ => none }
def fnExactResizeSpaceRow : OpenClaim := { program := "ytmnmjepppghnlaa", sum := "32c2a05c89fc15e9a36034a28f717a818cc6649d26dc3f680d04e87c8bb25ee9", func := "loop.example/g00904/laws.FnExactResizeSpace", spec := "fnExactResizeSpace", apart := false }
def FnExactResizeSpaceSaid : Prop := fnExactResizeSpaceRow.holds Try.pinned (OpenSpec.ofChange fnExactResizeSpaceSpec)

/-- ITS FALSE NEIGHBOUR: 'it returns false'. Refute it at one input. -/
def fnExactResizeSpaceWrong : ChangeSpec := { name := "fnExactResizeSpace", fn := fun _ => fun
  | [d1, d2] => { results := [.lit (.bool false)], args := [d1, d2] }
  | _ => none }
def FnExactResizeSpaceWrongFalsely : Prop := fnExactResizeSpaceRow.holds Try.pinned (OpenSpec.ofChange fnExactResizeSpaceWrong)

/- THE SECOND FORM. 'bulk': how many values and letters a reading holds, each counted each time it is reached (what is shared counts as often as it is met; a slice's spare places count too). A statement '..UptoSaid' is the law's where the arguments, and the package variables that the reading takes, are together of bulk at most 1048576: NARROWER than '..Said'. Prove '..Said' where nothing that the law and all that it calls make is longer than what came in: it says more and counts as full. Else prove '..UptoSaid'. A law counts once. -/
mutual
def uptoBulk {H : Type} : DataW H → Nat
  | .lit (.string bytes) => bytes.length + 1
  | .lit _ => 1
  | .nil => 1
  | .ptr d => uptoBulk d + 1
  | .slice elems spare => uptoBulkAll elems + uptoBulkAll spare + 1
  | .agg parts => uptoBulkAll parts + 1
  | .iface _ d => uptoBulk d + 1
  | .map entries => uptoBulkEntries entries + 1
  | .held _ => 1
def uptoBulkAll {H : Type} : List (DataW H) → Nat
  | [] => 0
  | d :: r => uptoBulk d + uptoBulkAll r
def uptoBulkEntries {H : Type} : List (Lit × DataW H) → Nat
  | [] => 0
  | x :: r => uptoBulkEntry x + uptoBulkEntries r
def uptoBulkEntry {H : Type} : Lit × DataW H → Nat
  | (.string bytes, d) => bytes.length + uptoBulk d + 1
  | (_, d) => uptoBulk d + 1
 end
def uptoSmall : (H : Type) → List (DataW H) → Bool := fun _ ds => decide (uptoBulkAll ds ≤ 1048576)
def OpenSpec.upto (s : _root_.Go.ChangeSpec) : _root_.Go.OpenSpec := { _root_.Go.OpenSpec.ofChange s with cond := some uptoSmall }

/-- 'laws.FnExactValidDims', WHERE WHAT IT READS IS OF BULK AT MOST 1048576: true; the input reads as it did. -/
def fnExactValidDimsUptoRow : OpenClaim := { program := "ytmnmjepppghnlaa", sum := "32c2a05c89fc15e9a36034a28f717a818cc6649d26dc3f680d04e87c8bb25ee9", func := "loop.example/g00904/laws.FnExactValidDims", spec := "fnExactValidDims", apart := false, narrowed := true }
def FnExactValidDimsUptoSaid : Prop := fnExactValidDimsUptoRow.holds Try.pinned (OpenSpec.upto fnExactValidDimsSpec)

/-- 'laws.FnExactElementsOf', WHERE WHAT IT READS IS OF BULK AT MOST 1048576: true; the input reads as it did. -/
def fnExactElementsOfUptoRow : OpenClaim := { program := "ytmnmjepppghnlaa", sum := "32c2a05c89fc15e9a36034a28f717a818cc6649d26dc3f680d04e87c8bb25ee9", func := "loop.example/g00904/laws.FnExactElementsOf", spec := "fnExactElementsOf", apart := false, narrowed := true }
def FnExactElementsOfUptoSaid : Prop := fnExactElementsOfUptoRow.holds Try.pinned (OpenSpec.upto fnExactElementsOfSpec)

/-- 'laws.FnExactIndexOf', WHERE WHAT IT READS IS OF BULK AT MOST 1048576: true; the input reads as it did. -/
def fnExactIndexOfUptoRow : OpenClaim := { program := "ytmnmjepppghnlaa", sum := "32c2a05c89fc15e9a36034a28f717a818cc6649d26dc3f680d04e87c8bb25ee9", func := "loop.example/g00904/laws.FnExactIndexOf", spec := "fnExactIndexOf", apart := false, narrowed := true }
def FnExactIndexOfUptoSaid : Prop := fnExactIndexOfUptoRow.holds Try.pinned (OpenSpec.upto fnExactIndexOfSpec)

/-- 'laws.FnExactCoordsOf', WHERE WHAT IT READS IS OF BULK AT MOST 1048576: true; the input reads as it did. -/
def fnExactCoordsOfUptoRow : OpenClaim := { program := "ytmnmjepppghnlaa", sum := "32c2a05c89fc15e9a36034a28f717a818cc6649d26dc3f680d04e87c8bb25ee9", func := "loop.example/g00904/laws.FnExactCoordsOf", spec := "fnExactCoordsOf", unfollowed := true, recurses := true, apart := false, narrowed := true }
def FnExactCoordsOfUptoSaid : Prop := fnExactCoordsOfUptoRow.holds Try.pinned (OpenSpec.upto fnExactCoordsOfSpec)

/-- 'laws.FnExactValidSpace', WHERE WHAT IT READS IS OF BULK AT MOST 1048576: true; the input reads as it did. -/
def fnExactValidSpaceUptoRow : OpenClaim := { program := "ytmnmjepppghnlaa", sum := "32c2a05c89fc15e9a36034a28f717a818cc6649d26dc3f680d04e87c8bb25ee9", func := "loop.example/g00904/laws.FnExactValidSpace", spec := "fnExactValidSpace", apart := false, narrowed := true }
def FnExactValidSpaceUptoSaid : Prop := fnExactValidSpaceUptoRow.holds Try.pinned (OpenSpec.upto fnExactValidSpaceSpec)

/-- 'laws.FnExactSameSpace', WHERE WHAT IT READS IS OF BULK AT MOST 1048576: true; the input reads as it did. -/
def fnExactSameSpaceUptoRow : OpenClaim := { program := "ytmnmjepppghnlaa", sum := "32c2a05c89fc15e9a36034a28f717a818cc6649d26dc3f680d04e87c8bb25ee9", func := "loop.example/g00904/laws.FnExactSameSpace", spec := "fnExactSameSpace", apart := false, narrowed := true }
def FnExactSameSpaceUptoSaid : Prop := fnExactSameSpaceUptoRow.holds Try.pinned (OpenSpec.upto fnExactSameSpaceSpec)

/-- 'laws.FnExactEncodeSpace', WHERE WHAT IT READS IS OF BULK AT MOST 1048576: true; the input reads as it did. -/
def fnExactEncodeSpaceUptoRow : OpenClaim := { program := "ytmnmjepppghnlaa", sum := "32c2a05c89fc15e9a36034a28f717a818cc6649d26dc3f680d04e87c8bb25ee9", func := "loop.example/g00904/laws.FnExactEncodeSpace", spec := "fnExactEncodeSpace", apart := false, narrowed := true }
def FnExactEncodeSpaceUptoSaid : Prop := fnExactEncodeSpaceUptoRow.holds Try.pinned (OpenSpec.upto fnExactEncodeSpaceSpec)

/-- 'laws.FnExactDecodeSpace', WHERE WHAT IT READS IS OF BULK AT MOST 1048576: true; the input reads as it did. -/
def fnExactDecodeSpaceUptoRow : OpenClaim := { program := "ytmnmjepppghnlaa", sum := "32c2a05c89fc15e9a36034a28f717a818cc6649d26dc3f680d04e87c8bb25ee9", func := "loop.example/g00904/laws.FnExactDecodeSpace", spec := "fnExactDecodeSpace", apart := false, narrowed := true }
def FnExactDecodeSpaceUptoSaid : Prop := fnExactDecodeSpaceUptoRow.holds Try.pinned (OpenSpec.upto fnExactDecodeSpaceSpec)

/-- 'laws.FnExactResizeSpace', WHERE WHAT IT READS IS OF BULK AT MOST 1048576: true; the input reads as it did. -/
def fnExactResizeSpaceUptoRow : OpenClaim := { program := "ytmnmjepppghnlaa", sum := "32c2a05c89fc15e9a36034a28f717a818cc6649d26dc3f680d04e87c8bb25ee9", func := "loop.example/g00904/laws.FnExactResizeSpace", spec := "fnExactResizeSpace", apart := false, narrowed := true }
def FnExactResizeSpaceUptoSaid : Prop := fnExactResizeSpaceUptoRow.holds Try.pinned (OpenSpec.upto fnExactResizeSpaceSpec)

end Rows
end Go.Proofs.Ytmnmjepppghnlaa
