/-
  No cell of these rows narrows 'for every input' (looked for: loops, veiled, ifaces, maps, wideKeys, modest, calm, conditions, laid).
  DERIVED. THE GIVEN ROWS OF THIS SEAT. 7 by the template 'for every input the law returns true; each argument reads behind the call as it read before'; 0 by the template 'total and deterministic' (their statements: YtplfnlalmcpcaaaGreatTotals.lean).
  GIVEN WITH THE SEED: the statements are not yours to turn. If you find one false, say at which input.
  Laid BY PROGRAM, IN A SANDBOX (cutbox-rows.mjs): the forced cells as the released guide's own fill.sh prints them over the translation 245e2472ade673fc… (all of the seat's roots in one cut). By AI agents, Wed Nov 11 2026. No macro, syntax, notation, axiom, sorry.
-/
import Derived.Test.YtplfnlalmcpcaaaGreatChecked
import GoSem.Claim
import GoSem.ClaimJoined
import GoSem.ClaimMapViews
import Derived.JoinedTies
import Derived.KernelRfl
namespace Go.Proofs.YtplfnlalmcpcaaaGreat
/- THE CELL 'sum', in the pinned program and in every row, IS THE sha256 OF THE DUMP (.gsa) THAT YtplfnlalmcpcaaaGreatProg.lean LOADS. Nothing in Lean hashes anything: it is a label: what it is worth is what the hold of that sum in a sandbox is worth. -/
noncomputable def Tryz.pinned : Pinned := { name := "ytplfnlalmcpcaaagreat", sum := "245e2472ade673fcc27713d68170fe0eeec75633a5253a8af33c3876a88d760c", checked := Tryz.checked }
namespace Rows
def none {H : Type} : Left H := { results := [], args := [] }

/-- 'laws.FnExactSetPage': WHATEVER THE INPUT: true; the input reads as it did. -/
def fnExactSetPageSpec : ChangeSpec := { name := "fnExactSetPage", fn := fun _ => fun
  | [d1, d2, d3] => { results := [.lit (.bool true)], args := [d1, d2, d3] }
  | _ => none }
def fnExactSetPageRow : OpenClaim := { program := "ytplfnlalmcpcaaagreat", sum := "245e2472ade673fcc27713d68170fe0eeec75633a5253a8af33c3876a88d760c", func := "loop.example/g00904/laws.FnExactSetPage", spec := "fnExactSetPage", unfollowed := true, recurses := true, apart := false }
def FnExactSetPageSaid : Prop := fnExactSetPageRow.holds Tryz.pinned (OpenSpec.ofChange fnExactSetPageSpec)

/-- ITS FALSE NEIGHBOUR: 'it returns false'. Refute it at one input. -/
def fnExactSetPageWrong : ChangeSpec := { name := "fnExactSetPage", fn := fun _ => fun
  | [d1, d2, d3] => { results := [.lit (.bool false)], args := [d1, d2, d3] }
  | _ => none }
def FnExactSetPageWrongFalsely : Prop := fnExactSetPageRow.holds Tryz.pinned (OpenSpec.ofChange fnExactSetPageWrong)

/-- 'laws.FnExactSetRoot': WHATEVER THE INPUT: true; the input reads as it did. -/
def fnExactSetRootSpec : ChangeSpec := { name := "fnExactSetRoot", fn := fun _ => fun
  | [d1, d2] => { results := [.lit (.bool true)], args := [d1, d2] }
  | _ => none }
def fnExactSetRootRow : OpenClaim := { program := "ytplfnlalmcpcaaagreat", sum := "245e2472ade673fcc27713d68170fe0eeec75633a5253a8af33c3876a88d760c", func := "loop.example/g00904/laws.FnExactSetRoot", spec := "fnExactSetRoot", unfollowed := true, recurses := true, apart := false }
def FnExactSetRootSaid : Prop := fnExactSetRootRow.holds Tryz.pinned (OpenSpec.ofChange fnExactSetRootSpec)

/-- ITS FALSE NEIGHBOUR: 'it returns false'. Refute it at one input. -/
def fnExactSetRootWrong : ChangeSpec := { name := "fnExactSetRoot", fn := fun _ => fun
  | [d1, d2] => { results := [.lit (.bool false)], args := [d1, d2] }
  | _ => none }
def FnExactSetRootWrongFalsely : Prop := fnExactSetRootRow.holds Tryz.pinned (OpenSpec.ofChange fnExactSetRootWrong)

/-- 'laws.FnExactAllocate': WHATEVER THE INPUT: true; the input reads as it did. -/
def fnExactAllocateSpec : ChangeSpec := { name := "fnExactAllocate", fn := fun _ => fun
  | [d1, d2] => { results := [.lit (.bool true)], args := [d1, d2] }
  | _ => none }
def fnExactAllocateRow : OpenClaim := { program := "ytplfnlalmcpcaaagreat", sum := "245e2472ade673fcc27713d68170fe0eeec75633a5253a8af33c3876a88d760c", func := "loop.example/g00904/laws.FnExactAllocate", spec := "fnExactAllocate", unfollowed := true, recurses := true, apart := false }
def FnExactAllocateSaid : Prop := fnExactAllocateRow.holds Tryz.pinned (OpenSpec.ofChange fnExactAllocateSpec)

/-- ITS FALSE NEIGHBOUR: 'it returns false'. Refute it at one input. -/
def fnExactAllocateWrong : ChangeSpec := { name := "fnExactAllocate", fn := fun _ => fun
  | [d1, d2] => { results := [.lit (.bool false)], args := [d1, d2] }
  | _ => none }
def FnExactAllocateWrongFalsely : Prop := fnExactAllocateRow.holds Tryz.pinned (OpenSpec.ofChange fnExactAllocateWrong)

/-- 'laws.FnExactRelease': WHATEVER THE INPUT: true; the input reads as it did. -/
def fnExactReleaseSpec : ChangeSpec := { name := "fnExactRelease", fn := fun _ => fun
  | [d1, d2, d3] => { results := [.lit (.bool true)], args := [d1, d2, d3] }
  | _ => none }
def fnExactReleaseRow : OpenClaim := { program := "ytplfnlalmcpcaaagreat", sum := "245e2472ade673fcc27713d68170fe0eeec75633a5253a8af33c3876a88d760c", func := "loop.example/g00904/laws.FnExactRelease", spec := "fnExactRelease", unfollowed := true, recurses := true, apart := false }
def FnExactReleaseSaid : Prop := fnExactReleaseRow.holds Tryz.pinned (OpenSpec.ofChange fnExactReleaseSpec)

/-- ITS FALSE NEIGHBOUR: 'it returns false'. Refute it at one input. -/
def fnExactReleaseWrong : ChangeSpec := { name := "fnExactRelease", fn := fun _ => fun
  | [d1, d2, d3] => { results := [.lit (.bool false)], args := [d1, d2, d3] }
  | _ => none }
def FnExactReleaseWrongFalsely : Prop := fnExactReleaseRow.holds Tryz.pinned (OpenSpec.ofChange fnExactReleaseWrong)

/-- 'laws.FnExactWriteRun': WHATEVER THE INPUT: true; the input reads as it did. -/
def fnExactWriteRunSpec : ChangeSpec := { name := "fnExactWriteRun", fn := fun _ => fun
  | [d1, d2, d3] => { results := [.lit (.bool true)], args := [d1, d2, d3] }
  | _ => none }
def fnExactWriteRunRow : OpenClaim := { program := "ytplfnlalmcpcaaagreat", sum := "245e2472ade673fcc27713d68170fe0eeec75633a5253a8af33c3876a88d760c", func := "loop.example/g00904/laws.FnExactWriteRun", spec := "fnExactWriteRun", inPlace := ["internal/abi.NoEscape", "internal/bytealg.MakeNoZero"], unfollowed := true, recurses := true, apart := false }
def FnExactWriteRunSaid : Prop := fnExactWriteRunRow.holds Tryz.pinned (OpenSpec.ofChange fnExactWriteRunSpec)

/-- ITS FALSE NEIGHBOUR: 'it returns false'. Refute it at one input. -/
def fnExactWriteRunWrong : ChangeSpec := { name := "fnExactWriteRun", fn := fun _ => fun
  | [d1, d2, d3] => { results := [.lit (.bool false)], args := [d1, d2, d3] }
  | _ => none }
def FnExactWriteRunWrongFalsely : Prop := fnExactWriteRunRow.holds Tryz.pinned (OpenSpec.ofChange fnExactWriteRunWrong)

/-- 'laws.FnExactReadHeader': WHATEVER THE INPUT: true; the input reads as it did. -/
def fnExactReadHeaderSpec : ChangeSpec := { name := "fnExactReadHeader", fn := fun _ => fun
  | [d1, d2] => { results := [.lit (.bool true)], args := [d1, d2] }
  | _ => none }
def fnExactReadHeaderRow : OpenClaim := { program := "ytplfnlalmcpcaaagreat", sum := "245e2472ade673fcc27713d68170fe0eeec75633a5253a8af33c3876a88d760c", func := "loop.example/g00904/laws.FnExactReadHeader", spec := "fnExactReadHeader", inPlace := ["internal/abi.NoEscape", "internal/bytealg.MakeNoZero"], unfollowed := true, recurses := true, apart := false }
def FnExactReadHeaderSaid : Prop := fnExactReadHeaderRow.holds Tryz.pinned (OpenSpec.ofChange fnExactReadHeaderSpec)

/-- ITS FALSE NEIGHBOUR: 'it returns false'. Refute it at one input. -/
def fnExactReadHeaderWrong : ChangeSpec := { name := "fnExactReadHeader", fn := fun _ => fun
  | [d1, d2] => { results := [.lit (.bool false)], args := [d1, d2] }
  | _ => none }
def FnExactReadHeaderWrongFalsely : Prop := fnExactReadHeaderRow.holds Tryz.pinned (OpenSpec.ofChange fnExactReadHeaderWrong)

/-- 'laws.FnExactHeaderBlocks': WHATEVER THE INPUT: true; the input reads as it did. -/
def fnExactHeaderBlocksSpec : ChangeSpec := { name := "fnExactHeaderBlocks", fn := fun _ => fun
  | [d1, d2] => { results := [.lit (.bool true)], args := [d1, d2] }
  | _ => none }
def fnExactHeaderBlocksRow : OpenClaim := { program := "ytplfnlalmcpcaaagreat", sum := "245e2472ade673fcc27713d68170fe0eeec75633a5253a8af33c3876a88d760c", func := "loop.example/g00904/laws.FnExactHeaderBlocks", spec := "fnExactHeaderBlocks", inPlace := ["internal/abi.NoEscape", "internal/bytealg.MakeNoZero"], unfollowed := true, recurses := true, apart := false }
def FnExactHeaderBlocksSaid : Prop := fnExactHeaderBlocksRow.holds Tryz.pinned (OpenSpec.ofChange fnExactHeaderBlocksSpec)

/-- ITS FALSE NEIGHBOUR: 'it returns false'. Refute it at one input. -/
def fnExactHeaderBlocksWrong : ChangeSpec := { name := "fnExactHeaderBlocks", fn := fun _ => fun
  | [d1, d2] => { results := [.lit (.bool false)], args := [d1, d2] }
  | _ => none }
def FnExactHeaderBlocksWrongFalsely : Prop := fnExactHeaderBlocksRow.holds Tryz.pinned (OpenSpec.ofChange fnExactHeaderBlocksWrong)

/- THE SECOND FORM. 'bulk': how many values and letters a reading holds, each counted each time it is reached (what is shared counts as often as it is met; a slice's spare places count too). A statement '..UptoSaid' is the law's where the arguments, and the package variables that the reading takes, are together of bulk at most 1048576: NARROWER than '..Said'. Prove '..Said' where nothing that the law and all that it calls make is longer than what came in: it says more and counts as full. Else prove '..UptoSaid'. A law counts once. -/
mutual
def uptoBulk {H : Type} : DataW H → Nat
  | .lit (.string bytes) => bytes.length + 1
  | .lit _ => 1
  | .nil => 1
  | .ptr d => uptoBulk d + 1
  | .slice elems spare => uptoBulkAll elems + uptoBulkAll spare + 1
  | .agg parts => uptoBulkAll parts + 1
  | .iface _ d => uptoBulk d + 1
  | .map entries => uptoBulkEntries entries + 1
  | .held _ => 1
def uptoBulkAll {H : Type} : List (DataW H) → Nat
  | [] => 0
  | d :: r => uptoBulk d + uptoBulkAll r
def uptoBulkEntries {H : Type} : List (Lit × DataW H) → Nat
  | [] => 0
  | x :: r => uptoBulkEntry x + uptoBulkEntries r
def uptoBulkEntry {H : Type} : Lit × DataW H → Nat
  | (.string bytes, d) => bytes.length + uptoBulk d + 1
  | (_, d) => uptoBulk d + 1
 end
def uptoSmall : (H : Type) → List (DataW H) → Bool := fun _ ds => decide (uptoBulkAll ds ≤ 1048576)
def OpenSpec.upto (s : _root_.Go.ChangeSpec) : _root_.Go.OpenSpec := { _root_.Go.OpenSpec.ofChange s with cond := some uptoSmall }

/-- 'laws.FnExactSetPage', WHERE WHAT IT READS IS OF BULK AT MOST 1048576: true; the input reads as it did. -/
def fnExactSetPageUptoRow : OpenClaim := { program := "ytplfnlalmcpcaaagreat", sum := "245e2472ade673fcc27713d68170fe0eeec75633a5253a8af33c3876a88d760c", func := "loop.example/g00904/laws.FnExactSetPage", spec := "fnExactSetPage", unfollowed := true, recurses := true, apart := false, narrowed := true }
def FnExactSetPageUptoSaid : Prop := fnExactSetPageUptoRow.holds Tryz.pinned (OpenSpec.upto fnExactSetPageSpec)

/-- 'laws.FnExactSetRoot', WHERE WHAT IT READS IS OF BULK AT MOST 1048576: true; the input reads as it did. -/
def fnExactSetRootUptoRow : OpenClaim := { program := "ytplfnlalmcpcaaagreat", sum := "245e2472ade673fcc27713d68170fe0eeec75633a5253a8af33c3876a88d760c", func := "loop.example/g00904/laws.FnExactSetRoot", spec := "fnExactSetRoot", unfollowed := true, recurses := true, apart := false, narrowed := true }
def FnExactSetRootUptoSaid : Prop := fnExactSetRootUptoRow.holds Tryz.pinned (OpenSpec.upto fnExactSetRootSpec)

/-- 'laws.FnExactAllocate', WHERE WHAT IT READS IS OF BULK AT MOST 1048576: true; the input reads as it did. -/
def fnExactAllocateUptoRow : OpenClaim := { program := "ytplfnlalmcpcaaagreat", sum := "245e2472ade673fcc27713d68170fe0eeec75633a5253a8af33c3876a88d760c", func := "loop.example/g00904/laws.FnExactAllocate", spec := "fnExactAllocate", unfollowed := true, recurses := true, apart := false, narrowed := true }
def FnExactAllocateUptoSaid : Prop := fnExactAllocateUptoRow.holds Tryz.pinned (OpenSpec.upto fnExactAllocateSpec)

/-- 'laws.FnExactRelease', WHERE WHAT IT READS IS OF BULK AT MOST 1048576: true; the input reads as it did. -/
def fnExactReleaseUptoRow : OpenClaim := { program := "ytplfnlalmcpcaaagreat", sum := "245e2472ade673fcc27713d68170fe0eeec75633a5253a8af33c3876a88d760c", func := "loop.example/g00904/laws.FnExactRelease", spec := "fnExactRelease", unfollowed := true, recurses := true, apart := false, narrowed := true }
def FnExactReleaseUptoSaid : Prop := fnExactReleaseUptoRow.holds Tryz.pinned (OpenSpec.upto fnExactReleaseSpec)

/-- 'laws.FnExactWriteRun', WHERE WHAT IT READS IS OF BULK AT MOST 1048576: true; the input reads as it did. -/
def fnExactWriteRunUptoRow : OpenClaim := { program := "ytplfnlalmcpcaaagreat", sum := "245e2472ade673fcc27713d68170fe0eeec75633a5253a8af33c3876a88d760c", func := "loop.example/g00904/laws.FnExactWriteRun", spec := "fnExactWriteRun", inPlace := ["internal/abi.NoEscape", "internal/bytealg.MakeNoZero"], unfollowed := true, recurses := true, apart := false, narrowed := true }
def FnExactWriteRunUptoSaid : Prop := fnExactWriteRunUptoRow.holds Tryz.pinned (OpenSpec.upto fnExactWriteRunSpec)

/-- 'laws.FnExactReadHeader', WHERE WHAT IT READS IS OF BULK AT MOST 1048576: true; the input reads as it did. -/
def fnExactReadHeaderUptoRow : OpenClaim := { program := "ytplfnlalmcpcaaagreat", sum := "245e2472ade673fcc27713d68170fe0eeec75633a5253a8af33c3876a88d760c", func := "loop.example/g00904/laws.FnExactReadHeader", spec := "fnExactReadHeader", inPlace := ["internal/abi.NoEscape", "internal/bytealg.MakeNoZero"], unfollowed := true, recurses := true, apart := false, narrowed := true }
def FnExactReadHeaderUptoSaid : Prop := fnExactReadHeaderUptoRow.holds Tryz.pinned (OpenSpec.upto fnExactReadHeaderSpec)

/-- 'laws.FnExactHeaderBlocks', WHERE WHAT IT READS IS OF BULK AT MOST 1048576: true; the input reads as it did. -/
def fnExactHeaderBlocksUptoRow : OpenClaim := { program := "ytplfnlalmcpcaaagreat", sum := "245e2472ade673fcc27713d68170fe0eeec75633a5253a8af33c3876a88d760c", func := "loop.example/g00904/laws.FnExactHeaderBlocks", spec := "fnExactHeaderBlocks", inPlace := ["internal/abi.NoEscape", "internal/bytealg.MakeNoZero"], unfollowed := true, recurses := true, apart := false, narrowed := true }
def FnExactHeaderBlocksUptoSaid : Prop := fnExactHeaderBlocksUptoRow.holds Tryz.pinned (OpenSpec.upto fnExactHeaderBlocksSpec)

end Rows
end Go.Proofs.YtplfnlalmcpcaaaGreat
