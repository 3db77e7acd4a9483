/-
  No cell of these rows narrows 'for every input' (looked for: loops, veiled, ifaces, maps, wideKeys, modest, calm, conditions, laid).
  DERIVED. THE GIVEN ROWS OF THIS SEAT. 13 by the template 'for every input the law returns true; each argument reads behind the call as it read before'; 0 by the template 'total and deterministic' (their statements: YtkoenlkoalbhlaaTotals.lean).
  GIVEN WITH THE SEED: the statements are not yours to turn. If you find one false, say at which input.
  Laid BY PROGRAM, IN A SANDBOX (cutbox-rows.mjs): the forced cells as the released guide's own fill.sh prints them over the translation acc8d142ef436c4d… (all of the seat's roots in one cut). By AI agents, Wed Nov 11 2026. No macro, syntax, notation, axiom, sorry.
-/
import Derived.Test.YtkoenlkoalbhlaaChecked
import GoSem.Claim
import GoSem.ClaimJoined
import GoSem.ClaimMapViews
import Derived.JoinedTies
import Derived.KernelRfl
namespace Go.Proofs.Ytkoenlkoalbhlaa
/- THE CELL 'sum', in the pinned program and in every row, IS THE sha256 OF THE DUMP (.gsa) THAT YtkoenlkoalbhlaaProg.lean LOADS. Nothing in Lean hashes anything: it is a label: what it is worth is what the hold of that sum in a sandbox is worth. -/
noncomputable def Try.pinned : Pinned := { name := "ytkoenlkoalbhlaa", sum := "acc8d142ef436c4dc0a5a72ea6a86f7f400d03979f05d11f65014dc795dbe19a", checked := Try.checked }
namespace Rows
def none {H : Type} : Left H := { results := [], args := [] }

/-- 'laws.FnExactCutPower': WHATEVER THE INPUT: true; the input reads as it did. -/
def fnExactCutPowerSpec : ChangeSpec := { name := "fnExactCutPower", fn := fun _ => fun
  | [d1, d2, d3, d4] => { results := [.lit (.bool true)], args := [d1, d2, d3, d4] }
  | _ => none }
def fnExactCutPowerRow : OpenClaim := { program := "ytkoenlkoalbhlaa", sum := "acc8d142ef436c4dc0a5a72ea6a86f7f400d03979f05d11f65014dc795dbe19a", func := "loop.example/g00904/laws.FnExactCutPower", spec := "fnExactCutPower", unfollowed := true, recurses := true, apart := false }
def FnExactCutPowerSaid : Prop := fnExactCutPowerRow.holds Try.pinned (OpenSpec.ofChange fnExactCutPowerSpec)

/-- ITS FALSE NEIGHBOUR: 'it returns false'. Refute it at one input. -/
def fnExactCutPowerWrong : ChangeSpec := { name := "fnExactCutPower", fn := fun _ => fun
  | [d1, d2, d3, d4] => { results := [.lit (.bool false)], args := [d1, d2, d3, d4] }
  | _ => none }
def FnExactCutPowerWrongFalsely : Prop := fnExactCutPowerRow.holds Try.pinned (OpenSpec.ofChange fnExactCutPowerWrong)

/-- 'laws.FnExactDecodeSuper': WHATEVER THE INPUT: true; the input reads as it did. -/
def fnExactDecodeSuperSpec : ChangeSpec := { name := "fnExactDecodeSuper", fn := fun _ => fun
  | [d] => { results := [.lit (.bool true)], args := [d] }
  | _ => none }
def fnExactDecodeSuperRow : OpenClaim := { program := "ytkoenlkoalbhlaa", sum := "acc8d142ef436c4dc0a5a72ea6a86f7f400d03979f05d11f65014dc795dbe19a", func := "loop.example/g00904/laws.FnExactDecodeSuper", spec := "fnExactDecodeSuper", unfollowed := true, recurses := true, apart := false }
def FnExactDecodeSuperSaid : Prop := fnExactDecodeSuperRow.holds Try.pinned (OpenSpec.ofChange fnExactDecodeSuperSpec)

/-- ITS FALSE NEIGHBOUR: 'it returns false'. Refute it at one input. -/
def fnExactDecodeSuperWrong : ChangeSpec := { name := "fnExactDecodeSuper", fn := fun _ => fun
  | [d] => { results := [.lit (.bool false)], args := [d] }
  | _ => none }
def FnExactDecodeSuperWrongFalsely : Prop := fnExactDecodeSuperRow.holds Try.pinned (OpenSpec.ofChange fnExactDecodeSuperWrong)

/-- 'laws.FnExactChooseSuper': WHATEVER THE INPUT: true; the input reads as it did. -/
def fnExactChooseSuperSpec : ChangeSpec := { name := "fnExactChooseSuper", fn := fun _ => fun
  | [d] => { results := [.lit (.bool true)], args := [d] }
  | _ => none }
def fnExactChooseSuperRow : OpenClaim := { program := "ytkoenlkoalbhlaa", sum := "acc8d142ef436c4dc0a5a72ea6a86f7f400d03979f05d11f65014dc795dbe19a", func := "loop.example/g00904/laws.FnExactChooseSuper", spec := "fnExactChooseSuper", unfollowed := true, recurses := true, apart := false }
def FnExactChooseSuperSaid : Prop := fnExactChooseSuperRow.holds Try.pinned (OpenSpec.ofChange fnExactChooseSuperSpec)

/-- ITS FALSE NEIGHBOUR: 'it returns false'. Refute it at one input. -/
def fnExactChooseSuperWrong : ChangeSpec := { name := "fnExactChooseSuper", fn := fun _ => fun
  | [d] => { results := [.lit (.bool false)], args := [d] }
  | _ => none }
def FnExactChooseSuperWrongFalsely : Prop := fnExactChooseSuperRow.holds Try.pinned (OpenSpec.ofChange fnExactChooseSuperWrong)

/-- 'laws.FnExactValidPages': WHATEVER THE INPUT: true; the input reads as it did. -/
def fnExactValidPagesSpec : ChangeSpec := { name := "fnExactValidPages", fn := fun _ => fun
  | [d] => { results := [.lit (.bool true)], args := [d] }
  | _ => none }
def fnExactValidPagesRow : OpenClaim := { program := "ytkoenlkoalbhlaa", sum := "acc8d142ef436c4dc0a5a72ea6a86f7f400d03979f05d11f65014dc795dbe19a", func := "loop.example/g00904/laws.FnExactValidPages", spec := "fnExactValidPages", apart := false }
def FnExactValidPagesSaid : Prop := fnExactValidPagesRow.holds Try.pinned (OpenSpec.ofChange fnExactValidPagesSpec)

/-- ITS FALSE NEIGHBOUR: 'it returns false'. Refute it at one input. -/
def fnExactValidPagesWrong : ChangeSpec := { name := "fnExactValidPages", fn := fun _ => fun
  | [d] => { results := [.lit (.bool false)], args := [d] }
  | _ => none }
def FnExactValidPagesWrongFalsely : Prop := fnExactValidPagesRow.holds Try.pinned (OpenSpec.ofChange fnExactValidPagesWrong)

/-- 'laws.FnExactPageOf': WHATEVER THE INPUT: true; the input reads as it did. -/
def fnExactPageOfSpec : ChangeSpec := { name := "fnExactPageOf", fn := fun _ => fun
  | [d1, d2] => { results := [.lit (.bool true)], args := [d1, d2] }
  | _ => none }
def fnExactPageOfRow : OpenClaim := { program := "ytkoenlkoalbhlaa", sum := "acc8d142ef436c4dc0a5a72ea6a86f7f400d03979f05d11f65014dc795dbe19a", func := "loop.example/g00904/laws.FnExactPageOf", spec := "fnExactPageOf", apart := false }
def FnExactPageOfSaid : Prop := fnExactPageOfRow.holds Try.pinned (OpenSpec.ofChange fnExactPageOfSpec)

/-- ITS FALSE NEIGHBOUR: 'it returns false'. Refute it at one input. -/
def fnExactPageOfWrong : ChangeSpec := { name := "fnExactPageOf", fn := fun _ => fun
  | [d1, d2] => { results := [.lit (.bool false)], args := [d1, d2] }
  | _ => none }
def FnExactPageOfWrongFalsely : Prop := fnExactPageOfRow.holds Try.pinned (OpenSpec.ofChange fnExactPageOfWrong)

/-- 'laws.FnExactMergePages': WHATEVER THE INPUT: true; the input reads as it did. -/
def fnExactMergePagesSpec : ChangeSpec := { name := "fnExactMergePages", fn := fun _ => fun
  | [d1, d2] => { results := [.lit (.bool true)], args := [d1, d2] }
  | _ => none }
def fnExactMergePagesRow : OpenClaim := { program := "ytkoenlkoalbhlaa", sum := "acc8d142ef436c4dc0a5a72ea6a86f7f400d03979f05d11f65014dc795dbe19a", func := "loop.example/g00904/laws.FnExactMergePages", spec := "fnExactMergePages", unfollowed := true, recurses := true, apart := false }
def FnExactMergePagesSaid : Prop := fnExactMergePagesRow.holds Try.pinned (OpenSpec.ofChange fnExactMergePagesSpec)

/-- ITS FALSE NEIGHBOUR: 'it returns false'. Refute it at one input. -/
def fnExactMergePagesWrong : ChangeSpec := { name := "fnExactMergePages", fn := fun _ => fun
  | [d1, d2] => { results := [.lit (.bool false)], args := [d1, d2] }
  | _ => none }
def FnExactMergePagesWrongFalsely : Prop := fnExactMergePagesRow.holds Try.pinned (OpenSpec.ofChange fnExactMergePagesWrong)

/-- 'laws.FnExactValidRecord': WHATEVER THE INPUT: true; the input reads as it did. -/
def fnExactValidRecordSpec : ChangeSpec := { name := "fnExactValidRecord", fn := fun _ => fun
  | [d] => { results := [.lit (.bool true)], args := [d] }
  | _ => none }
def fnExactValidRecordRow : OpenClaim := { program := "ytkoenlkoalbhlaa", sum := "acc8d142ef436c4dc0a5a72ea6a86f7f400d03979f05d11f65014dc795dbe19a", func := "loop.example/g00904/laws.FnExactValidRecord", spec := "fnExactValidRecord", apart := false }
def FnExactValidRecordSaid : Prop := fnExactValidRecordRow.holds Try.pinned (OpenSpec.ofChange fnExactValidRecordSpec)

/-- ITS FALSE NEIGHBOUR: 'it returns false'. Refute it at one input. -/
def fnExactValidRecordWrong : ChangeSpec := { name := "fnExactValidRecord", fn := fun _ => fun
  | [d] => { results := [.lit (.bool false)], args := [d] }
  | _ => none }
def FnExactValidRecordWrongFalsely : Prop := fnExactValidRecordRow.holds Try.pinned (OpenSpec.ofChange fnExactValidRecordWrong)

/-- 'laws.FnExactRecordBlocks': WHATEVER THE INPUT: true; the input reads as it did. -/
def fnExactRecordBlocksSpec : ChangeSpec := { name := "fnExactRecordBlocks", fn := fun _ => fun
  | [d] => { results := [.lit (.bool true)], args := [d] }
  | _ => none }
def fnExactRecordBlocksRow : OpenClaim := { program := "ytkoenlkoalbhlaa", sum := "acc8d142ef436c4dc0a5a72ea6a86f7f400d03979f05d11f65014dc795dbe19a", func := "loop.example/g00904/laws.FnExactRecordBlocks", spec := "fnExactRecordBlocks", apart := false }
def FnExactRecordBlocksSaid : Prop := fnExactRecordBlocksRow.holds Try.pinned (OpenSpec.ofChange fnExactRecordBlocksSpec)

/-- ITS FALSE NEIGHBOUR: 'it returns false'. Refute it at one input. -/
def fnExactRecordBlocksWrong : ChangeSpec := { name := "fnExactRecordBlocks", fn := fun _ => fun
  | [d] => { results := [.lit (.bool false)], args := [d] }
  | _ => none }
def FnExactRecordBlocksWrongFalsely : Prop := fnExactRecordBlocksRow.holds Try.pinned (OpenSpec.ofChange fnExactRecordBlocksWrong)

/-- 'laws.FnExactEncodeRecord': WHATEVER THE INPUT: true; the input reads as it did. -/
def fnExactEncodeRecordSpec : ChangeSpec := { name := "fnExactEncodeRecord", fn := fun _ => fun
  | [d] => { results := [.lit (.bool true)], args := [d] }
  | _ => none }
def fnExactEncodeRecordRow : OpenClaim := { program := "ytkoenlkoalbhlaa", sum := "acc8d142ef436c4dc0a5a72ea6a86f7f400d03979f05d11f65014dc795dbe19a", func := "loop.example/g00904/laws.FnExactEncodeRecord", spec := "fnExactEncodeRecord", inPlace := ["internal/abi.NoEscape", "internal/bytealg.MakeNoZero", "slices.overlaps[string]"], unfollowed := true, recurses := true, apart := false }
def FnExactEncodeRecordSaid : Prop := fnExactEncodeRecordRow.holds Try.pinned (OpenSpec.ofChange fnExactEncodeRecordSpec)

/-- ITS FALSE NEIGHBOUR: 'it returns false'. Refute it at one input. -/
def fnExactEncodeRecordWrong : ChangeSpec := { name := "fnExactEncodeRecord", fn := fun _ => fun
  | [d] => { results := [.lit (.bool false)], args := [d] }
  | _ => none }
def FnExactEncodeRecordWrongFalsely : Prop := fnExactEncodeRecordRow.holds Try.pinned (OpenSpec.ofChange fnExactEncodeRecordWrong)

/-- 'laws.FnExactValidPager': WHATEVER THE INPUT: true; the input reads as it did. -/
def fnExactValidPagerSpec : ChangeSpec := { name := "fnExactValidPager", fn := fun _ => fun
  | [d] => { results := [.lit (.bool true)], args := [d] }
  | _ => none }
def fnExactValidPagerRow : OpenClaim := { program := "ytkoenlkoalbhlaa", sum := "acc8d142ef436c4dc0a5a72ea6a86f7f400d03979f05d11f65014dc795dbe19a", func := "loop.example/g00904/laws.FnExactValidPager", spec := "fnExactValidPager", unfollowed := true, recurses := true, apart := false }
def FnExactValidPagerSaid : Prop := fnExactValidPagerRow.holds Try.pinned (OpenSpec.ofChange fnExactValidPagerSpec)

/-- ITS FALSE NEIGHBOUR: 'it returns false'. Refute it at one input. -/
def fnExactValidPagerWrong : ChangeSpec := { name := "fnExactValidPager", fn := fun _ => fun
  | [d] => { results := [.lit (.bool false)], args := [d] }
  | _ => none }
def FnExactValidPagerWrongFalsely : Prop := fnExactValidPagerRow.holds Try.pinned (OpenSpec.ofChange fnExactValidPagerWrong)

/-- 'laws.FnExactSamePager': WHATEVER THE INPUT: true; the input reads as it did. -/
def fnExactSamePagerSpec : ChangeSpec := { name := "fnExactSamePager", fn := fun _ => fun
  | [d1, d2] => { results := [.lit (.bool true)], args := [d1, d2] }
  | _ => none }
def fnExactSamePagerRow : OpenClaim := { program := "ytkoenlkoalbhlaa", sum := "acc8d142ef436c4dc0a5a72ea6a86f7f400d03979f05d11f65014dc795dbe19a", func := "loop.example/g00904/laws.FnExactSamePager", spec := "fnExactSamePager", apart := false }
def FnExactSamePagerSaid : Prop := fnExactSamePagerRow.holds Try.pinned (OpenSpec.ofChange fnExactSamePagerSpec)

/-- ITS FALSE NEIGHBOUR: 'it returns false'. Refute it at one input. -/
def fnExactSamePagerWrong : ChangeSpec := { name := "fnExactSamePager", fn := fun _ => fun
  | [d1, d2] => { results := [.lit (.bool false)], args := [d1, d2] }
  | _ => none }
def FnExactSamePagerWrongFalsely : Prop := fnExactSamePagerRow.holds Try.pinned (OpenSpec.ofChange fnExactSamePagerWrong)

/-- 'laws.FnExactGetPage': WHATEVER THE INPUT: true; the input reads as it did. -/
def fnExactGetPageSpec : ChangeSpec := { name := "fnExactGetPage", fn := fun _ => fun
  | [d1, d2] => { results := [.lit (.bool true)], args := [d1, d2] }
  | _ => none }
def fnExactGetPageRow : OpenClaim := { program := "ytkoenlkoalbhlaa", sum := "acc8d142ef436c4dc0a5a72ea6a86f7f400d03979f05d11f65014dc795dbe19a", func := "loop.example/g00904/laws.FnExactGetPage", spec := "fnExactGetPage", unfollowed := true, recurses := true, apart := false }
def FnExactGetPageSaid : Prop := fnExactGetPageRow.holds Try.pinned (OpenSpec.ofChange fnExactGetPageSpec)

/-- ITS FALSE NEIGHBOUR: 'it returns false'. Refute it at one input. -/
def fnExactGetPageWrong : ChangeSpec := { name := "fnExactGetPage", fn := fun _ => fun
  | [d1, d2] => { results := [.lit (.bool false)], args := [d1, d2] }
  | _ => none }
def FnExactGetPageWrongFalsely : Prop := fnExactGetPageRow.holds Try.pinned (OpenSpec.ofChange fnExactGetPageWrong)

/-- 'laws.FnExactCommittedPages': WHATEVER THE INPUT: true; the input reads as it did. -/
def fnExactCommittedPagesSpec : ChangeSpec := { name := "fnExactCommittedPages", fn := fun _ => fun
  | [d] => { results := [.lit (.bool true)], args := [d] }
  | _ => none }
def fnExactCommittedPagesRow : OpenClaim := { program := "ytkoenlkoalbhlaa", sum := "acc8d142ef436c4dc0a5a72ea6a86f7f400d03979f05d11f65014dc795dbe19a", func := "loop.example/g00904/laws.FnExactCommittedPages", spec := "fnExactCommittedPages", unfollowed := true, recurses := true, apart := false }
def FnExactCommittedPagesSaid : Prop := fnExactCommittedPagesRow.holds Try.pinned (OpenSpec.ofChange fnExactCommittedPagesSpec)

/-- ITS FALSE NEIGHBOUR: 'it returns false'. Refute it at one input. -/
def fnExactCommittedPagesWrong : ChangeSpec := { name := "fnExactCommittedPages", fn := fun _ => fun
  | [d] => { results := [.lit (.bool false)], args := [d] }
  | _ => none }
def FnExactCommittedPagesWrongFalsely : Prop := fnExactCommittedPagesRow.holds Try.pinned (OpenSpec.ofChange fnExactCommittedPagesWrong)

/- THE SECOND FORM. 'bulk': how many values and letters a reading holds, each counted each time it is reached (what is shared counts as often as it is met; a slice's spare places count too). A statement '..UptoSaid' is the law's where the arguments, and the package variables that the reading takes, are together of bulk at most 1048576: NARROWER than '..Said'. Prove '..Said' where nothing that the law and all that it calls make is longer than what came in: it says more and counts as full. Else prove '..UptoSaid'. A law counts once. -/
mutual
def uptoBulk {H : Type} : DataW H → Nat
  | .lit (.string bytes) => bytes.length + 1
  | .lit _ => 1
  | .nil => 1
  | .ptr d => uptoBulk d + 1
  | .slice elems spare => uptoBulkAll elems + uptoBulkAll spare + 1
  | .agg parts => uptoBulkAll parts + 1
  | .iface _ d => uptoBulk d + 1
  | .map entries => uptoBulkEntries entries + 1
  | .held _ => 1
def uptoBulkAll {H : Type} : List (DataW H) → Nat
  | [] => 0
  | d :: r => uptoBulk d + uptoBulkAll r
def uptoBulkEntries {H : Type} : List (Lit × DataW H) → Nat
  | [] => 0
  | x :: r => uptoBulkEntry x + uptoBulkEntries r
def uptoBulkEntry {H : Type} : Lit × DataW H → Nat
  | (.string bytes, d) => bytes.length + uptoBulk d + 1
  | (_, d) => uptoBulk d + 1
 end
def uptoSmall : (H : Type) → List (DataW H) → Bool := fun _ ds => decide (uptoBulkAll ds ≤ 1048576)
def OpenSpec.upto (s : _root_.Go.ChangeSpec) : _root_.Go.OpenSpec := { _root_.Go.OpenSpec.ofChange s with cond := some uptoSmall }

/-- 'laws.FnExactCutPower', WHERE WHAT IT READS IS OF BULK AT MOST 1048576: true; the input reads as it did. -/
def fnExactCutPowerUptoRow : OpenClaim := { program := "ytkoenlkoalbhlaa", sum := "acc8d142ef436c4dc0a5a72ea6a86f7f400d03979f05d11f65014dc795dbe19a", func := "loop.example/g00904/laws.FnExactCutPower", spec := "fnExactCutPower", unfollowed := true, recurses := true, apart := false, narrowed := true }
def FnExactCutPowerUptoSaid : Prop := fnExactCutPowerUptoRow.holds Try.pinned (OpenSpec.upto fnExactCutPowerSpec)

/-- 'laws.FnExactDecodeSuper', WHERE WHAT IT READS IS OF BULK AT MOST 1048576: true; the input reads as it did. -/
def fnExactDecodeSuperUptoRow : OpenClaim := { program := "ytkoenlkoalbhlaa", sum := "acc8d142ef436c4dc0a5a72ea6a86f7f400d03979f05d11f65014dc795dbe19a", func := "loop.example/g00904/laws.FnExactDecodeSuper", spec := "fnExactDecodeSuper", unfollowed := true, recurses := true, apart := false, narrowed := true }
def FnExactDecodeSuperUptoSaid : Prop := fnExactDecodeSuperUptoRow.holds Try.pinned (OpenSpec.upto fnExactDecodeSuperSpec)

/-- 'laws.FnExactChooseSuper', WHERE WHAT IT READS IS OF BULK AT MOST 1048576: true; the input reads as it did. -/
def fnExactChooseSuperUptoRow : OpenClaim := { program := "ytkoenlkoalbhlaa", sum := "acc8d142ef436c4dc0a5a72ea6a86f7f400d03979f05d11f65014dc795dbe19a", func := "loop.example/g00904/laws.FnExactChooseSuper", spec := "fnExactChooseSuper", unfollowed := true, recurses := true, apart := false, narrowed := true }
def FnExactChooseSuperUptoSaid : Prop := fnExactChooseSuperUptoRow.holds Try.pinned (OpenSpec.upto fnExactChooseSuperSpec)

/-- 'laws.FnExactValidPages', WHERE WHAT IT READS IS OF BULK AT MOST 1048576: true; the input reads as it did. -/
def fnExactValidPagesUptoRow : OpenClaim := { program := "ytkoenlkoalbhlaa", sum := "acc8d142ef436c4dc0a5a72ea6a86f7f400d03979f05d11f65014dc795dbe19a", func := "loop.example/g00904/laws.FnExactValidPages", spec := "fnExactValidPages", apart := false, narrowed := true }
def FnExactValidPagesUptoSaid : Prop := fnExactValidPagesUptoRow.holds Try.pinned (OpenSpec.upto fnExactValidPagesSpec)

/-- 'laws.FnExactPageOf', WHERE WHAT IT READS IS OF BULK AT MOST 1048576: true; the input reads as it did. -/
def fnExactPageOfUptoRow : OpenClaim := { program := "ytkoenlkoalbhlaa", sum := "acc8d142ef436c4dc0a5a72ea6a86f7f400d03979f05d11f65014dc795dbe19a", func := "loop.example/g00904/laws.FnExactPageOf", spec := "fnExactPageOf", apart := false, narrowed := true }
def FnExactPageOfUptoSaid : Prop := fnExactPageOfUptoRow.holds Try.pinned (OpenSpec.upto fnExactPageOfSpec)

/-- 'laws.FnExactMergePages', WHERE WHAT IT READS IS OF BULK AT MOST 1048576: true; the input reads as it did. -/
def fnExactMergePagesUptoRow : OpenClaim := { program := "ytkoenlkoalbhlaa", sum := "acc8d142ef436c4dc0a5a72ea6a86f7f400d03979f05d11f65014dc795dbe19a", func := "loop.example/g00904/laws.FnExactMergePages", spec := "fnExactMergePages", unfollowed := true, recurses := true, apart := false, narrowed := true }
def FnExactMergePagesUptoSaid : Prop := fnExactMergePagesUptoRow.holds Try.pinned (OpenSpec.upto fnExactMergePagesSpec)

/-- 'laws.FnExactValidRecord', WHERE WHAT IT READS IS OF BULK AT MOST 1048576: true; the input reads as it did. -/
def fnExactValidRecordUptoRow : OpenClaim := { program := "ytkoenlkoalbhlaa", sum := "acc8d142ef436c4dc0a5a72ea6a86f7f400d03979f05d11f65014dc795dbe19a", func := "loop.example/g00904/laws.FnExactValidRecord", spec := "fnExactValidRecord", apart := false, narrowed := true }
def FnExactValidRecordUptoSaid : Prop := fnExactValidRecordUptoRow.holds Try.pinned (OpenSpec.upto fnExactValidRecordSpec)

/-- 'laws.FnExactRecordBlocks', WHERE WHAT IT READS IS OF BULK AT MOST 1048576: true; the input reads as it did. -/
def fnExactRecordBlocksUptoRow : OpenClaim := { program := "ytkoenlkoalbhlaa", sum := "acc8d142ef436c4dc0a5a72ea6a86f7f400d03979f05d11f65014dc795dbe19a", func := "loop.example/g00904/laws.FnExactRecordBlocks", spec := "fnExactRecordBlocks", apart := false, narrowed := true }
def FnExactRecordBlocksUptoSaid : Prop := fnExactRecordBlocksUptoRow.holds Try.pinned (OpenSpec.upto fnExactRecordBlocksSpec)

/-- 'laws.FnExactEncodeRecord', WHERE WHAT IT READS IS OF BULK AT MOST 1048576: true; the input reads as it did. -/
def fnExactEncodeRecordUptoRow : OpenClaim := { program := "ytkoenlkoalbhlaa", sum := "acc8d142ef436c4dc0a5a72ea6a86f7f400d03979f05d11f65014dc795dbe19a", func := "loop.example/g00904/laws.FnExactEncodeRecord", spec := "fnExactEncodeRecord", inPlace := ["internal/abi.NoEscape", "internal/bytealg.MakeNoZero", "slices.overlaps[string]"], unfollowed := true, recurses := true, apart := false, narrowed := true }
def FnExactEncodeRecordUptoSaid : Prop := fnExactEncodeRecordUptoRow.holds Try.pinned (OpenSpec.upto fnExactEncodeRecordSpec)

/-- 'laws.FnExactValidPager', WHERE WHAT IT READS IS OF BULK AT MOST 1048576: true; the input reads as it did. -/
def fnExactValidPagerUptoRow : OpenClaim := { program := "ytkoenlkoalbhlaa", sum := "acc8d142ef436c4dc0a5a72ea6a86f7f400d03979f05d11f65014dc795dbe19a", func := "loop.example/g00904/laws.FnExactValidPager", spec := "fnExactValidPager", unfollowed := true, recurses := true, apart := false, narrowed := true }
def FnExactValidPagerUptoSaid : Prop := fnExactValidPagerUptoRow.holds Try.pinned (OpenSpec.upto fnExactValidPagerSpec)

/-- 'laws.FnExactSamePager', WHERE WHAT IT READS IS OF BULK AT MOST 1048576: true; the input reads as it did. -/
def fnExactSamePagerUptoRow : OpenClaim := { program := "ytkoenlkoalbhlaa", sum := "acc8d142ef436c4dc0a5a72ea6a86f7f400d03979f05d11f65014dc795dbe19a", func := "loop.example/g00904/laws.FnExactSamePager", spec := "fnExactSamePager", apart := false, narrowed := true }
def FnExactSamePagerUptoSaid : Prop := fnExactSamePagerUptoRow.holds Try.pinned (OpenSpec.upto fnExactSamePagerSpec)

/-- 'laws.FnExactGetPage', WHERE WHAT IT READS IS OF BULK AT MOST 1048576: true; the input reads as it did. -/
def fnExactGetPageUptoRow : OpenClaim := { program := "ytkoenlkoalbhlaa", sum := "acc8d142ef436c4dc0a5a72ea6a86f7f400d03979f05d11f65014dc795dbe19a", func := "loop.example/g00904/laws.FnExactGetPage", spec := "fnExactGetPage", unfollowed := true, recurses := true, apart := false, narrowed := true }
def FnExactGetPageUptoSaid : Prop := fnExactGetPageUptoRow.holds Try.pinned (OpenSpec.upto fnExactGetPageSpec)

/-- 'laws.FnExactCommittedPages', WHERE WHAT IT READS IS OF BULK AT MOST 1048576: true; the input reads as it did. -/
def fnExactCommittedPagesUptoRow : OpenClaim := { program := "ytkoenlkoalbhlaa", sum := "acc8d142ef436c4dc0a5a72ea6a86f7f400d03979f05d11f65014dc795dbe19a", func := "loop.example/g00904/laws.FnExactCommittedPages", spec := "fnExactCommittedPages", unfollowed := true, recurses := true, apart := false, narrowed := true }
def FnExactCommittedPagesUptoSaid : Prop := fnExactCommittedPagesUptoRow.holds Try.pinned (OpenSpec.upto fnExactCommittedPagesSpec)

end Rows
end Go.Proofs.Ytkoenlkoalbhlaa
