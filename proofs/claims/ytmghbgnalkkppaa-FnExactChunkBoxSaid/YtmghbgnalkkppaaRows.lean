/-
  No cell of these rows narrows 'for every input' (looked for: loops, veiled, ifaces, maps, wideKeys, modest, calm, conditions, laid).
  DERIVED. THE GIVEN ROWS OF THIS SEAT. 8 by the template 'for every input the law returns true; each argument reads behind the call as it read before'; 0 by the template 'total and deterministic' (their statements: YtmghbgnalkkppaaTotals.lean).
  GIVEN WITH THE SEED: the statements are not yours to turn. If you find one false, say at which input.
  Laid BY PROGRAM, IN A SANDBOX (cutbox-rows.mjs): the forced cells as the released guide's own fill.sh prints them over the translation bbfddfa784aa1b1a… (all of the seat's roots in one cut). By AI agents, Wed Nov 11 2026. No macro, syntax, notation, axiom, sorry.
-/
import Derived.Test.YtmghbgnalkkppaaChecked
import GoSem.Claim
import GoSem.ClaimJoined
import GoSem.ClaimMapViews
import Derived.JoinedTies
import Derived.KernelRfl
namespace Go.Proofs.Ytmghbgnalkkppaa
/- THE CELL 'sum', in the pinned program and in every row, IS THE sha256 OF THE DUMP (.gsa) THAT YtmghbgnalkkppaaProg.lean LOADS. Nothing in Lean hashes anything: it is a label: what it is worth is what the hold of that sum in a sandbox is worth. -/
noncomputable def Try.pinned : Pinned := { name := "ytmghbgnalkkppaa", sum := "bbfddfa784aa1b1ad733c544f459402d2022929431276d5c33c78c3f92c9ef18", checked := Try.checked }
namespace Rows
def none {H : Type} : Left H := { results := [], args := [] }

/-- 'laws.FnExactValidChunk': WHATEVER THE INPUT: true; the input reads as it did. -/
def fnExactValidChunkSpec : ChangeSpec := { name := "fnExactValidChunk", fn := fun _ => fun
  | [d1, d2] => { results := [.lit (.bool true)], args := [d1, d2] }
  | _ => none }
def fnExactValidChunkRow : OpenClaim := { program := "ytmghbgnalkkppaa", sum := "bbfddfa784aa1b1ad733c544f459402d2022929431276d5c33c78c3f92c9ef18", func := "loop.example/g00904/laws.FnExactValidChunk", spec := "fnExactValidChunk", plainKeys := false, apart := false }
def FnExactValidChunkSaid : Prop := fnExactValidChunkRow.holds Try.pinned (OpenSpec.ofChange fnExactValidChunkSpec)

/-- ITS FALSE NEIGHBOUR: 'it returns false'. Refute it at one input. -/
def fnExactValidChunkWrong : ChangeSpec := { name := "fnExactValidChunk", fn := fun _ => fun
  | [d1, d2] => { results := [.lit (.bool false)], args := [d1, d2] }
  | _ => none }
def FnExactValidChunkWrongFalsely : Prop := fnExactValidChunkRow.holds Try.pinned (OpenSpec.ofChange fnExactValidChunkWrong)

/-- 'laws.FnExactGridOf': WHATEVER THE INPUT: true; the input reads as it did. -/
def fnExactGridOfSpec : ChangeSpec := { name := "fnExactGridOf", fn := fun _ => fun
  | [d1, d2] => { results := [.lit (.bool true)], args := [d1, d2] }
  | _ => none }
def fnExactGridOfRow : OpenClaim := { program := "ytmghbgnalkkppaa", sum := "bbfddfa784aa1b1ad733c544f459402d2022929431276d5c33c78c3f92c9ef18", func := "loop.example/g00904/laws.FnExactGridOf", spec := "fnExactGridOf", plainKeys := false, apart := false }
def FnExactGridOfSaid : Prop := fnExactGridOfRow.holds Try.pinned (OpenSpec.ofChange fnExactGridOfSpec)

/-- ITS FALSE NEIGHBOUR: 'it returns false'. Refute it at one input. -/
def fnExactGridOfWrong : ChangeSpec := { name := "fnExactGridOf", fn := fun _ => fun
  | [d1, d2] => { results := [.lit (.bool false)], args := [d1, d2] }
  | _ => none }
def FnExactGridOfWrongFalsely : Prop := fnExactGridOfRow.holds Try.pinned (OpenSpec.ofChange fnExactGridOfWrong)

/-- 'laws.FnExactChunkCount': WHATEVER THE INPUT: true; the input reads as it did. -/
def fnExactChunkCountSpec : ChangeSpec := { name := "fnExactChunkCount", fn := fun _ => fun
  | [d1, d2] => { results := [.lit (.bool true)], args := [d1, d2] }
  | _ => none }
def fnExactChunkCountRow : OpenClaim := { program := "ytmghbgnalkkppaa", sum := "bbfddfa784aa1b1ad733c544f459402d2022929431276d5c33c78c3f92c9ef18", func := "loop.example/g00904/laws.FnExactChunkCount", spec := "fnExactChunkCount", plainKeys := false, apart := false }
def FnExactChunkCountSaid : Prop := fnExactChunkCountRow.holds Try.pinned (OpenSpec.ofChange fnExactChunkCountSpec)

/-- ITS FALSE NEIGHBOUR: 'it returns false'. Refute it at one input. -/
def fnExactChunkCountWrong : ChangeSpec := { name := "fnExactChunkCount", fn := fun _ => fun
  | [d1, d2] => { results := [.lit (.bool false)], args := [d1, d2] }
  | _ => none }
def FnExactChunkCountWrongFalsely : Prop := fnExactChunkCountRow.holds Try.pinned (OpenSpec.ofChange fnExactChunkCountWrong)

/-- 'laws.FnExactChunkKeys': WHATEVER THE INPUT: true; the input reads as it did. -/
def fnExactChunkKeysSpec : ChangeSpec := { name := "fnExactChunkKeys", fn := fun _ => fun
  | [d1, d2] => { results := [.lit (.bool true)], args := [d1, d2] }
  | _ => none }
def fnExactChunkKeysRow : OpenClaim := { program := "ytmghbgnalkkppaa", sum := "bbfddfa784aa1b1ad733c544f459402d2022929431276d5c33c78c3f92c9ef18", func := "loop.example/g00904/laws.FnExactChunkKeys", spec := "fnExactChunkKeys", unfollowed := true, recurses := true, plainKeys := false, apart := false }
def FnExactChunkKeysSaid : Prop := fnExactChunkKeysRow.holds Try.pinned (OpenSpec.ofChange fnExactChunkKeysSpec)

/-- ITS FALSE NEIGHBOUR: 'it returns false'. Refute it at one input. -/
def fnExactChunkKeysWrong : ChangeSpec := { name := "fnExactChunkKeys", fn := fun _ => fun
  | [d1, d2] => { results := [.lit (.bool false)], args := [d1, d2] }
  | _ => none }
def FnExactChunkKeysWrongFalsely : Prop := fnExactChunkKeysRow.holds Try.pinned (OpenSpec.ofChange fnExactChunkKeysWrong)

/-- 'laws.FnExactChunkOf': WHATEVER THE INPUT: true; the input reads as it did. -/
def fnExactChunkOfSpec : ChangeSpec := { name := "fnExactChunkOf", fn := fun _ => fun
  | [d1, d2, d3] => { results := [.lit (.bool true)], args := [d1, d2, d3] }
  | _ => none }
def fnExactChunkOfRow : OpenClaim := { program := "ytmghbgnalkkppaa", sum := "bbfddfa784aa1b1ad733c544f459402d2022929431276d5c33c78c3f92c9ef18", func := "loop.example/g00904/laws.FnExactChunkOf", spec := "fnExactChunkOf", plainKeys := false, apart := false }
def FnExactChunkOfSaid : Prop := fnExactChunkOfRow.holds Try.pinned (OpenSpec.ofChange fnExactChunkOfSpec)

/-- ITS FALSE NEIGHBOUR: 'it returns false'. Refute it at one input. -/
def fnExactChunkOfWrong : ChangeSpec := { name := "fnExactChunkOf", fn := fun _ => fun
  | [d1, d2, d3] => { results := [.lit (.bool false)], args := [d1, d2, d3] }
  | _ => none }
def FnExactChunkOfWrongFalsely : Prop := fnExactChunkOfRow.holds Try.pinned (OpenSpec.ofChange fnExactChunkOfWrong)

/-- 'laws.FnExactChunkBox': WHATEVER THE INPUT: true; the input reads as it did. -/
def fnExactChunkBoxSpec : ChangeSpec := { name := "fnExactChunkBox", fn := fun _ => fun
  | [d1, d2, d3] => { results := [.lit (.bool true)], args := [d1, d2, d3] }
  | _ => none }
def fnExactChunkBoxRow : OpenClaim := { program := "ytmghbgnalkkppaa", sum := "bbfddfa784aa1b1ad733c544f459402d2022929431276d5c33c78c3f92c9ef18", func := "loop.example/g00904/laws.FnExactChunkBox", spec := "fnExactChunkBox", unfollowed := true, recurses := true, plainKeys := false, apart := false }
def FnExactChunkBoxSaid : Prop := fnExactChunkBoxRow.holds Try.pinned (OpenSpec.ofChange fnExactChunkBoxSpec)

/-- ITS FALSE NEIGHBOUR: 'it returns false'. Refute it at one input. -/
def fnExactChunkBoxWrong : ChangeSpec := { name := "fnExactChunkBox", fn := fun _ => fun
  | [d1, d2, d3] => { results := [.lit (.bool false)], args := [d1, d2, d3] }
  | _ => none }
def FnExactChunkBoxWrongFalsely : Prop := fnExactChunkBoxRow.holds Try.pinned (OpenSpec.ofChange fnExactChunkBoxWrong)

/-- 'laws.FnExactChunksLost': WHATEVER THE INPUT: true; the input reads as it did. -/
def fnExactChunksLostSpec : ChangeSpec := { name := "fnExactChunksLost", fn := fun _ => fun
  | [d1, d2, d3] => { results := [.lit (.bool true)], args := [d1, d2, d3] }
  | _ => none }
def fnExactChunksLostRow : OpenClaim := { program := "ytmghbgnalkkppaa", sum := "bbfddfa784aa1b1ad733c544f459402d2022929431276d5c33c78c3f92c9ef18", func := "loop.example/g00904/laws.FnExactChunksLost", spec := "fnExactChunksLost", unfollowed := true, recurses := true, plainKeys := false, apart := false }
def FnExactChunksLostSaid : Prop := fnExactChunksLostRow.holds Try.pinned (OpenSpec.ofChange fnExactChunksLostSpec)

/-- ITS FALSE NEIGHBOUR: 'it returns false'. Refute it at one input. -/
def fnExactChunksLostWrong : ChangeSpec := { name := "fnExactChunksLost", fn := fun _ => fun
  | [d1, d2, d3] => { results := [.lit (.bool false)], args := [d1, d2, d3] }
  | _ => none }
def FnExactChunksLostWrongFalsely : Prop := fnExactChunksLostRow.holds Try.pinned (OpenSpec.ofChange fnExactChunksLostWrong)

/-- 'laws.FnExactElementsLost': WHATEVER THE INPUT: true; the input reads as it did. -/
def fnExactElementsLostSpec : ChangeSpec := { name := "fnExactElementsLost", fn := fun _ => fun
  | [d1, d2, d3, d4] => { results := [.lit (.bool true)], args := [d1, d2, d3, d4] }
  | _ => none }
def fnExactElementsLostRow : OpenClaim := { program := "ytmghbgnalkkppaa", sum := "bbfddfa784aa1b1ad733c544f459402d2022929431276d5c33c78c3f92c9ef18", func := "loop.example/g00904/laws.FnExactElementsLost", spec := "fnExactElementsLost", unfollowed := true, recurses := true, plainKeys := false, apart := false }
def FnExactElementsLostSaid : Prop := fnExactElementsLostRow.holds Try.pinned (OpenSpec.ofChange fnExactElementsLostSpec)

/-- ITS FALSE NEIGHBOUR: 'it returns false'. Refute it at one input. -/
def fnExactElementsLostWrong : ChangeSpec := { name := "fnExactElementsLost", fn := fun _ => fun
  | [d1, d2, d3, d4] => { results := [.lit (.bool false)], args := [d1, d2, d3, d4] }
  | _ => none }
def FnExactElementsLostWrongFalsely : Prop := fnExactElementsLostRow.holds Try.pinned (OpenSpec.ofChange fnExactElementsLostWrong)

/- THE SECOND FORM. 'bulk': how many values and letters a reading holds, each counted each time it is reached (what is shared counts as often as it is met; a slice's spare places count too). A statement '..UptoSaid' is the law's where the arguments, and the package variables that the reading takes, are together of bulk at most 1048576: NARROWER than '..Said'. Prove '..Said' where nothing that the law and all that it calls make is longer than what came in: it says more and counts as full. Else prove '..UptoSaid'. A law counts once. -/
mutual
def uptoBulk {H : Type} : DataW H → Nat
  | .lit (.string bytes) => bytes.length + 1
  | .lit _ => 1
  | .nil => 1
  | .ptr d => uptoBulk d + 1
  | .slice elems spare => uptoBulkAll elems + uptoBulkAll spare + 1
  | .agg parts => uptoBulkAll parts + 1
  | .iface _ d => uptoBulk d + 1
  | .map entries => uptoBulkEntries entries + 1
  | .held _ => 1
def uptoBulkAll {H : Type} : List (DataW H) → Nat
  | [] => 0
  | d :: r => uptoBulk d + uptoBulkAll r
def uptoBulkEntries {H : Type} : List (Lit × DataW H) → Nat
  | [] => 0
  | x :: r => uptoBulkEntry x + uptoBulkEntries r
def uptoBulkEntry {H : Type} : Lit × DataW H → Nat
  | (.string bytes, d) => bytes.length + uptoBulk d + 1
  | (_, d) => uptoBulk d + 1
 end
def uptoSmall : (H : Type) → List (DataW H) → Bool := fun _ ds => decide (uptoBulkAll ds ≤ 1048576)
def OpenSpec.upto (s : _root_.Go.ChangeSpec) : _root_.Go.OpenSpec := { _root_.Go.OpenSpec.ofChange s with cond := some uptoSmall }

/-- 'laws.FnExactValidChunk', WHERE WHAT IT READS IS OF BULK AT MOST 1048576: true; the input reads as it did. -/
def fnExactValidChunkUptoRow : OpenClaim := { program := "ytmghbgnalkkppaa", sum := "bbfddfa784aa1b1ad733c544f459402d2022929431276d5c33c78c3f92c9ef18", func := "loop.example/g00904/laws.FnExactValidChunk", spec := "fnExactValidChunk", plainKeys := false, apart := false, narrowed := true }
def FnExactValidChunkUptoSaid : Prop := fnExactValidChunkUptoRow.holds Try.pinned (OpenSpec.upto fnExactValidChunkSpec)

/-- 'laws.FnExactGridOf', WHERE WHAT IT READS IS OF BULK AT MOST 1048576: true; the input reads as it did. -/
def fnExactGridOfUptoRow : OpenClaim := { program := "ytmghbgnalkkppaa", sum := "bbfddfa784aa1b1ad733c544f459402d2022929431276d5c33c78c3f92c9ef18", func := "loop.example/g00904/laws.FnExactGridOf", spec := "fnExactGridOf", plainKeys := false, apart := false, narrowed := true }
def FnExactGridOfUptoSaid : Prop := fnExactGridOfUptoRow.holds Try.pinned (OpenSpec.upto fnExactGridOfSpec)

/-- 'laws.FnExactChunkCount', WHERE WHAT IT READS IS OF BULK AT MOST 1048576: true; the input reads as it did. -/
def fnExactChunkCountUptoRow : OpenClaim := { program := "ytmghbgnalkkppaa", sum := "bbfddfa784aa1b1ad733c544f459402d2022929431276d5c33c78c3f92c9ef18", func := "loop.example/g00904/laws.FnExactChunkCount", spec := "fnExactChunkCount", plainKeys := false, apart := false, narrowed := true }
def FnExactChunkCountUptoSaid : Prop := fnExactChunkCountUptoRow.holds Try.pinned (OpenSpec.upto fnExactChunkCountSpec)

/-- 'laws.FnExactChunkKeys', WHERE WHAT IT READS IS OF BULK AT MOST 1048576: true; the input reads as it did. -/
def fnExactChunkKeysUptoRow : OpenClaim := { program := "ytmghbgnalkkppaa", sum := "bbfddfa784aa1b1ad733c544f459402d2022929431276d5c33c78c3f92c9ef18", func := "loop.example/g00904/laws.FnExactChunkKeys", spec := "fnExactChunkKeys", unfollowed := true, recurses := true, plainKeys := false, apart := false, narrowed := true }
def FnExactChunkKeysUptoSaid : Prop := fnExactChunkKeysUptoRow.holds Try.pinned (OpenSpec.upto fnExactChunkKeysSpec)

/-- 'laws.FnExactChunkOf', WHERE WHAT IT READS IS OF BULK AT MOST 1048576: true; the input reads as it did. -/
def fnExactChunkOfUptoRow : OpenClaim := { program := "ytmghbgnalkkppaa", sum := "bbfddfa784aa1b1ad733c544f459402d2022929431276d5c33c78c3f92c9ef18", func := "loop.example/g00904/laws.FnExactChunkOf", spec := "fnExactChunkOf", plainKeys := false, apart := false, narrowed := true }
def FnExactChunkOfUptoSaid : Prop := fnExactChunkOfUptoRow.holds Try.pinned (OpenSpec.upto fnExactChunkOfSpec)

/-- 'laws.FnExactChunkBox', WHERE WHAT IT READS IS OF BULK AT MOST 1048576: true; the input reads as it did. -/
def fnExactChunkBoxUptoRow : OpenClaim := { program := "ytmghbgnalkkppaa", sum := "bbfddfa784aa1b1ad733c544f459402d2022929431276d5c33c78c3f92c9ef18", func := "loop.example/g00904/laws.FnExactChunkBox", spec := "fnExactChunkBox", unfollowed := true, recurses := true, plainKeys := false, apart := false, narrowed := true }
def FnExactChunkBoxUptoSaid : Prop := fnExactChunkBoxUptoRow.holds Try.pinned (OpenSpec.upto fnExactChunkBoxSpec)

/-- 'laws.FnExactChunksLost', WHERE WHAT IT READS IS OF BULK AT MOST 1048576: true; the input reads as it did. -/
def fnExactChunksLostUptoRow : OpenClaim := { program := "ytmghbgnalkkppaa", sum := "bbfddfa784aa1b1ad733c544f459402d2022929431276d5c33c78c3f92c9ef18", func := "loop.example/g00904/laws.FnExactChunksLost", spec := "fnExactChunksLost", unfollowed := true, recurses := true, plainKeys := false, apart := false, narrowed := true }
def FnExactChunksLostUptoSaid : Prop := fnExactChunksLostUptoRow.holds Try.pinned (OpenSpec.upto fnExactChunksLostSpec)

/-- 'laws.FnExactElementsLost', WHERE WHAT IT READS IS OF BULK AT MOST 1048576: true; the input reads as it did. -/
def fnExactElementsLostUptoRow : OpenClaim := { program := "ytmghbgnalkkppaa", sum := "bbfddfa784aa1b1ad733c544f459402d2022929431276d5c33c78c3f92c9ef18", func := "loop.example/g00904/laws.FnExactElementsLost", spec := "fnExactElementsLost", unfollowed := true, recurses := true, plainKeys := false, apart := false, narrowed := true }
def FnExactElementsLostUptoSaid : Prop := fnExactElementsLostUptoRow.holds Try.pinned (OpenSpec.upto fnExactElementsLostSpec)

end Rows
end Go.Proofs.Ytmghbgnalkkppaa
