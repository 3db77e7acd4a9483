/-
  NARROWER THAN 'FOR EVERY INPUT', by the rows' own cells (each row's printed sentence says how): FnExactValidType: loops · FnExactSameType: loops · FnExactTypeSize: loops · FnExactTypeDepth: loops · FnExactPackedType: loops · FnExactEncodeType: loops.
  DERIVED. THE GIVEN ROWS OF THIS SEAT. 7 by the template 'for every input the law returns true; each argument reads behind the call as it read before'; 0 by the template 'total and deterministic' (their statements: YtiloihepjjhdlaaTotals.lean).
  GIVEN WITH THE SEED: the statements are not yours to turn. If you find one false, say at which input.
  Laid BY PROGRAM, IN A SANDBOX (cutbox-rows.mjs): the forced cells as the released guide's own fill.sh prints them over the translation 90e4d70dd021e9bc… (all of the seat's roots in one cut). By AI agents, Wed Nov 11 2026. No macro, syntax, notation, axiom, sorry.
-/
import Derived.Test.YtiloihepjjhdlaaChecked
import GoSem.Claim
import GoSem.ClaimJoined
import GoSem.ClaimMapViews
import Derived.JoinedTies
import Derived.KernelRfl
namespace Go.Proofs.Ytiloihepjjhdlaa
/- THE CELL 'sum', in the pinned program and in every row, IS THE sha256 OF THE DUMP (.gsa) THAT YtiloihepjjhdlaaProg.lean LOADS. Nothing in Lean hashes anything: it is a label: what it is worth is what the hold of that sum in a sandbox is worth. -/
noncomputable def Try.pinned : Pinned := { name := "ytiloihepjjhdlaa", sum := "90e4d70dd021e9bc93018335b00a1351e1e9d02d87394c76b2474187c9c01364", checked := Try.checked }
namespace Rows
def none {H : Type} : Left H := { results := [], args := [] }

/-- 'laws.FnExactCrc32': WHATEVER THE INPUT: true; the input reads as it did. -/
def fnExactCrc32Spec : ChangeSpec := { name := "fnExactCrc32", fn := fun _ => fun
  | [d] => { results := [.lit (.bool true)], args := [d] }
  | _ => none }
def fnExactCrc32Row : OpenClaim := { program := "ytiloihepjjhdlaa", sum := "90e4d70dd021e9bc93018335b00a1351e1e9d02d87394c76b2474187c9c01364", func := "loop.example/g00904/laws.FnExactCrc32", spec := "fnExactCrc32", unfollowed := true, recurses := true, plainKeys := false, apart := false }
def FnExactCrc32Said : Prop := fnExactCrc32Row.holds Try.pinned (OpenSpec.ofChange fnExactCrc32Spec)

/-- ITS FALSE NEIGHBOUR: 'it returns false'. Refute it at one input. -/
def fnExactCrc32Wrong : ChangeSpec := { name := "fnExactCrc32", fn := fun _ => fun
  | [d] => { results := [.lit (.bool false)], args := [d] }
  | _ => none }
def FnExactCrc32WrongFalsely : Prop := fnExactCrc32Row.holds Try.pinned (OpenSpec.ofChange fnExactCrc32Wrong)

/-- 'laws.FnExactValidType': WHATEVER THE INPUT: true; the input reads as it did. -/
def fnExactValidTypeSpec : ChangeSpec := { name := "fnExactValidType", fn := fun _ => fun
  | [d] => { results := [.lit (.bool true)], args := [d] }
  | _ => none }
def fnExactValidTypeRow : OpenClaim := { program := "ytiloihepjjhdlaa", sum := "90e4d70dd021e9bc93018335b00a1351e1e9d02d87394c76b2474187c9c01364", func := "loop.example/g00904/laws.FnExactValidType", spec := "fnExactValidType", unfollowed := true, recurses := true, loops := true, plainKeys := false, apart := false }
def FnExactValidTypeSaid : Prop := fnExactValidTypeRow.holds Try.pinned (OpenSpec.ofChange fnExactValidTypeSpec)

/-- ITS FALSE NEIGHBOUR: 'it returns false'. Refute it at one input. -/
def fnExactValidTypeWrong : ChangeSpec := { name := "fnExactValidType", fn := fun _ => fun
  | [d] => { results := [.lit (.bool false)], args := [d] }
  | _ => none }
def FnExactValidTypeWrongFalsely : Prop := fnExactValidTypeRow.holds Try.pinned (OpenSpec.ofChange fnExactValidTypeWrong)

/-- 'laws.FnExactSameType': WHATEVER THE INPUT: true; the input reads as it did. -/
def fnExactSameTypeSpec : ChangeSpec := { name := "fnExactSameType", fn := fun _ => fun
  | [d1, d2] => { results := [.lit (.bool true)], args := [d1, d2] }
  | _ => none }
def fnExactSameTypeRow : OpenClaim := { program := "ytiloihepjjhdlaa", sum := "90e4d70dd021e9bc93018335b00a1351e1e9d02d87394c76b2474187c9c01364", func := "loop.example/g00904/laws.FnExactSameType", spec := "fnExactSameType", unfollowed := true, recurses := true, loops := true, plainKeys := false, apart := false }
def FnExactSameTypeSaid : Prop := fnExactSameTypeRow.holds Try.pinned (OpenSpec.ofChange fnExactSameTypeSpec)

/-- ITS FALSE NEIGHBOUR: 'it returns false'. Refute it at one input. -/
def fnExactSameTypeWrong : ChangeSpec := { name := "fnExactSameType", fn := fun _ => fun
  | [d1, d2] => { results := [.lit (.bool false)], args := [d1, d2] }
  | _ => none }
def FnExactSameTypeWrongFalsely : Prop := fnExactSameTypeRow.holds Try.pinned (OpenSpec.ofChange fnExactSameTypeWrong)

/-- 'laws.FnExactTypeSize': WHATEVER THE INPUT: true; the input reads as it did. -/
def fnExactTypeSizeSpec : ChangeSpec := { name := "fnExactTypeSize", fn := fun _ => fun
  | [d] => { results := [.lit (.bool true)], args := [d] }
  | _ => none }
def fnExactTypeSizeRow : OpenClaim := { program := "ytiloihepjjhdlaa", sum := "90e4d70dd021e9bc93018335b00a1351e1e9d02d87394c76b2474187c9c01364", func := "loop.example/g00904/laws.FnExactTypeSize", spec := "fnExactTypeSize", unfollowed := true, recurses := true, loops := true, plainKeys := false, apart := false }
def FnExactTypeSizeSaid : Prop := fnExactTypeSizeRow.holds Try.pinned (OpenSpec.ofChange fnExactTypeSizeSpec)

/-- ITS FALSE NEIGHBOUR: 'it returns false'. Refute it at one input. -/
def fnExactTypeSizeWrong : ChangeSpec := { name := "fnExactTypeSize", fn := fun _ => fun
  | [d] => { results := [.lit (.bool false)], args := [d] }
  | _ => none }
def FnExactTypeSizeWrongFalsely : Prop := fnExactTypeSizeRow.holds Try.pinned (OpenSpec.ofChange fnExactTypeSizeWrong)

/-- 'laws.FnExactTypeDepth': WHATEVER THE INPUT: true; the input reads as it did. -/
def fnExactTypeDepthSpec : ChangeSpec := { name := "fnExactTypeDepth", fn := fun _ => fun
  | [d] => { results := [.lit (.bool true)], args := [d] }
  | _ => none }
def fnExactTypeDepthRow : OpenClaim := { program := "ytiloihepjjhdlaa", sum := "90e4d70dd021e9bc93018335b00a1351e1e9d02d87394c76b2474187c9c01364", func := "loop.example/g00904/laws.FnExactTypeDepth", spec := "fnExactTypeDepth", unfollowed := true, recurses := true, loops := true, plainKeys := false, apart := false }
def FnExactTypeDepthSaid : Prop := fnExactTypeDepthRow.holds Try.pinned (OpenSpec.ofChange fnExactTypeDepthSpec)

/-- ITS FALSE NEIGHBOUR: 'it returns false'. Refute it at one input. -/
def fnExactTypeDepthWrong : ChangeSpec := { name := "fnExactTypeDepth", fn := fun _ => fun
  | [d] => { results := [.lit (.bool false)], args := [d] }
  | _ => none }
def FnExactTypeDepthWrongFalsely : Prop := fnExactTypeDepthRow.holds Try.pinned (OpenSpec.ofChange fnExactTypeDepthWrong)

/-- 'laws.FnExactPackedType': WHATEVER THE INPUT: true; the input reads as it did. -/
def fnExactPackedTypeSpec : ChangeSpec := { name := "fnExactPackedType", fn := fun _ => fun
  | [d] => { results := [.lit (.bool true)], args := [d] }
  | _ => none }
def fnExactPackedTypeRow : OpenClaim := { program := "ytiloihepjjhdlaa", sum := "90e4d70dd021e9bc93018335b00a1351e1e9d02d87394c76b2474187c9c01364", func := "loop.example/g00904/laws.FnExactPackedType", spec := "fnExactPackedType", unfollowed := true, recurses := true, loops := true, plainKeys := false, apart := false }
def FnExactPackedTypeSaid : Prop := fnExactPackedTypeRow.holds Try.pinned (OpenSpec.ofChange fnExactPackedTypeSpec)

/-- ITS FALSE NEIGHBOUR: 'it returns false'. Refute it at one input. -/
def fnExactPackedTypeWrong : ChangeSpec := { name := "fnExactPackedType", fn := fun _ => fun
  | [d] => { results := [.lit (.bool false)], args := [d] }
  | _ => none }
def FnExactPackedTypeWrongFalsely : Prop := fnExactPackedTypeRow.holds Try.pinned (OpenSpec.ofChange fnExactPackedTypeWrong)

/-- 'laws.FnExactEncodeType': WHATEVER THE INPUT: true; the input reads as it did. -/
def fnExactEncodeTypeSpec : ChangeSpec := { name := "fnExactEncodeType", fn := fun _ => fun
  | [d] => { results := [.lit (.bool true)], args := [d] }
  | _ => none }
def fnExactEncodeTypeRow : OpenClaim := { program := "ytiloihepjjhdlaa", sum := "90e4d70dd021e9bc93018335b00a1351e1e9d02d87394c76b2474187c9c01364", func := "loop.example/g00904/laws.FnExactEncodeType", spec := "fnExactEncodeType", unfollowed := true, recurses := true, loops := true, plainKeys := false, apart := false }
def FnExactEncodeTypeSaid : Prop := fnExactEncodeTypeRow.holds Try.pinned (OpenSpec.ofChange fnExactEncodeTypeSpec)

/-- ITS FALSE NEIGHBOUR: 'it returns false'. Refute it at one input. -/
def fnExactEncodeTypeWrong : ChangeSpec := { name := "fnExactEncodeType", fn := fun _ => fun
  | [d] => { results := [.lit (.bool false)], args := [d] }
  | _ => none }
def FnExactEncodeTypeWrongFalsely : Prop := fnExactEncodeTypeRow.holds Try.pinned (OpenSpec.ofChange fnExactEncodeTypeWrong)

/- THE SECOND FORM. 'bulk': how many values and letters a reading holds, each counted each time it is reached (what is shared counts as often as it is met; a slice's spare places count too). A statement '..UptoSaid' is the law's where the arguments, and the package variables that the reading takes, are together of bulk at most 1048576: NARROWER than '..Said'. Prove '..Said' where nothing that the law and all that it calls make is longer than what came in: it says more and counts as full. Else prove '..UptoSaid'. A law counts once. -/
mutual
def uptoBulk {H : Type} : DataW H → Nat
  | .lit (.string bytes) => bytes.length + 1
  | .lit _ => 1
  | .nil => 1
  | .ptr d => uptoBulk d + 1
  | .slice elems spare => uptoBulkAll elems + uptoBulkAll spare + 1
  | .agg parts => uptoBulkAll parts + 1
  | .iface _ d => uptoBulk d + 1
  | .map entries => uptoBulkEntries entries + 1
  | .held _ => 1
def uptoBulkAll {H : Type} : List (DataW H) → Nat
  | [] => 0
  | d :: r => uptoBulk d + uptoBulkAll r
def uptoBulkEntries {H : Type} : List (Lit × DataW H) → Nat
  | [] => 0
  | x :: r => uptoBulkEntry x + uptoBulkEntries r
def uptoBulkEntry {H : Type} : Lit × DataW H → Nat
  | (.string bytes, d) => bytes.length + uptoBulk d + 1
  | (_, d) => uptoBulk d + 1
 end
def uptoSmall : (H : Type) → List (DataW H) → Bool := fun _ ds => decide (uptoBulkAll ds ≤ 1048576)
def OpenSpec.upto (s : _root_.Go.ChangeSpec) : _root_.Go.OpenSpec := { _root_.Go.OpenSpec.ofChange s with cond := some uptoSmall }

/-- 'laws.FnExactCrc32', WHERE WHAT IT READS IS OF BULK AT MOST 1048576: true; the input reads as it did. -/
def fnExactCrc32UptoRow : OpenClaim := { program := "ytiloihepjjhdlaa", sum := "90e4d70dd021e9bc93018335b00a1351e1e9d02d87394c76b2474187c9c01364", func := "loop.example/g00904/laws.FnExactCrc32", spec := "fnExactCrc32", unfollowed := true, recurses := true, plainKeys := false, apart := false, narrowed := true }
def FnExactCrc32UptoSaid : Prop := fnExactCrc32UptoRow.holds Try.pinned (OpenSpec.upto fnExactCrc32Spec)

/-- 'laws.FnExactValidType', WHERE WHAT IT READS IS OF BULK AT MOST 1048576: true; the input reads as it did. -/
def fnExactValidTypeUptoRow : OpenClaim := { program := "ytiloihepjjhdlaa", sum := "90e4d70dd021e9bc93018335b00a1351e1e9d02d87394c76b2474187c9c01364", func := "loop.example/g00904/laws.FnExactValidType", spec := "fnExactValidType", unfollowed := true, recurses := true, loops := true, plainKeys := false, apart := false, narrowed := true }
def FnExactValidTypeUptoSaid : Prop := fnExactValidTypeUptoRow.holds Try.pinned (OpenSpec.upto fnExactValidTypeSpec)

/-- 'laws.FnExactSameType', WHERE WHAT IT READS IS OF BULK AT MOST 1048576: true; the input reads as it did. -/
def fnExactSameTypeUptoRow : OpenClaim := { program := "ytiloihepjjhdlaa", sum := "90e4d70dd021e9bc93018335b00a1351e1e9d02d87394c76b2474187c9c01364", func := "loop.example/g00904/laws.FnExactSameType", spec := "fnExactSameType", unfollowed := true, recurses := true, loops := true, plainKeys := false, apart := false, narrowed := true }
def FnExactSameTypeUptoSaid : Prop := fnExactSameTypeUptoRow.holds Try.pinned (OpenSpec.upto fnExactSameTypeSpec)

/-- 'laws.FnExactTypeSize', WHERE WHAT IT READS IS OF BULK AT MOST 1048576: true; the input reads as it did. -/
def fnExactTypeSizeUptoRow : OpenClaim := { program := "ytiloihepjjhdlaa", sum := "90e4d70dd021e9bc93018335b00a1351e1e9d02d87394c76b2474187c9c01364", func := "loop.example/g00904/laws.FnExactTypeSize", spec := "fnExactTypeSize", unfollowed := true, recurses := true, loops := true, plainKeys := false, apart := false, narrowed := true }
def FnExactTypeSizeUptoSaid : Prop := fnExactTypeSizeUptoRow.holds Try.pinned (OpenSpec.upto fnExactTypeSizeSpec)

/-- 'laws.FnExactTypeDepth', WHERE WHAT IT READS IS OF BULK AT MOST 1048576: true; the input reads as it did. -/
def fnExactTypeDepthUptoRow : OpenClaim := { program := "ytiloihepjjhdlaa", sum := "90e4d70dd021e9bc93018335b00a1351e1e9d02d87394c76b2474187c9c01364", func := "loop.example/g00904/laws.FnExactTypeDepth", spec := "fnExactTypeDepth", unfollowed := true, recurses := true, loops := true, plainKeys := false, apart := false, narrowed := true }
def FnExactTypeDepthUptoSaid : Prop := fnExactTypeDepthUptoRow.holds Try.pinned (OpenSpec.upto fnExactTypeDepthSpec)

/-- 'laws.FnExactPackedType', WHERE WHAT IT READS IS OF BULK AT MOST 1048576: true; the input reads as it did. -/
def fnExactPackedTypeUptoRow : OpenClaim := { program := "ytiloihepjjhdlaa", sum := "90e4d70dd021e9bc93018335b00a1351e1e9d02d87394c76b2474187c9c01364", func := "loop.example/g00904/laws.FnExactPackedType", spec := "fnExactPackedType", unfollowed := true, recurses := true, loops := true, plainKeys := false, apart := false, narrowed := true }
def FnExactPackedTypeUptoSaid : Prop := fnExactPackedTypeUptoRow.holds Try.pinned (OpenSpec.upto fnExactPackedTypeSpec)

/-- 'laws.FnExactEncodeType', WHERE WHAT IT READS IS OF BULK AT MOST 1048576: true; the input reads as it did. -/
def fnExactEncodeTypeUptoRow : OpenClaim := { program := "ytiloihepjjhdlaa", sum := "90e4d70dd021e9bc93018335b00a1351e1e9d02d87394c76b2474187c9c01364", func := "loop.example/g00904/laws.FnExactEncodeType", spec := "fnExactEncodeType", unfollowed := true, recurses := true, loops := true, plainKeys := false, apart := false, narrowed := true }
def FnExactEncodeTypeUptoSaid : Prop := fnExactEncodeTypeUptoRow.holds Try.pinned (OpenSpec.upto fnExactEncodeTypeSpec)

end Rows
end Go.Proofs.Ytiloihepjjhdlaa
