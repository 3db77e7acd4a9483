/-
  No cell of these rows narrows 'for every input' (looked for: loops, veiled, ifaces, maps, wideKeys, modest, calm, conditions, laid).
  DERIVED. THE GIVEN ROWS OF THIS SEAT. 11 by the template 'for every input the law returns true; each argument reads behind the call as it read before'; 0 by the template 'total and deterministic' (their statements: YtjfkfnmbppmbpaaTotals.lean).
  GIVEN WITH THE SEED: the statements are not yours to turn. If you find one false, say at which input.
  Laid BY PROGRAM, IN A SANDBOX (cutbox-rows.mjs): the forced cells as the released guide's own fill.sh prints them over the translation e9592aebdd01d47e… (all of the seat's roots in one cut). By AI agents, Wed Nov 11 2026. No macro, syntax, notation, axiom, sorry.
-/
import Derived.Test.YtjfkfnmbppmbpaaChecked
import GoSem.Claim
import GoSem.ClaimJoined
import GoSem.ClaimMapViews
import Derived.JoinedTies
import Derived.KernelRfl
namespace Go.Proofs.Ytjfkfnmbppmbpaa
/- THE CELL 'sum', in the pinned program and in every row, IS THE sha256 OF THE DUMP (.gsa) THAT YtjfkfnmbppmbpaaProg.lean LOADS. Nothing in Lean hashes anything: it is a label: what it is worth is what the hold of that sum in a sandbox is worth. -/
noncomputable def Try.pinned : Pinned := { name := "ytjfkfnmbppmbpaa", sum := "e9592aebdd01d47e08f1f1471ae8c36ee53c273e71c97ada26c727e385764bdc", checked := Try.checked }
namespace Rows
def none {H : Type} : Left H := { results := [], args := [] }

/-- 'laws.FnIntegers': WHATEVER THE INPUT: true; the input reads as it did. -/
def fnIntegersSpec : ChangeSpec := { name := "fnIntegers", fn := fun _ => fun
  | [d1, d2] => { results := [.lit (.bool true)], args := [d1, d2] }
  | _ => none }
def fnIntegersRow : OpenClaim := { program := "ytjfkfnmbppmbpaa", sum := "e9592aebdd01d47e08f1f1471ae8c36ee53c273e71c97ada26c727e385764bdc", func := "loop.example/g00904/laws.FnIntegers", spec := "fnIntegers", apart := false }
def FnIntegersSaid : Prop := fnIntegersRow.holds Try.pinned (OpenSpec.ofChange fnIntegersSpec)

/-- ITS FALSE NEIGHBOUR: 'it returns false'. Refute it at one input. -/
def fnIntegersWrong : ChangeSpec := { name := "fnIntegers", fn := fun _ => fun
  | [d1, d2] => { results := [.lit (.bool false)], args := [d1, d2] }
  | _ => none }
def FnIntegersWrongFalsely : Prop := fnIntegersRow.holds Try.pinned (OpenSpec.ofChange fnIntegersWrong)

/-- 'laws.FnHex': WHATEVER THE INPUT: true; the input reads as it did. -/
def fnHexSpec : ChangeSpec := { name := "fnHex", fn := fun _ => fun
  | [d] => { results := [.lit (.bool true)], args := [d] }
  | _ => none }
def fnHexRow : OpenClaim := { program := "ytjfkfnmbppmbpaa", sum := "e9592aebdd01d47e08f1f1471ae8c36ee53c273e71c97ada26c727e385764bdc", func := "loop.example/g00904/laws.FnHex", spec := "fnHex", inPlace := ["internal/bytealg.IndexByteString"], apart := false }
def FnHexSaid : Prop := fnHexRow.holds Try.pinned (OpenSpec.ofChange fnHexSpec)

/-- ITS FALSE NEIGHBOUR: 'it returns false'. Refute it at one input. -/
def fnHexWrong : ChangeSpec := { name := "fnHex", fn := fun _ => fun
  | [d] => { results := [.lit (.bool false)], args := [d] }
  | _ => none }
def FnHexWrongFalsely : Prop := fnHexRow.holds Try.pinned (OpenSpec.ofChange fnHexWrong)

/-- 'laws.FnExactPutUint': WHATEVER THE INPUT: true; the input reads as it did. -/
def fnExactPutUintSpec : ChangeSpec := { name := "fnExactPutUint", fn := fun _ => fun
  | [d1, d2] => { results := [.lit (.bool true)], args := [d1, d2] }
  | _ => none }
def fnExactPutUintRow : OpenClaim := { program := "ytjfkfnmbppmbpaa", sum := "e9592aebdd01d47e08f1f1471ae8c36ee53c273e71c97ada26c727e385764bdc", func := "loop.example/g00904/laws.FnExactPutUint", spec := "fnExactPutUint", apart := false }
def FnExactPutUintSaid : Prop := fnExactPutUintRow.holds Try.pinned (OpenSpec.ofChange fnExactPutUintSpec)

/-- ITS FALSE NEIGHBOUR: 'it returns false'. Refute it at one input. -/
def fnExactPutUintWrong : ChangeSpec := { name := "fnExactPutUint", fn := fun _ => fun
  | [d1, d2] => { results := [.lit (.bool false)], args := [d1, d2] }
  | _ => none }
def FnExactPutUintWrongFalsely : Prop := fnExactPutUintRow.holds Try.pinned (OpenSpec.ofChange fnExactPutUintWrong)

/-- 'laws.FnExactGetUint': WHATEVER THE INPUT: true; the input reads as it did. -/
def fnExactGetUintSpec : ChangeSpec := { name := "fnExactGetUint", fn := fun _ => fun
  | [d1, d2, d3] => { results := [.lit (.bool true)], args := [d1, d2, d3] }
  | _ => none }
def fnExactGetUintRow : OpenClaim := { program := "ytjfkfnmbppmbpaa", sum := "e9592aebdd01d47e08f1f1471ae8c36ee53c273e71c97ada26c727e385764bdc", func := "loop.example/g00904/laws.FnExactGetUint", spec := "fnExactGetUint", apart := false }
def FnExactGetUintSaid : Prop := fnExactGetUintRow.holds Try.pinned (OpenSpec.ofChange fnExactGetUintSpec)

/-- ITS FALSE NEIGHBOUR: 'it returns false'. Refute it at one input. -/
def fnExactGetUintWrong : ChangeSpec := { name := "fnExactGetUint", fn := fun _ => fun
  | [d1, d2, d3] => { results := [.lit (.bool false)], args := [d1, d2, d3] }
  | _ => none }
def FnExactGetUintWrongFalsely : Prop := fnExactGetUintRow.holds Try.pinned (OpenSpec.ofChange fnExactGetUintWrong)

/-- 'laws.FnExactPutInt': WHATEVER THE INPUT: true; the input reads as it did. -/
def fnExactPutIntSpec : ChangeSpec := { name := "fnExactPutInt", fn := fun _ => fun
  | [d1, d2] => { results := [.lit (.bool true)], args := [d1, d2] }
  | _ => none }
def fnExactPutIntRow : OpenClaim := { program := "ytjfkfnmbppmbpaa", sum := "e9592aebdd01d47e08f1f1471ae8c36ee53c273e71c97ada26c727e385764bdc", func := "loop.example/g00904/laws.FnExactPutInt", spec := "fnExactPutInt", apart := false }
def FnExactPutIntSaid : Prop := fnExactPutIntRow.holds Try.pinned (OpenSpec.ofChange fnExactPutIntSpec)

/-- ITS FALSE NEIGHBOUR: 'it returns false'. Refute it at one input. -/
def fnExactPutIntWrong : ChangeSpec := { name := "fnExactPutInt", fn := fun _ => fun
  | [d1, d2] => { results := [.lit (.bool false)], args := [d1, d2] }
  | _ => none }
def FnExactPutIntWrongFalsely : Prop := fnExactPutIntRow.holds Try.pinned (OpenSpec.ofChange fnExactPutIntWrong)

/-- 'laws.FnExactGetInt': WHATEVER THE INPUT: true; the input reads as it did. -/
def fnExactGetIntSpec : ChangeSpec := { name := "fnExactGetInt", fn := fun _ => fun
  | [d1, d2, d3] => { results := [.lit (.bool true)], args := [d1, d2, d3] }
  | _ => none }
def fnExactGetIntRow : OpenClaim := { program := "ytjfkfnmbppmbpaa", sum := "e9592aebdd01d47e08f1f1471ae8c36ee53c273e71c97ada26c727e385764bdc", func := "loop.example/g00904/laws.FnExactGetInt", spec := "fnExactGetInt", apart := false }
def FnExactGetIntSaid : Prop := fnExactGetIntRow.holds Try.pinned (OpenSpec.ofChange fnExactGetIntSpec)

/-- ITS FALSE NEIGHBOUR: 'it returns false'. Refute it at one input. -/
def fnExactGetIntWrong : ChangeSpec := { name := "fnExactGetInt", fn := fun _ => fun
  | [d1, d2, d3] => { results := [.lit (.bool false)], args := [d1, d2, d3] }
  | _ => none }
def FnExactGetIntWrongFalsely : Prop := fnExactGetIntRow.holds Try.pinned (OpenSpec.ofChange fnExactGetIntWrong)

/-- 'laws.FnExactReverseBytes': WHATEVER THE INPUT: true; the input reads as it did. -/
def fnExactReverseBytesSpec : ChangeSpec := { name := "fnExactReverseBytes", fn := fun _ => fun
  | [d] => { results := [.lit (.bool true)], args := [d] }
  | _ => none }
def fnExactReverseBytesRow : OpenClaim := { program := "ytjfkfnmbppmbpaa", sum := "e9592aebdd01d47e08f1f1471ae8c36ee53c273e71c97ada26c727e385764bdc", func := "loop.example/g00904/laws.FnExactReverseBytes", spec := "fnExactReverseBytes", apart := false }
def FnExactReverseBytesSaid : Prop := fnExactReverseBytesRow.holds Try.pinned (OpenSpec.ofChange fnExactReverseBytesSpec)

/-- ITS FALSE NEIGHBOUR: 'it returns false'. Refute it at one input. -/
def fnExactReverseBytesWrong : ChangeSpec := { name := "fnExactReverseBytes", fn := fun _ => fun
  | [d] => { results := [.lit (.bool false)], args := [d] }
  | _ => none }
def FnExactReverseBytesWrongFalsely : Prop := fnExactReverseBytesRow.holds Try.pinned (OpenSpec.ofChange fnExactReverseBytesWrong)

/-- 'laws.FnExactPadBytes': WHATEVER THE INPUT: true; the input reads as it did. -/
def fnExactPadBytesSpec : ChangeSpec := { name := "fnExactPadBytes", fn := fun _ => fun
  | [d1, d2] => { results := [.lit (.bool true)], args := [d1, d2] }
  | _ => none }
def fnExactPadBytesRow : OpenClaim := { program := "ytjfkfnmbppmbpaa", sum := "e9592aebdd01d47e08f1f1471ae8c36ee53c273e71c97ada26c727e385764bdc", func := "loop.example/g00904/laws.FnExactPadBytes", spec := "fnExactPadBytes", inPlace := ["internal/abi.NoEscape", "internal/bytealg.MakeNoZero"], apart := false }
def FnExactPadBytesSaid : Prop := fnExactPadBytesRow.holds Try.pinned (OpenSpec.ofChange fnExactPadBytesSpec)

/-- ITS FALSE NEIGHBOUR: 'it returns false'. Refute it at one input. -/
def fnExactPadBytesWrong : ChangeSpec := { name := "fnExactPadBytes", fn := fun _ => fun
  | [d1, d2] => { results := [.lit (.bool false)], args := [d1, d2] }
  | _ => none }
def FnExactPadBytesWrongFalsely : Prop := fnExactPadBytesRow.holds Try.pinned (OpenSpec.ofChange fnExactPadBytesWrong)

/-- 'laws.FnExactHexText': WHATEVER THE INPUT: true; the input reads as it did. -/
def fnExactHexTextSpec : ChangeSpec := { name := "fnExactHexText", fn := fun _ => fun
  | [d] => { results := [.lit (.bool true)], args := [d] }
  | _ => none }
def fnExactHexTextRow : OpenClaim := { program := "ytjfkfnmbppmbpaa", sum := "e9592aebdd01d47e08f1f1471ae8c36ee53c273e71c97ada26c727e385764bdc", func := "loop.example/g00904/laws.FnExactHexText", spec := "fnExactHexText", apart := false }
def FnExactHexTextSaid : Prop := fnExactHexTextRow.holds Try.pinned (OpenSpec.ofChange fnExactHexTextSpec)

/-- ITS FALSE NEIGHBOUR: 'it returns false'. Refute it at one input. -/
def fnExactHexTextWrong : ChangeSpec := { name := "fnExactHexText", fn := fun _ => fun
  | [d] => { results := [.lit (.bool false)], args := [d] }
  | _ => none }
def FnExactHexTextWrongFalsely : Prop := fnExactHexTextRow.holds Try.pinned (OpenSpec.ofChange fnExactHexTextWrong)

/-- 'laws.FnExactReadHex': WHATEVER THE INPUT: true; the input reads as it did. -/
def fnExactReadHexSpec : ChangeSpec := { name := "fnExactReadHex", fn := fun _ => fun
  | [d] => { results := [.lit (.bool true)], args := [d] }
  | _ => none }
def fnExactReadHexRow : OpenClaim := { program := "ytjfkfnmbppmbpaa", sum := "e9592aebdd01d47e08f1f1471ae8c36ee53c273e71c97ada26c727e385764bdc", func := "loop.example/g00904/laws.FnExactReadHex", spec := "fnExactReadHex", inPlace := ["internal/bytealg.IndexByteString"], apart := false }
def FnExactReadHexSaid : Prop := fnExactReadHexRow.holds Try.pinned (OpenSpec.ofChange fnExactReadHexSpec)

/-- ITS FALSE NEIGHBOUR: 'it returns false'. Refute it at one input. -/
def fnExactReadHexWrong : ChangeSpec := { name := "fnExactReadHex", fn := fun _ => fun
  | [d] => { results := [.lit (.bool false)], args := [d] }
  | _ => none }
def FnExactReadHexWrongFalsely : Prop := fnExactReadHexRow.holds Try.pinned (OpenSpec.ofChange fnExactReadHexWrong)

/-- 'laws.FnExactIsName': WHATEVER THE INPUT: true; the input reads as it did. -/
def fnExactIsNameSpec : ChangeSpec := { name := "fnExactIsName", fn := fun _ => fun
  | [d] => { results := [.lit (.bool true)], args := [d] }
  | _ => none }
def fnExactIsNameRow : OpenClaim := { program := "ytjfkfnmbppmbpaa", sum := "e9592aebdd01d47e08f1f1471ae8c36ee53c273e71c97ada26c727e385764bdc", func := "loop.example/g00904/laws.FnExactIsName", spec := "fnExactIsName", apart := false }
def FnExactIsNameSaid : Prop := fnExactIsNameRow.holds Try.pinned (OpenSpec.ofChange fnExactIsNameSpec)

/-- ITS FALSE NEIGHBOUR: 'it returns false'. Refute it at one input. -/
def fnExactIsNameWrong : ChangeSpec := { name := "fnExactIsName", fn := fun _ => fun
  | [d] => { results := [.lit (.bool false)], args := [d] }
  | _ => none }
def FnExactIsNameWrongFalsely : Prop := fnExactIsNameRow.holds Try.pinned (OpenSpec.ofChange fnExactIsNameWrong)

/- THE SECOND FORM. 'bulk': how many values and letters a reading holds, each counted each time it is reached (what is shared counts as often as it is met; a slice's spare places count too). A statement '..UptoSaid' is the law's where the arguments, and the package variables that the reading takes, are together of bulk at most 1048576: NARROWER than '..Said'. Prove '..Said' where nothing that the law and all that it calls make is longer than what came in: it says more and counts as full. Else prove '..UptoSaid'. A law counts once. -/
mutual
def uptoBulk {H : Type} : DataW H → Nat
  | .lit (.string bytes) => bytes.length + 1
  | .lit _ => 1
  | .nil => 1
  | .ptr d => uptoBulk d + 1
  | .slice elems spare => uptoBulkAll elems + uptoBulkAll spare + 1
  | .agg parts => uptoBulkAll parts + 1
  | .iface _ d => uptoBulk d + 1
  | .map entries => uptoBulkEntries entries + 1
  | .held _ => 1
def uptoBulkAll {H : Type} : List (DataW H) → Nat
  | [] => 0
  | d :: r => uptoBulk d + uptoBulkAll r
def uptoBulkEntries {H : Type} : List (Lit × DataW H) → Nat
  | [] => 0
  | x :: r => uptoBulkEntry x + uptoBulkEntries r
def uptoBulkEntry {H : Type} : Lit × DataW H → Nat
  | (.string bytes, d) => bytes.length + uptoBulk d + 1
  | (_, d) => uptoBulk d + 1
 end
def uptoSmall : (H : Type) → List (DataW H) → Bool := fun _ ds => decide (uptoBulkAll ds ≤ 1048576)
def OpenSpec.upto (s : _root_.Go.ChangeSpec) : _root_.Go.OpenSpec := { _root_.Go.OpenSpec.ofChange s with cond := some uptoSmall }

/-- 'laws.FnIntegers', WHERE WHAT IT READS IS OF BULK AT MOST 1048576: true; the input reads as it did. -/
def fnIntegersUptoRow : OpenClaim := { program := "ytjfkfnmbppmbpaa", sum := "e9592aebdd01d47e08f1f1471ae8c36ee53c273e71c97ada26c727e385764bdc", func := "loop.example/g00904/laws.FnIntegers", spec := "fnIntegers", apart := false, narrowed := true }
def FnIntegersUptoSaid : Prop := fnIntegersUptoRow.holds Try.pinned (OpenSpec.upto fnIntegersSpec)

/-- 'laws.FnHex', WHERE WHAT IT READS IS OF BULK AT MOST 1048576: true; the input reads as it did. -/
def fnHexUptoRow : OpenClaim := { program := "ytjfkfnmbppmbpaa", sum := "e9592aebdd01d47e08f1f1471ae8c36ee53c273e71c97ada26c727e385764bdc", func := "loop.example/g00904/laws.FnHex", spec := "fnHex", inPlace := ["internal/bytealg.IndexByteString"], apart := false, narrowed := true }
def FnHexUptoSaid : Prop := fnHexUptoRow.holds Try.pinned (OpenSpec.upto fnHexSpec)

/-- 'laws.FnExactPutUint', WHERE WHAT IT READS IS OF BULK AT MOST 1048576: true; the input reads as it did. -/
def fnExactPutUintUptoRow : OpenClaim := { program := "ytjfkfnmbppmbpaa", sum := "e9592aebdd01d47e08f1f1471ae8c36ee53c273e71c97ada26c727e385764bdc", func := "loop.example/g00904/laws.FnExactPutUint", spec := "fnExactPutUint", apart := false, narrowed := true }
def FnExactPutUintUptoSaid : Prop := fnExactPutUintUptoRow.holds Try.pinned (OpenSpec.upto fnExactPutUintSpec)

/-- 'laws.FnExactGetUint', WHERE WHAT IT READS IS OF BULK AT MOST 1048576: true; the input reads as it did. -/
def fnExactGetUintUptoRow : OpenClaim := { program := "ytjfkfnmbppmbpaa", sum := "e9592aebdd01d47e08f1f1471ae8c36ee53c273e71c97ada26c727e385764bdc", func := "loop.example/g00904/laws.FnExactGetUint", spec := "fnExactGetUint", apart := false, narrowed := true }
def FnExactGetUintUptoSaid : Prop := fnExactGetUintUptoRow.holds Try.pinned (OpenSpec.upto fnExactGetUintSpec)

/-- 'laws.FnExactPutInt', WHERE WHAT IT READS IS OF BULK AT MOST 1048576: true; the input reads as it did. -/
def fnExactPutIntUptoRow : OpenClaim := { program := "ytjfkfnmbppmbpaa", sum := "e9592aebdd01d47e08f1f1471ae8c36ee53c273e71c97ada26c727e385764bdc", func := "loop.example/g00904/laws.FnExactPutInt", spec := "fnExactPutInt", apart := false, narrowed := true }
def FnExactPutIntUptoSaid : Prop := fnExactPutIntUptoRow.holds Try.pinned (OpenSpec.upto fnExactPutIntSpec)

/-- 'laws.FnExactGetInt', WHERE WHAT IT READS IS OF BULK AT MOST 1048576: true; the input reads as it did. -/
def fnExactGetIntUptoRow : OpenClaim := { program := "ytjfkfnmbppmbpaa", sum := "e9592aebdd01d47e08f1f1471ae8c36ee53c273e71c97ada26c727e385764bdc", func := "loop.example/g00904/laws.FnExactGetInt", spec := "fnExactGetInt", apart := false, narrowed := true }
def FnExactGetIntUptoSaid : Prop := fnExactGetIntUptoRow.holds Try.pinned (OpenSpec.upto fnExactGetIntSpec)

/-- 'laws.FnExactReverseBytes', WHERE WHAT IT READS IS OF BULK AT MOST 1048576: true; the input reads as it did. -/
def fnExactReverseBytesUptoRow : OpenClaim := { program := "ytjfkfnmbppmbpaa", sum := "e9592aebdd01d47e08f1f1471ae8c36ee53c273e71c97ada26c727e385764bdc", func := "loop.example/g00904/laws.FnExactReverseBytes", spec := "fnExactReverseBytes", apart := false, narrowed := true }
def FnExactReverseBytesUptoSaid : Prop := fnExactReverseBytesUptoRow.holds Try.pinned (OpenSpec.upto fnExactReverseBytesSpec)

/-- 'laws.FnExactPadBytes', WHERE WHAT IT READS IS OF BULK AT MOST 1048576: true; the input reads as it did. -/
def fnExactPadBytesUptoRow : OpenClaim := { program := "ytjfkfnmbppmbpaa", sum := "e9592aebdd01d47e08f1f1471ae8c36ee53c273e71c97ada26c727e385764bdc", func := "loop.example/g00904/laws.FnExactPadBytes", spec := "fnExactPadBytes", inPlace := ["internal/abi.NoEscape", "internal/bytealg.MakeNoZero"], apart := false, narrowed := true }
def FnExactPadBytesUptoSaid : Prop := fnExactPadBytesUptoRow.holds Try.pinned (OpenSpec.upto fnExactPadBytesSpec)

/-- 'laws.FnExactHexText', WHERE WHAT IT READS IS OF BULK AT MOST 1048576: true; the input reads as it did. -/
def fnExactHexTextUptoRow : OpenClaim := { program := "ytjfkfnmbppmbpaa", sum := "e9592aebdd01d47e08f1f1471ae8c36ee53c273e71c97ada26c727e385764bdc", func := "loop.example/g00904/laws.FnExactHexText", spec := "fnExactHexText", apart := false, narrowed := true }
def FnExactHexTextUptoSaid : Prop := fnExactHexTextUptoRow.holds Try.pinned (OpenSpec.upto fnExactHexTextSpec)

/-- 'laws.FnExactReadHex', WHERE WHAT IT READS IS OF BULK AT MOST 1048576: true; the input reads as it did. -/
def fnExactReadHexUptoRow : OpenClaim := { program := "ytjfkfnmbppmbpaa", sum := "e9592aebdd01d47e08f1f1471ae8c36ee53c273e71c97ada26c727e385764bdc", func := "loop.example/g00904/laws.FnExactReadHex", spec := "fnExactReadHex", inPlace := ["internal/bytealg.IndexByteString"], apart := false, narrowed := true }
def FnExactReadHexUptoSaid : Prop := fnExactReadHexUptoRow.holds Try.pinned (OpenSpec.upto fnExactReadHexSpec)

/-- 'laws.FnExactIsName', WHERE WHAT IT READS IS OF BULK AT MOST 1048576: true; the input reads as it did. -/
def fnExactIsNameUptoRow : OpenClaim := { program := "ytjfkfnmbppmbpaa", sum := "e9592aebdd01d47e08f1f1471ae8c36ee53c273e71c97ada26c727e385764bdc", func := "loop.example/g00904/laws.FnExactIsName", spec := "fnExactIsName", apart := false, narrowed := true }
def FnExactIsNameUptoSaid : Prop := fnExactIsNameUptoRow.holds Try.pinned (OpenSpec.upto fnExactIsNameSpec)

end Rows
end Go.Proofs.Ytjfkfnmbppmbpaa
