/- What the reversed compressors answer, in plain words. No statement is proved here. -/
import Derived.Test.YtmddgncidgdglaaVal
namespace Go.Proofs.Ytmddgncidgdglaa
open Go.RowKit
set_option linter.unusedVariables false
/-- The pairs' bytes behind what is there; none where they are malformed. -/
def rdL : List UInt8 → List UInt8 → Option (List UInt8)
  | [], out => some out
  | [_], _ => none
  | c :: v :: l, out => if c.toNat = 0 ∨ 1100 < out.length + c.toNat then none else rdL l (out ++ List.replicate c.toNat v)
def ansO : Option (List UInt8) → Value
  | some l => .tuple #[.string ⟨l.toArray⟩, .bool true]
  | none => .tuple #[.string ⟨#[]⟩, .bool false]
theorem rdL_no {c v : UInt8} {l out : List UInt8} (h : c.toNat = 0 ∨ 1100 < out.length + c.toNat) : rdL (c :: v :: l) out = none := by rw [rdL, if_pos h]
theorem rdL_yes {c v : UInt8} {l out : List UInt8} (h : ¬ (c.toNat = 0 ∨ 1100 < out.length + c.toNat)) : rdL (c :: v :: l) out = rdL l (out ++ List.replicate c.toNat v) := by rw [rdL, if_neg h]
theorem rdL_odd : ∀ (l out : List UInt8), l.length % 2 = 1 → rdL l out = none
  | [], _, h => by simp at h
  | [_], _, _ => rfl
  | c :: v :: l, out, h => by
    rw [rdL]
    split
    · rfl
    · exact rdL_odd l _ (by simp at h; omega)
/-- n bytes more, each the one d places before the end. -/
def cpN (d : Nat) : Nat → List UInt8 → List UInt8
  | 0, out => out
  | n + 1, out => cpN d n (out ++ [out.getD (out.length - d) 0])
theorem cpN_length (d : Nat) : ∀ (n : Nat) (out : List UInt8), (cpN d n out).length = out.length + n
  | 0, _ => rfl
  | n + 1, out => by rw [cpN, cpN_length d n]; simp; omega
/-- The output of tokens behind what is there; none where they are malformed. The number bounds the tokens. -/
def ldL : Nat → List UInt8 → List UInt8 → Option (List UInt8)
  | _, [], out => some out
  | 0, _ :: _, _ => none
  | f + 1, t :: l, out =>
    if t.toNat < 128 then
      if l.length < t.toNat + 1 ∨ 1100 < out.length + (t.toNat + 1) then none else ldL f (l.drop (t.toNat + 1)) (out ++ l.take (t.toNat + 1))
    else if l.length < 2 then none
    else if (l.getD 0 0).toNat + 256 * (l.getD 1 0).toNat < 1 ∨ out.length < (l.getD 0 0).toNat + 256 * (l.getD 1 0).toNat ∨ 1100 < out.length + (t.toNat - 125) then none
    else ldL f (l.drop 2) (cpN ((l.getD 0 0).toNat + 256 * (l.getD 1 0).toNat) (t.toNat - 125) out)
end Go.Proofs.Ytmddgncidgdglaa
