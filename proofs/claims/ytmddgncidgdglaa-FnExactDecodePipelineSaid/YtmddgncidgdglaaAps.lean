/- Bytes of a string appended to a row of bytes; a part of a row as a string. No statement is proved here. -/
import Derived.Test.YtmddgncidgdglaaBase
import Derived.Lib.AppendStr
namespace Go.Proofs.Ytmddgncidgdglaa
open Go.RowKit
set_option linter.unusedVariables false
theorem wpList_appS {ops : Array Oper} {rest : List Oper} {o : Oper} {a : Act} {Q : Exit → Act → World → Prop} {W : World} (hgd : o.guard = none) (s x : Operand)
    (ho : o.op = .call { callee := .builtin .append, args := #[s, x], argTypes := #[62, 9] }) (B : Nat) (v : Value) (l : List UInt8) (hown : OwnB W B v l) (hs : a.eval s = v) (t : ByteArray)
    (hx : a.eval x = .string t) (hl : l.length + t.size ≤ 70368744177664) (hB : B ≤ W.heap.size)
    (h : ∀ v' w', OwnB w' B v' (l ++ t.data.toList) → Below B W w' → wpList Try.prog ops Q rest (a.put o.dst v') w') :
    wpList Try.prog ops Q (o :: rest) a W := by
  obtain ⟨i0, hi, hz0, hz1, hz2⟩ := info_parts Try.infoB
  refine Lib.wpList_append_own_string _ hgd s x 62 9 ho B 5 i0 Try.underlying62 Try.underlying9 hi hz0 hz1 hz2 v l.length (l.map bv) hs hown t hx (by unfold maxLen; omega) (by omega) hB ?_
  intro v' w' ho' hg _
  refine h v' w' ?_ ((Below.refl B W).grown hg hB (fun k hk => (World.ownsRow.lt hown k hk).1))
  unfold OwnB
  have e1 : (l ++ t.data.toList).length = l.length + t.size := by simp
  have e2 : (l ++ t.data.toList).map bv = l.map bv ++ Lib.strCells t := by rw [List.map_append]; rfl
  rw [e1, e2]
  exact ho'
/-- A part of a row of bytes, as a string. -/
theorem conv_part {w : World} {B g cap : Nat} {l : List UInt8} {m : Nat} (hm : m ≤ l.length) (h : OwnB w B (.slice (some ⟨g, 0, none⟩) l.length cap) l) : (convert 62 9 (.slice (some ⟨g, 0, none⟩) m cap)).run Try.prog w = .ok (.string ⟨(l.take m).toArray⟩) w := by
  have h1 := run_convert_bytes_back (P := Try.prog) w 62 9 5 ⟨g, 0, none⟩ cap (l.take m) Try.underlying62 Try.underlying5 Try.underlying9 (fun j hj => by
    have hj2 : j < l.length := by simp at hj; omega
    have := World.ownsRow.cells (g := g) h rfl j (bv l[j]) (by simp [hj2])
    simpa [bv] using this)
  have e : (l.take m).length = m := by simp; omega
  rw [e] at h1
  exact h1
end Go.Proofs.Ytmddgncidgdglaa
