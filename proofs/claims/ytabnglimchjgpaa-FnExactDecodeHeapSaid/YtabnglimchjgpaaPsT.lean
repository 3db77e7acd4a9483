/- append of one string, as a step of a walk. No statement is proved here. -/
import Derived.Test.YtabnglimchjgpaaStr
import Derived.Deep.AppendLies
import Derived.OwnWalk
import Derived.Laws.ResultCell
namespace Go.Proofs.Ytabnglimchjgpaa
open Go.RowKit
set_option linter.unusedVariables false
theorem infoTp : (Try.prog.info? 9).map (fun i => (i.zero, i.size, i.bytes)) = some (some (.string ⟨#[]⟩), 1, 16) := by kernel_rfl
theorem info_partsT {i : Option TypeInfo} {z : Option Value} {s b : Nat} (h : i.map (fun i => (i.zero, i.size, i.bytes)) = some (z, s, b)) : ∃ i0, i = some i0 ∧ i0.zero = z ∧ i0.size = s ∧ i0.bytes = b := by
  cases i with
  | none => cases h
  | some i0 =>
    have h2 := Option.some.inj h
    simp only [Prod.mk.injEq] at h2
    exact ⟨i0, rfl, h2.1, h2.2.1, h2.2.2⟩
theorem wpList_pushT {ops : Array Oper} {rest : List Oper} {o : Oper} {a : Act} {Q : Exit → Act → World → Prop} {W : World} {lo B : Nat} {v : Value} {xs : List ByteArray} {x : ByteArray} (hgd : o.guard = none) (s y : Operand)
    (ho : o.op = .call { callee := .builtin .append, args := #[s, y], argTypes := #[22, 22] }) (hs : a.eval s = v) (hx : a.eval y = .slice (some ⟨B, 0, none⟩) 1 1) (hB : W.heap.size = B)
    (hown : OT W lo v xs) (hlo : lo ≤ W.heap.size) (hlen : xs.length ≤ 1048576)
    (h : ∀ g cap w', OT w' lo (.slice (some ⟨g, 0, none⟩) (xs ++ [x]).length cap) (xs ++ [x]) → (W.alloc (.cells #[.string x] 9)).grownBy w' v.ownBlock → g < w'.heap.size →
      wpList Try.prog ops Q rest (a.put o.dst (.slice (some ⟨g, 0, none⟩) (xs ++ [x]).length cap)) w') : wpList Try.prog ops Q (o :: rest) a (W.alloc (.cells #[.string x] 9)) := by
  obtain ⟨i0, hi, hz0, hz1, hz2⟩ := info_partsT infoTp
  subst hB
  have el : (xs ++ [x]).length = xs.length + 1 := by simp
  refine wpList_append_lies _ hgd s y 22 ho lo 9 i0 (.string ⟨#[]⟩) 1 16 Try.underlying22 hi hz0 hz1 hz2 rfl (by decide) v xs.length (xs.map Value.string) hs (own_bel hown ((Below.refl _ W).alloc (Nat.le_refl _) _))
    ⟨W.heap.size, 0, none⟩ 1 1 [.string x] hx rfl (fun j u hu => ?_) (fun u hu => ?_) (by decide) (by unfold maxLen; omega) (by omega) (by simp; omega) (W.heap.size + 1) (by simp) (fun g cap w' h1 h2 h3 h4 => ?_)
  · rcases j with _ | j
    · obtain rfl := Option.some.inj hu
      rw [add_at, cell_of_row _ _ _ _ _ _ (heap_alloc_new W _)]; rfl
    · simp at hu
  · obtain rfl := List.mem_singleton.1 hu; rfl
  · have := h g cap w' (by unfold OT; rw [el, List.map_append]; exact h1) h2 h4
    rw [el] at this; exact this
/-- Only what lies above has changed: a block of one string, and the list that has grown. -/
theorem pushT_bel {W W2 z : World} {lo B : Nat} {o : Obj} {v : Value} {xs : List ByteArray} (hz : Below B z W) (h1 : OT W lo v xs) (hB : B ≤ lo) (hlo : B ≤ W.heap.size) (hgr : (W.alloc o).grownBy W2 v.ownBlock) : Below B z W2 :=
  (hz.alloc hlo o).grown hgr (by simp; omega) (fun k hk => Nat.le_trans hB (own_wi h1 k hk).1)
end Go.Proofs.Ytabnglimchjgpaa
