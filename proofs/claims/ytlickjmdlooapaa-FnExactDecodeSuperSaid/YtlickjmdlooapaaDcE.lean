/- Two halves are equal as arrays when their bytes are. No statement is proved here. -/
import Derived.Test.YtlickjmdlooapaaDcI
import Derived.ChangeKeysEq
import Derived.Laws.StructEq
namespace Go.Proofs.Ytlickjmdlooapaa
open Go.RowKit
set_option linter.unusedVariables false
theorem mapM_some {α β : Type} (f : α → Option β) (g : α → β) : ∀ l : List α, (∀ x ∈ l, f x = some (g x)) → l.mapM f = some (l.map g)
  | [], _ => rfl
  | x :: l, h => by
    rw [List.mapM_cons, h x (by simp), mapM_some f g l (fun y hy => h y (by simp [hy]))]
    rfl
theorem lits_u8 (h : ByteArray) (i : Nat) (hi : i < h.size) : Try.prog.keyLits 1 5 (((hcA h).toList.drop (i * Try.prog.cellsOf 5)).take (Try.prog.cellsOf 5)) = some [.int .u8 ((h.data.toList.getD i 0).toNat : Int)] := by
  have c1 : Try.prog.cellsOf 5 = 1 := by kernel_rfl
  rw [c1, Nat.mul_one]
  have hl : i < h.data.toList.length := by simpa using hi
  have e : (hcA h).toList = h.data.toList.map fun b => Value.int .u8 (b.toNat : Int) := by simp [hcA, Lib.byteCells]
  rw [e, List.drop_eq_getElem_cons (by simpa using hl), List.take_succ_cons, List.take_zero, List.getElem_map, List.getD_eq_getElem?_getD, List.getElem?_eq_getElem hl]
  have hb := (h.data.toList[i]).toNat_lt
  generalize h.data.toList[i] = b at *
  simp only [Program.keyLits, Try.underlying5, Option.getD_some]
  rw [if_pos ⟨trivial, by simp [Lit.wf, IntKind.min, IntKind.max, IntKind.signed, IntKind.bits]; omega⟩]
set_option maxRecDepth 100000 in
theorem halves_eq (w : World) {h1 h2 : ByteArray} (z1 : h1.size = 32) (z2 : h2.size = 32) : (Op.equalIn 10000 167 (.agg (hcA h1)) (.agg (hcA h2))).run Try.prog w = .ok (decide (h1 = h2)) w := by
  obtain ⟨i, hi⟩ : ∃ i, Try.prog.info? 5 = some i := Option.isSome_iff_exists.1 (by kernel_rfl)
  have e0 := run_equalIn_array (P := Try.prog) (w := w) 9999 (hcA h1) (hcA h2) Try.underlying167 hi
  refine e0.trans ?_
  obtain ⟨r, hr, hiff⟩ := run_eqItems_plain (P := Try.prog) (w := w) 9998 (e := 5) (by kernel_rfl) (hcA h1) (hcA h2) (D := 1) (D' := 1) (List.range 32) _ _
    (mapM_some _ (fun i => [Lit.int .u8 ((h1.data.toList.getD i 0).toNat : Int)]) _ (fun i hi => lits_u8 h1 i (by have := List.mem_range.1 hi; omega)))
    (mapM_some _ (fun i => [Lit.int .u8 ((h2.data.toList.getD i 0).toNat : Int)]) _ (fun i hi => lits_u8 h2 i (by have := List.mem_range.1 hi; omega)))
  rw [hr]
  congr 1
  rw [Bool.eq_iff_iff, hiff, decide_eq_true_eq]
  have l1 : h1.data.toList.length = 32 := by simpa using z1
  have l2 : h2.data.toList.length = 32 := by simpa using z2
  constructor
  · intro he
    apply ByteArray.ext
    apply Array.toList_inj.1
    apply List.ext_getElem (by omega)
    intro k k1 k2
    have fl : ∀ g : Nat → Lit, ((List.range 32).map fun i => [g i]).flatten = (List.range 32).map g := fun g => by
      generalize List.range 32 = l
      induction l with
      | nil => rfl
      | cons x l ih => rw [List.map_cons, List.flatten_cons, ih]; rfl
    rw [fl, fl] at he
    have := congrArg (fun l : List Lit => l[k]?) he
    simp only [List.getElem?_map, List.getElem?_range (show k < 32 by omega), Option.map_some, List.getD_eq_getElem?_getD, List.getElem?_eq_getElem k1, List.getElem?_eq_getElem k2, Option.getD_some, Option.some.injEq, Lit.int.injEq, true_and] at this
    exact UInt8.toNat_inj.1 (by exact_mod_cast this)
  · rintro rfl; rfl
end Go.Proofs.Ytlickjmdlooapaa
