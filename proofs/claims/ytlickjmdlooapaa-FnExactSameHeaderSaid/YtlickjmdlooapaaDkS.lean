/- Contract of the model's comparison of disks. No statement is proved here. -/
import Derived.Test.YtlickjmdlooapaaDkV
import Derived.Laws.StructEq
namespace Go.Proofs.Ytlickjmdlooapaa
open Go.RowKit
set_option linter.unusedVariables false
def dskSame (ss : List ByteArray) (ps : List Pt) (fz : Int) (off : Bool) (ss' : List ByteArray) (ps' : List Pt) (fz' : Int) (off' : Bool) : Bool := decide (ss = ss') && (decide (ps = ps') && (decide (fz = fz') && decide (off = off')))
theorem same_ss {α : Type} [DecidableEq α] {xs ys : List α} (hn : xs.length = ys.length) (h : ∀ j (h1 : j < xs.length) (h2 : j < ys.length), xs[j] = ys[j]) : xs = ys := List.ext_getElem hn fun i h1 h2 => h i h1 h2
theorem ne_at {α : Type} {xs ys : List α} {k : Nat} (h1 : k < xs.length) (h2 : k < ys.length) (h : xs[k] ≠ ys[k]) : xs ≠ ys := fun e => by subst e; exact h rfl
theorem toList_loop_eq (t : ByteArray) (i : Nat) (r : List UInt8) : ByteArray.toList.loop t i r = r.reverse ++ t.data.toList.drop i := by
  have hz : t.data.toList.length = t.size := by simp
  induction i, r using ByteArray.toList.loop.induct (bs := t) with
  | case1 i r h ih =>
    unfold ByteArray.toList.loop
    rw [if_pos h, ih, List.reverse_cons, List.append_assoc, List.drop_eq_getElem_cons (i := i) (by omega)]
    congr 1
    have h2 : i < t.data.size := h
    have e : t.get! i = t.data.toList[i]'(by omega) := by
      show t.data[i]! = t.data[i]
      exact getElem!_pos t.data i h2
    rw [e]; rfl
  | case2 i r h =>
    unfold ByteArray.toList.loop
    rw [if_neg h, List.drop_eq_nil_of_le (by omega), List.append_nil]
theorem toList_eq (t : ByteArray) : t.toList = t.data.toList := by
  show ByteArray.toList.loop t 0 [] = _
  rw [toList_loop_eq]; simp
theorem bytes_ne {a b : ByteArray} (h : a ≠ b) : (a.toList == b.toList) = false := by
  rw [Bool.eq_false_iff]
  intro e
  have e := eq_of_beq e
  apply h
  apply ByteArray.ext
  apply Array.toList_inj.1
  rw [toList_eq, toList_eq] at e
  exact e
end Go.Proofs.Ytlickjmdlooapaa
