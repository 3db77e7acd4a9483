/- The contracts of IsName, the program's and the model's. No statement is proved here. -/
import Derived.Test.YtabnglimchjgpaaVal
import Derived.Laws.RangeAny
namespace Go.Proofs.Ytabnglimchjgpaa
open Go.RowKit
set_option linter.unusedVariables false
def letterN (n : Nat) : Bool := (decide (65 ≤ n) && decide (n ≤ 90)) || (decide (97 ≤ n) && decide (n ≤ 122))
def restN (n : Nat) : Bool := letterN n || ((decide (48 ≤ n) && decide (n ≤ 57)) || decide (n = 95))
def byteN (s : ByteArray) (j : Nat) : Nat := (s.data.toList.getD j 0).toNat
def okAt (s : ByteArray) (j : Nat) : Bool := letterN (byteN s j) || (decide (0 < j) && restN (byteN s j))
def goodTo (s : ByteArray) (k : Nat) : Bool := (List.range k).all (okAt s)
/-- Is it a name? -/
def nameS (s : ByteArray) : Bool := decide (1 ≤ s.size) && decide (s.size ≤ 12) && goodTo s s.size
theorem goodTo_succ (s : ByteArray) (k : Nat) : goodTo s (k + 1) = (goodTo s k && okAt s k) := by simp [goodTo, List.range_succ]
theorem goodTo_bad (s : ByteArray) (k n : Nat) (hk : k < n) (h : okAt s k = false) : goodTo s n = false := by
  unfold goodTo
  rw [List.all_eq_false]
  exact ⟨k, List.mem_range.2 hk, by simp [h]⟩
theorem nameS_bad (s : ByteArray) (k : Nat) (hk : k < s.size) (h : okAt s k = false) : nameS s = false := by
  unfold nameS; rw [goodTo_bad s k _ hk h]; simp
theorem nameS_short (s : ByteArray) (h : s.size = 0) : nameS s = false := by unfold nameS; simp [h]
theorem nameS_long (s : ByteArray) (h : ¬ s.size ≤ 12) : nameS s = false := by unfold nameS; simp [h]
theorem nameS_good (s : ByteArray) (h0 : 1 ≤ s.size) (h : s.size ≤ 12) (hg : goodTo s s.size = true) : nameS s = true := by unfold nameS; simp [h0, h, hg]
theorem byteN_at (s : ByteArray) (j : Nat) (h : j < s.size) : byteN s j = (s[j]'h).toNat := by
  have hl : s.data.toList.length = s.size := by simp
  unfold byteN
  rw [List.getD, List.getElem?_eq_getElem (by omega)]; rfl
theorem toList_ne (s : ByteArray) (h : 0 < s.size) : s.toList.isEmpty = false := by
  rw [Lib.toList_data]
  have hl : s.data.toList.length = s.size := by simp
  cases e : s.data.toList with
  | nil => rw [e] at hl; simp at hl; omega
  | cons a l => rfl
theorem letterN_yes (n : Nat) (h : (65 ≤ n ∧ n ≤ 90) ∨ (97 ≤ n ∧ n ≤ 122)) : letterN n = true := by
  unfold letterN; rcases h with ⟨a, b⟩ | ⟨a, b⟩ <;> simp [a, b]
theorem letterN_no (n : Nat) (h : ¬ ((65 ≤ n ∧ n ≤ 90) ∨ (97 ≤ n ∧ n ≤ 122))) : letterN n = false := by
  unfold letterN; simp; omega
theorem ok_letter (s : ByteArray) (j n : Nat) (e : byteN s j = n) (h : (65 ≤ n ∧ n ≤ 90) ∨ (97 ≤ n ∧ n ≤ 122)) : okAt s j = true := by
  unfold okAt; rw [e, letterN_yes n h]; rfl
theorem ok_rest (s : ByteArray) (j n : Nat) (e : byteN s j = n) (hj : 0 < j) (h : (48 ≤ n ∧ n ≤ 57) ∨ n = 95) : okAt s j = true := by
  unfold okAt restN; rw [e, decide_eq_true hj]
  rcases h with ⟨a, b⟩ | rfl
  · simp [a, b]
  · simp
theorem ok_no (s : ByteArray) (j n : Nat) (e : byteN s j = n) (h : ¬ ((65 ≤ n ∧ n ≤ 90) ∨ (97 ≤ n ∧ n ≤ 122))) (h2 : ¬ (0 < j ∧ ((48 ≤ n ∧ n ≤ 57) ∨ n = 95))) : okAt s j = false := by
  unfold okAt restN; rw [e, letterN_no n h]
  by_cases hj : 0 < j
  · have : ¬ ((48 ≤ n ∧ n ≤ 57) ∨ n = 95) := fun h' => h2 ⟨hj, h'⟩
    simp [hj]; omega
  · simp [hj]
theorem iter_below (w : World) (s : ByteArray) (pos : Nat) : Below w.heap.size w (w.iter s pos) := (Below.refl _ w).alloc (Nat.le_refl _) _
end Go.Proofs.Ytabnglimchjgpaa
