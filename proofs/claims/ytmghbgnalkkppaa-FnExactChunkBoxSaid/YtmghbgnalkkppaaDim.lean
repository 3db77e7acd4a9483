/- Dimensions as lists of numbers: plain words and lemmas. No statement is proved here. -/
import Derived.Test.YtmghbgnalkkppaaData
namespace Go.Proofs.Ytmghbgnalkkppaa
set_option linter.unusedVariables false
def allTo (p : Nat → Bool) (k : Nat) : Bool := (List.range k).all p
theorem allTo_zero (p : Nat → Bool) : allTo p 0 = true := rfl
theorem allTo_succ (p : Nat → Bool) (k : Nat) : allTo p (k + 1) = (allTo p k && p k) := by simp [allTo, List.range_succ]
theorem allTo_bad (p : Nat → Bool) (k n : Nat) (hk : k < n) (h : p k = false) : allTo p n = false := by
  unfold allTo; rw [List.all_eq_false]; exact ⟨k, List.mem_range.2 hk, by simp [h]⟩
theorem allTo_at {p : Nat → Bool} {k n : Nat} (h : allTo p n = true) (hk : k < n) : p k = true := by
  unfold allTo at h; rw [List.all_eq_true] at h; exact h k (List.mem_range.2 hk)
def inB (a lo hi : Int) : Bool := decide (lo ≤ a) && decide (a ≤ hi)
/-- The product of the first k numbers. -/
def prodK (xs : List Int) (k : Nat) : Int := (xs.take k).foldl (· * ·) 1
theorem prodK_zero (xs : List Int) : prodK xs 0 = 1 := rfl
theorem prodK_succ (xs : List Int) (k : Nat) (h : k < xs.length) : prodK xs (k + 1) = prodK xs k * xs[k] := by
  unfold prodK; rw [List.take_succ_eq_append_getElem h, List.foldl_append]; rfl
def prodL (xs : List Int) : Int := prodK xs xs.length
def inD (xs : List Int) (i : Nat) : Bool := inB (xs.getD i 0) 0 40
def dimsOk (xs : List Int) : Bool := decide (xs.length ≤ 3) && (allTo (inD xs) xs.length && decide (prodL xs ≤ 600))
theorem inD_at (xs : List Int) (i : Nat) (h : i < xs.length) : inD xs i = inB xs[i] 0 40 := by unfold inD; rw [List.getD_eq_getElem?_getD, List.getElem?_eq_getElem h]; rfl
theorem inB_iff {a lo hi : Int} : inB a lo hi = true ↔ lo ≤ a ∧ a ≤ hi := by simp [inB]
theorem inB_no {a lo hi : Int} (h : a < lo ∨ hi < a) : inB a lo hi = false := by simp [inB]; omega
theorem inB_yes {a lo hi : Int} (h1 : lo ≤ a) (h2 : a ≤ hi) : inB a lo hi = true := by simp [inB]; omega
theorem mul_bd {p x P : Int} (h0 : 0 ≤ p) (h1 : p ≤ P) (h2 : 0 ≤ x) (h3 : x ≤ 40) : 0 ≤ p * x ∧ p * x ≤ P * 40 := by
  refine ⟨Int.mul_nonneg h0 h2, ?_⟩
  have := Int.mul_le_mul h1 h3 h2 (Int.le_trans h0 h1)
  exact this
theorem prodK_bd (xs : List Int) (hl : xs.length ≤ 3) : ∀ k, k ≤ xs.length → allTo (inD xs) k = true → 0 ≤ prodK xs k ∧ prodK xs k ≤ 40 ^ k
  | 0, _, _ => by rw [prodK_zero]; decide
  | k + 1, hk, ha => by
    rw [allTo_succ, Bool.and_eq_true, inD_at _ _ (by omega), inB_iff] at ha
    have := prodK_bd xs hl k (by omega) ha.1
    rw [prodK_succ _ _ (by omega)]
    have := mul_bd this.1 this.2 ha.2.1 ha.2.2
    rw [Int.pow_succ]
    exact this
theorem pow40 (k : Nat) (h : k ≤ 3) : (40 : Int) ^ k ≤ 64000 := by
  have : k = 0 ∨ k = 1 ∨ k = 2 ∨ k = 3 := by omega
  rcases this with rfl | rfl | rfl | rfl <;> decide
theorem prodK_small (xs : List Int) (hl : xs.length ≤ 3) (k : Nat) (hk : k ≤ xs.length) (ha : allTo (inD xs) k = true) : 0 ≤ prodK xs k ∧ prodK xs k ≤ 64000 := by
  have := prodK_bd xs hl k hk ha
  have := pow40 k (by omega)
  omega
end Go.Proofs.Ytmghbgnalkkppaa
