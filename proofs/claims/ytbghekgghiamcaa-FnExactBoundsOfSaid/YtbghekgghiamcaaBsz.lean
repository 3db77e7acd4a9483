/- Contracts of the functions that count a box's coordinates. No statement is proved here. -/
import Derived.Test.YtbghekgghiamcaaVb
namespace Go.Proofs.Ytbghekgghiamcaa
open Go.RowKit
set_option linter.unusedVariables false
/-- The number of coordinates in the first k dimensions. -/
def bszK (xs ms : List Int) : Nat → Int
  | 0 => 1
  | k + 1 => bszK xs ms k * (ms.getD k 0 - xs.getD k 0)
def boxSz (xs ms : List Int) : Int := if boxOk xs ms then bszK xs ms xs.length else 0
theorem bsz_bd {xs ms : List Int} (h : boxOk xs ms = true) : ∀ k, k ≤ xs.length → 1 ≤ bszK xs ms k ∧ bszK xs ms k ≤ ((40 ^ k : Nat) : Int)
  | 0, _ => by simp [bszK]
  | k + 1, hk => by
    have ih := bsz_bd h k (by omega)
    have hl := (boxOk_iff h).2.1
    have hb := boxOk_in h k (by omega) (by omega)
    rw [bszK, getD_at _ _ (by omega), getD_at _ _ (by omega)]
    have h1 : 1 ≤ ms[k] - xs[k] := by omega
    have h2 : ms[k] - xs[k] ≤ 40 := by omega
    generalize ms[k] - xs[k] = d at *
    refine ⟨?_, ?_⟩
    · have := Int.mul_le_mul ih.1 h1 (by omega) (by omega)
      omega
    · rw [Nat.pow_succ, Int.natCast_mul]
      exact Int.mul_le_mul ih.2 h2 (by omega) (by omega)
theorem bsz_lt {xs ms : List Int} (h : boxOk xs ms = true) (k : Nat) (hk : k ≤ xs.length) : 1 ≤ bszK xs ms k ∧ bszK xs ms k ≤ 64000 := by
  have h1 := bsz_bd h k hk
  have h3 : 40 ^ k ≤ 40 ^ 3 := Nat.pow_le_pow_right (by decide) (by have := (boxOk_iff h).1; omega)
  omega
set_option maxHeartbeats 400000 in
theorem l07Box_is {B : Nat} {w : World} {v1 v2 : Value} {xs ms : List Int} {r : Bool} (hr : boxOk xs ms = r) (h1 : Ri B w v1 xs) (h2 : Ri B w v2 ms) (hB : B ≤ w.heap.size) :
    Calls Try.prog 74 #[.agg #[v1, v2]] w (GivesB (.bool r) w) := by subst hr; exact l07Box_any h1 h2 hB
theorem implValidBox_is {B : Nat} {w : World} {v1 v2 : Value} {xs ms : List Int} {r : Bool} (hr : boxOk xs ms = r) (h1 : Ri B w v1 xs) (h2 : Ri B w v2 ms) (hB : B ≤ w.heap.size) :
    Calls Try.prog 75 #[.agg #[v1, v2]] w (GivesB (.bool r) w) := by subst hr; exact implValidBox_any h1 h2 hB
end Go.Proofs.Ytbghekgghiamcaa
