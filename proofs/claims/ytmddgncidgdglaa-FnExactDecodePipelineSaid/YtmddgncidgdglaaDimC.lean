/- Contracts of the functions on dimensions, the model's and the program's. No statement is proved here. -/
import Derived.Test.YtmddgncidgdglaaInt
import Derived.IntWalk
namespace Go.Proofs.Ytmddgncidgdglaa
open Go.RowKit
set_option linter.unusedVariables false
theorem l00In_any (a lo hi : Int) (w : World) : Calls Try.prog 57 #[.int .i64 a, .int .i64 lo, .int .i64 hi] w (Quiet (.bool (inB a lo hi)) w) := by
  by_cases h1 : lo ≤ a
  · by_cases h2 : a ≤ hi
    · have Hf2 : Hid (inB a lo hi = true) := Lib.hid (by simp [inB, h1, h2])
      go_enter Try.func57, Try.ntmps57
      go_wp2
      go_ret
      exact ⟨by rw [Hf2.out]; rfl, rfl⟩
    · have Hf2 : Hid (inB a lo hi = false) := Lib.hid (by simp [inB]; omega)
      go_enter Try.func57, Try.ntmps57
      go_wp2
      go_ret
      exact ⟨by rw [Hf2.out]; rfl, rfl⟩
  · have Hf2 : Hid (inB a lo hi = false) := Lib.hid (by simp [inB]; omega)
    go_enter Try.func57, Try.ntmps57
    go_wp2
    go_ret
    exact ⟨by rw [Hf2.out]; rfl, rfl⟩
theorem l00In_yes (a lo hi : Int) (w : World) (h : inB a lo hi = true) : Calls Try.prog 57 #[.int .i64 a, .int .i64 lo, .int .i64 hi] w (Quiet (.bool true) w) := h ▸ l00In_any a lo hi w
theorem l00In_no (a lo hi : Int) (w : World) (h : inB a lo hi = false) : Calls Try.prog 57 #[.int .i64 a, .int .i64 lo, .int .i64 hi] w (Quiet (.bool false) w) := h ▸ l00In_any a lo hi w
theorem i64_of {n : Int} (h0 : 0 ≤ n) (h1 : n ≤ 9223372036854775807) : IntKind.i64.wrap n = n := IntWalk.i64_in _ (by omega)
theorem dimsOk_long {xs : List Int} (h : 3 < xs.length) : dimsOk xs = false := by simp [dimsOk]; omega
theorem dimsOk_bad {xs : List Int} {k : Nat} (hk : k < xs.length) (h : inD xs k = false) : dimsOk xs = false := by
  simp [dimsOk, allTo_bad _ k _ hk h]
theorem dimsOk_end {xs : List Int} (hl : xs.length ≤ 3) (h : allTo (inD xs) xs.length = true) : dimsOk xs = decide (prodL xs ≤ 600) := by simp [dimsOk, h, hl]
theorem dimsOk_iff {xs : List Int} (h : dimsOk xs = true) : xs.length ≤ 3 ∧ allTo (inD xs) xs.length = true ∧ prodL xs ≤ 600 := by
  simpa [dimsOk] using h
/-- The number of elements, or -1. -/
def countE (xs : List Int) : Int := if dimsOk xs = true then prodL xs else -1
end Go.Proofs.Ytmddgncidgdglaa
