/- Contracts of the model's function that cuts two boxes. No statement is proved here. -/
import Derived.Test.YtbghekgghiamcaaAcc
import Derived.Test.YtbghekgghiamcaaBsz
namespace Go.Proofs.Ytbghekgghiamcaa
open Go.RowKit
set_option linter.unusedVariables false
theorem l00Max_is {a b r : Int} (hr : max a b = r) (w : World) : Calls Try.prog 53 #[.int .i64 a, .int .i64 b] w (Quiet (.int .i64 r) w) := by
  have Hr := Lib.hid hr; clear hr
  by_cases h : b < a
  · have Hf : Hid (r = a) := Lib.hid (by rw [← Hr.out]; omega)
    go_enter Try.func53, Try.ntmps53
    go_wp2
    go_ret
    exact ⟨by rw [Hf.out]; rfl, rfl⟩
  · have Hf : Hid (r = b) := Lib.hid (by rw [← Hr.out]; omega)
    go_enter Try.func53, Try.ntmps53
    go_wp2
    go_ret
    exact ⟨by rw [Hf.out]; rfl, rfl⟩
theorem l00Min_is {a b r : Int} (hr : min a b = r) (w : World) : Calls Try.prog 52 #[.int .i64 a, .int .i64 b] w (Quiet (.int .i64 r) w) := by
  have Hr := Lib.hid hr; clear hr
  by_cases h : a < b
  · have Hf : Hid (r = a) := Lib.hid (by rw [← Hr.out]; omega)
    go_enter Try.func52, Try.ntmps52
    go_wp2
    go_ret
    exact ⟨by rw [Hf.out]; rfl, rfl⟩
  · have Hf : Hid (r = b) := Lib.hid (by rw [← Hr.out]; omega)
    go_enter Try.func52, Try.ntmps52
    go_wp2
    go_ret
    exact ⟨by rw [Hf.out]; rfl, rfl⟩
def cutL (xs ys : List Int) : List Int := List.zipWith max xs ys
def cutM (ms ns : List Int) : List Int := List.zipWith min ms ns
def cutP (xs ms ys ns : List Int) (i : Nat) : Bool := decide ((cutL xs ys).getD i 0 < (cutM ms ns).getD i 0)
/-- Do the boxes meet? -/
def cutOk (xs ms ys ns : List Int) : Bool := boxOk xs ms && (boxOk ys ns && (decide (xs.length = ys.length) && allTo (cutP xs ms ys ns) xs.length))
def cutLo (xs ms ys ns : List Int) : List Int := if cutOk xs ms ys ns then cutL xs ys else []
def cutHi (xs ms ys ns : List Int) : List Int := if cutOk xs ms ys ns then cutM ms ns else []
theorem cutOk_a {xs ms ys ns : List Int} (h : boxOk xs ms = false) : cutOk xs ms ys ns = false := by simp [cutOk, h]
theorem cutOk_b {xs ms ys ns : List Int} (h : boxOk ys ns = false) : cutOk xs ms ys ns = false := by simp [cutOk, h]
theorem cutOk_n {xs ms ys ns : List Int} (h : ¬ xs.length = ys.length) : cutOk xs ms ys ns = false := by simp [cutOk, h]
theorem cutOk_bad {xs ms ys ns : List Int} {k : Nat} (hk : k < xs.length) (h : cutP xs ms ys ns k = false) : cutOk xs ms ys ns = false := by simp [cutOk, allTo_bad _ k _ hk h]
theorem cutOk_end {xs ms ys ns : List Int} (h1 : boxOk xs ms = true) (h2 : boxOk ys ns = true) (hn : xs.length = ys.length) (h : allTo (cutP xs ms ys ns) xs.length = true) : cutOk xs ms ys ns = true := by simp [cutOk, h1, h2, h]; exact hn
theorem cutL_len {xs ys : List Int} (hn : xs.length = ys.length) : (cutL xs ys).length = xs.length := by simp [cutL, List.length_zipWith]; omega
theorem cutM_len {ms ns : List Int} (hn : ms.length = ns.length) : (cutM ms ns).length = ms.length := by simp [cutM, List.length_zipWith]; omega
theorem cutL_at (xs ys : List Int) (k : Nat) (h : k < (cutL xs ys).length) (h1 : k < xs.length) (h2 : k < ys.length) : (cutL xs ys)[k] = max xs[k] ys[k] := by simp [cutL]
theorem cutM_at (xs ys : List Int) (k : Nat) (h : k < (cutM xs ys).length) (h1 : k < xs.length) (h2 : k < ys.length) : (cutM xs ys)[k] = min xs[k] ys[k] := by simp [cutM]
theorem cutP_at {xs ms ys ns : List Int} (k : Nat) (h : k < (cutL xs ys).length) (h2 : k < (cutM ms ns).length) : cutP xs ms ys ns k = decide ((cutL xs ys)[k] < (cutM ms ns)[k]) := by unfold cutP; rw [getD_at _ _ h, getD_at _ _ h2]
end Go.Proofs.Ytbghekgghiamcaa
