/- The range of two lists of coordinates as lists: when it is a selection. No statement is proved here. -/
import Derived.Test.YtbghekgghiamcaaAcc3
import Derived.Test.YtbghekgghiamcaaFoS
namespace Go.Proofs.Ytbghekgghiamcaa
open Go.RowKit
set_option linter.unusedVariables false
/-- How far it is, as int64 has it. -/
def df1 (x y : Int) : Int := wrap64 (y - x)
def df (xs ys : List Int) : List Int := List.zipWith df1 xs ys
def ones (n : Nat) : List Int := List.replicate n 1
def rgOk (xs ys : List Int) : Bool := decide (xs.length = ys.length) && formedB 3 xs (df xs ys) (ones (df xs ys).length) (df xs ys) []
def rgK (xs ys : List Int) : Int := if rgOk xs ys then 3 else 0
def rg0 (xs ys : List Int) : List Int := if rgOk xs ys then xs else []
def rg1 (xs ys : List Int) : List Int := if rgOk xs ys then df xs ys else []
def rg2 (xs ys : List Int) : List Int := if rgOk xs ys then ones (df xs ys).length else []
theorem df_len (xs ys : List Int) : (df xs ys).length = min xs.length ys.length := by simp [df]
theorem ones_len (n : Nat) : (ones n).length = n := by simp [ones]
theorem ones_step (n : Nat) : ones n ++ [1] = ones (n + 1) := by simp [ones, List.replicate_succ']
theorem df_at (xs ys : List Int) (k : Nat) (h : k < (df xs ys).length) (h1 : k < xs.length) (h2 : k < ys.length) : (df xs ys)[k] = df1 xs[k] ys[k] := by simp [df]
theorem df1_wrap (x y : Int) : IntKind.i64.wrap (y - x) = df1 x y := by unfold df1 wrap64; rw [IntKind.wrap_i64]
theorem df1_in (x y : Int) : InI (df1 x y) := by
  unfold df1 wrap64 InI; omega
theorem df_in (xs ys : List Int) : ∀ x ∈ df xs ys, InI x := fun x hx => by
  obtain ⟨i, hi, rfl⟩ := List.mem_iff_getElem.1 hx
  have hl := df_len xs ys
  rw [df_at _ _ _ hi (by omega) (by omega)]
  exact df1_in _ _
theorem ones_in (n : Nat) : ∀ x ∈ ones n, InI x := fun x hx => by
  rw [(List.mem_replicate.1 hx).2]
  unfold InI; omega
/-- Where the range is a selection, each number is below the one beside it. -/
theorem rg_axis {x y : Int} (hy : InI y) (hx : 0 ≤ x ∧ x ≤ 40) (hd : 1 ≤ df1 x y ∧ df1 x y ≤ 40) (he : x + df1 x y ≤ 40) : x < y ∧ y ≤ 40 := by
  have h : df1 x y = (y - x + 9223372036854775808) % 18446744073709551616 - 9223372036854775808 := by unfold df1 wrap64; omega
  unfold InI at hy
  omega
theorem rgOk_at {xs ys : List Int} (h : rgOk xs ys = true) (hi : ∀ y ∈ ys, InI y) (k : Nat) (h1 : k < xs.length) (h2 : k < ys.length) : 0 ≤ xs[k] ∧ xs[k] < ys[k] ∧ ys[k] ≤ 40 := by
  simp only [rgOk, Bool.and_eq_true, decide_eq_true_eq] at h
  obtain ⟨hn, hf⟩ := h
  have hf2 : slabOk xs (df xs ys) (ones (df xs ys).length) (df xs ys) = true := by simpa [formedB] using hf
  simp only [slabOk, Bool.and_eq_true] at hf2
  have hk := allTo_at hf2.2 h1
  have hl := df_len xs ys
  rw [slabAt_at h1 (by omega) (by rw [ones_len]; omega) (by omega), axOk_iff] at hk
  have e1 : (ones (df xs ys).length)[k]'(by rw [ones_len]; omega) = 1 := by simp [ones]
  rw [e1, df_at _ _ _ (by omega) h1 h2] at hk
  have hx := rg_axis (hi _ (List.getElem_mem h2)) ⟨hk.1, hk.2.1⟩ ⟨hk.2.2.2.2.1, by omega⟩ (by have := hk.2.2.2.2.2.2.2; omega)
  omega
theorem rgOk_bad {xs ys : List Int} (hi : ∀ y ∈ ys, InI y) (k : Nat) (h1 : k < xs.length) (h2 : k < ys.length) (hb : xs[k] < 0 ∨ ys[k] ≤ xs[k] ∨ 40 < ys[k]) : rgOk xs ys = false := by
  rw [Bool.eq_false_iff]
  intro h
  have := rgOk_at h hi k h1 h2
  omega
theorem rgOk_len {xs ys : List Int} (h : ¬ xs.length = ys.length) : rgOk xs ys = false := by simp [rgOk, h]
theorem rgOk_eq {xs ys : List Int} (h : xs.length = ys.length) : formedB 3 xs (df xs ys) (ones (df xs ys).length) (df xs ys) [] = rgOk xs ys := by simp [rgOk, h]
end Go.Proofs.Ytbghekgghiamcaa
