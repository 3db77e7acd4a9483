/- Contracts of the functions on coordinates and linear indices. No statement is proved here. -/
import Derived.Test.YtmddgncidgdglaaDimC
namespace Go.Proofs.Ytmddgncidgdglaa
open Go.RowKit
set_option linter.unusedVariables false
theorem Quiet.qs {P : Program} {f : FuncId} {args : Array Value} {w : World} {n : Nat} {v : Value} (h : Calls P f args (w.drewN n) (Quiet v (w.drewN n))) : Calls P f args (w.drewN n) fun e w'' => e = .returned v ∧ ∃ m, w'' = w.drewN m :=
  h.mono fun _ _ ⟨he, hm⟩ => ⟨he, n, hm.symm⟩
def inP (xs ys : List Int) (i : Nat) : Bool := decide (0 ≤ ys.getD i 0) && decide (ys.getD i 0 < xs.getD i 0)
/-- Are these the coordinates of an element? -/
def inside (xs ys : List Int) : Bool := decide (ys.length = xs.length) && allTo (inP xs ys) xs.length
theorem getD_at (xs : List Int) (i : Nat) (h : i < xs.length) : xs.getD i 0 = xs[i] := by rw [List.getD_eq_getElem?_getD, List.getElem?_eq_getElem h]; rfl
/-- The linear index of the first k coordinates. -/
def idxK (xs ys : List Int) : Nat → Int
  | 0 => 0
  | k + 1 => idxK xs ys k * xs.getD k 0 + ys.getD k 0
def idxL (xs ys : List Int) : Int := idxK xs ys xs.length
theorem inside_len {xs ys : List Int} (h : ys.length ≠ xs.length) : inside xs ys = false := by simp [inside, h]
theorem inside_bad {xs ys : List Int} {k : Nat} (hk : k < xs.length) (h : inP xs ys k = false) : inside xs ys = false := by simp [inside, allTo_bad _ k _ hk h]
theorem inside_end {xs ys : List Int} (hl : ys.length = xs.length) (h : allTo (inP xs ys) xs.length = true) : inside xs ys = true := by simp [inside, h, hl]
theorem inside_iff {xs ys : List Int} (h : inside xs ys = true) : ys.length = xs.length ∧ allTo (inP xs ys) xs.length = true := by simpa [inside] using h
theorem inP_at (xs ys : List Int) (i : Nat) (h : i < xs.length) (h2 : i < ys.length) : inP xs ys i = (decide (0 ≤ ys[i]) && decide (ys[i] < xs[i])) := by unfold inP; rw [getD_at _ _ h, getD_at _ _ h2]
theorem inP_no {xs ys : List Int} {i : Nat} (h : i < xs.length) (h2 : i < ys.length) (hb : ys[i] < 0 ∨ xs[i] ≤ ys[i]) : inP xs ys i = false := by rw [inP_at _ _ _ h h2]; simp; omega
theorem inP_yes {xs ys : List Int} {i : Nat} (h : i < xs.length) (h2 : i < ys.length) (hb : 0 ≤ ys[i] ∧ ys[i] < xs[i]) : inP xs ys i = true := by rw [inP_at _ _ _ h h2]; simp; omega
theorem inP_in {xs ys : List Int} {i : Nat} (h : i < xs.length) (h2 : i < ys.length) (hb : inP xs ys i = true) : 0 ≤ ys[i] ∧ ys[i] < xs[i] := by rw [inP_at _ _ _ h h2] at hb; simpa using hb
theorem inP_inB {xs ys : List Int} {i : Nat} (h : i < xs.length) (h2 : i < ys.length) : inB ys[i] 0 (xs[i] - 1) = inP xs ys i := by
  rw [inP_at _ _ _ h h2, inB, Bool.eq_iff_iff]; simp; omega
theorem idx_bd (xs ys : List Int) (hl : xs.length ≤ 3) (hd : allTo (inD xs) xs.length = true) (hy : ys.length = xs.length) (hi : allTo (inP xs ys) xs.length = true) : ∀ k, k ≤ xs.length → 0 ≤ idxK xs ys k ∧ idxK xs ys k < prodK xs k
  | 0, _ => by rw [prodK_zero, idxK]; omega
  | k + 1, hk => by
    have ih := idx_bd xs ys hl hd hy hi k (by omega)
    have hdk := allTo_at hd (show k < xs.length by omega)
    rw [inD_at _ _ (by omega), inB_iff] at hdk
    have hik := inP_in (by omega) (by omega) (allTo_at hi (show k < xs.length by omega))
    rw [idxK, prodK_succ _ _ (by omega), getD_at _ _ (by omega), getD_at _ _ (by omega)]
    generalize idxK xs ys k = a at *
    generalize prodK xs k = p at *
    generalize xs[k] = x at *
    have h1 : 0 ≤ a * x := Int.mul_nonneg ih.1 (by omega)
    have h2 : a * x ≤ (p - 1) * x := Int.mul_le_mul_of_nonneg_right (by omega) (by omega)
    have h3 : (p - 1) * x = p * x - x := by rw [Int.sub_mul, Int.one_mul]
    omega
theorem idx_mul (xs ys : List Int) (hl : xs.length ≤ 3) (hd : allTo (inD xs) xs.length = true) (hy : ys.length = xs.length) (hi : allTo (inP xs ys) xs.length = true) (k : Nat) (hk : k < xs.length) :
    0 ≤ idxK xs ys k * xs[k] ∧ idxK xs ys k * xs[k] ≤ 64000 ∧ 0 ≤ idxK xs ys k * xs[k] + ys[k] ∧ idxK xs ys k * xs[k] + ys[k] ≤ 64000 := by
  have h1 := idx_bd xs ys hl hd hy hi k (by omega)
  have h2 := idx_bd xs ys hl hd hy hi (k + 1) hk
  have hik := inP_in hk (by omega) (allTo_at hi hk)
  have hp := prodK_small xs hl (k + 1) hk (by
    unfold allTo at hd ⊢
    rw [List.all_eq_true] at hd ⊢
    intro i hi
    exact hd i (List.mem_range.2 (by have := List.mem_range.1 hi; omega)))
  rw [idxK, getD_at _ _ hk, getD_at _ _ (by omega)] at h2
  have hdk := allTo_at hd hk
  rw [inD_at _ _ hk, inB_iff] at hdk
  have h3 : 0 ≤ idxK xs ys k * xs[k] := Int.mul_nonneg h1.1 hdk.1
  omega
/-- Dimensions and coordinates in them. -/
def Fit (xs ys : List Int) : Prop := xs.length ≤ 3 ∧ allTo (inD xs) xs.length = true ∧ ys.length = xs.length ∧ allTo (inP xs ys) xs.length = true
/-- The linear index, or -1. -/
def indexE (xs ys : List Int) : Int := if dimsOk xs = true ∧ inside xs ys = true then idxL xs ys else -1
theorem Fit.of {xs ys : List Int} (h : dimsOk xs = true) (h2 : inside xs ys = true) : Fit xs ys := ⟨(dimsOk_iff h).1, (dimsOk_iff h).2.1, (inside_iff h2).1, (inside_iff h2).2⟩
end Go.Proofs.Ytmddgncidgdglaa
