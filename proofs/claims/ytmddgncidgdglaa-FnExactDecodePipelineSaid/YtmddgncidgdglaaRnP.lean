/- What runs of equal bytes are, in plain words. No statement is proved here. -/
import Derived.Test.YtmddgncidgdglaaVal
namespace Go.Proofs.Ytmddgncidgdglaa
open Go.RowKit
set_option linter.unusedVariables false
/-- How often b stands at the front of a list. -/
def eqPre (b : UInt8) : List UInt8 → Nat
  | [] => 0
  | x :: xs => if x = b then eqPre b xs + 1 else 0
def rn (b : UInt8) (l : List UInt8) : Nat := min 255 (eqPre b l)
/-- The pairs of a list's runs; the number bounds the runs. -/
def re : Nat → List UInt8 → List UInt8
  | 0, _ => []
  | _ + 1, [] => []
  | f + 1, x :: xs => UInt8.ofNat (rn x (x :: xs)) :: x :: re f ((x :: xs).drop (rn x (x :: xs)))
def reS (s : ByteArray) : ByteArray := ⟨(re s.size s.data.toList).toArray⟩
theorem eqPre_le (b : UInt8) : ∀ l, eqPre b l ≤ l.length
  | [] => Nat.le_refl _
  | x :: xs => by
    unfold eqPre
    have := eqPre_le b xs
    split
    · simp; omega
    · simp
theorem eqPre_step (b : UInt8) : ∀ (l : List UInt8) (k : Nat), k ≤ eqPre b l → (h : k < l.length) → l[k] = b → k + 1 ≤ eqPre b l
  | [], k, _, h, _ => by simp at h
  | x :: xs, 0, _, _, e => by
    simp at e
    unfold eqPre
    rw [if_pos e]
    omega
  | x :: xs, k + 1, h1, h2, e => by
    unfold eqPre at h1 ⊢
    by_cases hx : x = b
    · rw [if_pos hx] at h1 ⊢
      have := eqPre_step b xs k (by omega) (by simpa using h2) (by simpa using e)
      omega
    · rw [if_neg hx] at h1
      omega
theorem eqPre_stop (b : UInt8) : ∀ (l : List UInt8) (k : Nat), k ≤ eqPre b l → (h : k < l.length) → l[k] ≠ b → eqPre b l = k
  | [], k, _, h, _ => by simp at h
  | x :: xs, 0, _, _, e => by
    simp at e
    unfold eqPre
    rw [if_neg e]
  | x :: xs, k + 1, h1, h2, e => by
    unfold eqPre at h1 ⊢
    by_cases hx : x = b
    · rw [if_pos hx] at h1 ⊢
      have := eqPre_stop b xs k (by omega) (by simpa using h2) (by simpa using e)
      omega
    · rw [if_neg hx] at h1
      omega
theorem rn_step {b : UInt8} {l : List UInt8} {k : Nat} (h : k ≤ rn b l) (h1 : k < 255) (h2 : k < l.length) (e : l[k] = b) : k + 1 ≤ rn b l := by
  unfold rn at *
  have := eqPre_step b l k (by omega) h2 e
  omega
theorem rn_stop {b : UInt8} {l : List UInt8} {k : Nat} (h : k ≤ rn b l) (h2 : k < l.length) (e : l[k] ≠ b) : rn b l = k := by
  unfold rn at *
  have := eqPre_stop b l k (by omega) h2 e
  omega
theorem rn_full {b : UInt8} {l : List UInt8} {k : Nat} (h : k ≤ rn b l) (h2 : ¬ k < l.length ∨ ¬ k < 255) : rn b l = k := by
  unfold rn at *
  have := eqPre_le b l
  omega
theorem rn_one (x : UInt8) (xs : List UInt8) : 1 ≤ rn x (x :: xs) := by
  unfold rn eqPre
  rw [if_pos rfl]
  omega
theorem rn_le (b : UInt8) (l : List UInt8) : rn b l ≤ 255 ∧ rn b l ≤ l.length := by
  unfold rn
  have := eqPre_le b l
  omega
theorem re_len : ∀ (f : Nat) (l : List UInt8), (re f l).length ≤ 2 * l.length
  | 0, _ => by simp [re]
  | _ + 1, [] => by simp [re]
  | f + 1, x :: xs => by
    have h1 := re_len f ((x :: xs).drop (rn x (x :: xs)))
    have h2 := rn_one x xs
    have h3 := (rn_le x (x :: xs)).2
    unfold re
    rw [List.length_drop] at h1
    simp only [List.length_cons] at *
    omega
theorem re_nil (f : Nat) : re f [] = [] := by cases f <;> rfl
/-- One run more. -/
theorem re_at (f : Nat) (s : ByteArray) (i : Nat) (hi : i < s.size) (hf : s.size - i ≤ f) : ∃ f', s.size - (i + 1) ≤ f' ∧ re f (s.data.toList.drop i) = [UInt8.ofNat (rn (s[i]'hi) (s.data.toList.drop i)), s[i]'hi] ++ re f' (s.data.toList.drop (i + rn (s[i]'hi) (s.data.toList.drop i))) := by
  obtain ⟨f', rfl⟩ : ∃ f', f = f' + 1 := ⟨f - 1, by omega⟩
  refine ⟨f', by omega, ?_⟩
  have hd : s.data.toList.drop i = s[i]'hi :: s.data.toList.drop (i + 1) := by
    rw [List.drop_eq_getElem_cons (i := i) (by simpa using hi)]
    rfl
  rw [← List.drop_drop, hd]
  rfl
theorem drop_len (s : ByteArray) (i : Nat) : (s.data.toList.drop i).length = s.size - i := by rw [List.length_drop]; rfl
theorem drop_at (s : ByteArray) (i k : Nat) (h : i + k < s.size) : (s.data.toList.drop i)[k]'(by rw [drop_len]; omega) = s[i + k]'h := by
  rw [List.getElem_drop]
  rfl
theorem rn_byte (n : Nat) (h : n ≤ 255) : ((UInt8.ofNat n).toNat : Int) = n := by
  rw [UInt8.toNat_ofNat']
  omega
end Go.Proofs.Ytmddgncidgdglaa
