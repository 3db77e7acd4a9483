/- Numbers of some bytes replaced by others, in plain words. No statement is proved here. -/
import Derived.Test.YtmddgncidgdglaaShP
namespace Go.Proofs.Ytmddgncidgdglaa
open Go.RowKit
set_option linter.unusedVariables false
theorem i64_andp (n : Int) (k : Nat) (q : Int) (hq : (BitVec.ofInt 64 q).toNat = 2 ^ k - 1) (hk : k ≤ 62) : bits .and .i64 n q = n % 2 ^ k := by
  have key : (BitVec.ofInt 64 n &&& BitVec.ofInt 64 q).toNat = (n % ((2 ^ 64 : Nat) : Int)).toNat % 2 ^ k := by
    rw [BitVec.toNat_and, BitVec.toNat_ofInt, hq, Nat.and_two_pow_sub_one_eq_mod]
  show IntKind.i64.wrap ((BitVec.ofInt 64 n &&& BitVec.ofInt 64 q).toNat : Nat) = n % 2 ^ k
  have h1 : ((2 : Int) ^ k) = ((2 ^ k : Nat) : Int) := by norm_cast
  have h2 : (2 : Nat) ^ k ∣ 2 ^ 64 := Nat.pow_dvd_pow 2 (by omega)
  have h3 : (2 : Nat) ^ k ≤ 2 ^ 62 := Nat.pow_le_pow_right (by decide) hk
  have h4 : (n % ((2 ^ 64 : Nat) : Int)).toNat % 2 ^ k < 2 ^ k := Nat.mod_lt _ (Nat.pos_of_ne_zero (by simp))
  rw [key, IntKind.wrap_i64, h1]
  have h5 : (((n % ((2 ^ 64 : Nat) : Int)).toNat % 2 ^ k : Nat) : Int) = n % ((2 ^ k : Nat) : Int) := by
    rw [Int.natCast_emod, Int.toNat_of_nonneg (Int.emod_nonneg _ (by decide))]
    exact Int.emod_emod_of_dvd n (Int.natCast_dvd_natCast.2 h2)
  rw [← h5]
  omega
theorem i64_and16 (n : Int) : bits .and .i64 n 65535 = n % 65536 := i64_andp n 16 65535 (by decide) (by omega)
theorem i64_and32 (n : Int) : bits .and .i64 n 4294967295 = n % 4294967296 := i64_andp n 32 4294967295 (by decide) (by omega)
/-- The number at place i among numbers of W bytes. -/
def numAt (s : ByteArray) (W i : Nat) : Int := leVal (cutL s (i * W) W)
/-- The sum of the first t numbers. -/
def sumTo (s : ByteArray) (W : Nat) : Nat → Int
  | 0 => 0
  | t + 1 => sumTo s W t + numAt s W t
/-- The number before the one at place t, 0 ahead of the first. -/
def prevAt (s : ByteArray) (W : Nat) : Nat → Int
  | 0 => 0
  | t + 1 => numAt s W t
def dlF (s : ByteArray) (W i : Nat) : Int := numAt s W i - prevAt s W i
def dlB (s : ByteArray) (W i : Nat) : Int := sumTo s W (i + 1)
def dlL (e : Nat → Int) (W t : Nat) : List UInt8 := (List.range t).flatMap (fun i => leL (e i) W)
def dlS (s : ByteArray) (W : Nat) (e : Nat → Int) : ByteArray := ⟨(dlL e W (s.size / W) ++ s.data.toList.drop (s.size / W * W)).toArray⟩
theorem dlL_succ (e : Nat → Int) (W t : Nat) : dlL e W (t + 1) = dlL e W t ++ leL (e t) W := by simp [dlL, List.range_succ, List.flatMap_append]
theorem dlL_length (e : Nat → Int) (W : Nat) : ∀ t, (dlL e W t).length = t * W
  | 0 => by simp [dlL]
  | t + 1 => by rw [dlL_succ, List.length_append, dlL_length e W t, leL_length, Nat.succ_mul]
/-- The bytes of a number are those of its remainder. -/
theorem byteOf_mod {W k : Nat} (hW : W = 1 ∨ W = 2 ∨ W = 4) (hk : k < W) (x y : Int) (h : x % 2 ^ (8 * W) = y % 2 ^ (8 * W)) : byteOf x k = byteOf y k := by
  unfold byteOf
  congr 2
  rcases hW with rfl | rfl | rfl
  · obtain rfl : k = 0 := by omega
    simp at h ⊢
    omega
  · rcases (show k = 0 ∨ k = 1 by omega) with rfl | rfl
    · simp at h ⊢
      omega
    · simp at h ⊢
      omega
  · rcases (show k = 0 ∨ k = 1 ∨ k = 2 ∨ k = 3 by omega) with rfl | rfl | rfl | rfl
    · simp at h ⊢
      omega
    · simp at h ⊢
      omega
    · simp at h ⊢
      omega
    · simp at h ⊢
      omega
theorem leL_mod {W : Nat} (hW : W = 1 ∨ W = 2 ∨ W = 4) (x y : Int) (h : x % 2 ^ (8 * W) = y % 2 ^ (8 * W)) : ∀ k, k ≤ W → leL x k = leL y k
  | 0, _ => rfl
  | k + 1, hk => by rw [leL_succ, leL_succ, leL_mod hW x y h k (by omega), byteOf_mod hW (by omega) x y h]
theorem numAt_bd (s : ByteArray) {W : Nat} (hW : W = 1 ∨ W = 2 ∨ W = 4) (i : Nat) (h : i * W + W ≤ s.size) : 0 ≤ numAt s W i ∧ numAt s W i < 2 ^ (8 * W) := by
  refine ⟨leVal_nonneg _, ?_⟩
  have h1 := leVal_lt (cutL s (i * W) W)
  rw [cutL_length s (i * W) W h] at h1
  unfold numAt
  rcases hW with rfl | rfl | rfl
  · simpa using h1
  · simpa using h1
  · simpa using h1
end Go.Proofs.Ytmddgncidgdglaa
