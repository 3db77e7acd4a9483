/- When a block is a superblock's: said of the whole block and of its halves. No statement is proved here. -/
import Derived.Test.YtlickjmdlooapaaDcS
namespace Go.Proofs.Ytlickjmdlooapaa
open Go.RowKit
set_option linter.unusedVariables false
theorem leS_size (n : Int) (m : Nat) : (leS n m).size = m := by unfold leS; simp [ByteArray.size, leL_length]
theorem leS_list (n : Int) (m : Nat) : (leS n m).data.toList = leL n m := by unfold leS; simp
theorem pow_256 (k : Nat) : (2 : Int) ^ (8 * k) = 256 ^ k := by rw [Int.pow_mul]; rfl
theorem emod_step (n P : Int) (hP : 0 < P) : n % (P * 256) = n % P + P * (n / P % 256) := by
  have e1 := Int.emod_add_mul_ediv n P
  have e2 := Int.emod_add_mul_ediv (n / P) 256
  have r0 := Int.emod_nonneg n (by omega : P ≠ 0)
  have r1 := Int.emod_lt_of_pos n hP
  have q0 : 0 ≤ n / P % 256 := Int.emod_nonneg _ (by decide)
  have q1 : n / P % 256 ≤ 255 := by omega
  have m1 : P * (n / P % 256) ≤ P * 255 := Int.mul_le_mul_of_nonneg_left q1 (by omega)
  have m0 : 0 ≤ P * (n / P % 256) := Int.mul_nonneg (by omega) q0
  have e3 : n = (n % P + P * (n / P % 256)) + (P * 256) * (n / P / 256) := by
    rw [Int.mul_assoc, Int.add_assoc, ← Int.mul_add, e2, e1]
  have e4 : n % (P * 256) = ((n % P + P * (n / P % 256)) + (P * 256) * (n / P / 256)) % (P * 256) := by rw [← e3]
  rw [e4, Int.add_mul_emod_self_left, Int.emod_eq_of_lt (by omega) (by omega)]
theorem leVal_leL (n : Int) : ∀ m : Nat, leVal (leL n m) = n % 256 ^ m
  | 0 => by simp [leL, leVal, Int.emod_one]
  | m + 1 => by
    rw [leL_succ, leVal_snoc, leVal_leL n m, leL_length, byteOf_toNat, pow_256, Int.pow_succ, emod_step _ _ (Int.pow_pos (by decide))]
def hf1 (s : ByteArray) : ByteArray := ⟨(s.data.toList.take 32).toArray⟩
def hf2 (s : ByteArray) : ByteArray := ⟨(s.data.toList.drop 32).toArray⟩
theorem hf1_size {s : ByteArray} (hz : s.size = 64) : (hf1 s).size = 32 := by
  have : s.data.toList.length = 64 := by simpa using hz
  show (s.data.toList.take 32).toArray.size = 32
  simp; omega
theorem hf2_size {s : ByteArray} (hz : s.size = 64) : (hf2 s).size = 32 := by
  have : s.data.toList.length = 64 := by simpa using hz
  show (s.data.toList.drop 32).toArray.size = 32
  simp; omega
theorem cutL_hf1 (s : ByteArray) (a m : Nat) (h : a + m ≤ 32) : cutL (hf1 s) a m = cutL s a m := by
  show ((s.data.toList.take 32).toArray.toList.drop a).take m = (s.data.toList.drop a).take m
  rw [List.toList_toArray, List.drop_take, List.take_take]
  congr 1; omega
theorem gV_hf1 (s : ByteArray) (a m : Nat) (h : a + m ≤ 32) : gV (hf1 s) a m = gV s a m := by unfold gV; rw [cutL_hf1 s a m h]
theorem gB_hf1 (s : ByteArray) (a m : Nat) (h : a + m ≤ 32) : gB (hf1 s) a m = gB s a m := by unfold gB; rw [cutL_hf1 s a m h]
theorem split_iff {s t : ByteArray} (ht : t.size = 32) : t ++ t = s ↔ (hf1 s = t ∧ hf2 s = t) := by
  have hl : t.data.toList.length = 32 := by simpa using ht
  constructor
  · rintro rfl
    have e : (t ++ t).data.toList = t.data.toList ++ t.data.toList := by simp
    constructor
    · unfold hf1; rw [e, List.take_left' hl]
    · unfold hf2; rw [e, List.drop_left' hl]
  · rintro ⟨h1, h2⟩
    apply ByteArray.ext
    apply Array.toList_inj.1
    have e : (t ++ t).data.toList = t.data.toList ++ t.data.toList := by simp
    rw [e]
    have a1 : t.data.toList = s.data.toList.take 32 := by rw [← h1]; simp [hf1]
    have a2 : t.data.toList = s.data.toList.drop 32 := by rw [← h2]; simp [hf2]
    calc t.data.toList ++ t.data.toList = s.data.toList.take 32 ++ s.data.toList.drop 32 := by rw [← a1, ← a2]
      _ = s.data.toList := List.take_append_drop _ _
theorem supP_cut (n0 n1 n2 n3 : Int) : cutL (supP n0 n1 n2 n3) 9 8 = leL n2 8 ∧ cutL (supP n0 n1 n2 n3) 17 8 = leL n3 8 := by
  have e : (supP n0 n1 n2 n3).data.toList = [65, 82, 82, 83] ++ leL 1 1 ++ leL n0 2 ++ leL n1 2 ++ leL n2 8 ++ leL n3 8 ++ (zeros 7).data.toList := by
    simp [supP, supH, leS]
  have l1 := leL_length 1 1; have l2 := leL_length n0 2; have l3 := leL_length n1 2; have l4 := leL_length n2 8; have l5 := leL_length n3 8
  unfold cutL
  rw [e]
  generalize leL 1 1 = c1 at *; generalize leL n0 2 = c2 at *; generalize leL n1 2 = c3 at *; generalize leL n2 8 = c4 at *; generalize leL n3 8 = c5 at *
  generalize (zeros 7).data.toList = z
  constructor
  · have : ([65, 82, 82, 83] ++ c1 ++ c2 ++ c3 ++ c4 ++ c5 ++ z : List UInt8) = ([65, 82, 82, 83] ++ c1 ++ c2 ++ c3) ++ (c4 ++ (c5 ++ z)) := by simp
    rw [this, List.drop_left' (by simp [l1, l2, l3]), List.take_left' l4]
  · have : ([65, 82, 82, 83] ++ c1 ++ c2 ++ c3 ++ c4 ++ c5 ++ z : List UInt8) = ([65, 82, 82, 83] ++ c1 ++ c2 ++ c3 ++ c4) ++ (c5 ++ z) := by simp
    rw [this, List.drop_left' (by simp [l1, l2, l3, l4]), List.take_left' l5]
theorem dcY_half {s : ByteArray} (hz : s.size = 64) : dcY s = (decide (hf1 s = hf2 s) && (supOk (gV s 5 2) (gV s 7 2) (gV s 9 8) (gV s 17 8) && decide (hf1 s = supP (gV s 5 2) (gV s 7 2) (gV s 9 8) (gV s 17 8)))) := by
  rw [Bool.eq_iff_iff]
  simp only [dcY, Bool.and_eq_true, decide_eq_true_eq]
  have hsp := split_iff (s := s) (supP_size (gV s 5 2) (gV s 7 2) (gV s 9 8) (gV s 17 8))
  constructor
  · rintro ⟨⟨-, ho⟩, hs, hb⟩
    obtain ⟨a1, a2⟩ := hsp.1 hb
    exact ⟨a1.trans a2.symm, hs, a1⟩
  · rintro ⟨he, hs, hp⟩
    refine ⟨⟨hz, ?_⟩, hs, hsp.2 ⟨hp, he.symm.trans hp⟩⟩
    obtain ⟨c1, c2⟩ := supP_cut (gV s 5 2) (gV s 7 2) (gV s 9 8) (gV s 17 8)
    rw [← hp] at c1 c2
    rw [cutL_hf1 s 9 8 (by omega)] at c1
    rw [cutL_hf1 s 17 8 (by omega)] at c2
    have i2 := gV_in s 9 8
    have i3 := gV_in s 17 8
    have v2 : leVal (cutL s 9 8) < 9223372036854775808 := by rw [c1, leVal_leL, Int.emod_eq_of_lt i2.1 (by omega)]; exact i2.2
    have v3 : leVal (cutL s 17 8) < 9223372036854775808 := by rw [c2, leVal_leL, Int.emod_eq_of_lt i3.1 (by omega)]; exact i3.2
    have v0 := leVal_small s 5 2 (by omega) (by omega)
    have v1 := leVal_small s 7 2 (by omega) (by omega)
    simp [dcO, gB, v0, v1, v2, v3]
end Go.Proofs.Ytlickjmdlooapaa
