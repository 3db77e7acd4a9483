/- Plain facts of numbers as bytes: read back what was written, and the other way. No statement is proved here. -/
import Derived.Test.YtjfkfnmbppmbpaaNumI
import Derived.Test.YtjfkfnmbppmbpaaGetU
import Derived.Test.YtjfkfnmbppmbpaaGetI
namespace Go.Proofs.Ytjfkfnmbppmbpaa
open Go.RowKit
set_option linter.unusedVariables false
theorem leS_size (n : Int) (m : Nat) : (leS n m).size = m := by unfold leS; simp [ByteArray.size, leL_length]
theorem leS_list (n : Int) (m : Nat) : (leS n m).data.toList = leL n m := by unfold leS; simp
theorem pow_256 (k : Nat) : (2 : Int) ^ (8 * k) = 256 ^ k := by rw [Int.pow_mul]; rfl
theorem emod_step (n P : Int) (hP : 0 < P) : n % (P * 256) = n % P + P * (n / P % 256) := by
  have e1 := Int.emod_add_mul_ediv n P
  have e2 := Int.emod_add_mul_ediv (n / P) 256
  have r0 := Int.emod_nonneg n (by omega : P ≠ 0)
  have r1 := Int.emod_lt_of_pos n hP
  have q0 : 0 ≤ n / P % 256 := Int.emod_nonneg _ (by decide)
  have q1 : n / P % 256 ≤ 255 := by omega
  have m1 : P * (n / P % 256) ≤ P * 255 := Int.mul_le_mul_of_nonneg_left q1 (by omega)
  have m0 : 0 ≤ P * (n / P % 256) := Int.mul_nonneg (by omega) q0
  have e3 : n = (n % P + P * (n / P % 256)) + (P * 256) * (n / P / 256) := by
    rw [Int.mul_assoc, Int.add_assoc, ← Int.mul_add, e2, e1]
  have e4 : n % (P * 256) = ((n % P + P * (n / P % 256)) + (P * 256) * (n / P / 256)) % (P * 256) := by rw [← e3]
  rw [e4, Int.add_mul_emod_self_left, Int.emod_eq_of_lt (by omega) (by omega)]
theorem leVal_leL (n : Int) : ∀ m : Nat, leVal (leL n m) = n % 256 ^ m
  | 0 => by simp [leL, leVal, Int.emod_one]
  | m + 1 => by
    rw [leL_succ, leVal_snoc, leVal_leL n m, leL_length, byteOf_toNat, pow_256, Int.pow_succ, emod_step _ _ (Int.pow_pos (by decide))]
theorem cutL_leS (n : Int) (m : Nat) : cutL (leS n m) 0 m = leL n m := by
  unfold cutL; rw [leS_list, List.drop_zero, List.take_of_length_le (by rw [leL_length]; exact Nat.le_refl _)]
theorem putU_size (n s : Int) : (putU n s).size ≤ 8 := by
  unfold putU; split
  · rw [leS_size]; omega
  · simp [ByteArray.size]
theorem putI_size (n s : Int) : (putI n s).size ≤ 8 := by
  unfold putI; split
  · rw [leS_size]; omega
  · simp [ByteArray.size]
/-- What is read back of what PutUint writes. -/
theorem getU_putU (n s : Int) (hn : n < 9223372036854775808) : putU n s = ⟨#[]⟩ ∨ (putU n s ≠ ⟨#[]⟩ ∧ ((putU n s).size : Int) = s ∧ getU (putU n s) 0 s = .tuple #[.int .i64 n, .bool true]) := by
  by_cases h : 1 ≤ s ∧ s ≤ 8 ∧ 0 ≤ n ∧ n / 2 ^ (8 * s.toNat) = 0
  · right
    rw [putU_yes h]
    obtain ⟨h1, h8, h0, hz⟩ := h
    refine ⟨fun e => ?_, by rw [leS_size]; omega, ?_⟩
    · have := congrArg ByteArray.size e
      rw [leS_size] at this
      simp [ByteArray.size] at this; omega
    · unfold getU
      rw [if_pos ⟨h1, h8, by omega, by rw [leS_size]; omega⟩, show (0 : Int).toNat = 0 from rfl, cutL_leS, leVal_leL]
      have hp : (0 : Int) < 256 ^ s.toNat := Int.pow_pos (by decide)
      rw [pow_256] at hz
      have hlt : n < 256 ^ s.toNat := by
        have := Int.lt_mul_ediv_self_add hp (x := n); rw [hz] at this; omega
      rw [Int.emod_eq_of_lt h0 hlt, uOk_yes hn]
  · left; exact putU_no h
theorem leL_getLast (n : Int) (m : Nat) (h : 1 ≤ m) : ((leL n m).getLast?.getD 0) = byteOf n (m - 1) := by
  obtain ⟨k, rfl⟩ := Nat.exists_eq_succ_of_ne_zero (by omega : m ≠ 0)
  rw [Nat.succ_eq_add_one, leL_succ]; simp
theorem rdS_leS (n : Int) (m : Nat) (h1 : 1 ≤ (m : Int)) (h8 : (m : Int) ≤ 8) (hf : FitsI n m) : rdS (leS n m) 0 m = n := by
  unfold rdS
  rw [cutL_leS, leL_getLast n m (by omega), leValC_eq, leVal_leL, leL_length, byteOf_toNat]
  unfold FitsI at hf
  rcases cases18 h1 h8 with rfl | rfl | rfl | rfl | rfl | rfl | rfl | rfl <;>
  · simp only [Nat.reduceMul, Nat.reduceSub, Int.reducePow] at hf ⊢
    unfold above
    split <;> omega
theorem leL_leValC (c : Int) : ∀ l : List UInt8, leL (leValC c l) l.length = l
  | [] => rfl
  | b :: l => by
    have ih := leL_leValC c l
    have hb := byte_lt b
    have h0 : byteOf (leValC c (b :: l)) 0 = b := by
      apply UInt8.toNat_inj.mp
      have := byteOf_toNat (leValC c (b :: l)) 0
      unfold leValC at this ⊢
      simp only [Nat.mul_zero, Int.pow_zero, Int.ediv_one] at this
      omega
    have hs : ∀ i, byteOf (leValC c (b :: l)) (i + 1) = byteOf (leValC c l) i := by
      intro i
      unfold byteOf
      have e : leValC c (b :: l) / 256 = leValC c l := by
        show ((b.toNat : Int) + 256 * leValC c l) / 256 = leValC c l
        omega
      rw [pow_256, pow_256, Int.pow_succ, Int.mul_comm (256 ^ i) 256, ← Int.ediv_ediv_of_nonneg (by decide : (0 : Int) ≤ 256), e]
    unfold leL at ih ⊢
    rw [List.length_cons, List.range_succ_eq_map, List.map_cons, List.map_map, h0]
    congr 1
    refine (List.map_congr_left fun i _ => ?_).trans ih
    exact hs i
theorem cutL_extract (s : ByteArray) (a m : Nat) (h : a + m ≤ s.size) : (⟨(cutL s a m).toArray⟩ : ByteArray) = s.extract a (a + m) := by
  apply ByteArray.ext
  rw [ByteArray.data_extract]
  apply Array.ext'
  simp only [cutL, Array.toList_extract, List.extract_eq_take_drop, Nat.add_sub_cancel_left]
/-- What is read of a text and written again is the text's own part. -/
theorem putI_rdS (s : ByteArray) (a m : Nat) (h1 : 1 ≤ (m : Int)) (h8 : (m : Int) ≤ 8) (h : a + m ≤ s.size) : putI (rdS s a m) m = s.extract a (a + m) := by
  obtain ⟨b, hb, hbe, hc⟩ := cutL_last s a m (by omega) h
  have hlen := cutL_length s a m h
  have hl : (cutL s a (m - 1)).length = m - 1 := cutL_length s a (m - 1) (by omega)
  have hbd := leValC_bounds b (cutL s a (m - 1))
  rw [hl] at hbd
  have hr : rdS s a m = leValC (above b.toNat) (cutL s a m) := by rw [rdS_eq s a m b _ hc, hc]
  have hfit : FitsI (rdS s a m) m := by
    unfold FitsI
    rw [hr, hc]
    generalize leValC (above b.toNat) (cutL s a (m - 1) ++ [b]) = v at *
    clear hr hc hlen hl hbe
    rcases cases18 h1 h8 with rfl | rfl | rfl | rfl | rfl | rfl | rfl | rfl <;>
    · simp only [Nat.reduceMul, Nat.reduceSub, Int.reducePow] at hbd ⊢
      omega
  rw [putI_yes ⟨h1, h8, hfit⟩, ← cutL_extract s a m h, show (m : Int).toNat = m from rfl]
  unfold leS
  have := leL_leValC (above b.toNat) (cutL s a m)
  rw [hlen] at this
  rw [hr, this]
theorem putI_get (n s : Int) : putI n s = ⟨#[]⟩ ∨ (putI n s ≠ ⟨#[]⟩ ∧ ((putI n s).size : Int) = s ∧ InB (putI n s) 0 s ∧ rdS (putI n s) 0 s.toNat = n) := by
  by_cases h : 1 ≤ s ∧ s ≤ 8 ∧ FitsI n s.toNat
  · right
    rw [putI_yes h]
    obtain ⟨h1, h8, hf⟩ := h
    refine ⟨fun e => ?_, by rw [leS_size]; omega, ⟨h1, h8, by omega, by rw [leS_size]; omega⟩, rdS_leS n s.toNat (by omega) (by omega) hf⟩
    have := congrArg ByteArray.size e
    rw [leS_size] at this
    simp [ByteArray.size] at this; omega
  · left; exact putI_no h
end Go.Proofs.Ytjfkfnmbppmbpaa
