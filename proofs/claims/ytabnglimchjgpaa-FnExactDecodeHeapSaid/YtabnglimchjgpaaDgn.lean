/- What is read from the start of a text, and texts put together: for every binary form. Pure. No statement is proved here. -/
import Derived.Test.YtabnglimchjgpaaEnb
import Derived.Test.YtabnglimchjgpaaFre
namespace Go.Proofs.Ytabnglimchjgpaa
open Go.RowKit
set_option linter.unusedVariables false
theorem pow_h (k : Nat) : (2 : Int) ^ (8 * k) = 256 ^ k := by rw [Int.pow_mul]; rfl
theorem emod_h (n P : Int) (hP : 0 < P) : n % (P * 256) = n % P + P * (n / P % 256) := by
  have e1 := Int.emod_add_mul_ediv n P
  have e2 := Int.emod_add_mul_ediv (n / P) 256
  have r0 := Int.emod_nonneg n (by omega : P ≠ 0)
  have r1 := Int.emod_lt_of_pos n hP
  have q0 : 0 ≤ n / P % 256 := Int.emod_nonneg _ (by decide)
  have q1 : n / P % 256 ≤ 255 := by omega
  have m1 : P * (n / P % 256) ≤ P * 255 := Int.mul_le_mul_of_nonneg_left q1 (by omega)
  have m0 : 0 ≤ P * (n / P % 256) := Int.mul_nonneg (by omega) q0
  have e3 : n = (n % P + P * (n / P % 256)) + (P * 256) * (n / P / 256) := by
    rw [Int.mul_assoc, Int.add_assoc, ← Int.mul_add, e2, e1]
  have e4 : n % (P * 256) = ((n % P + P * (n / P % 256)) + (P * 256) * (n / P / 256)) % (P * 256) := by rw [← e3]
  rw [e4, Int.add_mul_emod_self_left, Int.emod_eq_of_lt (by omega) (by omega)]
theorem leVal_h (n : Int) : ∀ m : Nat, leVal (leL n m) = n % 256 ^ m
  | 0 => by simp [leL, leVal, Int.emod_one]
  | m + 1 => by
    rw [leL_succ, leVal_snoc, leVal_h n m, leL_length, byteOf_toNat, pow_h, Int.pow_succ, emod_h _ _ (Int.pow_pos (by decide))]
theorem leS_l (n : Int) (m : Nat) : (leS n m).data.toList = leL n m := by unfold leS; simp
theorem app_l (x u : ByteArray) : (x ++ u).data.toList = x.data.toList ++ u.data.toList := by simp
theorem size_l (x : ByteArray) : x.data.toList.length = x.size := by simp
theorem fR_app (x u : ByteArray) (m : Nat) (h : x.size = m) : fR (x ++ u) m = u := by
  unfold fR
  rw [Nat.min_eq_left (by rw [ByteArray.size_append]; omega)]
  apply ByteArray.ext
  apply Array.toList_inj.1
  have hl := size_l x
  simp only [ByteArray.data_extract, Array.toList_extract, List.extract_eq_take_drop, app_l]
  rw [List.drop_left' (by omega), List.take_of_length_le]
  rw [size_l, ByteArray.size_append]
  omega
theorem fT_app (x u : ByteArray) (m : Nat) (h : x.size = m) : fT (x ++ u) m = x := by
  unfold fT
  rw [Nat.min_eq_left (by rw [ByteArray.size_append]; omega)]
  apply ByteArray.ext
  apply Array.toList_inj.1
  have hl := size_l x
  simp only [ByteArray.data_extract, Array.toList_extract, List.extract_eq_take_drop, app_l, List.drop_zero, Nat.sub_zero]
  rw [List.take_left' (by omega)]
theorem nV_app (n : Int) (m : Nat) (u : ByteArray) (h0 : 0 ≤ n) (h : n < 256 ^ m) (hm : n < 9223372036854775808) : nV (leS n m ++ u) m = n := by
  have hz := leS_one n m
  unfold nV
  rw [if_pos (by rw [ByteArray.size_append]; omega)]
  have e : cutL (leS n m ++ u) 0 m = leL n m := by
    unfold cutL
    rw [List.drop_zero, app_l, leS_l, List.take_left' (leL_length n m)]
  unfold gV
  rw [e, leVal_h, Int.emod_eq_of_lt h0 h, if_pos hm]
theorem nV_list (l : List UInt8) (m : Nat) (h : m ≤ l.length) (hm : m ≤ 7) : nV ⟨l.toArray⟩ m = leVal (l.take m) := by
  unfold nV
  have hz : ByteArray.size ⟨l.toArray⟩ = l.length := by show l.toArray.size = _; simp
  rw [if_pos (by omega)]
  have e : cutL ⟨l.toArray⟩ 0 m = l.take m := by unfold cutL; simp
  have hs := leVal_small ⟨l.toArray⟩ 0 m (by omega) hm
  unfold gV
  rw [e] at hs ⊢
  rw [if_pos hs]
theorem fR_list (l : List UInt8) (m : Nat) (h : m ≤ l.length) : fR ⟨l.toArray⟩ m = ⟨(l.drop m).toArray⟩ := by
  have hz : ByteArray.size ⟨l.toArray⟩ = l.length := by show l.toArray.size = _; simp
  unfold fR
  rw [Nat.min_eq_left (by omega)]
  apply ByteArray.ext
  apply Array.toList_inj.1
  simp only [ByteArray.data_extract, Array.toList_extract, List.extract_eq_take_drop]
  rw [List.take_of_length_le]
  simp [hz]
theorem byteOf_0 (b : UInt8) (n : Int) : byteOf ((b.toNat : Int) + 256 * n) 0 = b := by
  apply UInt8.toNat_inj.1
  have h := byteOf_toNat ((b.toNat : Int) + 256 * n) 0
  have hb := byte_lt b
  simp only [Nat.mul_zero, Int.pow_zero, Int.ediv_one] at h
  omega
theorem un1 (t : ByteArray) (h : 1 ≤ t.size) : leS (nV t 1) 1 ++ fR t 1 = t := by
  obtain ⟨⟨l⟩⟩ := t
  have hz : 1 ≤ l.length := by simpa [ByteArray.size] using h
  match l, hz with
  | a :: l, _ =>
    have e1 := nV_list (a :: l) 1 (by simp) (by omega)
    have e2 := fR_list (a :: l) 1 (by simp)
    have : (⟨⟨a :: l⟩⟩ : ByteArray) = ⟨(a :: l).toArray⟩ := rfl
    rw [this, e1, e2]
    apply ByteArray.ext
    apply Array.toList_inj.1
    rw [app_l, leS_l]
    simp only [List.take_succ_cons, List.take_zero, leVal, List.drop_succ_cons, List.drop_zero, leL_one, byteOf_0]
    simp
theorem un2 (t : ByteArray) (h : 2 ≤ t.size) : leS (nV t 2) 2 ++ fR t 2 = t := by
  obtain ⟨⟨l⟩⟩ := t
  have hz : 2 ≤ l.length := by simpa [ByteArray.size] using h
  match l, hz with
  | a :: b :: l, _ =>
    have e1 := nV_list (a :: b :: l) 2 (by simp) (by omega)
    have e2 := fR_list (a :: b :: l) 2 (by simp)
    have : (⟨⟨a :: b :: l⟩⟩ : ByteArray) = ⟨(a :: b :: l).toArray⟩ := rfl
    rw [this, e1, e2]
    apply ByteArray.ext
    apply Array.toList_inj.1
    rw [app_l, leS_l]
    have hb := byteOf_toNat ((a.toNat : Int) + 256 * ((b.toNat : Int) + 256 * 0)) 1
    have hb2 : byteOf ((a.toNat : Int) + 256 * ((b.toNat : Int) + 256 * 0)) 1 = b := by
      apply UInt8.toNat_inj.1
      have h1 := byte_lt a
      have h2 := byte_lt b
      simp only [Nat.mul_one] at hb
      have e : ((2 : Int) ^ 8) = 256 := by decide
      rw [e] at hb
      omega
    simp only [List.take_succ_cons, List.take_zero, leVal, List.drop_succ_cons, List.drop_zero]
    rw [leL_succ, leL_one, byteOf_0, hb2]
    simp
theorem un0 (t : ByteArray) (m : Nat) (h : m ≤ t.size) : fT t m ++ fR t m = t := by
  apply ByteArray.ext
  apply Array.toList_inj.1
  unfold fT fR
  rw [Nat.min_eq_left h, app_l]
  simp only [ByteArray.data_extract, Array.toList_extract, List.extract_eq_take_drop, List.drop_zero, Nat.sub_zero]
  have : t.data.toList.drop m = (t.data.toList.drop m).take (t.size - m) := by
    rw [List.take_of_length_le]; simp
  rw [← this, List.take_append_drop]
theorem allTo_h (p : Nat → Bool) (n : Nat) (h : ∀ i, i < n → p i = true) : allTo p n = true := by simp [allTo]; exact h
end Go.Proofs.Ytabnglimchjgpaa
