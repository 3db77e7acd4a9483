/- Numbers read out of bytes: plain words and lemmas. No statement is proved here. -/
import Derived.Test.YtmddgncidgdglaaBase
namespace Go.Proofs.Ytmddgncidgdglaa
open Go.RowKit
set_option linter.unusedVariables false
/-- The number whose bytes are these, the least significant one first. -/
def leVal : List UInt8 → Int
  | [] => 0
  | b :: l => (b.toNat : Int) + 256 * leVal l
theorem leVal_nonneg : ∀ l, 0 ≤ leVal l
  | [] => Int.le_refl 0
  | b :: l => by have := leVal_nonneg l; unfold leVal; omega
theorem byte_lt (b : UInt8) : b.toNat < 256 := b.toNat_lt
theorem leVal_lt : ∀ l : List UInt8, leVal l < 256 ^ l.length
  | [] => by simp [leVal]
  | b :: l => by
    have h := leVal_lt l
    have hb := byte_lt b
    have e : (256 : Int) ^ (b :: l).length = 256 * 256 ^ l.length := by rw [List.length_cons, Int.pow_succ, Int.mul_comm]
    rw [e]; unfold leVal
    generalize (256 : Int) ^ l.length = P at *
    omega
def cutL (s : ByteArray) (a m : Nat) : List UInt8 := (s.data.toList.drop a).take m
theorem cutL_length (s : ByteArray) (a m : Nat) (h : a + m ≤ s.size) : (cutL s a m).length = m := by
  have : s.data.toList.length = s.size := by simp
  unfold cutL; rw [List.length_take, List.length_drop]; omega
theorem cutL_drop (s : ByteArray) (a m j : Nat) (h : a + m ≤ s.size) (hj : j < m) : (cutL s a m).drop j = s[a + j]'(by omega) :: (cutL s a m).drop (j + 1) := by
  rw [List.drop_eq_getElem_cons (by rw [cutL_length s a m h]; exact hj)]
  congr 1
  simp only [cutL, List.getElem_take, List.getElem_drop]
  rfl
theorem leVal_lt7 (l : List UInt8) (h : l.length ≤ 7) : leVal l < 72057594037927936 := by
  have hl := leVal_lt l
  have hc : l.length = 0 ∨ l.length = 1 ∨ l.length = 2 ∨ l.length = 3 ∨ l.length = 4 ∨ l.length = 5 ∨ l.length = 6 ∨ l.length = 7 := by omega
  rcases hc with e | e | e | e | e | e | e | e <;> rw [e] at hl <;> simp only [Int.reducePow, Int.pow_zero] at hl <;> omega
theorem or_comm_bits (k : IntKind) (x y : Int) : bits .or k x y = bits .or k y x := by simp only [bits, BitVec.or_comm]
theorem u64_or_byte (X : Int) (h0 : 0 ≤ X) (h1 : X < 72057594037927936) (b : UInt8) : bits .or .u64 (X * 256) (IntKind.u64.wrap (b.toNat : Int)) = (b.toNat : Int) + 256 * X := by
  have hb := byte_lt b
  rw [IntKind.wrap_u64, show ((b.toNat : Int) % 18446744073709551616) = (b.toNat : Int) from by omega, or_comm_bits, u64_or8 _ _ (by omega) (by omega) (by omega) (by omega) (by omega)]
  omega
theorem leVal_snoc (b : UInt8) : ∀ l : List UInt8, leVal (l ++ [b]) = leVal l + 256 ^ l.length * (b.toNat : Int)
  | [] => by simp [leVal]
  | a :: l => by
    have h := leVal_snoc b l
    rw [List.cons_append]
    unfold leVal
    rw [h, List.length_cons, Int.pow_succ, Int.mul_comm (256 ^ l.length) 256, Int.mul_assoc]
    generalize (256 : Int) ^ l.length * (b.toNat : Int) = P
    omega
theorem leVal_drop_le (l : List UInt8) (j : Nat) : leVal (l.drop j) ≤ leVal l := by
  induction l generalizing j with
  | nil => simp
  | cons b l ih =>
    cases j with
    | zero => simp
    | succ j =>
      have := ih j
      have h0 := leVal_nonneg l
      rw [List.drop_succ_cons]
      show leVal (l.drop j) ≤ (b.toNat : Int) + 256 * leVal l
      omega
theorem cutL_snoc (s : ByteArray) (a m : Nat) (h : a + (m + 1) ≤ s.size) : cutL s a (m + 1) = cutL s a m ++ [s[a + m]'(by omega)] := by
  have hl : s.data.toList.length = s.size := by simp
  unfold cutL
  rw [List.take_succ_eq_append_getElem (by rw [List.length_drop]; omega)]
  congr 2
  simp only [List.getElem_drop]
  rfl
/-- Eight bytes stand for a number of 2^63 or more just where the last of them is 128 or more. -/
theorem leVal_top (s : ByteArray) (a : Nat) (h : a + 8 ≤ s.size) : 9223372036854775808 ≤ leVal (cutL s a 8) ↔ 127 < ((s[a + 7]'(by omega)).toNat : Int) := by
  rw [cutL_snoc s a 7 h, leVal_snoc, cutL_length s a 7 (by omega)]
  have h0 := leVal_nonneg (cutL s a 7)
  have h1 := leVal_lt7 (cutL s a 7) (by rw [cutL_length s a 7 (by omega)]; exact Nat.le_refl _)
  simp only [Int.reducePow]
  omega
theorem leVal_small (s : ByteArray) (a m : Nat) (h : a + m ≤ s.size) (hm : m ≤ 7) : leVal (cutL s a m) < 9223372036854775808 := by
  have := leVal_lt7 (cutL s a m) (by rw [cutL_length s a m h]; exact hm)
  omega
/-- The same with a sign: c is what stands above the bytes: 0, or -1. -/
def leValC (c : Int) : List UInt8 → Int
  | [] => c
  | b :: l => (b.toNat : Int) + 256 * leValC c l
theorem leValC_eq (c : Int) : ∀ l, leValC c l = leVal l + c * 256 ^ l.length
  | [] => by simp [leValC, leVal]
  | b :: l => by
    have h := leValC_eq c l
    unfold leValC leVal
    rw [h, List.length_cons, Int.pow_succ, ← Int.mul_assoc]
    generalize c * (256 : Int) ^ l.length = P
    omega
/-- What stands above a last byte b. -/
def above (b : Int) : Int := if 127 < b then -1 else 0
theorem leValC_bounds (b : UInt8) : ∀ l : List UInt8, -(128 * 256 ^ l.length) ≤ leValC (above b.toNat) (l ++ [b]) ∧ leValC (above b.toNat) (l ++ [b]) < 128 * 256 ^ l.length
  | [] => by
    have := byte_lt b
    simp only [List.nil_append, leValC, above, List.length_nil, Int.pow_zero]
    split <;> omega
  | a :: l => by
    have h := leValC_bounds b l
    have := byte_lt a
    rw [List.cons_append]
    unfold leValC
    rw [List.length_cons, Int.pow_succ]
    generalize (256 : Int) ^ l.length = P at *
    omega
/-- The number of m bytes read with a sign. -/
def rdVl (s : ByteArray) (a m : Nat) : Int := leValC (above ((s.data.toList.getD (a + (m - 1)) 0).toNat)) (cutL s a m)
end Go.Proofs.Ytmddgncidgdglaa
