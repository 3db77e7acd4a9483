/- Contracts of GetInt, the program's and the model's: one answer at every argument. No statement is proved here. -/
import Derived.Test.YtaokifppaagalaaRead
namespace Go.Proofs.Ytaokifppaagalaa
open Go.RowKit
set_option linter.unusedVariables false
theorem cutL_last (s : ByteArray) (a m : Nat) (h1 : 1 ≤ m) (h : a + m ≤ s.size) : ∃ (b : UInt8) (hb : a + m - 1 < s.size), s[a + m - 1]'hb = b ∧ cutL s a m = cutL s a (m - 1) ++ [b] := by
  have e : m = (m - 1) + 1 := by omega
  have h' : a + ((m - 1) + 1) ≤ s.size := by omega
  have e2 : a + (m - 1) = a + m - 1 := by omega
  refine ⟨s[a + m - 1]'(by omega), by omega, rfl, ?_⟩
  have := cutL_snoc s a (m - 1) h'
  rw [← e] at this
  rw [this]
  congr 2
  simp only [e2]
/-- The number of m bytes read with a sign. -/
def rdS (s : ByteArray) (a m : Nat) : Int := leValC (above (((cutL s a m).getLast?.getD 0).toNat)) (cutL s a m)
theorem rdS_eq (s : ByteArray) (a m : Nat) (b : UInt8) (l : List UInt8) (h : cutL s a m = l ++ [b]) : rdS s a m = leValC (above b.toNat) (l ++ [b]) := by
  unfold rdS
  rw [h]
  simp
/-- The program's way: up to the top of 64 bits, and back with the sign. -/
theorem wrap_up_down (X : Int) (c b : Int) (m : Nat) (h1 : 1 ≤ m) (h8 : m ≤ 8) (hX : 0 ≤ X) (hX2 : X < 256 ^ m) (hlo : -(128 * 256 ^ (m - 1)) ≤ X + c * 256 ^ m) (hhi : X + c * 256 ^ m < 128 * 256 ^ (m - 1)) (hc : c = 0 ∨ c = -1) :
    wrap64 (IntKind.u64.wrap (X * 2 ^ (64 - 8 * m))) / 2 ^ (64 - 8 * m) = X + c * 256 ^ m := by
  rw [IntKind.wrap_u64]
  unfold wrap64
  have hm : m = 1 ∨ m = 2 ∨ m = 3 ∨ m = 4 ∨ m = 5 ∨ m = 6 ∨ m = 7 ∨ m = 8 := by omega
  rcases hm with rfl | rfl | rfl | rfl | rfl | rfl | rfl | rfl <;> rcases hc with rfl | rfl <;> simp only [Nat.reduceMul, Nat.reduceSub, Int.reducePow, Int.pow_zero, Int.reduceMul] at * <;> omega
theorem implGetInt_yes (s : ByteArray) (a m : Nat) (h1 : 1 ≤ m) (h8 : m ≤ 8) (h : a + m ≤ s.size) (hs : s.size ≤ 1048576) (w : World) :
    Calls Try.prog 63 #[.string s, .int .i64 a, .int .i64 m] w fun e w' => e = .returned (.tuple #[.int .i64 (rdS s a m), .bool true]) ∧ w = w' := by
  have b0 := leVal_nonneg (cutL s a m)
  have b1 := leVal_lt (cutL s a m)
  have hc := fun w1 => readLE_yes s a m h1 h8 h hs w1
  have Hc := Lib.hid hc; clear hc
  obtain ⟨b, hb, hsb, hcut⟩ := cutL_last s a m h1 h
  have hr := rdS_eq s a m b _ hcut
  have hbd := leValC_bounds b (cutL s a (m - 1))
  rw [← hcut, leValC_eq, cutL_length s a (m - 1) (by omega), cutL_length s a m h] at hbd
  rw [← hcut, leValC_eq, cutL_length s a m h] at hr
  rw [cutL_length s a m h] at b1
  have Hr : Hid (wrap64 (IntKind.u64.wrap (leVal (cutL s a m) * 2 ^ (64 - 8 * m))) / 2 ^ (64 - 8 * m) = rdS s a m) := by
    rw [hr]
    exact wrap_up_down _ _ 0 m h1 h8 b0 b1 hbd.1 hbd.2 (by unfold above; split <;> simp)
  clear hr hbd b1 hsb hcut hb
  generalize leVal (cutL s a m) = v at *
  go_enter Try.func63, Try.ntmps63
  go_wp2_with (go_at_call 108; refine (Hc.out _).mono ?_; rintro e w' ⟨rfl, rfl⟩)
  go_ret2
  refine ⟨?_, rfl⟩
  show Ending.returned (Value.tuple #[.int .i64 (wrap64 (IntKind.u64.wrap (v * 2 ^ (64 - 8 * m))) / 2 ^ (64 - 8 * m)), .bool true]) = _
  rw [Hr.out]

theorem implGetInt_no (s : ByteArray) (at' k : Int) (hi : -9223372036854775808 ≤ at' ∧ at' < 9223372036854775808) (hn : ¬ InB s at' k) (hs : s.size ≤ 1048576) (w : World) :
    Calls Try.prog 63 #[.string s, .int .i64 at', .int .i64 k] w fun e w' => e = .returned (.tuple #[.int .i64 0, .bool false]) ∧ w = w' := by
  have hc := fun w1 => readLE_no s at' k hi hn hs w1
  have Hc := Lib.hid hc; clear hc hn
  go_enter Try.func63, Try.ntmps63
  go_wp2_with (go_at_call 108; refine (Hc.out _).mono ?_; rintro e w' ⟨rfl, rfl⟩)
  go_ret2
  exact ⟨rfl, rfl⟩

theorem i64_or_byte (X : Int) (h0 : -36028797018963968 ≤ X) (h1 : X < 36028797018963968) (b : UInt8) : bits .or .i64 (X * 256) (b.toNat : Int) = (b.toNat : Int) + 256 * X := by
  have hb := byte_lt b
  have hk : bits .or .u64 (b.toNat : Int) (X * 256 % 18446744073709551616) = (b.toNat : Int) + X * 256 % 18446744073709551616 := u64_or8 _ _ (by omega) (by omega) (by omega) (by omega) (by omega)
  have e0 : BitVec.ofInt 64 (X * 256 % 18446744073709551616) = BitVec.ofInt 64 (X * 256) := by
    apply BitVec.eq_of_toNat_eq
    rw [BitVec.toNat_ofInt, BitVec.toNat_ofInt]
    congr 1
    omega
  have hlt := (BitVec.ofInt 64 (b.toNat : Int) ||| BitVec.ofInt 64 (X * 256)).isLt
  have e1 : ((BitVec.ofInt 64 (b.toNat : Int) ||| BitVec.ofInt 64 (X * 256)).toNat : Int) = (b.toNat : Int) + X * 256 % 18446744073709551616 := by
    rw [← hk]
    show _ = IntKind.u64.wrap ((BitVec.ofInt 64 (b.toNat : Int) ||| BitVec.ofInt 64 (X * 256 % 18446744073709551616)).toNat : Nat)
    rw [e0, IntKind.wrap_u64]
    omega
  rw [or_comm_bits]
  show IntKind.i64.wrap ((BitVec.ofInt 64 (b.toNat : Int) ||| BitVec.ofInt 64 (X * 256)).toNat : Nat) = _
  rw [e1, IntKind.wrap_i64]
  omega
theorem pow256_le (k : Nat) (h : k ≤ 6) : (256 : Int) ^ k ≤ 281474976710656 := by
  have hk : k = 0 ∨ k = 1 ∨ k = 2 ∨ k = 3 ∨ k = 4 ∨ k = 5 ∨ k = 6 := by omega
  rcases hk with rfl | rfl | rfl | rfl | rfl | rfl | rfl <;> simp
theorem rest_bounds (b : UInt8) (l : List UInt8) (j : Nat) (hl : l.length ≤ 7) : -36028797018963968 ≤ leValC (above b.toNat) ((l ++ [b]).drop (j + 1)) ∧ leValC (above b.toNat) ((l ++ [b]).drop (j + 1)) < 36028797018963968 := by
  by_cases hj : j + 1 ≤ l.length
  · rw [List.drop_append_of_le_length hj]
    have h := leValC_bounds b (l.drop (j + 1))
    have hp := pow256_le (l.drop (j + 1)).length (by rw [List.length_drop]; omega)
    omega
  · rw [List.drop_eq_nil_of_le (by rw [List.length_append, List.length_singleton]; omega)]
    unfold leValC above
    split <;> omega
end Go.Proofs.Ytaokifppaagalaa
