/- Numbers of some bytes replaced by their differences and back: the model's side. No statement is proved here. -/
import Derived.Test.YtmddgncidgdglaaDlP
import Derived.Test.YtmddgncidgdglaaAps
import Derived.Test.YtmddgncidgdglaaDimC
namespace Go.Proofs.Ytmddgncidgdglaa
open Go.RowKit
set_option linter.unusedVariables false
theorem i64_or_byte (X : Int) (h0 : -36028797018963968 ≤ X) (h1 : X < 36028797018963968) (b : UInt8) : bits .or .i64 (X * 256) (b.toNat : Int) = (b.toNat : Int) + 256 * X := by
  have hb := byte_lt b
  have hk : bits .or .u64 (b.toNat : Int) (X * 256 % 18446744073709551616) = (b.toNat : Int) + X * 256 % 18446744073709551616 := u64_or8 _ _ (by omega) (by omega) (by omega) (by omega) (by omega)
  have e0 : BitVec.ofInt 64 (X * 256 % 18446744073709551616) = BitVec.ofInt 64 (X * 256) := by
    apply BitVec.eq_of_toNat_eq
    rw [BitVec.toNat_ofInt, BitVec.toNat_ofInt]
    congr 1
    omega
  have hlt := (BitVec.ofInt 64 (b.toNat : Int) ||| BitVec.ofInt 64 (X * 256)).isLt
  have e1 : ((BitVec.ofInt 64 (b.toNat : Int) ||| BitVec.ofInt 64 (X * 256)).toNat : Int) = (b.toNat : Int) + X * 256 % 18446744073709551616 := by
    rw [← hk]
    show _ = IntKind.u64.wrap ((BitVec.ofInt 64 (b.toNat : Int) ||| BitVec.ofInt 64 (X * 256 % 18446744073709551616)).toNat : Nat)
    rw [e0, IntKind.wrap_u64]
    omega
  rw [or_comm_bits]
  show IntKind.i64.wrap ((BitVec.ofInt 64 (b.toNat : Int) ||| BitVec.ofInt 64 (X * 256)).toNat : Nat) = _
  rw [e1, IntKind.wrap_i64]
  omega
theorem cutL_all (t : ByteArray) : cutL t 0 t.size = t.data.toList := by
  unfold cutL
  rw [List.drop_zero, List.take_of_length_le (by exact Nat.le_refl _)]
theorem cutL_sub (s : ByteArray) (a m : Nat) (h : a + m ≤ s.size) : cutL (s.extract a (a + m)) 0 (s.extract a (a + m)).size = cutL s a m := by
  unfold cutL
  rw [ByteArray.size_extract]
  simp only [ByteArray.data_extract, Array.toList_extract, List.extract_eq_take_drop, List.drop_zero, List.take_take]
  congr 1
  omega
set_option maxRecDepth 100000 in
theorem l18Number_any (t : ByteArray) (ht : t.size ≤ 4) (w : World) :
    Calls Try.prog 93 #[.string t] w fun e w' => e = .returned (.int .i64 (leVal (cutL t 0 t.size))) ∧ w = w' := by
  have hb1 : ∀ j, leVal ((cutL t 0 t.size).drop j) < 4294967296 := fun j => Int.lt_of_le_of_lt (leVal_drop_le _ j) (by
    have h1 := leVal_lt (cutL t 0 t.size)
    rw [cutL_length t 0 t.size (by omega)] at h1
    have h2 : (256 : Nat) ^ t.size ≤ 256 ^ 4 := Nat.pow_le_pow_right (by decide) ht
    have h3 : ((256 : Int) ^ t.size) = ((256 ^ t.size : Nat) : Int) := by norm_cast
    rw [h3] at h1
    omega)
  have Hb1 := Lib.hid hb1; clear hb1
  go_enter Try.func93, Try.ntmps93
  go_wp2
  go_loop [3, 4] (fun n i => ∃ iv : Int, -1 ≤ iv ∧ iv < t.size ∧ i = .int .i64 iv ∧ n = .int .i64 (leVal ((cutL t 0 t.size).drop (iv + 1).toNat))) (fun _ i => (intOf i + 1).toNat)
  case atStart => exact ⟨(t.size : Int) - 1, by omega, by omega, by go_num, by rw [show ((t.size : Int) - 1 + 1).toNat = t.size from by omega, List.drop_eq_nil_of_le (by rw [cutL_length t 0 t.size (by omega)]; exact Nat.le_refl _)]; rfl⟩
  case round =>
    obtain ⟨iv, hi0, hi1, rfl, rfl⟩ := hrel
    by_cases hge : 0 ≤ iv
    · obtain ⟨j, rfl⟩ := Int.eq_ofNat_of_zero_le hge
      have e1 : ((j : Int) + 1).toNat = j + 1 := by omega
      rw [e1]
      clear e1
      have hidx : j < t.size := by omega
      have b0 := leVal_nonneg ((cutL t 0 t.size).drop (j + 1))
      have b1 := Hb1.out (j + 1)
      have hst : leVal ((cutL t 0 t.size).drop j) = ((t[j]'hidx).toNat : Int) + 256 * leVal ((cutL t 0 t.size).drop (j + 1)) := by
        have := cutL_drop t 0 t.size j (by omega) hidx
        rw [this]
        simp only [Nat.zero_add]
        rfl
      have hor := i64_or_byte (leVal ((cutL t 0 t.size).drop (j + 1))) (by omega) (by omega) (t[j]'hidx)
      have b3 := byte_lt (t[j]'hidx)
      have Hst := Lib.hid hst; have Hor := Lib.hid hor; clear hst hor
      go_wp2
      go_round
      case rel => exact ⟨j - 1, by omega, by omega, by go_num, by rw [show ((j : Int) - 1 + 1).toNat = j from by omega, Hst.out, Hor.out]⟩
      case measure => first | (simp [intOf]; done) | (simp [intOf]; omega)
    · go_wp2
      go_ret
      have : iv = -1 := by omega
      subst this
      exact ⟨rfl, rfl⟩
end Go.Proofs.Ytmddgncidgdglaa
