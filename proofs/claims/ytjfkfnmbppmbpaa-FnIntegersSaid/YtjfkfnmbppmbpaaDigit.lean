/- The contracts of ReadHex, the program's and the model's. No statement is proved here. -/
import Derived.Test.YtjfkfnmbppmbpaaHex
import Derived.Laws.Externs
namespace Go.Proofs.Ytjfkfnmbppmbpaa
open Go.RowKit
set_option linter.unusedVariables false
/-- The number of a digit; -1 for any other byte. -/
def unhex (b : UInt8) : Int := if 48 ≤ b.toNat ∧ b.toNat ≤ 57 then b.toNat - 48 else if 97 ≤ b.toNat ∧ b.toNat ≤ 102 then b.toNat - 87 else -1
theorem unhex_bounds (b : UInt8) : -1 ≤ unhex b ∧ unhex b ≤ 15 := by unfold unhex; split <;> (try split) <;> omega
theorem firstIdx_digs : ∀ n : Fin 256, firstIdx ⟨#[48, 49, 50, 51, 52, 53, 54, 55, 56, 57, 97, 98, 99, 100, 101, 102]⟩ (UInt8.ofNat n.val) = unhex (UInt8.ofNat n.val) := by decide +kernel
theorem firstIdx_byte (b : UInt8) : firstIdx ⟨#[48, 49, 50, 51, 52, 53, 54, 55, 56, 57, 97, 98, 99, 100, 101, 102]⟩ b = unhex b := by
  have := firstIdx_digs ⟨b.toNat, byte_lt b⟩
  simpa using this
theorem run_extern (b : UInt8) (w : World) : (callFunc 70 #[.string ⟨#[48, 49, 50, 51, 52, 53, 54, 55, 56, 57, 97, 98, 99, 100, 101, 102]⟩, .int .u8 (b.toNat : Int)]).run Try.prog w = .ok (.value (.int .i64 (unhex b))) w := by
  rw [run_callFunc_extern Try.func70 (by kernel_rfl) (by kernel_rfl) (by kernel_rfl) (e := Extern.BytealgIndexByte.indexByte) (by kernel_rfl), run_indexByte_string]
  have : ((b.toNat : Int)).toNat.toUInt8 = b := by simp
  rw [this, firstIdx_byte]
  rfl
theorem indexDigit (b : UInt8) (w : World) : Calls Try.prog 49 #[.string ⟨#[48, 49, 50, 51, 52, 53, 54, 55, 56, 57, 97, 98, 99, 100, 101, 102]⟩, .int .u8 (b.toNat : Int)] w fun e w' => e = .returned (.int .i64 (unhex b)) ∧ w = w' := by
  have hx := run_extern b
  go_enter Try.func49, Try.ntmps49
  go_wp2_with go_in
  go_ret
  exact ⟨rfl, rfl⟩
def digV (u : Int) : Value := .tuple #[.int .u8 (if 0 ≤ u then u else 0), .bool (decide (0 ≤ u))]
theorem digit_any (b : UInt8) (w : World) : Calls Try.prog 58 #[.int .u8 (b.toNat : Int)] w fun e w' => e = .returned (digV (unhex b)) ∧ w = w' := by
  have hb := byte_lt b
  have hu : unhex b = if 48 ≤ b.toNat ∧ b.toNat ≤ 57 then (b.toNat : Int) - 48 else if 97 ≤ b.toNat ∧ b.toNat ≤ 102 then (b.toNat : Int) - 87 else -1 := rfl
  generalize unhex b = u at *
  generalize b.toNat = n at *
  by_cases h1 : 48 ≤ (n : Int)
  · by_cases h2 : (n : Int) ≤ 57
    · rw [if_pos ⟨by omega, by omega⟩] at hu
      have Hf : Hid (digV u = .tuple #[.int .u8 ((n : Int) - 48), .bool true]) := by
        unfold digV; rw [if_pos (by omega), decide_eq_true (by omega), hu]; rfl
      clear hu
      go_enter Try.func58, Try.ntmps58
      go_wp2
      go_ret2
      exact ⟨by rw [Hf.out]; rfl, rfl⟩
    · by_cases h3 : 97 ≤ (n : Int)
      · by_cases h4 : (n : Int) ≤ 102
        · rw [if_neg (by omega), if_pos ⟨by omega, by omega⟩] at hu
          have Hf : Hid (digV u = .tuple #[.int .u8 ((n : Int) - 97 + 10), .bool true]) := by
            unfold digV; rw [if_pos (by omega), decide_eq_true (by omega), hu, show (n : Int) - 97 + 10 = n - 87 from by omega]; rfl
          clear hu
          go_enter Try.func58, Try.ntmps58
          go_wp2
          go_ret2
          exact ⟨by rw [Hf.out]; rfl, rfl⟩
        · rw [if_neg (by omega), if_neg (by omega)] at hu
          have Hf : Hid (digV u = .tuple #[.int .u8 0, .bool false]) := by
            unfold digV; rw [if_neg (by omega), decide_eq_false (by omega)]; rfl
          clear hu
          go_enter Try.func58, Try.ntmps58
          go_wp2
          go_ret2
          exact ⟨by rw [Hf.out]; rfl, rfl⟩
      · rw [if_neg (by omega), if_neg (by omega)] at hu
        have Hf : Hid (digV u = .tuple #[.int .u8 0, .bool false]) := by
          unfold digV; rw [if_neg (by omega), decide_eq_false (by omega)]; rfl
        clear hu
        go_enter Try.func58, Try.ntmps58
        go_wp2
        go_ret2
        exact ⟨by rw [Hf.out]; rfl, rfl⟩
  · rw [if_neg (by omega), if_neg (by omega)] at hu
    have Hf : Hid (digV u = .tuple #[.int .u8 0, .bool false]) := by
      unfold digV; rw [if_neg (by omega), decide_eq_false (by omega)]; rfl
    clear hu
    go_enter Try.func58, Try.ntmps58
    go_wp2
    go_ret2
    exact ⟨by rw [Hf.out]; rfl, rfl⟩
end Go.Proofs.Ytjfkfnmbppmbpaa
