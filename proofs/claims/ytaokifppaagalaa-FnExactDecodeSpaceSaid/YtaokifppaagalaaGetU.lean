/- Contracts of GetUint, the program's and the model's: one answer at every argument. No statement is proved here. -/
import Derived.Test.YtaokifppaagalaaRead
namespace Go.Proofs.Ytaokifppaagalaa
open Go.RowKit
set_option linter.unusedVariables false
/-- What GetUint answers at a number that is there: the number, if it is an int64. -/
def uOk (v : Int) : Value := if v < 9223372036854775808 then .tuple #[.int .i64 v, .bool true] else .tuple #[.int .i64 0, .bool false]
theorem uOk_yes {v : Int} (h : v < 9223372036854775808) : uOk v = .tuple #[.int .i64 v, .bool true] := if_pos h
theorem uOk_no {v : Int} (h : ¬ v < 9223372036854775808) : uOk v = .tuple #[.int .i64 0, .bool false] := if_neg h

theorem implGetUint_yes (s : ByteArray) (a m : Nat) (h1 : 1 ≤ m) (h8 : m ≤ 8) (h : a + m ≤ s.size) (hs : s.size ≤ 1048576) (w : World) :
    Calls Try.prog 62 #[.string s, .int .i64 a, .int .i64 m] w fun e w' => e = .returned (uOk (leVal (cutL s a m))) ∧ w = w' := by
  have b0 := leVal_nonneg (cutL s a m)
  have hc := fun w1 => readLE_yes s a m h1 h8 h hs w1
  have Hc := Lib.hid hc; clear hc
  generalize leVal (cutL s a m) = v at *
  by_cases hv : v < 9223372036854775808
  · have Hf := Lib.hid (uOk_yes hv)
    have hd : decide (9223372036854775807 < v) = false := by simp; omega
    go_enter Try.func62, Try.ntmps62
    go_wp2_with (go_at_call 108; refine (Hc.out _).mono ?_; rintro e w' ⟨rfl, rfl⟩)
    go_ret2
    exact ⟨by rw [Hf.out]; rfl, rfl⟩
  · have Hf := Lib.hid (uOk_no hv)
    have hd : decide (9223372036854775807 < v) = true := by simp; omega
    go_enter Try.func62, Try.ntmps62
    go_wp2_with (go_at_call 108; refine (Hc.out _).mono ?_; rintro e w' ⟨rfl, rfl⟩)
    go_ret2
    exact ⟨by rw [Hf.out]; rfl, rfl⟩

theorem implGetUint_no (s : ByteArray) (at' k : Int) (hi : -9223372036854775808 ≤ at' ∧ at' < 9223372036854775808) (hn : ¬ InB s at' k) (hs : s.size ≤ 1048576) (w : World) :
    Calls Try.prog 62 #[.string s, .int .i64 at', .int .i64 k] w fun e w' => e = .returned (.tuple #[.int .i64 0, .bool false]) ∧ w = w' := by
  have hc := fun w1 => readLE_no s at' k hi hn hs w1
  have Hc := Lib.hid hc; clear hc hn
  go_enter Try.func62, Try.ntmps62
  go_wp2_with (go_at_call 108; refine (Hc.out _).mono ?_; rintro e w' ⟨rfl, rfl⟩)
  go_ret2
  exact ⟨rfl, rfl⟩

/-- What GetUint answers. -/
def getU (s : ByteArray) (at' k : Int) : Value := if 1 ≤ k ∧ k ≤ 8 ∧ 0 ≤ at' ∧ at' + k ≤ s.size then uOk (leVal (cutL s at'.toNat k.toNat)) else .tuple #[.int .i64 0, .bool false]
theorem implGetUint_any (s : ByteArray) (at' k : Int) (hi : -9223372036854775808 ≤ at' ∧ at' < 9223372036854775808) (hs : s.size ≤ 1048576) (w : World) :
    Calls Try.prog 62 #[.string s, .int .i64 at', .int .i64 k] w fun e w' => e = .returned (getU s at' k) ∧ w = w' := by
  by_cases h : InB s at' k
  · rw [show getU s at' k = uOk (leVal (cutL s at'.toNat k.toNat)) from if_pos h]
    obtain ⟨g1, g2, g3, g4⟩ := h
    obtain ⟨a, rfl⟩ := Int.eq_ofNat_of_zero_le g3
    obtain ⟨m, rfl⟩ := Int.eq_ofNat_of_zero_le (by omega : 0 ≤ k)
    exact implGetUint_yes s a m (by omega) (by omega) (by omega) hs w
  · rw [show getU s at' k = .tuple #[.int .i64 0, .bool false] from if_neg h]
    exact implGetUint_no s at' k hi h hs w
/-- Both results of GetUint, taken apart. -/
def numB (v : Int) (b : Bool) : Value := .tuple #[.int .i64 v, .bool b]
theorem getU_form (s : ByteArray) (at' k : Int) : ∃ v b, getU s at' k = .tuple #[.int .i64 v, .bool b] := by
  unfold getU uOk
  split
  · split
    · exact ⟨_, _, rfl⟩
    · exact ⟨_, _, rfl⟩
  · exact ⟨_, _, rfl⟩
end Go.Proofs.Ytaokifppaagalaa
