/- Contracts of the functions that read numbers out of bytes: the program's and the model's. No statement is proved here. -/
import Derived.Test.YtmddgncidgdglaaVal
import Derived.WalkSpells
namespace Go.Proofs.Ytmddgncidgdglaa
open Go.RowKit
set_option linter.unusedVariables false
def InB (s : ByteArray) (at' k : Int) : Prop := 1 ≤ k ∧ k ≤ 8 ∧ 0 ≤ at' ∧ at' + k ≤ s.size

theorem readLE_yes (s : ByteArray) (a m : Nat) (h1 : 1 ≤ m) (h8 : m ≤ 8) (h : a + m ≤ s.size) (hs : s.size ≤ 1048576) (w : World) :
    Calls Try.prog 115 #[.string s, .int .i64 a, .int .i64 m] w fun e w' => e = .returned (.tuple #[.int .u64 (leVal (cutL s a m)), .bool true]) ∧ w = w' := by
  have hd : decide ((s.size : Int) - m < a) = false := by simp; omega
  go_enter Try.func115, Try.ntmps115
  go_wp2_with go_in
  go_loop [8, 9] (fun n i => ∃ iv : Int, -1 ≤ iv ∧ iv < m ∧ i = .int .i64 iv ∧ n = .int .u64 (leVal ((cutL s a m).drop (iv + 1).toNat))) (fun _ i => (intOf i + 1).toNat)
  case atStart => exact ⟨m - 1, by omega, by omega, by go_num, by rw [show ((m : Int) - 1 + 1).toNat = m from by omega, List.drop_eq_nil_of_le (by rw [cutL_length s a m h]; exact Nat.le_refl _)]; rfl⟩
  case round =>
    obtain ⟨iv, hi0, hi1, rfl, rfl⟩ := hrel
    by_cases hge : 0 ≤ iv
    · obtain ⟨j, rfl⟩ := Int.eq_ofNat_of_zero_le hge
      have e1 : ((j : Int) + 1).toNat = j + 1 := by omega
      rw [e1]
      clear e1
      have b1 := leVal_nonneg ((cutL s a m).drop (j + 1))
      have b2 : leVal ((cutL s a m).drop (j + 1)) < 72057594037927936 := leVal_lt7 _ (by rw [List.length_drop, cutL_length s a m h]; omega)
      have hidx : a + j < s.size := by omega
      go_wp2
      go_round
      case rel => exact ⟨j - 1, by omega, by omega, by go_num, by rw [u64_or_byte _ b1 b2, show ((j : Int) - 1 + 1).toNat = j from by omega, cutL_drop s a m j h (by omega)]; rfl⟩
      case measure => first | (simp [intOf]; done) | (simp [intOf]; omega)
    · go_wp2
      go_ret2
      have : iv = -1 := by omega
      subst this
      exact ⟨rfl, rfl⟩

theorem readLE_no (s : ByteArray) (at' k : Int) (hi : -9223372036854775808 ≤ at' ∧ at' < 9223372036854775808) (hn : ¬ InB s at' k) (hs : s.size ≤ 1048576) (w : World) :
    Calls Try.prog 115 #[.string s, .int .i64 at', .int .i64 k] w fun e w' => e = .returned (.tuple #[.int .u64 0, .bool false]) ∧ w = w' := by
  unfold InB at hn
  by_cases h1 : 1 ≤ k
  · by_cases h8 : k ≤ 8
    · by_cases h0 : 0 ≤ at'
      · have hd : (s.size : Int) - k < at' := by omega
        clear hn
        go_enter Try.func115, Try.ntmps115
        go_wp2_with go_in
        go_ret2
        exact ⟨rfl, rfl⟩
      · clear hn
        go_enter Try.func115, Try.ntmps115
        go_wp2_with go_in
        go_ret2
        exact ⟨rfl, rfl⟩
    · clear hn
      go_enter Try.func115, Try.ntmps115
      go_wp2_with go_in
      go_ret2
      exact ⟨rfl, rfl⟩
  · clear hn
    go_enter Try.func115, Try.ntmps115
    go_wp2_with go_in
    go_ret2
    exact ⟨rfl, rfl⟩

theorem within_yes (s : ByteArray) (a m : Nat) (h1 : 1 ≤ m) (h8 : m ≤ 8) (h : a + m ≤ s.size) (hs : s.size ≤ 1048576) (w : World) :
    Calls Try.prog 130 #[.string s, .int .i64 a, .int .i64 m] w fun e w' => e = .returned (.bool true) ∧ w = w' := by
  have hd : decide ((m : Int) ≤ (s.size : Int) - a) = true := by simp; omega
  go_enter Try.func130, Try.ntmps130
  go_wp2_with go_in
  go_ret
  exact ⟨rfl, rfl⟩

theorem within_no (s : ByteArray) (at' k : Int) (hi : -9223372036854775808 ≤ at' ∧ at' < 9223372036854775808) (hn : ¬ InB s at' k) (hs : s.size ≤ 1048576) (w : World) :
    Calls Try.prog 130 #[.string s, .int .i64 at', .int .i64 k] w fun e w' => e = .returned (.bool false) ∧ w = w' := by
  unfold InB at hn
  by_cases h1 : 1 ≤ k
  · by_cases h8 : k ≤ 8
    · by_cases h0 : 0 ≤ at'
      · by_cases hl : at' ≤ s.size
        · have hd : decide (k ≤ (s.size : Int) - at') = false := by simp; omega
          clear hn
          go_enter Try.func130, Try.ntmps130
          go_wp2_with go_in
          go_ret
          exact ⟨rfl, rfl⟩
        · clear hn
          go_enter Try.func130, Try.ntmps130
          go_wp2_with go_in
          go_ret
          exact ⟨rfl, rfl⟩
      · clear hn
        go_enter Try.func130, Try.ntmps130
        go_wp2_with go_in
        go_ret
        exact ⟨rfl, rfl⟩
    · clear hn
      go_enter Try.func130, Try.ntmps130
      go_wp2_with go_in
      go_ret
      exact ⟨rfl, rfl⟩
  · clear hn
    go_enter Try.func130, Try.ntmps130
    go_wp2_with go_in
    go_ret
    exact ⟨rfl, rfl⟩
end Go.Proofs.Ytmddgncidgdglaa
