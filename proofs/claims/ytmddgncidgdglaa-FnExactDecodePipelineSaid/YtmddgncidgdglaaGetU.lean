/- Contracts of GetUint, the program's and the model's: one answer at every argument. No statement is proved here. -/
import Derived.Test.YtmddgncidgdglaaRead
namespace Go.Proofs.Ytmddgncidgdglaa
open Go.RowKit
set_option linter.unusedVariables false
/-- What GetUint answers at a number that is there: the number, if it is an int64. -/
def uOk (v : Int) : Value := if v < 9223372036854775808 then .tuple #[.int .i64 v, .bool true] else .tuple #[.int .i64 0, .bool false]
theorem uOk_yes {v : Int} (h : v < 9223372036854775808) : uOk v = .tuple #[.int .i64 v, .bool true] := if_pos h
theorem uOk_no {v : Int} (h : ¬ v < 9223372036854775808) : uOk v = .tuple #[.int .i64 0, .bool false] := if_neg h

theorem implGetUint_yes (s : ByteArray) (a m : Nat) (h1 : 1 ≤ m) (h8 : m ≤ 8) (h : a + m ≤ s.size) (hs : s.size ≤ 1048576) (w : World) :
    Calls Try.prog 94 #[.string s, .int .i64 a, .int .i64 m] w fun e w' => e = .returned (uOk (leVal (cutL s a m))) ∧ w = w' := by
  have b0 := leVal_nonneg (cutL s a m)
  have hc := fun w1 => readLE_yes s a m h1 h8 h hs w1
  have Hc := Lib.hid hc; clear hc
  generalize leVal (cutL s a m) = v at *
  by_cases hv : v < 9223372036854775808
  · have Hf := Lib.hid (uOk_yes hv)
    have hd : decide (9223372036854775807 < v) = false := by simp; omega
    go_enter Try.func94, Try.ntmps94
    go_wp2_with (go_at_call 115; refine (Hc.out _).mono ?_; rintro e w' ⟨rfl, rfl⟩)
    go_ret2
    exact ⟨by rw [Hf.out]; rfl, rfl⟩
  · have Hf := Lib.hid (uOk_no hv)
    have hd : decide (9223372036854775807 < v) = true := by simp; omega
    go_enter Try.func94, Try.ntmps94
    go_wp2_with (go_at_call 115; refine (Hc.out _).mono ?_; rintro e w' ⟨rfl, rfl⟩)
    go_ret2
    exact ⟨by rw [Hf.out]; rfl, rfl⟩

theorem implGetUint_no (s : ByteArray) (at' k : Int) (hi : -9223372036854775808 ≤ at' ∧ at' < 9223372036854775808) (hn : ¬ InB s at' k) (hs : s.size ≤ 1048576) (w : World) :
    Calls Try.prog 94 #[.string s, .int .i64 at', .int .i64 k] w fun e w' => e = .returned (.tuple #[.int .i64 0, .bool false]) ∧ w = w' := by
  have hc := fun w1 => readLE_no s at' k hi hn hs w1
  have Hc := Lib.hid hc; clear hc hn
  go_enter Try.func94, Try.ntmps94
  go_wp2_with (go_at_call 115; refine (Hc.out _).mono ?_; rintro e w' ⟨rfl, rfl⟩)
  go_ret2
  exact ⟨rfl, rfl⟩

theorem l01GetUint_loop (s : ByteArray) (a m : Nat) (h1 : 1 ≤ m) (h8 : m ≤ 8) (h : a + m ≤ s.size) (hs : s.size ≤ 1048576) (w : World) (hv : leVal (cutL s a m) < 9223372036854775808)
    (hno : m = 8 → ∃ hlt : a + 7 < s.size, decide ((127 : Int) < ((s[a + 7]'hlt).toNat : Int)) = false) :
    Calls Try.prog 121 #[.string s, .int .i64 a, .int .i64 m] w fun e w' => e = .returned (uOk (leVal (cutL s a m))) ∧ w = w' := by
  have hc := fun w1 => within_yes s a m h1 h8 h hs w1
  have Hc := Lib.hid hc; clear hc
  have Hf := Lib.hid (uOk_yes hv)
  have hb1 : ∀ j, leVal ((cutL s a m).drop j) < 9223372036854775808 := fun j => Int.lt_of_le_of_lt (leVal_drop_le _ j) hv
  have Hb1 := Lib.hid hb1; clear hb1 hv
  have hcs : ((m : Int) == 8) = false ∨ (((m : Int) == 8) = true ∧ ∃ hlt : a + 7 < s.size, decide ((127 : Int) < ((s[a + 7]'hlt).toNat : Int)) = false) := by
    by_cases e : m = 8
    · exact .inr ⟨by simp; omega, hno e⟩
    · exact .inl (by simp; omega)
  clear hno
  rcases hcs with ht8 | ⟨ht8, hlt, hno⟩
  all_goals
    go_enter Try.func121, Try.ntmps121
    go_wp2_with (go_at_call 130; refine (Hc.out _).mono ?_; rintro e w' ⟨rfl, rfl⟩)
    go_loop [8, 9] (fun n i => ∃ iv : Int, -1 ≤ iv ∧ iv < m ∧ i = .int .i64 iv ∧ n = .int .i64 (leVal ((cutL s a m).drop (iv + 1).toNat))) (fun _ i => (intOf i + 1).toNat)
    case atStart => exact ⟨m - 1, by omega, by omega, by go_num, by rw [show ((m : Int) - 1 + 1).toNat = m from by omega, List.drop_eq_nil_of_le (by rw [cutL_length s a m h]; exact Nat.le_refl _)]; rfl⟩
    case round =>
      obtain ⟨iv, hi0, hi1, rfl, rfl⟩ := hrel
      by_cases hge : 0 ≤ iv
      · obtain ⟨j, rfl⟩ := Int.eq_ofNat_of_zero_le hge
        have e1 : ((j : Int) + 1).toNat = j + 1 := by omega
        rw [e1]
        clear e1
        have hidx : a + j < s.size := by omega
        have hst : leVal ((cutL s a m).drop j) = ((s[a + j]'hidx).toNat : Int) + 256 * leVal ((cutL s a m).drop (j + 1)) := by
          rw [cutL_drop s a m j h (by omega)]; rfl
        have b0 := leVal_nonneg ((cutL s a m).drop (j + 1))
        have b1 := Hb1.out (j + 1)
        have b2 : ((s[a + j]'hidx).toNat : Int) + 256 * leVal ((cutL s a m).drop (j + 1)) < 9223372036854775808 := by rw [← hst]; exact Hb1.out j
        have b3 := byte_lt (s[a + j]'hidx)
        have Hst := Lib.hid hst; clear hst
        go_wp2
        go_round
        case rel => exact ⟨j - 1, by omega, by omega, by go_num, by rw [show ((j : Int) - 1 + 1).toNat = j from by omega, Hst.out]; go_num⟩
        case measure => first | (simp [intOf]; done) | (simp [intOf]; omega)
      · go_wp2
        go_ret2
        have : iv = -1 := by omega
        subst this
        exact ⟨by rw [Hf.out]; rfl, rfl⟩

theorem l01GetUint_yes (s : ByteArray) (a m : Nat) (h1 : 1 ≤ m) (h8 : m ≤ 8) (h : a + m ≤ s.size) (hs : s.size ≤ 1048576) (w : World) :
    Calls Try.prog 121 #[.string s, .int .i64 a, .int .i64 m] w fun e w' => e = .returned (uOk (leVal (cutL s a m))) ∧ w = w' := by
  have hc := fun w1 => within_yes s a m h1 h8 h hs w1
  have Hc := Lib.hid hc; clear hc
  by_cases h88 : m = 8
  · have hlt : a + 7 < s.size := by omega
    have htop : 9223372036854775808 ≤ leVal (cutL s a m) ↔ 127 < ((s[a + 7]'hlt).toNat : Int) := by
      subst h88; exact leVal_top s a h
    have ht8 : ((m : Int) == 8) = true := by simp; omega
    by_cases hv : leVal (cutL s a m) < 9223372036854775808
    · have hno : decide ((127 : Int) < ((s[a + 7]'hlt).toNat : Int)) = false := by
        rw [decide_eq_false_iff_not, ← htop]; omega
      exact l01GetUint_loop s a m h1 h8 h hs w hv (fun _ => ⟨hlt, hno⟩)
    · have Hf := Lib.hid (uOk_no hv)
      have hno : decide ((127 : Int) < ((s[a + 7]'hlt).toNat : Int)) = true := by
        rw [decide_eq_true_iff, ← htop]; omega
      clear hv htop h88
      go_enter Try.func121, Try.ntmps121
      go_wp2_with (go_at_call 130; refine (Hc.out _).mono ?_; rintro e w' ⟨rfl, rfl⟩)
      go_ret2
      exact ⟨by rw [Hf.out]; rfl, rfl⟩
  · exact l01GetUint_loop s a m h1 h8 h hs w (leVal_small s a m h (by omega)) (fun e => absurd e h88)

theorem l01GetUint_no (s : ByteArray) (at' k : Int) (hi : -9223372036854775808 ≤ at' ∧ at' < 9223372036854775808) (hn : ¬ InB s at' k) (hs : s.size ≤ 1048576) (w : World) :
    Calls Try.prog 121 #[.string s, .int .i64 at', .int .i64 k] w fun e w' => e = .returned (.tuple #[.int .i64 0, .bool false]) ∧ w = w' := by
  have hc := fun w1 => within_no s at' k hi hn hs w1
  have Hc := Lib.hid hc; clear hc hn
  go_enter Try.func121, Try.ntmps121
  go_wp2_with (go_at_call 130; refine (Hc.out _).mono ?_; rintro e w' ⟨rfl, rfl⟩)
  go_ret2
  exact ⟨rfl, rfl⟩

/-- What GetUint answers. -/
def getU (s : ByteArray) (at' k : Int) : Value := if 1 ≤ k ∧ k ≤ 8 ∧ 0 ≤ at' ∧ at' + k ≤ s.size then uOk (leVal (cutL s at'.toNat k.toNat)) else .tuple #[.int .i64 0, .bool false]
theorem implGetUint_any (s : ByteArray) (at' k : Int) (hi : -9223372036854775808 ≤ at' ∧ at' < 9223372036854775808) (hs : s.size ≤ 1048576) (w : World) :
    Calls Try.prog 94 #[.string s, .int .i64 at', .int .i64 k] w fun e w' => e = .returned (getU s at' k) ∧ w = w' := by
  by_cases h : InB s at' k
  · rw [show getU s at' k = uOk (leVal (cutL s at'.toNat k.toNat)) from if_pos h]
    obtain ⟨g1, g2, g3, g4⟩ := h
    obtain ⟨a, rfl⟩ := Int.eq_ofNat_of_zero_le g3
    obtain ⟨m, rfl⟩ := Int.eq_ofNat_of_zero_le (by omega : 0 ≤ k)
    exact implGetUint_yes s a m (by omega) (by omega) (by omega) hs w
  · rw [show getU s at' k = .tuple #[.int .i64 0, .bool false] from if_neg h]
    exact implGetUint_no s at' k hi h hs w
theorem l01GetUint_any (s : ByteArray) (at' k : Int) (hi : -9223372036854775808 ≤ at' ∧ at' < 9223372036854775808) (hs : s.size ≤ 1048576) (w : World) :
    Calls Try.prog 121 #[.string s, .int .i64 at', .int .i64 k] w fun e w' => e = .returned (getU s at' k) ∧ w = w' := by
  by_cases h : InB s at' k
  · rw [show getU s at' k = uOk (leVal (cutL s at'.toNat k.toNat)) from if_pos h]
    obtain ⟨g1, g2, g3, g4⟩ := h
    obtain ⟨a, rfl⟩ := Int.eq_ofNat_of_zero_le g3
    obtain ⟨m, rfl⟩ := Int.eq_ofNat_of_zero_le (by omega : 0 ≤ k)
    exact l01GetUint_yes s a m (by omega) (by omega) (by omega) hs w
  · rw [show getU s at' k = .tuple #[.int .i64 0, .bool false] from if_neg h]
    exact l01GetUint_no s at' k hi h hs w
/-- Both results of GetUint, taken apart. -/
def numB (v : Int) (b : Bool) : Value := .tuple #[.int .i64 v, .bool b]
theorem getU_form (s : ByteArray) (at' k : Int) : ∃ v b, getU s at' k = .tuple #[.int .i64 v, .bool b] := by
  unfold getU uOk
  split
  · split
    · exact ⟨_, _, rfl⟩
    · exact ⟨_, _, rfl⟩
  · exact ⟨_, _, rfl⟩
end Go.Proofs.Ytmddgncidgdglaa
