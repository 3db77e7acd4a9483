/- The contract of the model's PutUint. No statement is proved here. -/
import Derived.Test.YtmddgncidgdglaaNuI
namespace Go.Proofs.Ytmddgncidgdglaa
open Go.RowKit
set_option linter.unusedVariables false
theorem l01PutUint_any (n s : Int) (hn : n < 9223372036854775808) (w : World) :
    Calls Try.prog 79 #[.int .i64 n, .int .i64 s] w fun e w' => e = .returned (.string (putU n s)) ∧ Below w.heap.size w w' := by
  by_cases h1 : 1 ≤ s
  · by_cases h8 : s ≤ 8
    · obtain ⟨m, rfl⟩ := Int.eq_ofNat_of_zero_le (by omega : 0 ≤ s)
      by_cases h0 : 0 ≤ n
      · by_cases hz : n / 2 ^ (8 * m) = 0
        · have Hf := Lib.hid (putU_yes (n := n) (s := m) ⟨h1, h8, h0, hz⟩)
          have hz'' : (n / 2 ^ (8 * m) != 0) = false := by simp [hz]
          clear hz
          by_cases h88 : (m : Int) < 8
          all_goals
            go_enter Try.func79, Try.ntmps79
            go_wp2_with (first | (go_at_call 101; refine (l01Bytes_any n m h1 h8 _).mono ?_; rintro e w' ⟨rfl, hb⟩) | go_in)
            go_ret
            exact ⟨by rw [Hf.out]; rfl, by assumption⟩
        · have Hf := Lib.hid (putU_no (n := n) (s := m) (fun h => hz h.2.2.2))
          have h88 : (m : Int) < 8 := by
            rcases Nat.lt_or_ge m 8 with h | h
            · omega
            · have : m = 8 := by omega
              subst this
              exact absurd (Int.ediv_eq_zero_of_lt h0 (by omega)) hz
          have hz'' : (n / 2 ^ (8 * m) != 0) = true := by simp [hz]
          clear hz
          go_enter Try.func79, Try.ntmps79
          go_wp2_with (first | go_in)
          go_ret
          exact ⟨by rw [Hf.out]; rfl, Below.refl _ _⟩
      · have Hf := Lib.hid (putU_no (n := n) (s := m) (fun h => h0 h.2.2.1))
        go_enter Try.func79, Try.ntmps79
        go_wp2_with (first | go_in)
        go_ret
        exact ⟨by rw [Hf.out]; rfl, Below.refl _ _⟩
    · have Hf := Lib.hid (putU_no (n := n) (s := s) (fun h => h8 h.2.1))
      go_enter Try.func79, Try.ntmps79
      go_wp2_with (first | go_in)
      go_ret
      exact ⟨by rw [Hf.out]; rfl, Below.refl _ _⟩
  · have Hf := Lib.hid (putU_no (n := n) (s := s) (fun h => h1 h.1))
    go_enter Try.func79, Try.ntmps79
    go_wp2_with (first | go_in)
    go_ret
    exact ⟨by rw [Hf.out]; rfl, Below.refl _ _⟩

end Go.Proofs.Ytmddgncidgdglaa
