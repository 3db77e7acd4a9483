import Derived.Test.YtaokifppaagalaaNum

namespace Go.Proofs.Ytaokifppaagalaa
open Go.RowKit
set_option linter.unusedVariables false
theorem cases18 {m : Nat} (h1 : 1 ≤ (m : Int)) (h8 : (m : Int) ≤ 8) : m = 1 ∨ m = 2 ∨ m = 3 ∨ m = 4 ∨ m = 5 ∨ m = 6 ∨ m = 7 ∨ m = 8 := by omega
theorem byteOf_mod (n : Int) (i : Nat) (h : i < 8) : byteOf (n % 18446744073709551616) i = byteOf n i := by
  have : (n % 18446744073709551616 / 2 ^ (8 * i)) % 256 = (n / 2 ^ (8 * i)) % 256 := by
    have hi : i = 0 ∨ i = 1 ∨ i = 2 ∨ i = 3 ∨ i = 4 ∨ i = 5 ∨ i = 6 ∨ i = 7 := by omega
    rcases hi with rfl | rfl | rfl | rfl | rfl | rfl | rfl | rfl <;> simp only [Nat.mul_zero, Nat.reduceMul, Int.reducePow, Int.pow_zero] <;> omega
  unfold byteOf
  rw [this]
theorem leS_mod (n : Int) (m : Nat) (h : m ≤ 8) : leS (n % 18446744073709551616) m = leS n m := by
  unfold leS leL
  have : (List.range m).map (byteOf (n % 18446744073709551616)) = (List.range m).map (byteOf n) := by
    apply List.map_congr_left
    intro i hi
    exact byteOf_mod n i (by have := List.mem_range.1 hi; omega)
  rw [this]
/-- n fits in m bytes, with a sign. -/
def FitsI (n : Int) (m : Nat) : Prop := n / 2 ^ (8 * m - 1) = 0 ∨ n / 2 ^ (8 * m - 1) = -1
theorem half_bounds (m : Nat) (h1 : 1 ≤ (m : Int)) (h8 : (m : Int) < 8) : 1 ≤ (2 : Int) ^ (8 * m - 1) ∧ (2 : Int) ^ (8 * m - 1) ≤ 36028797018963968 := by
  rcases cases18 h1 (by omega) with rfl | rfl | rfl | rfl | rfl | rfl | rfl | rfl <;> first | (simp; done) | omega
theorem fitsI_iff (n : Int) (m : Nat) (h1 : 1 ≤ (m : Int)) (h8 : (m : Int) < 8) : FitsI n m ↔ (-(2 : Int) ^ (8 * m - 1) ≤ n ∧ n ≤ (2 : Int) ^ (8 * m - 1) - 1) := by
  unfold FitsI
  rcases cases18 h1 (by omega) with rfl | rfl | rfl | rfl | rfl | rfl | rfl | rfl <;> first | omega | (simp only [Nat.reduceMul, Nat.reduceSub, Int.reducePow]; omega)
theorem fits8 (n : Int) (hl : -9223372036854775808 ≤ n) (hn : n < 9223372036854775808) : FitsI n 8 := by
  unfold FitsI
  simp only [Nat.reduceMul, Nat.reduceSub, Int.reducePow]; omega
def putI (n s : Int) : ByteArray := if 1 ≤ s ∧ s ≤ 8 ∧ (n / 2 ^ (8 * s.toNat - 1) = 0 ∨ n / 2 ^ (8 * s.toNat - 1) = -1) then leS n s.toNat else ⟨#[]⟩
theorem putI_no {n s : Int} (h : ¬ (1 ≤ s ∧ s ≤ 8 ∧ FitsI n s.toNat)) : putI n s = ⟨#[]⟩ := if_neg h
theorem putI_yes {n s : Int} (h : 1 ≤ s ∧ s ≤ 8 ∧ FitsI n s.toNat) : putI n s = leS n s.toNat := if_pos h
theorem implPutInt_any (n s : Int) (hl : -9223372036854775808 ≤ n) (hn : n < 9223372036854775808) (w : World) :
    Calls Try.prog 112 #[.int .i64 n, .int .i64 s] w fun e w' => e = .returned (.string (putI n s)) ∧ Below w.heap.size w w' := by
  by_cases h1 : 1 ≤ s
  · by_cases h8 : s ≤ 8
    · obtain ⟨m, rfl⟩ := Int.eq_ofNat_of_zero_le (by omega : 0 ≤ s)
      by_cases hf : FitsI n m
      · have Hf : Hid (putI n m = leS (n % 18446744073709551616) m) := by
          rw [leS_mod n m (by omega)]; exact putI_yes ⟨h1, h8, hf⟩
        have hcall := fun w1 => le_any (n % 18446744073709551616) m (by omega) (by omega) h1 h8 w1
        have Hc := Lib.hid hcall; clear hcall
        rcases hf with hz | hz
        · have hz1 : (n / 2 ^ (8 * m - 1) != 0) = false := by simp [hz]
          clear hz
          go_enter Try.func112, Try.ntmps112
          go_wp2_with (first | (go_at_call 136; refine (Hc.out _).mono ?_; rintro e w' ⟨rfl, hb⟩) | go_in)
          go_ret
          exact ⟨by rw [Hf.out]; rfl, by assumption⟩
        · have hz1 : (n / 2 ^ (8 * m - 1) != 0) = true := by simp [hz]
          have hz2 : (n / 2 ^ (8 * m - 1) != -1) = false := by simp [hz]
          clear hz
          go_enter Try.func112, Try.ntmps112
          go_wp2_with (first | (go_at_call 136; refine (Hc.out _).mono ?_; rintro e w' ⟨rfl, hb⟩) | go_in)
          go_ret
          exact ⟨by rw [Hf.out]; rfl, by assumption⟩
      · have Hf := Lib.hid (putI_no (n := n) (s := m) (fun h => hf h.2.2))
        have hz1 : (n / 2 ^ (8 * m - 1) != 0) = true := by simp; exact fun h => hf (.inl h)
        have hz2 : (n / 2 ^ (8 * m - 1) != -1) = true := by simp; exact fun h => hf (.inr h)
        clear hf
        go_enter Try.func112, Try.ntmps112
        go_wp2_with (first | go_in)
        go_ret
        exact ⟨by rw [Hf.out]; rfl, Below.refl _ _⟩
    · have Hf := Lib.hid (putI_no (n := n) (s := s) (fun h => h8 h.2.1))
      go_enter Try.func112, Try.ntmps112
      go_wp2_with (first | go_in)
      go_ret
      exact ⟨by rw [Hf.out]; rfl, Below.refl _ _⟩
  · have Hf := Lib.hid (putI_no (n := n) (s := s) (fun h => h1 h.1))
    go_enter Try.func112, Try.ntmps112
    go_wp2_with (first | go_in)
    go_ret
    exact ⟨by rw [Hf.out]; rfl, Below.refl _ _⟩
end Go.Proofs.Ytaokifppaagalaa
