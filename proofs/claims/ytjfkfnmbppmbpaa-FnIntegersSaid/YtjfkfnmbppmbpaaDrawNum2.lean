/- The contracts of the drawing functions of numbers and of texts that numbers are read from. No statement is proved here. -/
import Derived.Test.YtjfkfnmbppmbpaaDrawNum
namespace Go.Proofs.Ytjfkfnmbppmbpaa
open Go.RowKit
set_option linter.unusedVariables false
theorem drawPutUint_any (A : Option Addr) (n cap : Nat) (hn : n ≤ 1048576) (w : World) (hcode : CodeIs w w.heap.size A n) :
    Calls Try.prog 15 #[.slice A n cap] w fun e w' => ∃ v k : Int, e = .returned (.tuple #[.int .i64 v, .int .i64 k]) ∧ -9223372036854775808 ≤ v ∧ v < 9223372036854775808 ∧ -1 ≤ k ∧ k ≤ 9 ∧ Below w.heap.size w w' := by
  have Hcode := Lib.hid hcode; clear hcode
  go_enter Try.func15, Try.ntmps15
  go_wp2_with fail
  refine (from_any A n cap w).mono ?_
  rintro e w1 ⟨g, rfl, hg, s1, b1⟩
  have S1 := Lib.hid s1; have B1 := Lib.hid b1; clear s1 b1
  go_wp2_with fail
  refine (drawNumber_any g A n cap 0 w.heap.size hn (by omega) hg _ S1.out (Hcode.out.below B1.out (Nat.le_refl _))).mono ?_
  rintro e w2 ⟨v, rfl, hv1, hv2, s2, g2⟩
  have B2 := Lib.hid (below_grown B1.out g2 hg); have S2 := Lib.hid s2; clear s2 g2
  go_wp2_with fail
  refine (pick_any g A n cap _ w.heap.size hn (by omega) hg 11 ⟨by omega, by omega⟩ _ S2.out (Hcode.out.below B2.out (Nat.le_refl _))).mono ?_
  rintro e w3 ⟨k, rfl, hk1, hk2, s3, g3⟩
  rw [if_neg (by omega)] at hk2
  have B3 := Lib.hid (below_grown B2.out g3 hg); clear s3 g3
  go_wp2_with fail
  go_ret2
  exact ⟨v, k - 1, by go_num, hv1, hv2, by omega, by omega, B3.out⟩
theorem drawPutInt_any (A : Option Addr) (n cap : Nat) (hn : n ≤ 1048576) (w : World) (hcode : CodeIs w w.heap.size A n) :
    Calls Try.prog 19 #[.slice A n cap] w fun e w' => ∃ v k : Int, e = .returned (.tuple #[.int .i64 v, .int .i64 k]) ∧ -9223372036854775808 ≤ v ∧ v < 9223372036854775808 ∧ -1 ≤ k ∧ k ≤ 9 ∧ Below w.heap.size w w' := by
  have Hcode := Lib.hid hcode; clear hcode
  go_enter Try.func19, Try.ntmps19
  go_wp2_with fail
  refine (from_any A n cap w).mono ?_
  rintro e w1 ⟨g, rfl, hg, s1, b1⟩
  have S1 := Lib.hid s1; have B1 := Lib.hid b1; clear s1 b1
  go_wp2_with fail
  refine (drawNumber_any g A n cap 0 w.heap.size hn (by omega) hg _ S1.out (Hcode.out.below B1.out (Nat.le_refl _))).mono ?_
  rintro e w2 ⟨v, rfl, hv1, hv2, s2, g2⟩
  have B2 := Lib.hid (below_grown B1.out g2 hg); have S2 := Lib.hid s2; clear s2 g2
  go_wp2_with fail
  refine (pick_any g A n cap _ w.heap.size hn (by omega) hg 11 ⟨by omega, by omega⟩ _ S2.out (Hcode.out.below B2.out (Nat.le_refl _))).mono ?_
  rintro e w3 ⟨k, rfl, hk1, hk2, s3, g3⟩
  rw [if_neg (by omega)] at hk2
  have B3 := Lib.hid (below_grown B2.out g3 hg); clear s3 g3
  go_wp2_with fail
  go_ret2
  exact ⟨v, k - 1, by go_num, hv1, hv2, by omega, by omega, B3.out⟩
theorem drawGetInt_any (A : Option Addr) (n cap : Nat) (hn : n ≤ 1048576) (w : World) (hcode : CodeIs w w.heap.size A n) :
    Calls Try.prog 23 #[.slice A n cap] w fun e w' => ∃ (t : ByteArray) (a k : Int), e = .returned (.tuple #[.string t, .int .i64 a, .int .i64 k]) ∧ t.size ≤ 12 ∧ -1 ≤ a ∧ a ≤ 100 ∧ -1 ≤ k ∧ k ≤ 9 ∧ Below w.heap.size w w' := by
  have Hcode := Lib.hid hcode; clear hcode
  go_enter Try.func23, Try.ntmps23
  go_wp2_with fail
  refine (from_any A n cap w).mono ?_
  rintro e w1 ⟨g, rfl, hg, s1, b1⟩
  have S1 := Lib.hid s1; have B1 := Lib.hid b1; clear s1 b1
  go_wp2_with fail
  refine (word_any g A n cap 0 w.heap.size hn (by omega) hg 12 (by omega) (by omega) _ S1.out (Hcode.out.below B1.out (Nat.le_refl _))).mono ?_
  rintro e w2 ⟨l, rfl, hl, s2, g2⟩
  have B2 := Lib.hid (below_grown B1.out g2 hg); have S2 := Lib.hid s2; clear s2 g2
  have hsz : (⟨l.toArray⟩ : ByteArray).size ≤ 12 := by simp [ByteArray.size]; omega
  clear hl
  generalize (⟨l.toArray⟩ : ByteArray) = t at *
  go_wp2_with fail
  refine (pick_any g A n cap _ w.heap.size hn (by omega) hg (t.size + 3) ⟨by omega, by omega⟩ _ S2.out (Hcode.out.below B2.out (Nat.le_refl _))).mono ?_
  rintro e w3 ⟨a, rfl, ha1, ha2, s3, g3⟩
  rw [if_neg (by omega)] at ha2
  have B3 := Lib.hid (below_grown B2.out g3 hg); have S3 := Lib.hid s3; clear s3 g3
  go_wp2_with fail
  refine (pick_any g A n cap _ w.heap.size hn (by omega) hg 11 ⟨by omega, by omega⟩ _ S3.out (Hcode.out.below B3.out (Nat.le_refl _))).mono ?_
  rintro e w4 ⟨k, rfl, hk1, hk2, s4, g4⟩
  rw [if_neg (by omega)] at hk2
  have B4 := Lib.hid (below_grown B3.out g4 hg); clear s4 g4
  go_wp2_with fail
  go_ret3
  exact ⟨t, a - 1, k - 1, by go_num, hsz, by omega, by omega, by omega, by omega, B4.out⟩
end Go.Proofs.Ytjfkfnmbppmbpaa
