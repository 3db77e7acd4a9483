/- How many blocks some bytes need: contracts of both sides. No statement is proved here. -/
import Derived.Test.YtplfnlalmcpcaaaGreatDimC
namespace Go.Proofs.YtplfnlalmcpcaaaGreat
open Go.RowKit
set_option linter.unusedVariables false
set_option maxHeartbeats 400000 in
theorem l00Max_one (b r : Int) (hr : max 1 b = r) (w : World) : Calls Tryz.prog 121 #[.int .i64 1, .int .i64 b] w (Quiet (.int .i64 r) w) := by
  have Hr := Lib.hid hr; clear hr
  by_cases h : b < 1
  · have Hf : Hid (r = 1) := Lib.hid (by rw [← Hr.out]; omega)
    go_enter Tryz.func121, Tryz.ntmps121
    go_wp2
    go_ret
    exact ⟨by rw [Hf.out]; rfl, rfl⟩
  · have Hf : Hid (r = b) := Lib.hid (by rw [← Hr.out]; omega)
    go_enter Tryz.func121, Tryz.ntmps121
    go_wp2
    go_ret
    exact ⟨by rw [Hf.out]; rfl, rfl⟩
def bkN (n : Int) : Int := if n ≤ 64 then 1 else (n + 63) / 64
def bkF (n : Int) : Int := if inB n 0 65536 then bkN n else 0
theorem bkN_max {n : Int} (h0 : 0 ≤ n) (h1 : n ≤ 65536) : (if 1 > (n + 64 - 1) / 64 then 1 else (n + 64 - 1) / 64) = bkN n := by
  unfold bkN; split <;> split <;> omega
theorem bkN_b {n : Int} (h0 : 0 ≤ n) (h1 : n ≤ 65536) : 1 ≤ bkN n ∧ bkN n ≤ 1024 ∧ n ≤ 64 * bkN n ∧ 64 * bkN n ≤ n + 64 := by
  unfold bkN; split <;> omega
set_option maxHeartbeats 1000000 in
theorem specBlocksFor_any {n : Int} {w : World} (hn : (Lit.int .i64 n).wf = true) (hB : w.heap.size ≤ w.heap.size) : Calls Tryz.prog 68 #[.int .i64 n] w (GivesB (.int .i64 (bkF n)) w) := by
  cases hi : inB n 0 65536
  · have Hf : Hid (bkF n = 0) := Lib.hid (by simp [bkF, hi])
    have Hi := Lib.hid hi; clear hi
    go_enter Tryz.func68, Tryz.ntmps68
    go_wp2_with ((go_at_call 62; refine (l00In_no _ _ _ _ Hi.out).mono ?_; rintro e w' ⟨rfl, rfl⟩))
    go_ret
    exact ⟨by rw [Hf.out]; rfl, Below.refl _ _⟩
  · have hb := inB_iff.1 hi
    have Hf : Hid (max 1 ((n + 64 - 1) / 64) = bkF n) := Lib.hid (by simp only [bkF, hi, if_true]; unfold bkN; split <;> omega)
    have Hi := Lib.hid hi; clear hi
    generalize bkF n = r at *
    go_enter Tryz.func68, Tryz.ntmps68
    go_wp2_with (first | (go_at_call 62; refine (l00In_yes _ _ _ _ Hi.out).mono ?_; rintro e w' ⟨rfl, rfl⟩) | (go_at_call 121; refine (l00Max_one _ _ Hf.out _).mono ?_; rintro e w' ⟨rfl, rfl⟩))
    go_ret
    exact ⟨rfl, Below.refl _ _⟩
set_option maxHeartbeats 1000000 in
theorem implBlocksFor_q (n : Int) (w : World) : Calls Tryz.prog 70 #[.int .i64 n] w (Quiet (.int .i64 (bkF n)) w) := by
  by_cases h0 : n < 0
  · have Hf : Hid (bkF n = 0) := Lib.hid (by simp [bkF, inB]; omega)
    go_enter Tryz.func70, Tryz.ntmps70
    go_wp2
    go_ret
    exact ⟨by rw [Hf.out]; rfl, rfl⟩
  by_cases h1 : 65536 < n
  · have Hf : Hid (bkF n = 0) := Lib.hid (by simp [bkF, inB]; omega)
    go_enter Tryz.func70, Tryz.ntmps70
    go_wp2
    go_ret
    exact ⟨by rw [Hf.out]; rfl, rfl⟩
  have hi : inB n 0 65536 = true := inB_iff.2 ⟨by omega, by omega⟩
  by_cases hm : 1 < (n + 64 - 1) / 64
  · have Hf : Hid (bkF n = (n + 64 - 1) / 64) := Lib.hid (by rw [← Int.add_zero (bkF n)]; simp only [bkF, hi, if_true]; rw [← bkN_max (by omega) (by omega), if_neg (by omega)]; omega)
    go_enter Tryz.func70, Tryz.ntmps70
    go_wp2
    go_ret
    exact ⟨by rw [Hf.out]; rfl, rfl⟩
  · have Hf : Hid (bkF n = 1) := Lib.hid (by simp only [bkF, hi, if_true]; unfold bkN; split <;> omega)
    go_enter Tryz.func70, Tryz.ntmps70
    go_wp2
    go_ret
    exact ⟨by rw [Hf.out]; rfl, rfl⟩
theorem implBlocksFor_any {n : Int} {w : World} (hn : (Lit.int .i64 n).wf = true) (hB : w.heap.size ≤ w.heap.size) : Calls Tryz.prog 70 #[.int .i64 n] w (GivesB (.int .i64 (bkF n)) w) :=
  (implBlocksFor_q n w).mono fun e w' ⟨he, hw⟩ => by subst hw; exact ⟨he, Below.refl _ _⟩
end Go.Proofs.YtplfnlalmcpcaaaGreat
