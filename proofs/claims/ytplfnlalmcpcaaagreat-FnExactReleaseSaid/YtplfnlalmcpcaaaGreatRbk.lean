/- How many blocks a record has: contracts of both sides. No statement is proved here. -/
import Derived.Test.YtplfnlalmcpcaaaGreatDimC
namespace Go.Proofs.YtplfnlalmcpcaaaGreat
open Go.RowKit
set_option linter.unusedVariables false
/-- Blocks of the table, of a record. -/
def tbN (n : Int) : Int := if n ≤ 0 then 0 else if n ≤ 32 then 1 else 2
def rbN (n : Int) : Int := if inB n 1 60 then 1 + tbN n + n else 0
theorem tbN_eq {n : Int} (h0 : 0 ≤ n) (h1 : n ≤ 60) : (2 * n + 64 - 1) / 64 = tbN n := by
  unfold tbN; split
  · omega
  · split <;> omega
theorem tbN_eq2 {n : Int} (h0 : 0 ≤ n) (h1 : n ≤ 60) : (n * 2 + 64 - 1) / 64 = tbN n := by rw [Int.mul_comm]; exact tbN_eq h0 h1
theorem tbN_le {n : Int} : 0 ≤ tbN n ∧ tbN n ≤ 2 := by unfold tbN; split <;> (try split) <;> omega
set_option maxHeartbeats 1000000 in
theorem l11Table_any (n : Int) (w : World) (h0 : 0 ≤ n) (h1 : n ≤ 60) : Calls Tryz.prog 170 #[.int .i64 n] w (Quiet (.int .i64 (tbN n)) w) := by
  have HT := Lib.hid (tbN_eq h0 h1)
  go_enter Tryz.func170, Tryz.ntmps170
  go_wp2
  go_ret
  exact ⟨by rw [← HT.out]; rfl, rfl⟩
set_option maxHeartbeats 1000000 in
theorem tableBlocks_any (n : Int) (w : World) (h0 : 0 ≤ n) (h1 : n ≤ 60) : Calls Tryz.prog 175 #[.int .i64 n] w (Quiet (.int .i64 (tbN n)) w) := by
  have HT := Lib.hid (tbN_eq2 h0 h1)
  go_enter Tryz.func175, Tryz.ntmps175
  go_wp2
  go_ret
  exact ⟨by rw [← HT.out]; rfl, rfl⟩
set_option maxHeartbeats 1000000 in
theorem l11Blocks_any (n : Int) (w : World) (h0 : 0 ≤ n) (h1 : n ≤ 60) : Calls Tryz.prog 135 #[.int .i64 n] w (Quiet (.int .i64 (1 + tbN n + n)) w) := by
  have HT := tbN_le (n := n)
  have HC := Lib.hid (l11Table_any n w h0 h1)
  generalize tbN n = t at *
  go_enter Tryz.func135, Tryz.ntmps135
  go_wp2_with ((go_at_call 170; refine HC.out.mono ?_; rintro e w' ⟨rfl, rfl⟩))
  go_ret
  exact ⟨rfl, rfl⟩
theorem isRecordSize_any (a : Int) (w : World) : Calls Tryz.prog 174 #[.int .i64 a] w (Quiet (.bool (inB a 1 60)) w) := by
  by_cases h1 : 1 ≤ a
  · by_cases h2 : a ≤ 60
    · have Hf2 : Hid (inB a 1 60 = true) := Lib.hid (by simp [inB, h1, h2])
      go_enter Tryz.func174, Tryz.ntmps174
      go_wp2
      go_ret
      exact ⟨by rw [Hf2.out]; rfl, rfl⟩
    · have Hf2 : Hid (inB a 1 60 = false) := Lib.hid (by simp [inB]; omega)
      go_enter Tryz.func174, Tryz.ntmps174
      go_wp2
      go_ret
      exact ⟨by rw [Hf2.out]; rfl, rfl⟩
  · have Hf2 : Hid (inB a 1 60 = false) := Lib.hid (by simp [inB]; omega)
    go_enter Tryz.func174, Tryz.ntmps174
    go_wp2
    go_ret
    exact ⟨by rw [Hf2.out]; rfl, rfl⟩
theorem isRecordSize_yes (a : Int) (w : World) (h : inB a 1 60 = true) : Calls Tryz.prog 174 #[.int .i64 a] w (Quiet (.bool true) w) := h ▸ isRecordSize_any a w
theorem isRecordSize_no (a : Int) (w : World) (h : inB a 1 60 = false) : Calls Tryz.prog 174 #[.int .i64 a] w (Quiet (.bool false) w) := h ▸ isRecordSize_any a w
set_option maxHeartbeats 1000000 in
theorem implRecordBlocks_q (n : Int) (w : World) : Calls Tryz.prog 141 #[.int .i64 n] w (Quiet (.int .i64 (rbN n)) w) := by
  cases hi : inB n 1 60
  · have Hf : Hid (rbN n = 0) := Lib.hid (by simp [rbN, hi])
    have Hi := Lib.hid hi; clear hi
    go_enter Tryz.func141, Tryz.ntmps141
    go_wp2_with ((go_at_call 174; refine (isRecordSize_no _ _ Hi.out).mono ?_; rintro e w' ⟨rfl, rfl⟩))
    go_ret
    exact ⟨by rw [Hf.out]; rfl, rfl⟩
  · have Hf : Hid (rbN n = 1 + tbN n + n) := Lib.hid (by simp [rbN, hi])
    have Hi := Lib.hid hi
    have hb := inB_iff.1 hi; clear hi
    have HT := tbN_le (n := n)
    have HC := Lib.hid (tableBlocks_any n w (by omega) (by omega))
    generalize tbN n = t at *
    go_enter Tryz.func141, Tryz.ntmps141
    go_wp2_with (first | (go_at_call 174; refine (isRecordSize_yes _ _ Hi.out).mono ?_; rintro e w' ⟨rfl, rfl⟩) | (go_at_call 175; refine HC.out.mono ?_; rintro e w' ⟨rfl, rfl⟩))
    go_ret
    exact ⟨by rw [Hf.out]; rfl, rfl⟩
theorem implRecordBlocks_any {n : Int} {w : World} (hn : (Lit.int .i64 n).wf = true) (hB : w.heap.size ≤ w.heap.size) : Calls Tryz.prog 141 #[.int .i64 n] w (GivesB (.int .i64 (rbN n)) w) :=
  (implRecordBlocks_q n w).mono fun e w' ⟨he, hw⟩ => by subst hw; exact ⟨he, Below.refl _ _⟩
end Go.Proofs.YtplfnlalmcpcaaaGreat
