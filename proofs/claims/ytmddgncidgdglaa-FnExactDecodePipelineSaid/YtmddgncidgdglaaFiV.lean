/- Which filters are valid; contracts of both functions that say so. No statement is proved here. -/
import Derived.Test.YtmddgncidgdglaaFil
import Derived.Test.YtmddgncidgdglaaShI
namespace Go.Proofs.Ytmddgncidgdglaa
open Go.RowKit
set_option linter.unusedVariables false
def wdOk (p : Int) : Bool := decide (p = 1) || decide (p = 2) || decide (p = 4)
def filOk (k p : Int) (o : Bool) : Bool := if k = 1 then isSz p && !o else if k = 2 then wdOk p && !o else if k = 3 then decide (p = 0) else if k = 4 then decide (p = 0) else if k = 5 then decide (p = 0) && !o else false
theorem isDeltaWidth_any (p : Int) (w : World) : Calls Try.prog 56 #[.int .i64 p] w (Quiet (.bool (wdOk p)) w) := by
  by_cases p1 : p = 1
  · subst p1
    have Hf : Hid (wdOk 1 = true) := Lib.hid (by decide)
    go_enter Try.func56, Try.ntmps56
    go_wp2_with fail
    go_ret
    exact ⟨by rw [Hf.out]; rfl, rfl⟩
  · have p1b : (p == 1) = false := by simpa using p1
    by_cases p2 : p = 2
    · subst p2; clear p1 p1b
      have Hf : Hid (wdOk 2 = true) := Lib.hid (by decide)
      go_enter Try.func56, Try.ntmps56
      go_wp2_with fail
      go_ret
      exact ⟨by rw [Hf.out]; rfl, rfl⟩
    · have p2b : (p == 2) = false := by simpa using p2
      by_cases p4 : p = 4
      · subst p4; clear p1 p1b p2 p2b
        have Hf : Hid (wdOk 4 = true) := Lib.hid (by decide)
        go_enter Try.func56, Try.ntmps56
        go_wp2_with fail
        go_ret
        exact ⟨by rw [Hf.out]; rfl, rfl⟩
      · have p4b : (p == 4) = false := by simpa using p4
        have Hf : Hid (wdOk p = false) := Lib.hid (by simp [wdOk, p1, p2, p4]); clear p1 p2 p4
        go_enter Try.func56, Try.ntmps56
        go_wp2_with fail
        go_ret
        exact ⟨by rw [Hf.out]; rfl, rfl⟩
set_option maxHeartbeats 1000000 in
theorem l18Ok_any (k p : Int) (b : Bool) (w : World) : Calls Try.prog 54 #[.agg #[.int .i64 k, .int .i64 p, .bool b]] w (GivesB (.bool (filOk k p b)) w) := by
  by_cases k1 : k = 1
  · subst k1
    cases hi : isSz p
    · have HC := Lib.hid ((isSz_inB p).trans hi)
      cases b
      · have Hh := Lib.hid hi; clear hi
        have Hf : Hid (filOk 1 p false = false) := Lib.hid (by simp [filOk, Hh.out])
        go_enter Try.func54, Try.ntmps54
        go_wp2_with ((go_at_call 57; refine (l00In_no _ _ _ _ HC.out).mono ?_; rintro e w1 ⟨rfl, rfl⟩))
        go_ret
        exact ⟨by rw [Hf.out]; rfl, by first | exact (Below.refl _ _).alloc (Nat.le_refl _) _ | exact ((Below.refl _ _).alloc (Nat.le_refl _) _).setCell (p := ⟨w.heap.size, 2, none⟩) (Nat.le_refl _) _⟩
      · have Hh := Lib.hid hi; clear hi
        have Hf : Hid (filOk 1 p true = false) := Lib.hid (by simp [filOk, Hh.out])
        go_enter Try.func54, Try.ntmps54
        go_wp2_with ((go_at_call 57; refine (l00In_no _ _ _ _ HC.out).mono ?_; rintro e w1 ⟨rfl, rfl⟩))
        go_ret
        exact ⟨by rw [Hf.out]; rfl, by first | exact (Below.refl _ _).alloc (Nat.le_refl _) _ | exact ((Below.refl _ _).alloc (Nat.le_refl _) _).setCell (p := ⟨w.heap.size, 2, none⟩) (Nat.le_refl _) _⟩
    · have HC := Lib.hid ((isSz_inB p).trans hi)
      cases b
      · have Hh := Lib.hid hi; clear hi
        have Hf : Hid (filOk 1 p false = true) := Lib.hid (by simp [filOk, Hh.out])
        go_enter Try.func54, Try.ntmps54
        go_wp2_with ((go_at_call 57; refine (l00In_yes _ _ _ _ HC.out).mono ?_; rintro e w1 ⟨rfl, rfl⟩))
        go_ret
        exact ⟨by rw [Hf.out]; rfl, by first | exact (Below.refl _ _).alloc (Nat.le_refl _) _ | exact ((Below.refl _ _).alloc (Nat.le_refl _) _).setCell (p := ⟨w.heap.size, 2, none⟩) (Nat.le_refl _) _⟩
      · have Hh := Lib.hid hi; clear hi
        have Hf : Hid (filOk 1 p true = false) := Lib.hid (by simp [filOk, Hh.out])
        go_enter Try.func54, Try.ntmps54
        go_wp2_with ((go_at_call 57; refine (l00In_yes _ _ _ _ HC.out).mono ?_; rintro e w1 ⟨rfl, rfl⟩))
        go_ret
        exact ⟨by rw [Hf.out]; rfl, by first | exact (Below.refl _ _).alloc (Nat.le_refl _) _ | exact ((Below.refl _ _).alloc (Nat.le_refl _) _).setCell (p := ⟨w.heap.size, 2, none⟩) (Nat.le_refl _) _⟩
  · by_cases k2 : k = 2
    · subst k2; clear k1
      cases b
      · by_cases p1 : p = 1
        · subst p1
          have Hf : Hid (filOk 2 1 false = true) := Lib.hid (by decide)
          go_enter Try.func54, Try.ntmps54
          go_wp2_with fail
          go_ret
          exact ⟨by rw [Hf.out]; rfl, by first | exact (Below.refl _ _).alloc (Nat.le_refl _) _ | exact ((Below.refl _ _).alloc (Nat.le_refl _) _).setCell (p := ⟨w.heap.size, 2, none⟩) (Nat.le_refl _) _⟩
        · have p1b : (p == 1) = false := by simpa using p1
          by_cases p2 : p = 2
          · subst p2; clear p1 p1b
            have Hf : Hid (filOk 2 2 false = true) := Lib.hid (by decide)
            go_enter Try.func54, Try.ntmps54
            go_wp2_with fail
            go_ret
            exact ⟨by rw [Hf.out]; rfl, by first | exact (Below.refl _ _).alloc (Nat.le_refl _) _ | exact ((Below.refl _ _).alloc (Nat.le_refl _) _).setCell (p := ⟨w.heap.size, 2, none⟩) (Nat.le_refl _) _⟩
          · have p2b : (p == 2) = false := by simpa using p2
            by_cases p4 : p = 4
            · subst p4; clear p1 p1b p2 p2b
              have Hf : Hid (filOk 2 4 false = true) := Lib.hid (by decide)
              go_enter Try.func54, Try.ntmps54
              go_wp2_with fail
              go_ret
              exact ⟨by rw [Hf.out]; rfl, by first | exact (Below.refl _ _).alloc (Nat.le_refl _) _ | exact ((Below.refl _ _).alloc (Nat.le_refl _) _).setCell (p := ⟨w.heap.size, 2, none⟩) (Nat.le_refl _) _⟩
            · have p4b : (p == 4) = false := by simpa using p4
              have Hf : Hid (filOk 2 p false = false) := Lib.hid (by simp [filOk, wdOk, p1, p2, p4])
              clear p1 p2 p4
              go_enter Try.func54, Try.ntmps54
              go_wp2_with fail
              go_ret
              exact ⟨by rw [Hf.out]; rfl, by first | exact (Below.refl _ _).alloc (Nat.le_refl _) _ | exact ((Below.refl _ _).alloc (Nat.le_refl _) _).setCell (p := ⟨w.heap.size, 2, none⟩) (Nat.le_refl _) _⟩
      · by_cases p1 : p = 1
        · subst p1
          have Hf : Hid (filOk 2 1 true = false) := Lib.hid (by decide)
          go_enter Try.func54, Try.ntmps54
          go_wp2_with fail
          go_ret
          exact ⟨by rw [Hf.out]; rfl, by first | exact (Below.refl _ _).alloc (Nat.le_refl _) _ | exact ((Below.refl _ _).alloc (Nat.le_refl _) _).setCell (p := ⟨w.heap.size, 2, none⟩) (Nat.le_refl _) _⟩
        · have p1b : (p == 1) = false := by simpa using p1
          by_cases p2 : p = 2
          · subst p2; clear p1 p1b
            have Hf : Hid (filOk 2 2 true = false) := Lib.hid (by decide)
            go_enter Try.func54, Try.ntmps54
            go_wp2_with fail
            go_ret
            exact ⟨by rw [Hf.out]; rfl, by first | exact (Below.refl _ _).alloc (Nat.le_refl _) _ | exact ((Below.refl _ _).alloc (Nat.le_refl _) _).setCell (p := ⟨w.heap.size, 2, none⟩) (Nat.le_refl _) _⟩
          · have p2b : (p == 2) = false := by simpa using p2
            by_cases p4 : p = 4
            · subst p4; clear p1 p1b p2 p2b
              have Hf : Hid (filOk 2 4 true = false) := Lib.hid (by decide)
              go_enter Try.func54, Try.ntmps54
              go_wp2_with fail
              go_ret
              exact ⟨by rw [Hf.out]; rfl, by first | exact (Below.refl _ _).alloc (Nat.le_refl _) _ | exact ((Below.refl _ _).alloc (Nat.le_refl _) _).setCell (p := ⟨w.heap.size, 2, none⟩) (Nat.le_refl _) _⟩
            · have p4b : (p == 4) = false := by simpa using p4
              have Hf : Hid (filOk 2 p true = false) := Lib.hid (by simp [filOk, wdOk, p1, p2, p4])
              clear p1 p2 p4
              go_enter Try.func54, Try.ntmps54
              go_wp2_with fail
              go_ret
              exact ⟨by rw [Hf.out]; rfl, by first | exact (Below.refl _ _).alloc (Nat.le_refl _) _ | exact ((Below.refl _ _).alloc (Nat.le_refl _) _).setCell (p := ⟨w.heap.size, 2, none⟩) (Nat.le_refl _) _⟩
    · by_cases k3 : k = 3
      · subst k3; clear k1 k2
        by_cases p0 : p = 0
        · subst p0
          have Hf : Hid (filOk 3 0 b = true) := Lib.hid (by simp [filOk])
          go_enter Try.func54, Try.ntmps54
          go_wp2_with fail
          go_ret
          exact ⟨by rw [Hf.out]; rfl, by first | exact (Below.refl _ _).alloc (Nat.le_refl _) _ | exact ((Below.refl _ _).alloc (Nat.le_refl _) _).setCell (p := ⟨w.heap.size, 2, none⟩) (Nat.le_refl _) _⟩
        · have p0b : (p == 0) = false := by simpa using p0
          have Hf : Hid (filOk 3 p b = false) := Lib.hid (by simp [filOk, p0])
          clear p0
          go_enter Try.func54, Try.ntmps54
          go_wp2_with fail
          go_ret
          exact ⟨by rw [Hf.out]; rfl, by first | exact (Below.refl _ _).alloc (Nat.le_refl _) _ | exact ((Below.refl _ _).alloc (Nat.le_refl _) _).setCell (p := ⟨w.heap.size, 2, none⟩) (Nat.le_refl _) _⟩
      · by_cases k4 : k = 4
        · subst k4; clear k1 k2 k3
          by_cases p0 : p = 0
          · subst p0
            have Hf : Hid (filOk 4 0 b = true) := Lib.hid (by simp [filOk])
            go_enter Try.func54, Try.ntmps54
            go_wp2_with fail
            go_ret
            exact ⟨by rw [Hf.out]; rfl, by first | exact (Below.refl _ _).alloc (Nat.le_refl _) _ | exact ((Below.refl _ _).alloc (Nat.le_refl _) _).setCell (p := ⟨w.heap.size, 2, none⟩) (Nat.le_refl _) _⟩
          · have p0b : (p == 0) = false := by simpa using p0
            have Hf : Hid (filOk 4 p b = false) := Lib.hid (by simp [filOk, p0])
            clear p0
            go_enter Try.func54, Try.ntmps54
            go_wp2_with fail
            go_ret
            exact ⟨by rw [Hf.out]; rfl, by first | exact (Below.refl _ _).alloc (Nat.le_refl _) _ | exact ((Below.refl _ _).alloc (Nat.le_refl _) _).setCell (p := ⟨w.heap.size, 2, none⟩) (Nat.le_refl _) _⟩
        · by_cases k5 : k = 5
          · subst k5; clear k1 k2 k3 k4
            by_cases p0 : p = 0
            · subst p0
              cases b
              · have Hf : Hid (filOk 5 0 false = true) := Lib.hid (by decide)
                go_enter Try.func54, Try.ntmps54
                go_wp2_with fail
                go_ret
                exact ⟨by rw [Hf.out]; rfl, by first | exact (Below.refl _ _).alloc (Nat.le_refl _) _ | exact ((Below.refl _ _).alloc (Nat.le_refl _) _).setCell (p := ⟨w.heap.size, 2, none⟩) (Nat.le_refl _) _⟩
              · have Hf : Hid (filOk 5 0 true = false) := Lib.hid (by decide)
                go_enter Try.func54, Try.ntmps54
                go_wp2_with fail
                go_ret
                exact ⟨by rw [Hf.out]; rfl, by first | exact (Below.refl _ _).alloc (Nat.le_refl _) _ | exact ((Below.refl _ _).alloc (Nat.le_refl _) _).setCell (p := ⟨w.heap.size, 2, none⟩) (Nat.le_refl _) _⟩
            · have p0b : (p == 0) = false := by simpa using p0
              cases b
              · have Hf : Hid (filOk 5 p false = false) := Lib.hid (by simp [filOk, p0])
                clear p0
                go_enter Try.func54, Try.ntmps54
                go_wp2_with fail
                go_ret
                exact ⟨by rw [Hf.out]; rfl, by first | exact (Below.refl _ _).alloc (Nat.le_refl _) _ | exact ((Below.refl _ _).alloc (Nat.le_refl _) _).setCell (p := ⟨w.heap.size, 2, none⟩) (Nat.le_refl _) _⟩
              · have Hf : Hid (filOk 5 p true = false) := Lib.hid (by simp [filOk, p0])
                clear p0
                go_enter Try.func54, Try.ntmps54
                go_wp2_with fail
                go_ret
                exact ⟨by rw [Hf.out]; rfl, by first | exact (Below.refl _ _).alloc (Nat.le_refl _) _ | exact ((Below.refl _ _).alloc (Nat.le_refl _) _).setCell (p := ⟨w.heap.size, 2, none⟩) (Nat.le_refl _) _⟩
          · have hf : filOk k p b = false := by simp [filOk, k1, k2, k3, k4, k5]
            have k1b : (k == 1) = false := by simpa using k1
            have k2b : (k == 2) = false := by simpa using k2
            have k3b : (k == 3) = false := by simpa using k3
            have k4b : (k == 4) = false := by simpa using k4
            have k5b : (k == 5) = false := by simpa using k5
            clear k1 k2 k3 k4 k5
            have Hf : Hid (filOk k p b = false) := Lib.hid (hf)
            go_enter Try.func54, Try.ntmps54
            go_wp2_with fail
            go_ret
            exact ⟨by rw [Hf.out]; rfl, by first | exact (Below.refl _ _).alloc (Nat.le_refl _) _ | exact ((Below.refl _ _).alloc (Nat.le_refl _) _).setCell (p := ⟨w.heap.size, 2, none⟩) (Nat.le_refl _) _⟩
set_option maxHeartbeats 1000000 in
theorem implValidFilter_any (k p : Int) (b : Bool) (w : World) : Calls Try.prog 19 #[.agg #[.int .i64 k, .int .i64 p, .bool b]] w (GivesB (.bool (filOk k p b)) w) := by
  by_cases k1 : k = 1
  · subst k1
    cases hi : isSz p
    · have HC := Lib.hid (fun W => isShuffleSize_any p W)
      rw [hi] at HC
      cases b
      · have Hh := Lib.hid hi; clear hi
        have Hf : Hid (filOk 1 p false = false) := Lib.hid (by simp [filOk, Hh.out])
        go_enter Try.func19, Try.ntmps19
        go_wp2_with ((go_at_call 55; refine (HC.out _).mono ?_; rintro e w1 ⟨rfl, rfl⟩))
        go_ret
        exact ⟨by rw [Hf.out]; rfl, by first | exact (Below.refl _ _).alloc (Nat.le_refl _) _ | exact ((Below.refl _ _).alloc (Nat.le_refl _) _).setCell (p := ⟨w.heap.size, 2, none⟩) (Nat.le_refl _) _⟩
      · have Hh := Lib.hid hi; clear hi
        have Hf : Hid (filOk 1 p true = false) := Lib.hid (by simp [filOk, Hh.out])
        go_enter Try.func19, Try.ntmps19
        go_wp2_with ((go_at_call 55; refine (HC.out _).mono ?_; rintro e w1 ⟨rfl, rfl⟩))
        go_ret
        exact ⟨by rw [Hf.out]; rfl, by first | exact (Below.refl _ _).alloc (Nat.le_refl _) _ | exact ((Below.refl _ _).alloc (Nat.le_refl _) _).setCell (p := ⟨w.heap.size, 2, none⟩) (Nat.le_refl _) _⟩
    · have HC := Lib.hid (fun W => isShuffleSize_any p W)
      rw [hi] at HC
      cases b
      · have Hh := Lib.hid hi; clear hi
        have Hf : Hid (filOk 1 p false = true) := Lib.hid (by simp [filOk, Hh.out])
        go_enter Try.func19, Try.ntmps19
        go_wp2_with ((go_at_call 55; refine (HC.out _).mono ?_; rintro e w1 ⟨rfl, rfl⟩))
        go_ret
        exact ⟨by rw [Hf.out]; rfl, by first | exact (Below.refl _ _).alloc (Nat.le_refl _) _ | exact ((Below.refl _ _).alloc (Nat.le_refl _) _).setCell (p := ⟨w.heap.size, 2, none⟩) (Nat.le_refl _) _⟩
      · have Hh := Lib.hid hi; clear hi
        have Hf : Hid (filOk 1 p true = false) := Lib.hid (by simp [filOk, Hh.out])
        go_enter Try.func19, Try.ntmps19
        go_wp2_with ((go_at_call 55; refine (HC.out _).mono ?_; rintro e w1 ⟨rfl, rfl⟩))
        go_ret
        exact ⟨by rw [Hf.out]; rfl, by first | exact (Below.refl _ _).alloc (Nat.le_refl _) _ | exact ((Below.refl _ _).alloc (Nat.le_refl _) _).setCell (p := ⟨w.heap.size, 2, none⟩) (Nat.le_refl _) _⟩
  · by_cases k2 : k = 2
    · subst k2; clear k1
      cases b
      · by_cases p1 : p = 1
        · subst p1
          have HC := Lib.hid (fun W => isDeltaWidth_any 1 W)
          have hw : wdOk 1 = true := by decide
          rw [hw] at HC; clear hw
          have Hf : Hid (filOk 2 1 false = true) := Lib.hid (by decide)
          go_enter Try.func19, Try.ntmps19
          go_wp2_with ((go_at_call 56; refine (HC.out _).mono ?_; rintro e w1 ⟨rfl, rfl⟩))
          go_ret
          exact ⟨by rw [Hf.out]; rfl, by first | exact (Below.refl _ _).alloc (Nat.le_refl _) _ | exact ((Below.refl _ _).alloc (Nat.le_refl _) _).setCell (p := ⟨w.heap.size, 2, none⟩) (Nat.le_refl _) _⟩
        · have p1b : (p == 1) = false := by simpa using p1
          by_cases p2 : p = 2
          · subst p2; clear p1 p1b
            have HC := Lib.hid (fun W => isDeltaWidth_any 2 W)
            have hw : wdOk 2 = true := by decide
            rw [hw] at HC; clear hw
            have Hf : Hid (filOk 2 2 false = true) := Lib.hid (by decide)
            go_enter Try.func19, Try.ntmps19
            go_wp2_with ((go_at_call 56; refine (HC.out _).mono ?_; rintro e w1 ⟨rfl, rfl⟩))
            go_ret
            exact ⟨by rw [Hf.out]; rfl, by first | exact (Below.refl _ _).alloc (Nat.le_refl _) _ | exact ((Below.refl _ _).alloc (Nat.le_refl _) _).setCell (p := ⟨w.heap.size, 2, none⟩) (Nat.le_refl _) _⟩
          · have p2b : (p == 2) = false := by simpa using p2
            by_cases p4 : p = 4
            · subst p4; clear p1 p1b p2 p2b
              have HC := Lib.hid (fun W => isDeltaWidth_any 4 W)
              have hw : wdOk 4 = true := by decide
              rw [hw] at HC; clear hw
              have Hf : Hid (filOk 2 4 false = true) := Lib.hid (by decide)
              go_enter Try.func19, Try.ntmps19
              go_wp2_with ((go_at_call 56; refine (HC.out _).mono ?_; rintro e w1 ⟨rfl, rfl⟩))
              go_ret
              exact ⟨by rw [Hf.out]; rfl, by first | exact (Below.refl _ _).alloc (Nat.le_refl _) _ | exact ((Below.refl _ _).alloc (Nat.le_refl _) _).setCell (p := ⟨w.heap.size, 2, none⟩) (Nat.le_refl _) _⟩
            · have p4b : (p == 4) = false := by simpa using p4
              have HC := Lib.hid (fun W => isDeltaWidth_any p W)
              have hw : wdOk p = false := by simp [wdOk, p1, p2, p4]
              rw [hw] at HC; clear hw
              have Hf : Hid (filOk 2 p false = false) := Lib.hid (by simp [filOk, wdOk, p1, p2, p4])
              clear p1 p2 p4
              go_enter Try.func19, Try.ntmps19
              go_wp2_with ((go_at_call 56; refine (HC.out _).mono ?_; rintro e w1 ⟨rfl, rfl⟩))
              go_ret
              exact ⟨by rw [Hf.out]; rfl, by first | exact (Below.refl _ _).alloc (Nat.le_refl _) _ | exact ((Below.refl _ _).alloc (Nat.le_refl _) _).setCell (p := ⟨w.heap.size, 2, none⟩) (Nat.le_refl _) _⟩
      · by_cases p1 : p = 1
        · subst p1
          have HC := Lib.hid (fun W => isDeltaWidth_any 1 W)
          have hw : wdOk 1 = true := by decide
          rw [hw] at HC; clear hw
          have Hf : Hid (filOk 2 1 true = false) := Lib.hid (by decide)
          go_enter Try.func19, Try.ntmps19
          go_wp2_with ((go_at_call 56; refine (HC.out _).mono ?_; rintro e w1 ⟨rfl, rfl⟩))
          go_ret
          exact ⟨by rw [Hf.out]; rfl, by first | exact (Below.refl _ _).alloc (Nat.le_refl _) _ | exact ((Below.refl _ _).alloc (Nat.le_refl _) _).setCell (p := ⟨w.heap.size, 2, none⟩) (Nat.le_refl _) _⟩
        · have p1b : (p == 1) = false := by simpa using p1
          by_cases p2 : p = 2
          · subst p2; clear p1 p1b
            have HC := Lib.hid (fun W => isDeltaWidth_any 2 W)
            have hw : wdOk 2 = true := by decide
            rw [hw] at HC; clear hw
            have Hf : Hid (filOk 2 2 true = false) := Lib.hid (by decide)
            go_enter Try.func19, Try.ntmps19
            go_wp2_with ((go_at_call 56; refine (HC.out _).mono ?_; rintro e w1 ⟨rfl, rfl⟩))
            go_ret
            exact ⟨by rw [Hf.out]; rfl, by first | exact (Below.refl _ _).alloc (Nat.le_refl _) _ | exact ((Below.refl _ _).alloc (Nat.le_refl _) _).setCell (p := ⟨w.heap.size, 2, none⟩) (Nat.le_refl _) _⟩
          · have p2b : (p == 2) = false := by simpa using p2
            by_cases p4 : p = 4
            · subst p4; clear p1 p1b p2 p2b
              have HC := Lib.hid (fun W => isDeltaWidth_any 4 W)
              have hw : wdOk 4 = true := by decide
              rw [hw] at HC; clear hw
              have Hf : Hid (filOk 2 4 true = false) := Lib.hid (by decide)
              go_enter Try.func19, Try.ntmps19
              go_wp2_with ((go_at_call 56; refine (HC.out _).mono ?_; rintro e w1 ⟨rfl, rfl⟩))
              go_ret
              exact ⟨by rw [Hf.out]; rfl, by first | exact (Below.refl _ _).alloc (Nat.le_refl _) _ | exact ((Below.refl _ _).alloc (Nat.le_refl _) _).setCell (p := ⟨w.heap.size, 2, none⟩) (Nat.le_refl _) _⟩
            · have p4b : (p == 4) = false := by simpa using p4
              have HC := Lib.hid (fun W => isDeltaWidth_any p W)
              have hw : wdOk p = false := by simp [wdOk, p1, p2, p4]
              rw [hw] at HC; clear hw
              have Hf : Hid (filOk 2 p true = false) := Lib.hid (by simp [filOk, wdOk, p1, p2, p4])
              clear p1 p2 p4
              go_enter Try.func19, Try.ntmps19
              go_wp2_with ((go_at_call 56; refine (HC.out _).mono ?_; rintro e w1 ⟨rfl, rfl⟩))
              go_ret
              exact ⟨by rw [Hf.out]; rfl, by first | exact (Below.refl _ _).alloc (Nat.le_refl _) _ | exact ((Below.refl _ _).alloc (Nat.le_refl _) _).setCell (p := ⟨w.heap.size, 2, none⟩) (Nat.le_refl _) _⟩
    · by_cases k3 : k = 3
      · subst k3; clear k1 k2
        by_cases p0 : p = 0
        · subst p0
          have Hf : Hid (filOk 3 0 b = true) := Lib.hid (by simp [filOk])
          go_enter Try.func19, Try.ntmps19
          go_wp2_with fail
          go_ret
          exact ⟨by rw [Hf.out]; rfl, by first | exact (Below.refl _ _).alloc (Nat.le_refl _) _ | exact ((Below.refl _ _).alloc (Nat.le_refl _) _).setCell (p := ⟨w.heap.size, 2, none⟩) (Nat.le_refl _) _⟩
        · have p0b : (p == 0) = false := by simpa using p0
          have Hf : Hid (filOk 3 p b = false) := Lib.hid (by simp [filOk, p0])
          clear p0
          go_enter Try.func19, Try.ntmps19
          go_wp2_with fail
          go_ret
          exact ⟨by rw [Hf.out]; rfl, by first | exact (Below.refl _ _).alloc (Nat.le_refl _) _ | exact ((Below.refl _ _).alloc (Nat.le_refl _) _).setCell (p := ⟨w.heap.size, 2, none⟩) (Nat.le_refl _) _⟩
      · by_cases k4 : k = 4
        · subst k4; clear k1 k2 k3
          by_cases p0 : p = 0
          · subst p0
            have Hf : Hid (filOk 4 0 b = true) := Lib.hid (by simp [filOk])
            go_enter Try.func19, Try.ntmps19
            go_wp2_with fail
            go_ret
            exact ⟨by rw [Hf.out]; rfl, by first | exact (Below.refl _ _).alloc (Nat.le_refl _) _ | exact ((Below.refl _ _).alloc (Nat.le_refl _) _).setCell (p := ⟨w.heap.size, 2, none⟩) (Nat.le_refl _) _⟩
          · have p0b : (p == 0) = false := by simpa using p0
            have Hf : Hid (filOk 4 p b = false) := Lib.hid (by simp [filOk, p0])
            clear p0
            go_enter Try.func19, Try.ntmps19
            go_wp2_with fail
            go_ret
            exact ⟨by rw [Hf.out]; rfl, by first | exact (Below.refl _ _).alloc (Nat.le_refl _) _ | exact ((Below.refl _ _).alloc (Nat.le_refl _) _).setCell (p := ⟨w.heap.size, 2, none⟩) (Nat.le_refl _) _⟩
        · by_cases k5 : k = 5
          · subst k5; clear k1 k2 k3 k4
            by_cases p0 : p = 0
            · subst p0
              cases b
              · have Hf : Hid (filOk 5 0 false = true) := Lib.hid (by decide)
                go_enter Try.func19, Try.ntmps19
                go_wp2_with fail
                go_ret
                exact ⟨by rw [Hf.out]; rfl, by first | exact (Below.refl _ _).alloc (Nat.le_refl _) _ | exact ((Below.refl _ _).alloc (Nat.le_refl _) _).setCell (p := ⟨w.heap.size, 2, none⟩) (Nat.le_refl _) _⟩
              · have Hf : Hid (filOk 5 0 true = false) := Lib.hid (by decide)
                go_enter Try.func19, Try.ntmps19
                go_wp2_with fail
                go_ret
                exact ⟨by rw [Hf.out]; rfl, by first | exact (Below.refl _ _).alloc (Nat.le_refl _) _ | exact ((Below.refl _ _).alloc (Nat.le_refl _) _).setCell (p := ⟨w.heap.size, 2, none⟩) (Nat.le_refl _) _⟩
            · have p0b : (p == 0) = false := by simpa using p0
              cases b
              · have Hf : Hid (filOk 5 p false = false) := Lib.hid (by simp [filOk, p0])
                clear p0
                go_enter Try.func19, Try.ntmps19
                go_wp2_with fail
                go_ret
                exact ⟨by rw [Hf.out]; rfl, by first | exact (Below.refl _ _).alloc (Nat.le_refl _) _ | exact ((Below.refl _ _).alloc (Nat.le_refl _) _).setCell (p := ⟨w.heap.size, 2, none⟩) (Nat.le_refl _) _⟩
              · have Hf : Hid (filOk 5 p true = false) := Lib.hid (by simp [filOk, p0])
                clear p0
                go_enter Try.func19, Try.ntmps19
                go_wp2_with fail
                go_ret
                exact ⟨by rw [Hf.out]; rfl, by first | exact (Below.refl _ _).alloc (Nat.le_refl _) _ | exact ((Below.refl _ _).alloc (Nat.le_refl _) _).setCell (p := ⟨w.heap.size, 2, none⟩) (Nat.le_refl _) _⟩
          · have hf : filOk k p b = false := by simp [filOk, k1, k2, k3, k4, k5]
            have k1b : (k == 1) = false := by simpa using k1
            have k2b : (k == 2) = false := by simpa using k2
            have k3b : (k == 3) = false := by simpa using k3
            have k4b : (k == 4) = false := by simpa using k4
            have k5b : (k == 5) = false := by simpa using k5
            clear k1 k2 k3 k4 k5
            have Hf : Hid (filOk k p b = false) := Lib.hid (hf)
            go_enter Try.func19, Try.ntmps19
            go_wp2_with fail
            go_ret
            exact ⟨by rw [Hf.out]; rfl, by first | exact (Below.refl _ _).alloc (Nat.le_refl _) _ | exact ((Below.refl _ _).alloc (Nat.le_refl _) _).setCell (p := ⟨w.heap.size, 2, none⟩) (Nat.le_refl _) _⟩
theorem specValidFilter_any (k p : Int) (b : Bool) (w : World) : Calls Try.prog 17 #[.agg #[.int .i64 k, .int .i64 p, .bool b]] w (GivesB (.bool (filOk k p b)) w) := by
  have HC := Lib.hid (fun W => l18Ok_any k p b W)
  generalize filOk k p b = v at *
  go_enter Try.func17, Try.ntmps17
  go_wp2_with ((go_at_call 54; refine (HC.out _).mono ?_; rintro e w1 ⟨rfl, g⟩))
  go_ret
  exact ⟨rfl, ((Below.refl _ _).alloc (Nat.le_refl _) _).trans (g.mono (by simp))⟩
theorem isNoFilter_any (k p : Int) (b : Bool) (w : World) : Calls Try.prog 75 #[.agg #[.int .i64 k, .int .i64 p, .bool b]] w (GivesB (.bool (!filOk k p b)) w) := by
  have HC := Lib.hid (fun W => implValidFilter_any k p b W)
  generalize filOk k p b = v at *
  go_enter Try.func75, Try.ntmps75
  go_wp2_with ((go_at_call 19; refine (HC.out _).mono ?_; rintro e w1 ⟨rfl, g⟩))
  go_ret
  exact ⟨rfl, ((Below.refl _ _).alloc (Nat.le_refl _) _).trans (g.mono (by simp))⟩
end Go.Proofs.Ytmddgncidgdglaa
