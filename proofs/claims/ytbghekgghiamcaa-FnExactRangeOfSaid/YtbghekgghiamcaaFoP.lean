/- Contract of the model's check of points. No statement is proved here. -/
import Derived.Test.YtbghekgghiamcaaFoS
namespace Go.Proofs.Ytbghekgghiamcaa
open Go.RowKit
set_option linter.unusedVariables false
theorem ptsOk_n {ps : List (List Int)} (h : inB (ps.length : Int) 1 24 = false) : ptsOk ps = false := by simp [ptsOk, h]
theorem ptsOk_bad {ps : List (List Int)} {j : Nat} (hj : j < ps.length) (h : ptAt ps j = false) : ptsOk ps = false := by simp [ptsOk, allTo_bad _ j _ hj h]
theorem ptsOk_end {ps : List (List Int)} (hl : inB (ps.length : Int) 1 24 = true) (h : allTo (ptAt ps) ps.length = true) : ptsOk ps = true := by simp [ptsOk, hl, h]
theorem ptsOk_iff {ps : List (List Int)} (h : ptsOk ps = true) : inB (ps.length : Int) 1 24 = true ∧ allTo (ptAt ps) ps.length = true := by simpa [ptsOk] using h
set_option maxHeartbeats 2000000 in
set_option maxRecDepth 100000 in
theorem l06Points_any {B : Nat} {w : World} {v : Value} {ps : List (List Int)} (h : RiP B w v ps) (hB : B ≤ w.heap.size) : Calls Try.prog 66 #[v] w (GivesB (.bool (ptsOk ps)) w) := by
  obtain ⟨A, c, rfl, hl, hm, hx⟩ := h
  have Hx := Lib.hid hx; clear hx
  unfold maxLen at hm
  generalize hr : ptsOk ps = r
  have Hr := Lib.hid hr; clear hr
  by_cases hin : inB (ps.length : Int) 1 24 = true
  rotate_left
  · have Hin : Hid (inB (ps.length : Int) 1 24 = false) := Lib.hid (by simpa using hin)
    have Hf : Hid (r = false) := Lib.hid (by rw [← Hr.out]; exact ptsOk_n Hin.out)
    clear hin
    go_enter Try.func66, Try.ntmps66
    go_wp2_with (go_at_call 34; (with_reducible refine (l00In_no _ _ _ _ Hin.out).mono ?_); rintro e w' ⟨rfl, rfl⟩)
    go_ret
    exact ⟨by rw [Hf.out]; rfl, Below.refl _ _⟩
  have Hin := Lib.hid hin
  obtain ⟨i1, i2⟩ := inB_iff.1 hin
  have hpos : 0 < ps.length := by omega
  clear hin
  obtain ⟨b0, o0, u0, hA0, hb0, hq0, hr0⟩ := Hx.out 0 hpos
  subst hA0
  obtain ⟨D0, d0, rfl, -, hd0, -⟩ := hr0
  unfold maxLen at hd0
  generalize hn0 : (ps[0]'hpos).length = n0 at *
  have Hn0 := Lib.hid hn0; have Hq0 := Lib.hid hq0
  clear hn0 hq0
  go_enter Try.func66, Try.ntmps66
  go_wp2_with (go_at_call 34; (with_reducible refine (l00In_yes _ _ _ _ Hin.out).mono ?_); rintro e w' ⟨rfl, rfl⟩)
  go_loopw [3] (fun i wr => ∃ k : Nat, k ≤ ps.length ∧ i = .int .i64 k ∧ Below w.heap.size w wr ∧ allTo (ptAt ps) k = true) (fun i _ => ps.length - (intOf i).toNat)
  case atStart => exact ⟨0, Nat.zero_le _, rfl, Below.refl _ _, allTo_zero _⟩
  case round =>
    obtain ⟨k, hk, rfl, hbel, hall⟩ := hrel
    have Hall := Lib.hid hall; have Hbel := Lib.hid hbel
    clear hall
    by_cases hlt : k < ps.length
    · obtain ⟨b, o, u, hA, hb, hq, hri⟩ := Hx.out k hlt
      obtain ⟨rfl, rfl⟩ : b0 = b ∧ o0 = o := by simpa using hA
      clear hA
      have g0 : wr.cell? ⟨b0, o0 + 0, none⟩ = some (.slice D0 n0 d0) := by rw [hbel.cell (p := ⟨b0, o0 + 0, none⟩) (show b0 < _ from by omega)]; exact Hq0.out
      simp at g0
      have g1 : wr.cell? ⟨b0, o0 + k, none⟩ = some u := by rw [hbel.cell (p := ⟨b0, o0 + k, none⟩) (show b0 < _ from by omega)]; exact hq
      obtain ⟨D, d, rfl, hdl, hd, hxs⟩ := hri
      unfold maxLen at hd
      have Hxs := Lib.hid hxs
      have Hp := Lib.hid (ptAt_at hlt)
      have Hk2 := Lib.hid (allTo_succ (ptAt ps) k)
      have Hbad : Hid (ptAt ps k = false → r = false) := Lib.hid (fun h => by rw [← Hr.out]; exact ptsOk_bad hlt h)
      clear hq hxs
      generalize ps[k] = xs at *
      by_cases hln : xs.length = n0
      rotate_left
      · have Hf : Hid (r = false) := Lib.hid (Hbad.out (by rw [Hp.out, Hn0.out]; simp [hln]))
        have q1 : ((xs.length : Int) == (n0 : Int)) = false := by simp; omega
        have q2 : ((xs.length : Int) != (n0 : Int)) = true := by simp; omega
        have q3 : ¬ ((xs.length : Int) = (n0 : Int)) := by omega
        clear Hbad hbel
        go_wp2
        go_quiet (fail)
        go_wp2
        go_ret
        exact ⟨by rw [Hf.out]; rfl, below_draws Hbel.out _⟩
      by_cases h3 : 3 < xs.length
      · have Hf : Hid (r = false) := Lib.hid (Hbad.out (by rw [Hp.out]; simp; omega))
        have q1 : decide ((3 : Int) < (xs.length : Int)) = true := decide_eq_true (by omega)
        have q2 : decide ((3 : Int) < (n0 : Int)) = true := decide_eq_true (by omega)
        have q3 : (xs.length : Int) = (n0 : Int) := by omega
        clear Hbad hbel hln
        go_wp2
        go_quiet (fail)
        go_wp2
        go_ret
        exact ⟨by rw [Hf.out]; rfl, below_draws Hbel.out _⟩
      have q1 : decide ((3 : Int) < (xs.length : Int)) = false := decide_eq_false (by omega)
      have q2 : decide ((3 : Int) < (n0 : Int)) = false := decide_eq_false (by omega)
      have q3 : (xs.length : Int) = (n0 : Int) := by omega
      have hln2 : n0 = xs.length := hln.symm
      have Hln := Lib.hid hln2
      clear hln hln2
      go_wp2
      go_quiet (fail)
      go_wp2
      clear q3
      go_loop [4] (fun i => ∃ j : Nat, j ≤ xs.length ∧ i = .int .i64 j ∧ allTo (fun j => inB (xs.getD j 0) 0 39) j = true) (fun i => xs.length - (intOf i).toNat)
      case atStart => exact ⟨0, Nat.zero_le _, rfl, allTo_zero _⟩
      case round =>
        obtain ⟨j, hj, rfl, hal⟩ := hrel
        have Hal := Lib.hid hal; clear hal
        by_cases hjl : j < xs.length
        · obtain ⟨b2, o2, rfl, hb2, hq2, hI2⟩ := Hxs.out j hjl
          have g2 : wr.cell? ⟨b2, o2 + j, none⟩ = some (.int .i64 xs[j]) := by rw [Hbel.out.cell (p := ⟨b2, o2 + j, none⟩) (show b2 < _ from by omega)]; exact hq2
          have Hal2 := Lib.hid (allTo_succ (fun j => inB (xs.getD j 0) 0 39) j)
          have Hgd := Lib.hid (getD_at xs j hjl)
          have Hib : Hid (inB xs[j] 0 39 = false → r = false) := Lib.hid (fun h => Hbad.out (by
            rw [Hp.out, allTo_bad (fun j => inB (xs.getD j 0) 0 39) j xs.length hjl (by show inB (xs.getD j 0) 0 39 = false; rw [Hgd.out]; exact h)]
            simp))
          clear hq2 hI2
          generalize hxj : xs[j] = x at *
          have Hxj := Lib.hid hxj; clear hxj
          cases hin2 : inB x 0 39
          · have Hin2 := Lib.hid hin2
            have Hf : Hid (r = false) := Lib.hid (Hib.out hin2)
            clear hin2 Hib Hbad
            go_wp2_with (go_at_call 34; (with_reducible refine (l00In_no _ _ _ _ Hin2.out).mono ?_); rintro e w' ⟨rfl, rfl⟩)
            go_ret
            exact ⟨by rw [Hf.out]; rfl, below_draws Hbel.out _⟩
          · have Hin2 := Lib.hid hin2
            have Hall3 : Hid (allTo (fun j => inB (xs.getD j 0) 0 39) (j + 1) = true) := Lib.hid (by rw [Hal2.out, Hal.out]; show (true && inB (xs.getD j 0) 0 39) = true; rw [Hgd.out, hin2]; rfl)
            clear hin2 Hib Hbad
            go_wp2_with (go_at_call 34; (with_reducible refine (l00In_yes _ _ _ _ Hin2.out).mono ?_); rintro e w' ⟨rfl, rfl⟩)
            go_round
            case rel => exact ⟨j + 1, by omega, by go_num, Hall3.out⟩
            case measure => simp [intOf]; omega
        · have Hall2 : Hid (allTo (ptAt ps) (k + 1) = true) := Lib.hid (by
            rw [Hk2.out, Hall.out, Hp.out, Hn0.out, Hln.out, show xs.length = j by omega, Hal.out]; simp; omega)
          clear Hbad
          go_wp2
          go_roundw
          case rel => exact ⟨k + 1, by omega, by go_num, below_draws Hbel.out _, Hall2.out⟩
          case measure => simp [intOf]; omega
    · have Hf : Hid (r = true) := Lib.hid (by rw [← Hr.out]; exact ptsOk_end Hin.out (by rw [show ps.length = k by omega]; exact Hall.out))
      clear hbel
      go_wp2
      go_ret
      exact ⟨by rw [Hf.out]; rfl, Hbel.out⟩
end Go.Proofs.Ytbghekgghiamcaa
