/- Which lists of filters are the same: contracts of the functions that say so. No statement is proved here. -/
import Derived.Test.YtmddgncidgdglaaPlV
import Derived.StillTailTactics
import Derived.Deep.QuietTactic
import Derived.BigQuiet
namespace Go.Proofs.Ytmddgncidgdglaa
open Go.RowKit
set_option linter.unusedVariables false
theorem same_fs {α : Type} [DecidableEq α] {xs ys : List α} (hn : xs.length = ys.length) (h : ∀ j (h1 : j < xs.length) (h2 : j < ys.length), xs[j] = ys[j]) : xs = ys := List.ext_getElem hn fun i h1 h2 => h i h1 h2
theorem ne_fs {α : Type} {xs ys : List α} {k : Nat} (h1 : k < xs.length) (h2 : k < ys.length) (h : xs[k] ≠ ys[k]) : xs ≠ ys := fun e => by subst e; exact h rfl
set_option maxHeartbeats 1000000 in
set_option maxRecDepth 100000 in
theorem equalFI_any {B : Nat} {w : World} {v1 u1 : Value} {ps ps' : List EFI} (h1 : RiFI B w v1 ps) (g1 : RiFI B w u1 ps') (hB : B ≤ w.heap.size) :
    Calls Try.prog 78 #[v1, u1] w (GivesB (.bool (decide (ps = ps'))) w) := by
  obtain ⟨A1, c1, rfl, hl1, hm1, hx1⟩ := h1
  obtain ⟨D1, d1, rfl, -, hm3, hy1⟩ := g1
  unfold maxLen at hm1 hm3
  have Hx1 := Lib.hid hx1; have Hy1 := Lib.hid hy1; clear hx1 hy1
  generalize hr : decide (ps = ps') = r
  have Hr := Lib.hid hr; clear hr
  by_cases e1 : ps.length = ps'.length
  rotate_left
  · have Hf : Hid (r = false) := Lib.hid (by rw [← Hr.out, decide_eq_false (fun e => e1 (by rw [e]))])
    have n1 : ((ps.length : Int) != (ps'.length : Int)) = true := by simp; omega
    have n2 : ¬ (ps.length : Int) = (ps'.length : Int) := by omega
    clear e1
    go_enter Try.func78, Try.ntmps78
    go_wp2_with fail
    go_ret
    exact ⟨by rw [Hf.out]; rfl, Below.refl _ _⟩
  have n1 : ((ps.length : Int) != (ps'.length : Int)) = false := by simp; omega
  have n2 : (ps.length : Int) = (ps'.length : Int) := by omega
  have E1 := Lib.hid e1; clear e1
  go_enter Try.func78, Try.ntmps78
  go_wp2_with fail
  clear n1 n2
  go_loopw [5, 13] (fun s i wr => ∃ k : Nat, k ≤ ps.length ∧ i = .int .i64 (k : Int) ∧ Below w.heap.size w wr ∧ ∀ j (h1 : j < ps.length) (h2 : j < ps'.length), j < k → ps[j] = ps'[j]) (fun _ i _ => ps.length - (intOf i).toNat)
  case atStart => exact ⟨0, Nat.zero_le _, rfl, Below.refl _ _, fun j _ _ h => absurd h (by omega)⟩
  case round =>
    obtain ⟨k, hk, rfl, hbel, hall⟩ := hrel
    have Hall := Lib.hid hall; have Hbel := Lib.hid hbel; clear hall
    by_cases hlt : k < ps.length
    · have hlt2 : k < ps'.length := by have := E1.out; omega
      obtain ⟨b1, o1, rfl, hb1, hc1, hd1, hf1, -⟩ := Hx1.out k hlt
      obtain ⟨b2, o2, rfl, hb2, hc2, hd2, hf2, -⟩ := Hy1.out k hlt2
      have G1 := Lib.hid (run_load_cells (P := Try.prog) (wr.drewN 1) b1 (o1 + k * 3) 25 _ [.int .i64 ps[k].1, .int .i64 ps[k].2.1, .bool ps[k].2.2] (cells_FI (by rw [(below_draws hbel 1).cell (show b1 < _ from by omega)]; exact hc1) (by rw [(below_draws hbel 1).cell (show b1 < _ from by omega)]; exact hd1) (by rw [(below_draws hbel 1).cell (show b1 < _ from by omega)]; exact hf1)) Try.underlying25 (by kernel_rfl))
      have G2 := Lib.hid (run_load_cells (P := Try.prog) (wr.drewN 1) b2 (o2 + k * 3) 25 _ [.int .i64 ps'[k].1, .int .i64 ps'[k].2.1, .bool ps'[k].2.2] (cells_FI (by rw [(below_draws hbel 1).cell (show b2 < _ from by omega)]; exact hc2) (by rw [(below_draws hbel 1).cell (show b2 < _ from by omega)]; exact hd2) (by rw [(below_draws hbel 1).cell (show b2 < _ from by omega)]; exact hf2)) Try.underlying25 (by kernel_rfl))
      have Hne : Hid (ps[k] ≠ ps'[k] → r = false) := Lib.hid (fun h => by rw [← Hr.out, decide_eq_false (ne_fs hlt hlt2 h)])
      have Hyes : Hid (ps[k] = ps'[k] → ∀ j (h1 : j < ps.length) (h2 : j < ps'.length), j < k + 1 → ps[j] = ps'[j]) := Lib.hid (fun h j h1 h2 hj => by
        rcases Nat.lt_or_ge j k with h3 | h3
        · exact Hall.out j h1 h2 h3
        · obtain rfl : j = k := by omega
          exact h)
      clear hc1 hc2 hd1 hd2 hf1 hf2 hbel
      generalize ps[k] = pp at *
      generalize ps'[k] = qq at *
      obtain ⟨xa, ya, za⟩ := pp
      obtain ⟨xb, yb, zb⟩ := qq
      dsimp only at G1 G2
      by_cases hx : xa = xb
      · subst hx
        by_cases hy : ya = yb
        · subst hy
          by_cases hz : za = zb
          · subst hz
            have Hy := Lib.hid (Hyes.out rfl)
            have x1 : (za == za) = true := by simp
            clear Hne Hyes
            go_wp2
            refine wp_region_still_tail 8 (by kernel_rfl) (by kernel_rfl) ?_
            simp only [List.take_succ_cons, List.take_zero, List.drop_succ_cons, List.drop_zero]
            still_step
            still_step
            still_step
            refine wpStill_load rfl 25 (.tmp 18) rfl _ rfl _ G1.out ?_
            still_step
            still_step
            still_step
            refine wpStill_load rfl 25 (.tmp 22) rfl _ rfl _ G2.out ?_
            refine wpStill_nil ?_
            go_wp2_with fail
            go_roundw
            case rel => exact ⟨k + 1, by omega, by go_num, below_draws Hbel.out _, Hy.out⟩
            case measure => simp [intOf]; omega
          · have Hf := Lib.hid (Hne.out (fun e => hz (congrArg (·.2.2) e)))
            have x1 : (za == zb) = false := by simpa using hz
            clear hz Hne Hyes
            go_wp2
            refine wp_region_still_tail 8 (by kernel_rfl) (by kernel_rfl) ?_
            simp only [List.take_succ_cons, List.take_zero, List.drop_succ_cons, List.drop_zero]
            still_step
            still_step
            still_step
            refine wpStill_load rfl 25 (.tmp 18) rfl _ rfl _ G1.out ?_
            still_step
            still_step
            still_step
            refine wpStill_load rfl 25 (.tmp 22) rfl _ rfl _ G2.out ?_
            refine wpStill_nil ?_
            go_wp2_with fail
            go_ret
            exact ⟨by rw [Hf.out]; rfl, below_draws Hbel.out _⟩
        · have Hf := Lib.hid (Hne.out (fun e => hy (congrArg (·.2.1) e)))
          have x1 : (ya == yb) = false := by simpa using hy
          clear hy Hne Hyes
          go_wp2
          refine wp_region_still_tail 8 (by kernel_rfl) (by kernel_rfl) ?_
          simp only [List.take_succ_cons, List.take_zero, List.drop_succ_cons, List.drop_zero]
          still_step
          still_step
          still_step
          refine wpStill_load rfl 25 (.tmp 18) rfl _ rfl _ G1.out ?_
          still_step
          still_step
          still_step
          refine wpStill_load rfl 25 (.tmp 22) rfl _ rfl _ G2.out ?_
          refine wpStill_nil ?_
          go_wp2_with fail
          go_ret
          exact ⟨by rw [Hf.out]; rfl, below_draws Hbel.out _⟩
      · have Hf := Lib.hid (Hne.out (fun e => hx (congrArg (·.1) e)))
        have x1 : (xa == xb) = false := by simpa using hx
        clear hx Hne Hyes
        go_wp2
        refine wp_region_still_tail 8 (by kernel_rfl) (by kernel_rfl) ?_
        simp only [List.take_succ_cons, List.take_zero, List.drop_succ_cons, List.drop_zero]
        still_step
        still_step
        still_step
        refine wpStill_load rfl 25 (.tmp 18) rfl _ rfl _ G1.out ?_
        still_step
        still_step
        still_step
        refine wpStill_load rfl 25 (.tmp 22) rfl _ rfl _ G2.out ?_
        refine wpStill_nil ?_
        go_wp2_with fail
        go_ret
        exact ⟨by rw [Hf.out]; rfl, below_draws Hbel.out _⟩
    · obtain rfl : k = ps.length := by omega
      have Hf : Hid (r = true) := Lib.hid (by rw [← Hr.out, decide_eq_true (same_fs E1.out fun j h1 h2 => Hall.out j h1 h2 h1)])
      have h9 : ¬ ps.length < ps'.length := by have := E1.out; omega
      clear hbel
      go_wp2
      go_ret
      exact ⟨by rw [Hf.out]; rfl, Hbel.out⟩
set_option maxHeartbeats 1000000 in
set_option maxRecDepth 100000 in
theorem l19Same_any {B : Nat} {w : World} {v1 u1 : Value} {ps ps' : List EFI} (h1 : RiFI B w v1 ps) (g1 : RiFI B w u1 ps') (hB : B ≤ w.heap.size) :
    Calls Try.prog 77 #[v1, u1] w (GivesB (.bool (decide (ps = ps'))) w) := by
  obtain ⟨A1, c1, rfl, hl1, hm1, hx1⟩ := h1
  obtain ⟨D1, d1, rfl, -, hm3, hy1⟩ := g1
  unfold maxLen at hm1 hm3
  have Hx1 := Lib.hid hx1; have Hy1 := Lib.hid hy1; clear hx1 hy1
  generalize hr : decide (ps = ps') = r
  have Hr := Lib.hid hr; clear hr
  by_cases e1 : ps.length = ps'.length
  rotate_left
  · have Hf : Hid (r = false) := Lib.hid (by rw [← Hr.out, decide_eq_false (fun e => e1 (by rw [e]))])
    have n1 : ((ps.length : Int) != (ps'.length : Int)) = true := by simp; omega
    have n2 : ¬ (ps.length : Int) = (ps'.length : Int) := by omega
    clear e1
    go_enter Try.func77, Try.ntmps77
    go_wp2_with fail
    go_ret
    exact ⟨by rw [Hf.out]; rfl, Below.refl _ _⟩
  have n1 : ((ps.length : Int) != (ps'.length : Int)) = false := by simp; omega
  have n2 : (ps.length : Int) = (ps'.length : Int) := by omega
  have E1 := Lib.hid e1; clear e1
  go_enter Try.func77, Try.ntmps77
  go_wp2_with fail
  clear n1 n2
  go_loopw [5] (fun i wr => ∃ k : Nat, k ≤ ps.length ∧ i = .int .i64 (k : Int) ∧ Below w.heap.size w wr ∧ ∀ j (h1 : j < ps.length) (h2 : j < ps'.length), j < k → ps[j] = ps'[j]) (fun i _ => ps.length - (intOf i).toNat)
  case atStart => exact ⟨0, Nat.zero_le _, rfl, Below.refl _ _, fun j _ _ h => absurd h (by omega)⟩
  case round =>
    obtain ⟨k, hk, rfl, hbel, hall⟩ := hrel
    have Hall := Lib.hid hall; have Hbel := Lib.hid hbel; clear hall
    by_cases hlt : k < ps.length
    · have hlt2 : k < ps'.length := by have := E1.out; omega
      obtain ⟨b1, o1, rfl, hb1, hc1, hd1, hf1, -⟩ := Hx1.out k hlt
      obtain ⟨b2, o2, rfl, hb2, hc2, hd2, hf2, -⟩ := Hy1.out k hlt2
      have G1 := Lib.hid (run_load_cells (P := Try.prog) (wr.drewN 1) b1 (o1 + k * 3) 25 _ [.int .i64 ps[k].1, .int .i64 ps[k].2.1, .bool ps[k].2.2] (cells_FI (by rw [(below_draws hbel 1).cell (show b1 < _ from by omega)]; exact hc1) (by rw [(below_draws hbel 1).cell (show b1 < _ from by omega)]; exact hd1) (by rw [(below_draws hbel 1).cell (show b1 < _ from by omega)]; exact hf1)) Try.underlying25 (by kernel_rfl))
      have G2 := Lib.hid (run_load_cells (P := Try.prog) (wr.drewN 1) b2 (o2 + k * 3) 25 _ [.int .i64 ps'[k].1, .int .i64 ps'[k].2.1, .bool ps'[k].2.2] (cells_FI (by rw [(below_draws hbel 1).cell (show b2 < _ from by omega)]; exact hc2) (by rw [(below_draws hbel 1).cell (show b2 < _ from by omega)]; exact hd2) (by rw [(below_draws hbel 1).cell (show b2 < _ from by omega)]; exact hf2)) Try.underlying25 (by kernel_rfl))
      have Hne : Hid (ps[k] ≠ ps'[k] → r = false) := Lib.hid (fun h => by rw [← Hr.out, decide_eq_false (ne_fs hlt hlt2 h)])
      have Hyes : Hid (ps[k] = ps'[k] → ∀ j (h1 : j < ps.length) (h2 : j < ps'.length), j < k + 1 → ps[j] = ps'[j]) := Lib.hid (fun h j h1 h2 hj => by
        rcases Nat.lt_or_ge j k with h3 | h3
        · exact Hall.out j h1 h2 h3
        · obtain rfl : j = k := by omega
          exact h)
      clear hc1 hc2 hd1 hd2 hf1 hf2 hbel
      generalize ps[k] = pp at *
      generalize ps'[k] = qq at *
      obtain ⟨xa, ya, za⟩ := pp
      obtain ⟨xb, yb, zb⟩ := qq
      dsimp only at G1 G2
      by_cases hx : xa = xb
      · subst hx
        by_cases hy : ya = yb
        · subst hy
          by_cases hz : za = zb
          · subst hz
            have Hy := Lib.hid (Hyes.out rfl)
            have x1 : (za == za) = true := by simp
            clear Hne Hyes
            go_wp2
            refine wp_region_still_tail 8 (by kernel_rfl) (by kernel_rfl) ?_
            simp only [List.take_succ_cons, List.take_zero, List.drop_succ_cons, List.drop_zero]
            still_step
            still_step
            still_step
            refine wpStill_load rfl 25 (.tmp 19) rfl _ rfl _ G1.out ?_
            still_step
            still_step
            still_step
            refine wpStill_load rfl 25 (.tmp 23) rfl _ rfl _ G2.out ?_
            refine wpStill_nil ?_
            go_wp2_with fail
            go_roundw
            case rel => exact ⟨k + 1, by omega, by go_num, below_draws Hbel.out _, Hy.out⟩
            case measure => simp [intOf]; omega
          · have Hf := Lib.hid (Hne.out (fun e => hz (congrArg (·.2.2) e)))
            have x1 : (za == zb) = false := by simpa using hz
            clear hz Hne Hyes
            go_wp2
            refine wp_region_still_tail 8 (by kernel_rfl) (by kernel_rfl) ?_
            simp only [List.take_succ_cons, List.take_zero, List.drop_succ_cons, List.drop_zero]
            still_step
            still_step
            still_step
            refine wpStill_load rfl 25 (.tmp 19) rfl _ rfl _ G1.out ?_
            still_step
            still_step
            still_step
            refine wpStill_load rfl 25 (.tmp 23) rfl _ rfl _ G2.out ?_
            refine wpStill_nil ?_
            go_wp2_with fail
            go_ret
            exact ⟨by rw [Hf.out]; rfl, below_draws Hbel.out _⟩
        · have Hf := Lib.hid (Hne.out (fun e => hy (congrArg (·.2.1) e)))
          have x1 : (ya == yb) = false := by simpa using hy
          clear hy Hne Hyes
          go_wp2
          refine wp_region_still_tail 8 (by kernel_rfl) (by kernel_rfl) ?_
          simp only [List.take_succ_cons, List.take_zero, List.drop_succ_cons, List.drop_zero]
          still_step
          still_step
          still_step
          refine wpStill_load rfl 25 (.tmp 19) rfl _ rfl _ G1.out ?_
          still_step
          still_step
          still_step
          refine wpStill_load rfl 25 (.tmp 23) rfl _ rfl _ G2.out ?_
          refine wpStill_nil ?_
          go_wp2_with fail
          go_ret
          exact ⟨by rw [Hf.out]; rfl, below_draws Hbel.out _⟩
      · have Hf := Lib.hid (Hne.out (fun e => hx (congrArg (·.1) e)))
        have x1 : (xa == xb) = false := by simpa using hx
        clear hx Hne Hyes
        go_wp2
        refine wp_region_still_tail 8 (by kernel_rfl) (by kernel_rfl) ?_
        simp only [List.take_succ_cons, List.take_zero, List.drop_succ_cons, List.drop_zero]
        still_step
        still_step
        still_step
        refine wpStill_load rfl 25 (.tmp 19) rfl _ rfl _ G1.out ?_
        still_step
        still_step
        still_step
        refine wpStill_load rfl 25 (.tmp 23) rfl _ rfl _ G2.out ?_
        refine wpStill_nil ?_
        go_wp2_with fail
        go_ret
        exact ⟨by rw [Hf.out]; rfl, below_draws Hbel.out _⟩
    · obtain rfl : k = ps.length := by omega
      have Hf : Hid (r = true) := Lib.hid (by rw [← Hr.out, decide_eq_true (same_fs E1.out fun j h1 h2 => Hall.out j h1 h2 h1)])
      have h9 : ¬ ps.length < ps'.length := by have := E1.out; omega
      clear hbel
      go_wp2
      go_ret
      exact ⟨by rw [Hf.out]; rfl, Hbel.out⟩
theorem implSamePipeline_any {B : Nat} {w : World} {v1 u1 : Value} {ps ps' : List EFI} (h1 : RiFI B w v1 ps) (g1 : RiFI B w u1 ps') (hB : B ≤ w.heap.size) :
    Calls Try.prog 40 #[v1, u1] w (GivesB (.bool (decide (ps = ps'))) w) := by
  have HC := Lib.hid (equalFI_any h1 g1 hB)
  obtain ⟨A1, c1, rfl, -⟩ := h1
  obtain ⟨D1, d1, rfl, -⟩ := g1
  generalize decide (ps = ps') = r at *
  go_enter Try.func40, Try.ntmps40
  go_wp2_with ((go_at_call 78; refine HC.out.mono ?_; rintro e w1 ⟨rfl, g⟩))
  go_ret
  exact ⟨rfl, g⟩
theorem specSamePipeline_any {B : Nat} {w : World} {v1 u1 : Value} {ps ps' : List EFI} (h1 : RiFI B w v1 ps) (g1 : RiFI B w u1 ps') (hB : B ≤ w.heap.size) :
    Calls Try.prog 39 #[v1, u1] w (GivesB (.bool (decide (ps = ps'))) w) := by
  have HC := Lib.hid (l19Same_any h1 g1 hB)
  obtain ⟨A1, c1, rfl, -⟩ := h1
  obtain ⟨D1, d1, rfl, -⟩ := g1
  generalize decide (ps = ps') = r at *
  go_enter Try.func39, Try.ntmps39
  go_wp2_with ((go_at_call 77; refine HC.out.mono ?_; rintro e w1 ⟨rfl, g⟩))
  go_ret
  exact ⟨rfl, g⟩
end Go.Proofs.Ytmddgncidgdglaa
