/- Headers compared: contracts of both sides. No statement is proved here. -/
import Derived.Test.YtlickjmdlooapaaHdr
import Derived.Test.YtlickjmdlooapaaDkS
import Derived.Laws.StructEq
namespace Go.Proofs.Ytlickjmdlooapaa
open Go.RowKit
set_option linter.unusedVariables false
def hdrSame (k r : Int) (ms : List EM) (k' r' : Int) (ms' : List EM) : Bool := decide (k = k') && (decide (r = r') && decide (ms = ms'))
set_option maxHeartbeats 2000000 in
set_option maxRecDepth 100000 in
theorem equalM_any {B : Nat} {w : World} {v1 u1 : Value} {ps ps' : List EM} (h1 : RiM B w v1 ps) (g1 : RiM B w u1 ps') (hB : B ≤ w.heap.size) :
    Calls Try.prog 112 #[v1, u1] w (GivesB (.bool (decide (ps = ps'))) w) := by
  obtain ⟨A1, c1, rfl, hl1, hm1, hx1⟩ := h1
  obtain ⟨D1, d1, rfl, -, hm3, hy1⟩ := g1
  unfold maxLen at hm1 hm3
  have Hx1 := Lib.hid hx1; have Hy1 := Lib.hid hy1; clear hx1 hy1
  generalize hr : decide (ps = ps') = r
  have Hr := Lib.hid hr; clear hr
  by_cases e1 : ps.length = ps'.length
  rotate_left
  · have Hf : Hid (r = false) := Lib.hid (by rw [← Hr.out, decide_eq_false (fun e => e1 (by rw [e]))])
    have n1 : ((ps.length : Int) != (ps'.length : Int)) = true := by simp; omega
    have n2 : ¬ (ps.length : Int) = (ps'.length : Int) := by omega
    clear e1
    go_enter Try.func112, Try.ntmps112
    go_wp2_with fail
    go_ret
    exact ⟨by rw [Hf.out]; rfl, Below.refl _ _⟩
  have n1 : ((ps.length : Int) != (ps'.length : Int)) = false := by simp; omega
  have n2 : (ps.length : Int) = (ps'.length : Int) := by omega
  have E1 := Lib.hid e1; clear e1
  go_enter Try.func112, Try.ntmps112
  go_wp2_with fail
  clear n1 n2
  go_loopw [5, 13] (fun s i wr => ∃ k : Nat, k ≤ ps.length ∧ i = .int .i64 (k : Int) ∧ Below w.heap.size w wr ∧ ∀ j (h1 : j < ps.length) (h2 : j < ps'.length), j < k → ps[j] = ps'[j]) (fun _ i _ => ps.length - (intOf i).toNat)
  case atStart => exact ⟨0, Nat.zero_le _, rfl, Below.refl _ _, fun j _ _ h => absurd h (by omega)⟩
  case round =>
    obtain ⟨k, hk, rfl, hbel, hall⟩ := hrel
    have Hall := Lib.hid hall; have Hbel := Lib.hid hbel; clear hall
    by_cases hlt : k < ps.length
    · have hlt2 : k < ps'.length := by have := E1.out; omega
      obtain ⟨b1, o1, rfl, hb1, hc1, hd1, he1, -⟩ := Hx1.out k hlt
      obtain ⟨b2, o2, rfl, hb2, hc2, hd2, he2, -⟩ := Hy1.out k hlt2
      have hbz : Below w.heap.size w wr := hbel
      have G1 := Lib.hid (run_load_cells (P := Try.prog) (wr.drewN 1) b1 (o1 + k * 3) 70 _ [.int .i64 ps[k].1, .int .i64 ps[k].2.1, .string ps[k].2.2] (cells_M (by rw [(below_draws hbz 1).cell (show b1 < _ from by omega)]; exact hc1) (by rw [(below_draws hbz 1).cell (show b1 < _ from by omega)]; exact hd1) (by rw [(below_draws hbz 1).cell (show b1 < _ from by omega)]; exact he1)) Try.underlying70 rfl)
      have G2 := Lib.hid (run_load_cells (P := Try.prog) (wr.drewN 1) b2 (o2 + k * 3) 70 _ [.int .i64 ps'[k].1, .int .i64 ps'[k].2.1, .string ps'[k].2.2] (cells_M (by rw [(below_draws hbz 1).cell (show b2 < _ from by omega)]; exact hc2) (by rw [(below_draws hbz 1).cell (show b2 < _ from by omega)]; exact hd2) (by rw [(below_draws hbz 1).cell (show b2 < _ from by omega)]; exact he2)) Try.underlying70 rfl)
      have Hne : Hid (ps[k] ≠ ps'[k] → r = false) := Lib.hid (fun h => by rw [← Hr.out]; exact decide_eq_false (ne_at hlt hlt2 h))
      have Hyes : Hid (ps[k] = ps'[k] → ∀ j (h1 : j < ps.length) (h2 : j < ps'.length), j < k + 1 → ps[j] = ps'[j]) := Lib.hid (fun h j h1 h2 hj => by
        rcases Nat.lt_or_ge j k with h3 | h3
        · exact Hall.out j h1 h2 h3
        · obtain rfl : j = k := by omega
          exact h)
      have Hbz := Lib.hid hbz
      clear hc1 hc2 hd1 hd2 he1 he2 hbel hbz
      generalize ps[k] = pp at *
      generalize ps'[k] = qq at *
      obtain ⟨ka, fa, sa⟩ := pp
      obtain ⟨kb, fb, sb⟩ := qq
      dsimp only at G1 G2
      by_cases hk1 : ka = kb
      rotate_left
      · have Hf := Lib.hid (Hne.out (fun e => hk1 (congrArg Prod.fst e)))
        have x1 : (ka == kb) = false := beq_eq_false_iff_ne.2 hk1
        clear Hne Hyes
        go_wp2
        refine wp_region_still_tail 8 (by kernel_rfl) (by kernel_rfl) ?_
        simp only [List.take_succ_cons, List.take_zero, List.drop_succ_cons, List.drop_zero]
        still_step
        still_step
        still_step
        refine wpStill_load rfl 70 (.tmp 18) rfl _ rfl _ G1.out ?_
        still_step
        still_step
        still_step
        refine wpStill_load rfl 70 (.tmp 22) rfl _ rfl _ G2.out ?_
        refine wpStill_nil ?_
        go_wp2_with fail
        go_ret
        exact ⟨by rw [Hf.out]; rfl, below_draws Hbel.out _⟩
      subst hk1
      by_cases hf1 : fa = fb
      rotate_left
      · have Hf := Lib.hid (Hne.out (fun e => hf1 (congrArg (fun x => x.2.1) e)))
        have x1 : (fa == fb) = false := beq_eq_false_iff_ne.2 hf1
        clear Hne Hyes
        go_wp2
        refine wp_region_still_tail 8 (by kernel_rfl) (by kernel_rfl) ?_
        simp only [List.take_succ_cons, List.take_zero, List.drop_succ_cons, List.drop_zero]
        still_step
        still_step
        still_step
        refine wpStill_load rfl 70 (.tmp 18) rfl _ rfl _ G1.out ?_
        still_step
        still_step
        still_step
        refine wpStill_load rfl 70 (.tmp 22) rfl _ rfl _ G2.out ?_
        refine wpStill_nil ?_
        go_wp2_with fail
        go_ret
        exact ⟨by rw [Hf.out]; rfl, below_draws Hbel.out _⟩
      subst hf1
      by_cases hst : sa = sb
      rotate_left
      · have Hf := Lib.hid (Hne.out (fun e => hst (congrArg (fun x => x.2.2) e)))
        have x1 := bytes_ne hst
        clear Hne Hyes
        go_wp2
        refine wp_region_still_tail 8 (by kernel_rfl) (by kernel_rfl) ?_
        simp only [List.take_succ_cons, List.take_zero, List.drop_succ_cons, List.drop_zero]
        still_step
        still_step
        still_step
        refine wpStill_load rfl 70 (.tmp 18) rfl _ rfl _ G1.out ?_
        still_step
        still_step
        still_step
        refine wpStill_load rfl 70 (.tmp 22) rfl _ rfl _ G2.out ?_
        refine wpStill_nil ?_
        go_wp2_with fail
        go_ret
        exact ⟨by rw [Hf.out]; rfl, below_draws Hbel.out _⟩
      subst hst
      have Hy := Lib.hid (Hyes.out rfl)
      clear Hne Hyes
      go_wp2
      refine wp_region_still_tail 8 (by kernel_rfl) (by kernel_rfl) ?_
      simp only [List.take_succ_cons, List.take_zero, List.drop_succ_cons, List.drop_zero]
      still_step
      still_step
      still_step
      refine wpStill_load rfl 70 (.tmp 18) rfl _ rfl _ G1.out ?_
      still_step
      still_step
      still_step
      refine wpStill_load rfl 70 (.tmp 22) rfl _ rfl _ G2.out ?_
      refine wpStill_nil ?_
      go_wp2_with fail
      go_roundw
      case rel => exact ⟨k + 1, by omega, by go_num, below_draws Hbel.out _, Hy.out⟩
      case measure => simp [intOf]; omega
    · obtain rfl : k = ps.length := by omega
      have Hf : Hid (r = true) := Lib.hid (by rw [← Hr.out, decide_eq_true (same_ss E1.out fun j h1 h2 => Hall.out j h1 h2 h1)])
      have h9 : ¬ ps.length < ps'.length := by have := E1.out; omega
      clear hbel
      go_wp2
      go_ret
      exact ⟨by rw [Hf.out]; rfl, Hbel.out⟩
set_option maxHeartbeats 4000000 in
set_option maxRecDepth 100000 in
theorem implSameHeader_any {B : Nat} {w : World} {ka0 ra0 kb0 rb0 : Int} {v1 u1 : Value} {ps ps' : List EM} (h1 : RiM B w v1 ps) (g1 : RiM B w u1 ps') (hB : B ≤ w.heap.size) :
    Calls Try.prog 44 #[.agg #[.int .i64 ka0, .int .i64 ra0, v1], .agg #[.int .i64 kb0, .int .i64 rb0, u1]] w (GivesB (.bool (hdrSame ka0 ra0 ps kb0 rb0 ps')) w) := by
  have H1 := Lib.hid h1; have H2 := Lib.hid g1
  obtain ⟨A1, c1, rfl, hl1, hm1, hx1⟩ := h1
  obtain ⟨D1, d1, rfl, -, hm3, hy1⟩ := g1
  unfold maxLen at hm1 hm3
  have Hx1 := Lib.hid hx1; have Hy1 := Lib.hid hy1; clear hx1 hy1
  have Hb0 : Hid (Below w.heap.size w ((w.alloc (.cells #[.int .i64 ka0, .int .i64 ra0, .slice A1 ps.length c1] 64)).alloc (.cells #[.int .i64 kb0, .int .i64 rb0, .slice D1 ps'.length d1] 64))) := Lib.hid (((Below.refl _ w).alloc (Nat.le_refl _) _).alloc (by simp) _)
  have R0 : Hid (((w.alloc (.cells #[.int .i64 ka0, .int .i64 ra0, .slice A1 ps.length c1] 64)).alloc (.cells #[.int .i64 kb0, .int .i64 rb0, .slice D1 ps'.length d1] 64)).heap[w.heap.size]? = some (.cells #[.int .i64 ka0, .int .i64 ra0, .slice A1 ps.length c1] 64 (0, 0))) := Lib.hid (heap_alloc2_old w _ _)
  have S0 : Hid (((w.alloc (.cells #[.int .i64 ka0, .int .i64 ra0, .slice A1 ps.length c1] 64)).alloc (.cells #[.int .i64 kb0, .int .i64 rb0, .slice D1 ps'.length d1] 64)).heap[w.heap.size + 1]? = some (.cells #[.int .i64 kb0, .int .i64 rb0, .slice D1 ps'.length d1] 64 (0, 0))) := Lib.hid (heap_alloc2_new w _ _)
  have Lt0 : Hid (w.heap.size + 1 < ((w.alloc (.cells #[.int .i64 ka0, .int .i64 ra0, .slice A1 ps.length c1] 64)).alloc (.cells #[.int .i64 kb0, .int .i64 rb0, .slice D1 ps'.length d1] 64)).heap.size) := Lib.hid (by simp)
  have Hr : Hid (hdrSame ka0 ra0 ps kb0 rb0 ps' = (decide (ka0 = kb0) && (decide (ra0 = rb0) && decide (ps = ps')))) := Lib.hid rfl
  generalize hdrSame ka0 ra0 ps kb0 rb0 ps' = r at *
  by_cases hk0 : ka0 = kb0
  rotate_left
  · have Hf : Hid (r = false) := Lib.hid (by rw [Hr.out, decide_eq_false hk0]; rfl)
    have x0 : (ka0 == kb0) = false := beq_eq_false_iff_ne.2 hk0
    go_enter Try.func44, Try.ntmps44
    go_wp2_with fail
    go_ret
    exact ⟨by rw [Hf.out]; rfl, Hb0.out⟩
  subst hk0
  by_cases hr0 : ra0 = rb0
  rotate_left
  · have Hf : Hid (r = false) := Lib.hid (by rw [Hr.out, decide_eq_false hr0]; simp)
    have x0 : (ra0 == rb0) = false := beq_eq_false_iff_ne.2 hr0
    go_enter Try.func44, Try.ntmps44
    go_wp2_with fail
    go_ret
    exact ⟨by rw [Hf.out]; rfl, Hb0.out⟩
  subst hr0
  have Hf : Hid (r = decide (ps = ps')) := Lib.hid (by rw [Hr.out]; simp)
  have HC := Lib.hid (equalM_any (H1.out.at hB Hb0.out) (H2.out.at hB Hb0.out) (Nat.le_refl _))
  generalize decide (ps = ps') = y at *
  go_enter Try.func44, Try.ntmps44
  go_wp2_with fail
  refine HC.out.mono ?_
  rintro e w1 ⟨rfl, g⟩
  have Hb1 := Lib.hid (Hb0.out.trans (g.mono Hb0.out.size)); clear g
  cases y <;> (go_wp2_with fail; go_ret; exact ⟨by rw [Hf.out]; rfl, Hb1.out⟩)
set_option maxHeartbeats 4000000 in
set_option maxRecDepth 100000 in
theorem specSameHeader_any {B : Nat} {w : World} {ka0 ra0 kb0 rb0 : Int} {v1 u1 : Value} {ps ps' : List EM} (h1 : RiM B w v1 ps) (g1 : RiM B w u1 ps') (hB : B ≤ w.heap.size) :
    Calls Try.prog 43 #[.agg #[.int .i64 ka0, .int .i64 ra0, v1], .agg #[.int .i64 kb0, .int .i64 rb0, u1]] w (GivesB (.bool (hdrSame ka0 ra0 ps kb0 rb0 ps')) w) := by
  obtain ⟨A1, c1, rfl, hl1, hm1, hx1⟩ := h1
  obtain ⟨D1, d1, rfl, -, hm3, hy1⟩ := g1
  unfold maxLen at hm1 hm3
  have Hx1 := Lib.hid hx1; have Hy1 := Lib.hid hy1; clear hx1 hy1
  have Hb0 : Hid (Below w.heap.size w ((w.alloc (.cells #[.int .i64 ka0, .int .i64 ra0, .slice A1 ps.length c1] 64)).alloc (.cells #[.int .i64 kb0, .int .i64 rb0, .slice D1 ps'.length d1] 64))) := Lib.hid (((Below.refl _ w).alloc (Nat.le_refl _) _).alloc (by simp) _)
  have R0 : Hid (((w.alloc (.cells #[.int .i64 ka0, .int .i64 ra0, .slice A1 ps.length c1] 64)).alloc (.cells #[.int .i64 kb0, .int .i64 rb0, .slice D1 ps'.length d1] 64)).heap[w.heap.size]? = some (.cells #[.int .i64 ka0, .int .i64 ra0, .slice A1 ps.length c1] 64 (0, 0))) := Lib.hid (heap_alloc2_old w _ _)
  have S0 : Hid (((w.alloc (.cells #[.int .i64 ka0, .int .i64 ra0, .slice A1 ps.length c1] 64)).alloc (.cells #[.int .i64 kb0, .int .i64 rb0, .slice D1 ps'.length d1] 64)).heap[w.heap.size + 1]? = some (.cells #[.int .i64 kb0, .int .i64 rb0, .slice D1 ps'.length d1] 64 (0, 0))) := Lib.hid (heap_alloc2_new w _ _)
  have Lt0 : Hid (w.heap.size + 1 < ((w.alloc (.cells #[.int .i64 ka0, .int .i64 ra0, .slice A1 ps.length c1] 64)).alloc (.cells #[.int .i64 kb0, .int .i64 rb0, .slice D1 ps'.length d1] 64)).heap.size) := Lib.hid (by simp)
  have Hr : Hid (hdrSame ka0 ra0 ps kb0 rb0 ps' = (decide (ka0 = kb0) && (decide (ra0 = rb0) && decide (ps = ps')))) := Lib.hid rfl
  generalize hdrSame ka0 ra0 ps kb0 rb0 ps' = r at *
  by_cases hk0 : ka0 = kb0
  rotate_left
  · have Hf : Hid (r = false) := Lib.hid (by rw [Hr.out, decide_eq_false hk0]; rfl)
    have x0 : (ka0 == kb0) = false := beq_eq_false_iff_ne.2 hk0
    go_enter Try.func43, Try.ntmps43
    go_wp2_with fail
    go_ret
    exact ⟨by rw [Hf.out]; rfl, Hb0.out⟩
  subst hk0
  by_cases hr0 : ra0 = rb0
  rotate_left
  · have Hf : Hid (r = false) := Lib.hid (by rw [Hr.out, decide_eq_false hr0]; simp)
    have x0 : (ra0 == rb0) = false := beq_eq_false_iff_ne.2 hr0
    go_enter Try.func43, Try.ntmps43
    go_wp2_with fail
    go_ret
    exact ⟨by rw [Hf.out]; rfl, Hb0.out⟩
  subst hr0
  by_cases e1 : ps.length = ps'.length
  rotate_left
  · have Hf : Hid (r = false) := Lib.hid (by rw [Hr.out, decide_eq_false (p := ps = ps') (fun e => e1 (by rw [e]))]; simp)
    have n1 : ((ps.length : Int) != (ps'.length : Int)) = true := by simp; omega
    have n2 : ¬ (ps.length : Int) = (ps'.length : Int) := by omega
    clear e1
    go_enter Try.func43, Try.ntmps43
    go_wp2_with fail
    go_ret
    exact ⟨by rw [Hf.out]; rfl, Hb0.out⟩
  have n1 : ((ps.length : Int) != (ps'.length : Int)) = false := by simp; omega
  have n2 : (ps.length : Int) = (ps'.length : Int) := by omega
  have E1 := Lib.hid e1; clear e1
  go_enter Try.func43, Try.ntmps43
  go_wp2_with fail
  clear n1 n2
  generalize ((w.alloc (.cells #[.int .i64 ka0, .int .i64 ra0, .slice A1 ps.length c1] 64)).alloc (.cells #[.int .i64 ka0, .int .i64 ra0, .slice D1 ps'.length d1] 64)) = w0 at *
  go_loopw [5] (fun i wr => ∃ k : Nat, k ≤ ps.length ∧ i = .int .i64 (k : Int) ∧ Below w0.heap.size w0 wr ∧ ∀ j (h1 : j < ps.length) (h2 : j < ps'.length), j < k → ps[j] = ps'[j]) (fun i _ => ps.length - (intOf i).toNat)
  case atStart => exact ⟨0, Nat.zero_le _, rfl, Below.refl _ _, fun j _ _ h => absurd h (by omega)⟩
  case round =>
    obtain ⟨k, hk, rfl, hbel, hall⟩ := hrel
    have Hall := Lib.hid hall; have Hbel := Lib.hid hbel; clear hall
    have q1 : wr.cell? ⟨w.heap.size, 2, none⟩ = some (.slice A1 ps.length c1) := by rw [cell_of_row _ _ _ _ _ _ ((hbel.block _ (by have := Lt0.out; omega)).trans R0.out)]; rfl
    have q2 : (wr.drewN 1).cell? ⟨w.heap.size, 2, none⟩ = some (.slice A1 ps.length c1) := by rw [cell_of_row _ _ _ _ _ _ (((below_draws hbel 1).block _ (by have := Lt0.out; omega)).trans R0.out)]; rfl
    have q4 : wr.cell? ⟨w.heap.size + 1, 2, none⟩ = some (.slice D1 ps'.length d1) := by rw [cell_of_row _ _ _ _ _ _ ((hbel.block _ Lt0.out).trans S0.out)]; rfl
    have q3 : (wr.drewN 1).cell? ⟨w.heap.size + 1, 2, none⟩ = some (.slice D1 ps'.length d1) := by rw [cell_of_row _ _ _ _ _ _ (((below_draws hbel 1).block _ Lt0.out).trans S0.out)]; rfl
    by_cases hlt : k < ps.length
    · have hlt2 : k < ps'.length := by have := E1.out; omega
      obtain ⟨b1, o1, rfl, hb1, hc1, hd1, he1, -⟩ := Hx1.out k hlt
      obtain ⟨b2, o2, rfl, hb2, hc2, hd2, he2, -⟩ := Hy1.out k hlt2
      have hbz : Below w.heap.size w wr := Hb0.out.trans (hbel.mono Hb0.out.size)
      have G1 := Lib.hid (run_load_cells (P := Try.prog) (wr.drewN 1) b1 (o1 + k * 3) 70 _ [.int .i64 ps[k].1, .int .i64 ps[k].2.1, .string ps[k].2.2] (cells_M (by rw [(below_draws hbz 1).cell (show b1 < _ from by omega)]; exact hc1) (by rw [(below_draws hbz 1).cell (show b1 < _ from by omega)]; exact hd1) (by rw [(below_draws hbz 1).cell (show b1 < _ from by omega)]; exact he1)) Try.underlying70 rfl)
      have G2 := Lib.hid (run_load_cells (P := Try.prog) (wr.drewN 1) b2 (o2 + k * 3) 70 _ [.int .i64 ps'[k].1, .int .i64 ps'[k].2.1, .string ps'[k].2.2] (cells_M (by rw [(below_draws hbz 1).cell (show b2 < _ from by omega)]; exact hc2) (by rw [(below_draws hbz 1).cell (show b2 < _ from by omega)]; exact hd2) (by rw [(below_draws hbz 1).cell (show b2 < _ from by omega)]; exact he2)) Try.underlying70 rfl)
      have Hne : Hid (ps[k] ≠ ps'[k] → r = false) := Lib.hid (fun h => by rw [Hr.out]; simp only [decide_true, Bool.true_and]; exact decide_eq_false (ne_at hlt hlt2 h))
      have Hyes : Hid (ps[k] = ps'[k] → ∀ j (h1 : j < ps.length) (h2 : j < ps'.length), j < k + 1 → ps[j] = ps'[j]) := Lib.hid (fun h j h1 h2 hj => by
        rcases Nat.lt_or_ge j k with h3 | h3
        · exact Hall.out j h1 h2 h3
        · obtain rfl : j = k := by omega
          exact h)
      have Hbz := Lib.hid hbz
      clear hc1 hc2 hd1 hd2 he1 he2 hbel hbz
      generalize ps[k] = pp at *
      generalize ps'[k] = qq at *
      obtain ⟨ka, fa, sa⟩ := pp
      obtain ⟨kb, fb, sb⟩ := qq
      dsimp only at G1 G2
      by_cases hk1 : ka = kb
      rotate_left
      · have Hf := Lib.hid (Hne.out (fun e => hk1 (congrArg Prod.fst e)))
        have x1 : (ka == kb) = false := beq_eq_false_iff_ne.2 hk1
        clear Hne Hyes
        go_wp2
        refine wp_region_still_tail 10 (by kernel_rfl) (by kernel_rfl) ?_
        simp only [List.take_succ_cons, List.take_zero, List.drop_succ_cons, List.drop_zero]
        still_step
        still_step
        still_step
        still_step
        refine wpStill_load rfl 70 (.tmp 37) rfl _ rfl _ G1.out ?_
        still_step
        still_step
        still_step
        still_step
        refine wpStill_load rfl 70 (.tmp 42) rfl _ rfl _ G2.out ?_
        refine wpStill_nil ?_
        go_wp2_with fail
        go_ret
        exact ⟨by rw [Hf.out]; rfl, below_draws Hbz.out _⟩
      subst hk1
      by_cases hf1 : fa = fb
      rotate_left
      · have Hf := Lib.hid (Hne.out (fun e => hf1 (congrArg (fun x => x.2.1) e)))
        have x1 : (fa == fb) = false := beq_eq_false_iff_ne.2 hf1
        clear Hne Hyes
        go_wp2
        refine wp_region_still_tail 10 (by kernel_rfl) (by kernel_rfl) ?_
        simp only [List.take_succ_cons, List.take_zero, List.drop_succ_cons, List.drop_zero]
        still_step
        still_step
        still_step
        still_step
        refine wpStill_load rfl 70 (.tmp 37) rfl _ rfl _ G1.out ?_
        still_step
        still_step
        still_step
        still_step
        refine wpStill_load rfl 70 (.tmp 42) rfl _ rfl _ G2.out ?_
        refine wpStill_nil ?_
        go_wp2_with fail
        go_ret
        exact ⟨by rw [Hf.out]; rfl, below_draws Hbz.out _⟩
      subst hf1
      by_cases hst : sa = sb
      rotate_left
      · have Hf := Lib.hid (Hne.out (fun e => hst (congrArg (fun x => x.2.2) e)))
        have x1 := bytes_ne hst
        clear Hne Hyes
        go_wp2
        refine wp_region_still_tail 10 (by kernel_rfl) (by kernel_rfl) ?_
        simp only [List.take_succ_cons, List.take_zero, List.drop_succ_cons, List.drop_zero]
        still_step
        still_step
        still_step
        still_step
        refine wpStill_load rfl 70 (.tmp 37) rfl _ rfl _ G1.out ?_
        still_step
        still_step
        still_step
        still_step
        refine wpStill_load rfl 70 (.tmp 42) rfl _ rfl _ G2.out ?_
        refine wpStill_nil ?_
        go_wp2_with fail
        go_ret
        exact ⟨by rw [Hf.out]; rfl, below_draws Hbz.out _⟩
      subst hst
      have Hy := Lib.hid (Hyes.out rfl)
      clear Hne Hyes
      go_wp2
      refine wp_region_still_tail 10 (by kernel_rfl) (by kernel_rfl) ?_
      simp only [List.take_succ_cons, List.take_zero, List.drop_succ_cons, List.drop_zero]
      still_step
      still_step
      still_step
      still_step
      refine wpStill_load rfl 70 (.tmp 37) rfl _ rfl _ G1.out ?_
      still_step
      still_step
      still_step
      still_step
      refine wpStill_load rfl 70 (.tmp 42) rfl _ rfl _ G2.out ?_
      refine wpStill_nil ?_
      go_wp2_with fail
      go_roundw
      case rel => exact ⟨k + 1, by omega, by go_num, below_draws Hbel.out _, Hy.out⟩
      case measure => simp [intOf]; omega
    · obtain rfl : k = ps.length := by omega
      have Hf : Hid (r = true) := Lib.hid (by rw [Hr.out]; simp only [decide_true, Bool.true_and]; exact decide_eq_true (same_ss E1.out fun j h1 h2 => Hall.out j h1 h2 h1))
      clear hbel
      go_wp2_with fail
      go_ret
      exact ⟨by rw [Hf.out]; rfl, Hb0.out.trans (Hbel.out.mono Hb0.out.size)⟩
end Go.Proofs.Ytlickjmdlooapaa
