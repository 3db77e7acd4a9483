/- Contract of the program's comparison of disks. No statement is proved here. -/
import Derived.Test.YtkoenlkoalbhlaaDkS
import Derived.Laws.StructEq
namespace Go.Proofs.Ytkoenlkoalbhlaa
open Go.RowKit
set_option linter.unusedVariables false
/-- The call gives this value; memory is as it was, the draws aside. -/
def QsB (v : Value) (w : World) (e : Ending) (w' : World) : Prop := e = .returned v ∧ ∃ n, w' = w.drewN n
theorem drewN_zero (w : World) : w.drewN 0 = w := rfl
set_option maxHeartbeats 1000000 in
set_option maxRecDepth 100000 in
theorem equalT_any {B : Nat} {w : World} {v1 u1 : Value} {ss ss' : List ByteArray} (h1 : RiT B w v1 ss) (g1 : RiT B w u1 ss') (hB : B ≤ w.heap.size) :
    Calls Try.prog 156 #[v1, u1] w (GivesB (.bool (decide (ss = ss'))) w) := by
  obtain ⟨A1, c1, rfl, hl1, hm1, hx1⟩ := h1
  obtain ⟨D1, d1, rfl, -, hm3, hy1⟩ := g1
  unfold maxLen at hm1 hm3
  have Hx1 := Lib.hid hx1; have Hy1 := Lib.hid hy1; clear hx1 hy1
  generalize hr : decide (ss = ss') = r
  have Hr := Lib.hid hr; clear hr
  by_cases e1 : ss.length = ss'.length
  rotate_left
  · have Hf : Hid (r = false) := Lib.hid (by rw [← Hr.out, decide_eq_false (fun e => e1 (by rw [e]))])
    have n1 : ((ss.length : Int) != (ss'.length : Int)) = true := by simp; omega
    have n2 : ¬ (ss.length : Int) = (ss'.length : Int) := by omega
    clear e1
    go_enter Try.func156, Try.ntmps156
    go_wp2_with fail
    go_ret
    exact ⟨by rw [Hf.out]; rfl, Below.refl _ _⟩
  have n1 : ((ss.length : Int) != (ss'.length : Int)) = false := by simp; omega
  have n2 : (ss.length : Int) = (ss'.length : Int) := by omega
  have E1 := Lib.hid e1; clear e1
  go_enter Try.func156, Try.ntmps156
  go_wp2_with fail
  clear n1 n2
  go_loopw [5, 13] (fun s i wr => ∃ k : Nat, k ≤ ss.length ∧ i = .int .i64 (k : Int) ∧ Below w.heap.size w wr ∧ ∀ j (h1 : j < ss.length) (h2 : j < ss'.length), j < k → ss[j] = ss'[j]) (fun _ i _ => ss.length - (intOf i).toNat)
  case atStart => exact ⟨0, Nat.zero_le _, rfl, Below.refl _ _, fun j _ _ h => absurd h (by omega)⟩
  case round =>
    obtain ⟨k, hk, rfl, hbel, hall⟩ := hrel
    have Hall := Lib.hid hall; have Hbel := Lib.hid hbel; clear hall
    by_cases hlt : k < ss.length
    · have hlt2 : k < ss'.length := by have := E1.out; omega
      obtain ⟨b1, o1, rfl, hb1, hc1, -⟩ := Hx1.out k hlt
      obtain ⟨b2, o2, rfl, hb2, hc2, -⟩ := Hy1.out k hlt2
      have g1 : wr.cell? ⟨b1, o1 + k, none⟩ = some (.string ss[k]) := (hbel.cell (p := ⟨b1, o1 + k, none⟩) (show b1 < _ by omega)).trans hc1
      have g2 : wr.cell? ⟨b2, o2 + k, none⟩ = some (.string ss'[k]) := (hbel.cell (p := ⟨b2, o2 + k, none⟩) (show b2 < _ by omega)).trans hc2
      have Hne : Hid (ss[k] ≠ ss'[k] → r = false) := Lib.hid (fun h => by rw [← Hr.out, decide_eq_false (ne_at hlt hlt2 h)])
      have Hyes : Hid (ss[k] = ss'[k] → ∀ j (h1 : j < ss.length) (h2 : j < ss'.length), j < k + 1 → ss[j] = ss'[j]) := Lib.hid (fun h j h1 h2 hj => by
        rcases Nat.lt_or_ge j k with h3 | h3
        · exact Hall.out j h1 h2 h3
        · obtain rfl : j = k := by omega
          exact h)
      clear hc1 hc2 hbel
      generalize ss[k] = s at *
      generalize ss'[k] = t at *
      by_cases hst : s = t
      · have Hy := Lib.hid (Hyes.out hst)
        subst hst
        go_wp2
        go_quiet (fail)
        go_wp2
        go_roundw
        case rel => exact ⟨k + 1, by omega, by go_num, below_draws Hbel.out _, Hy.out⟩
        case measure => simp [intOf]; omega
      · have Hf := Lib.hid (Hne.out hst)
        have x1 := bytes_ne hst
        clear hst Hne Hyes
        go_wp2
        go_quiet (fail)
        go_wp2
        go_ret
        exact ⟨by rw [Hf.out]; rfl, below_draws Hbel.out _⟩
    · obtain rfl : k = ss.length := by omega
      have Hf : Hid (r = true) := Lib.hid (by rw [← Hr.out, decide_eq_true (same_ss E1.out fun j h1 h2 => Hall.out j h1 h2 h1)])
      have h9 : ¬ ss.length < ss'.length := by have := E1.out; omega
      clear hbel
      go_wp2
      go_ret
      exact ⟨by rw [Hf.out]; rfl, Hbel.out⟩
set_option maxHeartbeats 1000000 in
set_option maxRecDepth 100000 in
theorem equalU_any {B : Nat} {w : World} {v1 u1 : Value} {ps ps' : List Pt} (h1 : RiU B w v1 ps) (g1 : RiU B w u1 ps') (hB : B ≤ w.heap.size) :
    Calls Try.prog 157 #[v1, u1] w (GivesB (.bool (decide (ps = ps'))) w) := by
  obtain ⟨A1, c1, rfl, hl1, hm1, hx1⟩ := h1
  obtain ⟨D1, d1, rfl, -, hm3, hy1⟩ := g1
  unfold maxLen at hm1 hm3
  have Hx1 := Lib.hid hx1; have Hy1 := Lib.hid hy1; clear hx1 hy1
  generalize hr : decide (ps = ps') = r
  have Hr := Lib.hid hr; clear hr
  by_cases e1 : ps.length = ps'.length
  rotate_left
  · have Hf : Hid (r = false) := Lib.hid (by rw [← Hr.out, decide_eq_false (fun e => e1 (by rw [e]))])
    have n1 : ((ps.length : Int) != (ps'.length : Int)) = true := by simp; omega
    have n2 : ¬ (ps.length : Int) = (ps'.length : Int) := by omega
    clear e1
    go_enter Try.func157, Try.ntmps157
    go_wp2_with fail
    go_ret
    exact ⟨by rw [Hf.out]; rfl, Below.refl _ _⟩
  have n1 : ((ps.length : Int) != (ps'.length : Int)) = false := by simp; omega
  have n2 : (ps.length : Int) = (ps'.length : Int) := by omega
  have E1 := Lib.hid e1; clear e1
  go_enter Try.func157, Try.ntmps157
  go_wp2_with fail
  clear n1 n2
  go_loopw [5, 13] (fun s i wr => ∃ k : Nat, k ≤ ps.length ∧ i = .int .i64 (k : Int) ∧ Below w.heap.size w wr ∧ ∀ j (h1 : j < ps.length) (h2 : j < ps'.length), j < k → ps[j] = ps'[j]) (fun _ i _ => ps.length - (intOf i).toNat)
  case atStart => exact ⟨0, Nat.zero_le _, rfl, Below.refl _ _, fun j _ _ h => absurd h (by omega)⟩
  case round =>
    obtain ⟨k, hk, rfl, hbel, hall⟩ := hrel
    have Hall := Lib.hid hall; have Hbel := Lib.hid hbel; clear hall
    by_cases hlt : k < ps.length
    · have hlt2 : k < ps'.length := by have := E1.out; omega
      obtain ⟨b1, o1, rfl, hb1, hc1, hd1, -⟩ := Hx1.out k hlt
      obtain ⟨b2, o2, rfl, hb2, hc2, hd2, -⟩ := Hy1.out k hlt2
      have G1 := Lib.hid (run_load_cells (P := Try.prog) (wr.drewN 1) b1 (o1 + k * 2) 161 _ [.int .i64 ps[k].1, .string ps[k].2] (two_cells (by rw [(below_draws hbel 1).cell (show b1 < _ from by omega)]; exact hc1) (by rw [(below_draws hbel 1).cell (show b1 < _ from by omega)]; exact hd1)) Try.underlying161 rfl)
      have G2 := Lib.hid (run_load_cells (P := Try.prog) (wr.drewN 1) b2 (o2 + k * 2) 161 _ [.int .i64 ps'[k].1, .string ps'[k].2] (two_cells (by rw [(below_draws hbel 1).cell (show b2 < _ from by omega)]; exact hc2) (by rw [(below_draws hbel 1).cell (show b2 < _ from by omega)]; exact hd2)) Try.underlying161 rfl)
      have Hne : Hid (ps[k] ≠ ps'[k] → r = false) := Lib.hid (fun h => by rw [← Hr.out, decide_eq_false (ne_at hlt hlt2 h)])
      have Hyes : Hid (ps[k] = ps'[k] → ∀ j (h1 : j < ps.length) (h2 : j < ps'.length), j < k + 1 → ps[j] = ps'[j]) := Lib.hid (fun h j h1 h2 hj => by
        rcases Nat.lt_or_ge j k with h3 | h3
        · exact Hall.out j h1 h2 h3
        · obtain rfl : j = k := by omega
          exact h)
      clear hc1 hc2 hd1 hd2 hbel
      generalize ps[k] = pp at *
      generalize ps'[k] = qq at *
      obtain ⟨za, sa⟩ := pp
      obtain ⟨zb, sb⟩ := qq
      dsimp only at G1 G2
      by_cases hz : za = zb
      · subst hz
        by_cases hst : sa = sb
        · subst hst
          have Hy := Lib.hid (Hyes.out rfl)
          clear Hne Hyes
          go_wp2
          refine wp_region_still_tail 8 (by kernel_rfl) (by kernel_rfl) ?_
          simp only [List.take_succ_cons, List.take_zero, List.drop_succ_cons, List.drop_zero]
          still_step
          still_step
          still_step
          refine wpStill_load rfl 161 (.tmp 18) rfl _ rfl _ G1.out ?_
          still_step
          still_step
          still_step
          refine wpStill_load rfl 161 (.tmp 22) rfl _ rfl _ G2.out ?_
          refine wpStill_nil ?_
          go_wp2_with fail
          go_roundw
          case rel => exact ⟨k + 1, by omega, by go_num, below_draws Hbel.out _, Hy.out⟩
          case measure => simp [intOf]; omega
        · have Hf := Lib.hid (Hne.out (fun e => hst (congrArg Prod.snd e)))
          have x1 := bytes_ne hst
          clear hst Hne Hyes
          go_wp2
          refine wp_region_still_tail 8 (by kernel_rfl) (by kernel_rfl) ?_
          simp only [List.take_succ_cons, List.take_zero, List.drop_succ_cons, List.drop_zero]
          still_step
          still_step
          still_step
          refine wpStill_load rfl 161 (.tmp 18) rfl _ rfl _ G1.out ?_
          still_step
          still_step
          still_step
          refine wpStill_load rfl 161 (.tmp 22) rfl _ rfl _ G2.out ?_
          refine wpStill_nil ?_
          go_wp2_with fail
          go_ret
          exact ⟨by rw [Hf.out]; rfl, below_draws Hbel.out _⟩
      · have Hf := Lib.hid (Hne.out (fun e => hz (congrArg Prod.fst e)))
        have x1 : (za == zb) = false := beq_eq_false_iff_ne.2 hz
        clear hz Hne Hyes
        go_wp2
        refine wp_region_still_tail 8 (by kernel_rfl) (by kernel_rfl) ?_
        simp only [List.take_succ_cons, List.take_zero, List.drop_succ_cons, List.drop_zero]
        still_step
        still_step
        still_step
        refine wpStill_load rfl 161 (.tmp 18) rfl _ rfl _ G1.out ?_
        still_step
        still_step
        still_step
        refine wpStill_load rfl 161 (.tmp 22) rfl _ rfl _ G2.out ?_
        refine wpStill_nil ?_
        go_wp2_with fail
        go_ret
        exact ⟨by rw [Hf.out]; rfl, below_draws Hbel.out _⟩
    · obtain rfl : k = ps.length := by omega
      have Hf : Hid (r = true) := Lib.hid (by rw [← Hr.out, decide_eq_true (same_ss E1.out fun j h1 h2 => Hall.out j h1 h2 h1)])
      have h9 : ¬ ps.length < ps'.length := by have := E1.out; omega
      clear hbel
      go_wp2
      go_ret
      exact ⟨by rw [Hf.out]; rfl, Hbel.out⟩
set_option maxHeartbeats 1000000 in
set_option maxRecDepth 100000 in
theorem implSameDisk_any {B : Nat} {w : World} {v1 v2 u1 u2 : Value} {ss ss' : List ByteArray} {ps ps' : List Pt} {fz fz' : Int} {off off' : Bool} (h1 : RiT B w v1 ss) (h2 : RiU B w v2 ps) (g1 : RiT B w u1 ss') (g2 : RiU B w u2 ps') (hB : B ≤ w.heap.size) :
    Calls Try.prog 117 #[.agg #[v1, v2, .int .i64 fz, .bool off], .agg #[u1, u2, .int .i64 fz', .bool off']] w (GivesB (.bool (dskSame ss ps fz off ss' ps' fz' off')) w) := by
  have H1 := Lib.hid h1; obtain ⟨A1, c1, rfl, -, -, -⟩ := h1
  have H2 := Lib.hid h2; obtain ⟨A2, c2, rfl, -, -, -⟩ := h2
  have G1 := Lib.hid g1; obtain ⟨D1, d1, rfl, -, -, -⟩ := g1
  have G2 := Lib.hid g2; obtain ⟨D2, d2, rfl, -, -, -⟩ := g2
  have Hb0 : Hid (Below w.heap.size w ((w.alloc (.cells #[.slice A1 ss.length c1, .slice A2 ps.length c2, .int .i64 fz, .bool off] 30)).alloc (.cells #[.slice D1 ss'.length d1, .slice D2 ps'.length d2, .int .i64 fz', .bool off'] 30))) := Lib.hid (((Below.refl _ w).alloc (Nat.le_refl _) _).alloc (by simp) _)
  have R0 : Hid (DB ((w.alloc (.cells #[.slice A1 ss.length c1, .slice A2 ps.length c2, .int .i64 fz, .bool off] 30)).alloc (.cells #[.slice D1 ss'.length d1, .slice D2 ps'.length d2, .int .i64 fz', .bool off'] 30)) w.heap.size (.slice A1 ss.length c1) (.slice A2 ps.length c2) fz off) := Lib.hid (heap_alloc2_old w _ _)
  have S0 : Hid (DB ((w.alloc (.cells #[.slice A1 ss.length c1, .slice A2 ps.length c2, .int .i64 fz, .bool off] 30)).alloc (.cells #[.slice D1 ss'.length d1, .slice D2 ps'.length d2, .int .i64 fz', .bool off'] 30)) (w.heap.size + 1) (.slice D1 ss'.length d1) (.slice D2 ps'.length d2) fz' off') := Lib.hid (heap_alloc2_new w _ _)
  have HF : Hid (dskSame ss ps fz off ss' ps' fz' off' = (decide (ss = ss') && (decide (ps = ps') && (decide (fz = fz') && decide (off = off'))))) := Lib.hid rfl
  generalize dskSame ss ps fz off ss' ps' fz' off' = r at *
  go_enter Try.func117, Try.ntmps117
  go_wp2_with fail
  generalize ((w.alloc (.cells #[.slice A1 ss.length c1, .slice A2 ps.length c2, .int .i64 fz, .bool off] 30)).alloc (.cells #[.slice D1 ss'.length d1, .slice D2 ps'.length d2, .int .i64 fz', .bool off'] 30)) = W0 at *
  refine (equalT_any (H1.out.at hB Hb0.out) (G1.out.at hB Hb0.out) (Nat.le_refl _)).mono ?_
  rintro e w1 ⟨rfl, g⟩
  have Hb1 : Hid (Below w.heap.size w w1) := Lib.hid (Hb0.out.trans (g.mono Hb0.out.size))
  have R1 := Lib.hid (R0.out.keep g); have S1 := Lib.hid (S0.out.keep g)
  clear g
  cases e1 : decide (ss = ss')
  · have Hf : Hid (r = false) := Lib.hid (by rw [HF.out, e1]; rfl)
    clear e1
    go_wp2_with fail
    go_ret
    exact ⟨by rw [Hf.out]; rfl, Hb1.out⟩
  have E1 := Lib.hid e1; clear e1
  have q1 := R1.out.c1; have q2 := S1.out.c1
  go_wp2_with fail
  clear q1 q2
  refine (equalU_any (H2.out.at hB Hb1.out) (G2.out.at hB Hb1.out) (Nat.le_refl _)).mono ?_
  rintro e w2 ⟨rfl, g⟩
  have Hb2 : Hid (Below w.heap.size w w2) := Lib.hid (Hb1.out.trans (g.mono Hb1.out.size))
  have R2 := Lib.hid (R1.out.keep g); have S2 := Lib.hid (S1.out.keep g)
  clear g
  cases e2 : decide (ps = ps')
  · have Hf : Hid (r = false) := Lib.hid (by rw [HF.out, e2]; simp)
    clear e2
    go_wp2_with fail
    go_ret
    exact ⟨by rw [Hf.out]; rfl, Hb2.out⟩
  have E2 := Lib.hid e2; clear e2
  have q1 := R2.out.c2; have q2 := S2.out.c2
  have q3 := R2.out.c3; have q4 := S2.out.c3
  by_cases e3 : fz = fz'
  rotate_left
  · have Hf : Hid (r = false) := Lib.hid (by rw [HF.out, decide_eq_false e3]; simp)
    have k1 : (fz == fz') = false := beq_eq_false_iff_ne.2 e3
    go_wp2_with fail
    go_ret
    exact ⟨by rw [Hf.out]; rfl, Hb2.out⟩
  subst e3
  by_cases e4 : off = off'
  rotate_left
  · have Hf : Hid (r = false) := Lib.hid (by rw [HF.out, decide_eq_false e4]; simp)
    have k1 : (off == off') = false := by simpa using e4
    go_wp2_with fail
    go_ret
    exact ⟨by rw [Hf.out]; rfl, Hb2.out⟩
  subst e4
  have Hf : Hid (r = true) := Lib.hid (by rw [HF.out, E1.out, E2.out]; simp)
  go_wp2_with fail
  go_ret
  exact ⟨by rw [Hf.out]; rfl, Hb2.out⟩
end Go.Proofs.Ytkoenlkoalbhlaa
