/- Pagers compared: the program. No statement is proved here. -/
import Derived.Test.YtkoenlkoalbhlaaSmS
import Derived.Test.YtkoenlkoalbhlaaSdI
namespace Go.Proofs.Ytkoenlkoalbhlaa
open Go.RowKit
set_option linter.unusedVariables false
set_option maxHeartbeats 1000000 in
set_option maxRecDepth 100000 in
theorem equalG_any {B : Nat} {w : World} {v1 u1 : Value} {ps ps' : List Pt} (h1 : RiU B w v1 ps) (g1 : RiU B w u1 ps') (hB : B ≤ w.heap.size) :
    Calls Try.prog 118 #[v1, u1] w (GivesB (.bool (decide (ps = ps'))) w) := by
  obtain ⟨A1, c1, rfl, hl1, hm1, hx1⟩ := h1
  obtain ⟨D1, d1, rfl, -, hm3, hy1⟩ := g1
  unfold maxLen at hm1 hm3
  have Hx1 := Lib.hid hx1; have Hy1 := Lib.hid hy1; clear hx1 hy1
  generalize hr : decide (ps = ps') = r
  have Hr := Lib.hid hr; clear hr
  by_cases e1 : ps.length = ps'.length
  rotate_left
  · have Hf : Hid (r = false) := Lib.hid (by rw [← Hr.out, decide_eq_false (fun e => e1 (by rw [e]))])
    have n1 : ((ps.length : Int) != (ps'.length : Int)) = true := by simp; omega
    have n2 : ¬ (ps.length : Int) = (ps'.length : Int) := by omega
    clear e1
    go_enter Try.func118, Try.ntmps118
    go_wp2_with fail
    go_ret
    exact ⟨by rw [Hf.out]; rfl, Below.refl _ _⟩
  have n1 : ((ps.length : Int) != (ps'.length : Int)) = false := by simp; omega
  have n2 : (ps.length : Int) = (ps'.length : Int) := by omega
  have E1 := Lib.hid e1; clear e1
  go_enter Try.func118, Try.ntmps118
  go_wp2_with fail
  clear n1 n2
  go_loopw [5, 13] (fun s i wr => ∃ k : Nat, k ≤ ps.length ∧ i = .int .i64 (k : Int) ∧ Below w.heap.size w wr ∧ ∀ j (h1 : j < ps.length) (h2 : j < ps'.length), j < k → ps[j] = ps'[j]) (fun _ i _ => ps.length - (intOf i).toNat)
  case atStart => exact ⟨0, Nat.zero_le _, rfl, Below.refl _ _, fun j _ _ h => absurd h (by omega)⟩
  case round =>
    obtain ⟨k, hk, rfl, hbel, hall⟩ := hrel
    have Hall := Lib.hid hall; have Hbel := Lib.hid hbel; clear hall
    by_cases hlt : k < ps.length
    · have hlt2 : k < ps'.length := by have := E1.out; omega
      obtain ⟨b1, o1, rfl, hb1, hc1, hd1, -⟩ := Hx1.out k hlt
      obtain ⟨b2, o2, rfl, hb2, hc2, hd2, -⟩ := Hy1.out k hlt2
      have G1 := Lib.hid (run_load_cells (P := Try.prog) (wr.drewN 1) b1 (o1 + k * 2) 134 _ [.int .i64 ps[k].1, .string ps[k].2] (two_cells (by rw [(below_draws hbel 1).cell (show b1 < _ from by omega)]; exact hc1) (by rw [(below_draws hbel 1).cell (show b1 < _ from by omega)]; exact hd1)) Try.underlying134 rfl)
      have G2 := Lib.hid (run_load_cells (P := Try.prog) (wr.drewN 1) b2 (o2 + k * 2) 134 _ [.int .i64 ps'[k].1, .string ps'[k].2] (two_cells (by rw [(below_draws hbel 1).cell (show b2 < _ from by omega)]; exact hc2) (by rw [(below_draws hbel 1).cell (show b2 < _ from by omega)]; exact hd2)) Try.underlying134 rfl)
      have Hne : Hid (ps[k] ≠ ps'[k] → r = false) := Lib.hid (fun h => by rw [← Hr.out, decide_eq_false (ne_at hlt hlt2 h)])
      have Hyes : Hid (ps[k] = ps'[k] → ∀ j (h1 : j < ps.length) (h2 : j < ps'.length), j < k + 1 → ps[j] = ps'[j]) := Lib.hid (fun h j h1 h2 hj => by
        rcases Nat.lt_or_ge j k with h3 | h3
        · exact Hall.out j h1 h2 h3
        · obtain rfl : j = k := by omega
          exact h)
      clear hc1 hc2 hd1 hd2 hbel
      generalize ps[k] = pp at *
      generalize ps'[k] = qq at *
      obtain ⟨za, sa⟩ := pp
      obtain ⟨zb, sb⟩ := qq
      dsimp only at G1 G2
      by_cases hz : za = zb
      · subst hz
        by_cases hst : sa = sb
        · subst hst
          have Hy := Lib.hid (Hyes.out rfl)
          clear Hne Hyes
          go_wp2
          refine wp_region_still_tail 8 (by kernel_rfl) (by kernel_rfl) ?_
          simp only [List.take_succ_cons, List.take_zero, List.drop_succ_cons, List.drop_zero]
          still_step
          still_step
          still_step
          refine wpStill_load rfl 134 (.tmp 18) rfl _ rfl _ G1.out ?_
          still_step
          still_step
          still_step
          refine wpStill_load rfl 134 (.tmp 22) rfl _ rfl _ G2.out ?_
          refine wpStill_nil ?_
          go_wp2_with fail
          go_roundw
          case rel => exact ⟨k + 1, by omega, by go_num, below_draws Hbel.out _, Hy.out⟩
          case measure => simp [intOf]; omega
        · have Hf := Lib.hid (Hne.out (fun e => hst (congrArg Prod.snd e)))
          have x1 := bytes_ne hst
          clear hst Hne Hyes
          go_wp2
          refine wp_region_still_tail 8 (by kernel_rfl) (by kernel_rfl) ?_
          simp only [List.take_succ_cons, List.take_zero, List.drop_succ_cons, List.drop_zero]
          still_step
          still_step
          still_step
          refine wpStill_load rfl 134 (.tmp 18) rfl _ rfl _ G1.out ?_
          still_step
          still_step
          still_step
          refine wpStill_load rfl 134 (.tmp 22) rfl _ rfl _ G2.out ?_
          refine wpStill_nil ?_
          go_wp2_with fail
          go_ret
          exact ⟨by rw [Hf.out]; rfl, below_draws Hbel.out _⟩
      · have Hf := Lib.hid (Hne.out (fun e => hz (congrArg Prod.fst e)))
        have x1 : (za == zb) = false := beq_eq_false_iff_ne.2 hz
        clear hz Hne Hyes
        go_wp2
        refine wp_region_still_tail 8 (by kernel_rfl) (by kernel_rfl) ?_
        simp only [List.take_succ_cons, List.take_zero, List.drop_succ_cons, List.drop_zero]
        still_step
        still_step
        still_step
        refine wpStill_load rfl 134 (.tmp 18) rfl _ rfl _ G1.out ?_
        still_step
        still_step
        still_step
        refine wpStill_load rfl 134 (.tmp 22) rfl _ rfl _ G2.out ?_
        refine wpStill_nil ?_
        go_wp2_with fail
        go_ret
        exact ⟨by rw [Hf.out]; rfl, below_draws Hbel.out _⟩
    · obtain rfl : k = ps.length := by omega
      have Hf : Hid (r = true) := Lib.hid (by rw [← Hr.out, decide_eq_true (same_ss E1.out fun j h1 h2 => Hall.out j h1 h2 h1)])
      have h9 : ¬ ps.length < ps'.length := by have := E1.out; omega
      clear hbel
      go_wp2
      go_ret
      exact ⟨by rw [Hf.out]; rfl, Hbel.out⟩
set_option maxHeartbeats 4000000 in
set_option maxRecDepth 100000 in
theorem implSamePager_any {B : Nat} {w : World} {v0 v1 v10 v11 u0 u1 u10 u11 : Value} {ss ss' : List ByteArray} {ps lg dt ps' lg' dt' : List Pt} {fz b l q t sq at_ fz' b' l' q' t' sq' at_' : Int} {off off' : Bool}
    (h0 : RiT B w v0 ss) (h1 : RiU B w v1 ps) (h10 : RiU B w v10 lg) (h11 : RiU B w v11 dt) (g0 : RiT B w u0 ss') (g1 : RiU B w u1 ps') (g10 : RiU B w u10 lg') (g11 : RiU B w u11 dt') (hB : B ≤ w.heap.size) :
    Calls Try.prog 61 #[.agg #[v0, v1, .int .i64 fz, .bool off, .int .i64 b, .int .i64 l, .int .i64 q, .int .i64 t, .int .i64 sq, .int .i64 at_, v10, v11], .agg #[u0, u1, .int .i64 fz', .bool off', .int .i64 b', .int .i64 l', .int .i64 q', .int .i64 t', .int .i64 sq', .int .i64 at_', u10, u11]] w (GivesB (.bool (pgrSame ss ps fz off b l q t sq at_ lg dt ss' ps' fz' off' b' l' q' t' sq' at_' lg' dt')) w) := by
  have H0 := Lib.hid h0; obtain ⟨A0, c0, rfl, -, -, -⟩ := h0
  have G0 := Lib.hid g0; obtain ⟨D0, d0, rfl, -, -, -⟩ := g0
  have H1 := Lib.hid h1; obtain ⟨A1, c1, rfl, -, -, -⟩ := h1
  have G1 := Lib.hid g1; obtain ⟨D1, d1, rfl, -, -, -⟩ := g1
  have H10 := Lib.hid h10; obtain ⟨A10, c10, rfl, -, -, -⟩ := h10
  have G10 := Lib.hid g10; obtain ⟨D10, d10, rfl, -, -, -⟩ := g10
  have H11 := Lib.hid h11; obtain ⟨A11, c11, rfl, -, -, -⟩ := h11
  have G11 := Lib.hid g11; obtain ⟨D11, d11, rfl, -, -, -⟩ := g11
  have Hb0 : Hid (Below w.heap.size w ((w.alloc (.cells #[.slice A0 ss.length c0, .slice A1 ps.length c1, .int .i64 fz, .bool off, .int .i64 b, .int .i64 l, .int .i64 q, .int .i64 t, .int .i64 sq, .int .i64 at_, .slice A10 lg.length c10, .slice A11 dt.length c11] 83)).alloc (.cells #[.slice D0 ss'.length d0, .slice D1 ps'.length d1, .int .i64 fz', .bool off', .int .i64 b', .int .i64 l', .int .i64 q', .int .i64 t', .int .i64 sq', .int .i64 at_', .slice D10 lg'.length d10, .slice D11 dt'.length d11] 83))) := Lib.hid (((Below.refl _ w).alloc (Nat.le_refl _) _).alloc (by simp) _)
  have R0 : Hid (((w.alloc (.cells #[.slice A0 ss.length c0, .slice A1 ps.length c1, .int .i64 fz, .bool off, .int .i64 b, .int .i64 l, .int .i64 q, .int .i64 t, .int .i64 sq, .int .i64 at_, .slice A10 lg.length c10, .slice A11 dt.length c11] 83)).alloc (.cells #[.slice D0 ss'.length d0, .slice D1 ps'.length d1, .int .i64 fz', .bool off', .int .i64 b', .int .i64 l', .int .i64 q', .int .i64 t', .int .i64 sq', .int .i64 at_', .slice D10 lg'.length d10, .slice D11 dt'.length d11] 83)).heap[w.heap.size]? = some (.cells #[.slice A0 ss.length c0, .slice A1 ps.length c1, .int .i64 fz, .bool off, .int .i64 b, .int .i64 l, .int .i64 q, .int .i64 t, .int .i64 sq, .int .i64 at_, .slice A10 lg.length c10, .slice A11 dt.length c11] 83 (0, 0))) := Lib.hid (heap_alloc2_old w _ _)
  have S0 : Hid (((w.alloc (.cells #[.slice A0 ss.length c0, .slice A1 ps.length c1, .int .i64 fz, .bool off, .int .i64 b, .int .i64 l, .int .i64 q, .int .i64 t, .int .i64 sq, .int .i64 at_, .slice A10 lg.length c10, .slice A11 dt.length c11] 83)).alloc (.cells #[.slice D0 ss'.length d0, .slice D1 ps'.length d1, .int .i64 fz', .bool off', .int .i64 b', .int .i64 l', .int .i64 q', .int .i64 t', .int .i64 sq', .int .i64 at_', .slice D10 lg'.length d10, .slice D11 dt'.length d11] 83)).heap[w.heap.size + 1]? = some (.cells #[.slice D0 ss'.length d0, .slice D1 ps'.length d1, .int .i64 fz', .bool off', .int .i64 b', .int .i64 l', .int .i64 q', .int .i64 t', .int .i64 sq', .int .i64 at_', .slice D10 lg'.length d10, .slice D11 dt'.length d11] 83 (0, 0))) := Lib.hid (heap_alloc2_new w _ _)
  have Lt0 : Hid (w.heap.size + 1 < ((w.alloc (.cells #[.slice A0 ss.length c0, .slice A1 ps.length c1, .int .i64 fz, .bool off, .int .i64 b, .int .i64 l, .int .i64 q, .int .i64 t, .int .i64 sq, .int .i64 at_, .slice A10 lg.length c10, .slice A11 dt.length c11] 83)).alloc (.cells #[.slice D0 ss'.length d0, .slice D1 ps'.length d1, .int .i64 fz', .bool off', .int .i64 b', .int .i64 l', .int .i64 q', .int .i64 t', .int .i64 sq', .int .i64 at_', .slice D10 lg'.length d10, .slice D11 dt'.length d11] 83)).heap.size) := Lib.hid (by simp)
  have C1 : Hid (∀ W, Below ((w.alloc (.cells #[.slice A0 ss.length c0, .slice A1 ps.length c1, .int .i64 fz, .bool off, .int .i64 b, .int .i64 l, .int .i64 q, .int .i64 t, .int .i64 sq, .int .i64 at_, .slice A10 lg.length c10, .slice A11 dt.length c11] 83)).alloc (.cells #[.slice D0 ss'.length d0, .slice D1 ps'.length d1, .int .i64 fz', .bool off', .int .i64 b', .int .i64 l', .int .i64 q', .int .i64 t', .int .i64 sq', .int .i64 at_', .slice D10 lg'.length d10, .slice D11 dt'.length d11] 83)).heap.size ((w.alloc (.cells #[.slice A0 ss.length c0, .slice A1 ps.length c1, .int .i64 fz, .bool off, .int .i64 b, .int .i64 l, .int .i64 q, .int .i64 t, .int .i64 sq, .int .i64 at_, .slice A10 lg.length c10, .slice A11 dt.length c11] 83)).alloc (.cells #[.slice D0 ss'.length d0, .slice D1 ps'.length d1, .int .i64 fz', .bool off', .int .i64 b', .int .i64 l', .int .i64 q', .int .i64 t', .int .i64 sq', .int .i64 at_', .slice D10 lg'.length d10, .slice D11 dt'.length d11] 83)) W → _) := Lib.hid (fun W hW => implSameDisk_any (w := W) (fz := fz) (off := off) (fz' := fz') (off' := off') (H0.out.at hB (Hb0.out.trans (hW.mono Hb0.out.size))) (H1.out.at hB (Hb0.out.trans (hW.mono Hb0.out.size))) (G0.out.at hB (Hb0.out.trans (hW.mono Hb0.out.size))) (G1.out.at hB (Hb0.out.trans (hW.mono Hb0.out.size))) (Nat.le_refl _))
  have C2 : Hid (∀ W, Below ((w.alloc (.cells #[.slice A0 ss.length c0, .slice A1 ps.length c1, .int .i64 fz, .bool off, .int .i64 b, .int .i64 l, .int .i64 q, .int .i64 t, .int .i64 sq, .int .i64 at_, .slice A10 lg.length c10, .slice A11 dt.length c11] 83)).alloc (.cells #[.slice D0 ss'.length d0, .slice D1 ps'.length d1, .int .i64 fz', .bool off', .int .i64 b', .int .i64 l', .int .i64 q', .int .i64 t', .int .i64 sq', .int .i64 at_', .slice D10 lg'.length d10, .slice D11 dt'.length d11] 83)).heap.size ((w.alloc (.cells #[.slice A0 ss.length c0, .slice A1 ps.length c1, .int .i64 fz, .bool off, .int .i64 b, .int .i64 l, .int .i64 q, .int .i64 t, .int .i64 sq, .int .i64 at_, .slice A10 lg.length c10, .slice A11 dt.length c11] 83)).alloc (.cells #[.slice D0 ss'.length d0, .slice D1 ps'.length d1, .int .i64 fz', .bool off', .int .i64 b', .int .i64 l', .int .i64 q', .int .i64 t', .int .i64 sq', .int .i64 at_', .slice D10 lg'.length d10, .slice D11 dt'.length d11] 83)) W → _) := Lib.hid (fun W hW => equalG_any (w := W) (H10.out.at hB (Hb0.out.trans (hW.mono Hb0.out.size))) (G10.out.at hB (Hb0.out.trans (hW.mono Hb0.out.size))) (Nat.le_refl _))
  have C3 : Hid (∀ W, Below ((w.alloc (.cells #[.slice A0 ss.length c0, .slice A1 ps.length c1, .int .i64 fz, .bool off, .int .i64 b, .int .i64 l, .int .i64 q, .int .i64 t, .int .i64 sq, .int .i64 at_, .slice A10 lg.length c10, .slice A11 dt.length c11] 83)).alloc (.cells #[.slice D0 ss'.length d0, .slice D1 ps'.length d1, .int .i64 fz', .bool off', .int .i64 b', .int .i64 l', .int .i64 q', .int .i64 t', .int .i64 sq', .int .i64 at_', .slice D10 lg'.length d10, .slice D11 dt'.length d11] 83)).heap.size ((w.alloc (.cells #[.slice A0 ss.length c0, .slice A1 ps.length c1, .int .i64 fz, .bool off, .int .i64 b, .int .i64 l, .int .i64 q, .int .i64 t, .int .i64 sq, .int .i64 at_, .slice A10 lg.length c10, .slice A11 dt.length c11] 83)).alloc (.cells #[.slice D0 ss'.length d0, .slice D1 ps'.length d1, .int .i64 fz', .bool off', .int .i64 b', .int .i64 l', .int .i64 q', .int .i64 t', .int .i64 sq', .int .i64 at_', .slice D10 lg'.length d10, .slice D11 dt'.length d11] 83)) W → _) := Lib.hid (fun W hW => equalG_any (w := W) (H11.out.at hB (Hb0.out.trans (hW.mono Hb0.out.size))) (G11.out.at hB (Hb0.out.trans (hW.mono Hb0.out.size))) (Nat.le_refl _))
  have HF : Hid (pgrSame ss ps fz off b l q t sq at_ lg dt ss' ps' fz' off' b' l' q' t' sq' at_' lg' dt' = (dskSame ss ps fz off ss' ps' fz' off' && ((decide (b = b') && (decide (l = l') && (decide (q = q') && decide (t = t')))) && (decide (sq = sq') && (decide (at_ = at_') && (decide (lg = lg') && decide (dt = dt'))))))) := Lib.hid rfl
  generalize pgrSame ss ps fz off b l q t sq at_ lg dt ss' ps' fz' off' b' l' q' t' sq' at_' lg' dt' = r at *
  generalize dskSame ss ps fz off ss' ps' fz' off' = z1 at *
  generalize decide (lg = lg') = z2 at *
  generalize decide (dt = dt') = z3 at *
  have LdR := Lib.hid (run_load_cells (P := Try.prog) ((w.alloc (.cells #[.slice A0 ss.length c0, .slice A1 ps.length c1, .int .i64 fz, .bool off, .int .i64 b, .int .i64 l, .int .i64 q, .int .i64 t, .int .i64 sq, .int .i64 at_, .slice A10 lg.length c10, .slice A11 dt.length c11] 83)).alloc (.cells #[.slice D0 ss'.length d0, .slice D1 ps'.length d1, .int .i64 fz', .bool off', .int .i64 b', .int .i64 l', .int .i64 q', .int .i64 t', .int .i64 sq', .int .i64 at_', .slice D10 lg'.length d10, .slice D11 dt'.length d11] 83)) w.heap.size 0 30 _ [.slice A0 ss.length c0, .slice A1 ps.length c1, .int .i64 fz, .bool off] (row_part R0.out (by intro j u hj; rcases j with _ | _ | _ | _ | j; all_goals first | exact hj | simp at hj)) Try.underlying30 rfl)
  have LdS := Lib.hid (run_load_cells (P := Try.prog) ((w.alloc (.cells #[.slice A0 ss.length c0, .slice A1 ps.length c1, .int .i64 fz, .bool off, .int .i64 b, .int .i64 l, .int .i64 q, .int .i64 t, .int .i64 sq, .int .i64 at_, .slice A10 lg.length c10, .slice A11 dt.length c11] 83)).alloc (.cells #[.slice D0 ss'.length d0, .slice D1 ps'.length d1, .int .i64 fz', .bool off', .int .i64 b', .int .i64 l', .int .i64 q', .int .i64 t', .int .i64 sq', .int .i64 at_', .slice D10 lg'.length d10, .slice D11 dt'.length d11] 83)) (w.heap.size + 1) 0 30 _ [.slice D0 ss'.length d0, .slice D1 ps'.length d1, .int .i64 fz', .bool off'] (row_part S0.out (by intro j u hj; rcases j with _ | _ | _ | _ | j; all_goals first | exact hj | simp at hj)) Try.underlying30 rfl)
  go_enter Try.func61, Try.ntmps61
  go_wp2_with (first | (refine wpList_load_agg rfl 30 (.tmp 5) rfl _ rfl _ LdR.out ?_) | (refine wpList_load_agg rfl 30 (.tmp 7) rfl _ rfl _ LdS.out ?_))
  clear LdR LdS
  generalize ((w.alloc (.cells #[.slice A0 ss.length c0, .slice A1 ps.length c1, .int .i64 fz, .bool off, .int .i64 b, .int .i64 l, .int .i64 q, .int .i64 t, .int .i64 sq, .int .i64 at_, .slice A10 lg.length c10, .slice A11 dt.length c11] 83)).alloc (.cells #[.slice D0 ss'.length d0, .slice D1 ps'.length d1, .int .i64 fz', .bool off', .int .i64 b', .int .i64 l', .int .i64 q', .int .i64 t', .int .i64 sq', .int .i64 at_', .slice D10 lg'.length d10, .slice D11 dt'.length d11] 83)) = w0 at *
  refine (C1.out _ (Below.refl _ _)).mono ?_
  rintro e w1 ⟨rfl, g⟩
  have Hg1 : Hid (Below w0.heap.size w0 w1) := Lib.hid (g)
  have Hb1 := Lib.hid (Hb0.out.trans (Hg1.out.mono Hb0.out.size))
  have R1 := Lib.hid ((Hg1.out.block _ (by have := Lt0.out; omega)).trans R0.out)
  have S1 := Lib.hid ((Hg1.out.block _ Lt0.out).trans S0.out)
  clear g
  cases z1
  · have Hf : Hid (r = false) := Lib.hid (by rw [HF.out]; simp)
    go_wp2_with fail
    go_ret
    exact ⟨by rw [Hf.out]; rfl, Hb1.out⟩
  have k4 : w1.cell? ⟨w.heap.size, 4, none⟩ = some (.int .i64 b) := by rw [cell_of_row _ _ _ _ _ _ R1.out]; rfl
  have m4 : w1.cell? ⟨w.heap.size + 1, 4, none⟩ = some (.int .i64 b') := by rw [cell_of_row _ _ _ _ _ _ S1.out]; rfl
  have k5 : w1.cell? ⟨w.heap.size, 5, none⟩ = some (.int .i64 l) := by rw [cell_of_row _ _ _ _ _ _ R1.out]; rfl
  have m5 : w1.cell? ⟨w.heap.size + 1, 5, none⟩ = some (.int .i64 l') := by rw [cell_of_row _ _ _ _ _ _ S1.out]; rfl
  have k6 : w1.cell? ⟨w.heap.size, 6, none⟩ = some (.int .i64 q) := by rw [cell_of_row _ _ _ _ _ _ R1.out]; rfl
  have m6 : w1.cell? ⟨w.heap.size + 1, 6, none⟩ = some (.int .i64 q') := by rw [cell_of_row _ _ _ _ _ _ S1.out]; rfl
  have k7 : w1.cell? ⟨w.heap.size, 7, none⟩ = some (.int .i64 t) := by rw [cell_of_row _ _ _ _ _ _ R1.out]; rfl
  have m7 : w1.cell? ⟨w.heap.size + 1, 7, none⟩ = some (.int .i64 t') := by rw [cell_of_row _ _ _ _ _ _ S1.out]; rfl
  have k8 : w1.cell? ⟨w.heap.size, 8, none⟩ = some (.int .i64 sq) := by rw [cell_of_row _ _ _ _ _ _ R1.out]; rfl
  have m8 : w1.cell? ⟨w.heap.size + 1, 8, none⟩ = some (.int .i64 sq') := by rw [cell_of_row _ _ _ _ _ _ S1.out]; rfl
  have k9 : w1.cell? ⟨w.heap.size, 9, none⟩ = some (.int .i64 at_) := by rw [cell_of_row _ _ _ _ _ _ R1.out]; rfl
  have m9 : w1.cell? ⟨w.heap.size + 1, 9, none⟩ = some (.int .i64 at_') := by rw [cell_of_row _ _ _ _ _ _ S1.out]; rfl
  have k10 : w1.cell? ⟨w.heap.size, 10, none⟩ = some (.slice A10 lg.length c10) := by rw [cell_of_row _ _ _ _ _ _ R1.out]; rfl
  have m10 : w1.cell? ⟨w.heap.size + 1, 10, none⟩ = some (.slice D10 lg'.length d10) := by rw [cell_of_row _ _ _ _ _ _ S1.out]; rfl
  by_cases e_b : b = b'
  rotate_left
  · have y_b : (b == b') = false := beq_eq_false_iff_ne.2 e_b
    have Hf : Hid (r = false) := Lib.hid (by rw [HF.out]; simp [e_b])
    go_wp2_with fail
    go_ret
    exact ⟨by rw [Hf.out]; rfl, Hb1.out⟩
  subst e_b
  by_cases e_l : l = l'
  rotate_left
  · have y_l : (l == l') = false := beq_eq_false_iff_ne.2 e_l
    have Hf : Hid (r = false) := Lib.hid (by rw [HF.out]; simp [e_l])
    go_wp2_with fail
    go_ret
    exact ⟨by rw [Hf.out]; rfl, Hb1.out⟩
  subst e_l
  by_cases e_q : q = q'
  rotate_left
  · have y_q : (q == q') = false := beq_eq_false_iff_ne.2 e_q
    have Hf : Hid (r = false) := Lib.hid (by rw [HF.out]; simp [e_q])
    go_wp2_with fail
    go_ret
    exact ⟨by rw [Hf.out]; rfl, Hb1.out⟩
  subst e_q
  by_cases e_t : t = t'
  rotate_left
  · have y_t : (t == t') = false := beq_eq_false_iff_ne.2 e_t
    have Hf : Hid (r = false) := Lib.hid (by rw [HF.out]; simp [e_t])
    go_wp2_with fail
    go_ret
    exact ⟨by rw [Hf.out]; rfl, Hb1.out⟩
  subst e_t
  by_cases e_sq : sq = sq'
  rotate_left
  · have y_sq : (sq == sq') = false := beq_eq_false_iff_ne.2 e_sq
    have Hf : Hid (r = false) := Lib.hid (by rw [HF.out]; simp [e_sq])
    go_wp2_with fail
    go_ret
    exact ⟨by rw [Hf.out]; rfl, Hb1.out⟩
  subst e_sq
  by_cases e_at_ : at_ = at_'
  rotate_left
  · have y_at_ : (at_ == at_') = false := beq_eq_false_iff_ne.2 e_at_
    have Hf : Hid (r = false) := Lib.hid (by rw [HF.out]; simp [e_at_])
    go_wp2_with fail
    go_ret
    exact ⟨by rw [Hf.out]; rfl, Hb1.out⟩
  subst e_at_
  go_wp2_with fail
  clear k4 m4 k5 m5 k6 m6 k7 m7 k8 m8 k9 m9 k10 m10
  refine (C2.out _ Hg1.out).mono ?_
  rintro e w2 ⟨rfl, g⟩
  have Hg2 : Hid (Below w0.heap.size w0 w2) := Lib.hid (Hg1.out.trans (g.mono Hg1.out.size))
  have Hb2 := Lib.hid (Hb0.out.trans (Hg2.out.mono Hb0.out.size))
  have R2 := Lib.hid ((Hg2.out.block _ (by have := Lt0.out; omega)).trans R0.out)
  have S2 := Lib.hid ((Hg2.out.block _ Lt0.out).trans S0.out)
  clear g
  cases z2
  · have Hf : Hid (r = false) := Lib.hid (by rw [HF.out]; simp)
    go_wp2_with fail
    go_ret
    exact ⟨by rw [Hf.out]; rfl, Hb2.out⟩
  have k11 : w2.cell? ⟨w.heap.size, 11, none⟩ = some (.slice A11 dt.length c11) := by rw [cell_of_row _ _ _ _ _ _ R2.out]; rfl
  have m11 : w2.cell? ⟨w.heap.size + 1, 11, none⟩ = some (.slice D11 dt'.length d11) := by rw [cell_of_row _ _ _ _ _ _ S2.out]; rfl
  go_wp2_with fail
  clear k11 m11
  refine (C3.out _ Hg2.out).mono ?_
  rintro e w3 ⟨rfl, g⟩
  have Hg3 : Hid (Below w0.heap.size w0 w3) := Lib.hid (Hg2.out.trans (g.mono Hg2.out.size))
  have Hb3 := Lib.hid (Hb0.out.trans (Hg3.out.mono Hb0.out.size))
  have R3 := Lib.hid ((Hg3.out.block _ (by have := Lt0.out; omega)).trans R0.out)
  have S3 := Lib.hid ((Hg3.out.block _ Lt0.out).trans S0.out)
  clear g
  have Hf : Hid (r = z3) := Lib.hid (by rw [HF.out]; simp)
  cases z3 <;> (go_wp2_with fail; go_ret; exact ⟨by rw [Hf.out]; rfl, Hb3.out⟩)
end Go.Proofs.Ytkoenlkoalbhlaa
