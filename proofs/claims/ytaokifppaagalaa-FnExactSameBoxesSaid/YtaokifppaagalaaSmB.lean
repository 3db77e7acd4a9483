/- Contracts of the functions that compare boxes and lists of boxes. No statement is proved here. -/
import Derived.Test.YtaokifppaagalaaSame
import Derived.Test.YtaokifppaagalaaBxL
namespace Go.Proofs.Ytaokifppaagalaa
open Go.RowKit
set_option linter.unusedVariables false
def sameBx (xs ms ys ns : List Int) : Bool := decide (xs = ys) && decide (ms = ns)
set_option maxHeartbeats 400000 in
theorem l07SameBox_any {B : Nat} {w : World} {v1 v2 u1 u2 : Value} {xs ms ys ns : List Int} (h1 : Ri B w v1 xs) (h2 : Ri B w v2 ms) (g1 : Ri B w u1 ys) (g2 : Ri B w u2 ns) (hB : B ≤ w.heap.size) :
    Calls Try.prog 128 #[.agg #[v1, v2], .agg #[u1, u2]] w (GivesB (.bool (sameBx xs ms ys ns)) w) := by
  have H1 := Lib.hid h1; have H2 := Lib.hid h2; have G1 := Lib.hid g1; have G2 := Lib.hid g2
  obtain ⟨A1, c1, rfl, _⟩ := h1
  obtain ⟨A2, c2, rfl, _⟩ := h2
  obtain ⟨A3, c3, rfl, _⟩ := g1
  obtain ⟨A4, c4, rfl, _⟩ := g2
  have hb0 : Below w.heap.size w ((w.alloc (.cells #[.slice A1 xs.length c1, .slice A2 ms.length c2] 55)).alloc (.cells #[.slice A3 ys.length c3, .slice A4 ns.length c4] 55)) :=
    ((Below.refl _ w).alloc (Nat.le_refl _) _).alloc (by simp) _
  have Hb0 := Lib.hid hb0; clear hb0
  generalize hr : sameBx xs ms ys ns = r
  unfold sameBx at hr
  generalize hd1 : decide (xs = ys) = d1 at hr
  generalize hd2 : decide (ms = ns) = d2 at hr
  have Hr := Lib.hid hr; have Hd1 := Lib.hid hd1; have Hd2 := Lib.hid hd2
  clear hr hd1 hd2
  go_enter Try.func128, Try.ntmps128
  go_wp2_with fail
  refine (Hd1.out ▸ l00Same_any (H1.out.at hB Hb0.out) (G1.out.at hB Hb0.out) (Nat.le_refl _)).mono ?_
  rintro e w1 ⟨rfl, hbel1⟩
  have hc1 := old_cell hbel1
  have hz1 := hbel1.size
  simp at hz1
  have hq1 : w.heap.size < w1.heap.size := by omega
  have hr1 : w.heap.size + 1 < w1.heap.size := by omega
  have Hb1 : Hid (Below w.heap.size w w1) := Lib.hid (Hb0.out.trans (hbel1.mono (by simp; omega)))
  clear hbel1
  cases d1
  · go_wp2_with fail
    go_ret
    exact ⟨by rw [← Hr.out]; rfl, Hb1.out⟩
  · go_wp2_with fail
    refine (Hd2.out ▸ l00Same_any (H2.out.at hB Hb1.out) (G2.out.at hB Hb1.out) (Nat.le_refl _)).mono ?_
    rintro e w2 ⟨rfl, hbel2⟩
    have Hb2 : Hid (Below w.heap.size w w2) := Lib.hid (Hb1.out.trans (hbel2.mono (by omega)))
    clear hbel2 hc1
    go_wp2_with fail
    go_ret
    exact ⟨by rw [← Hr.out]; simp, Hb2.out⟩
set_option maxHeartbeats 400000 in
theorem sameBox_any {B : Nat} {w : World} {v1 v2 u1 u2 : Value} {xs ms ys ns : List Int} (h1 : Ri B w v1 xs) (h2 : Ri B w v2 ms) (g1 : Ri B w u1 ys) (g2 : Ri B w u2 ns) (hB : B ≤ w.heap.size) :
    Calls Try.prog 91 #[.agg #[v1, v2], .agg #[u1, u2]] w (GivesB (.bool (sameBx xs ms ys ns)) w) := by
  have H1 := Lib.hid h1; have H2 := Lib.hid h2; have G1 := Lib.hid g1; have G2 := Lib.hid g2
  obtain ⟨A1, c1, rfl, _⟩ := h1
  obtain ⟨A2, c2, rfl, _⟩ := h2
  obtain ⟨A3, c3, rfl, _⟩ := g1
  obtain ⟨A4, c4, rfl, _⟩ := g2
  have hb0 : Below w.heap.size w ((w.alloc (.cells #[.slice A1 xs.length c1, .slice A2 ms.length c2] 55)).alloc (.cells #[.slice A3 ys.length c3, .slice A4 ns.length c4] 55)) :=
    ((Below.refl _ w).alloc (Nat.le_refl _) _).alloc (by simp) _
  have Hb0 := Lib.hid hb0; clear hb0
  generalize hr : sameBx xs ms ys ns = r
  unfold sameBx at hr
  generalize hd1 : decide (xs = ys) = d1 at hr
  generalize hd2 : decide (ms = ns) = d2 at hr
  have Hr := Lib.hid hr; have Hd1 := Lib.hid hd1; have Hd2 := Lib.hid hd2
  clear hr hd1 hd2
  go_enter Try.func91, Try.ntmps91
  go_wp2_with fail
  refine (Hd1.out ▸ slEqual_any (H1.out.at hB Hb0.out) (G1.out.at hB Hb0.out) (Nat.le_refl _)).mono ?_
  rintro e w1 ⟨rfl, hbel1⟩
  have hc1 := old_cell hbel1
  have hz1 := hbel1.size
  simp at hz1
  have hq1 : w.heap.size < w1.heap.size := by omega
  have hr1 : w.heap.size + 1 < w1.heap.size := by omega
  have Hb1 : Hid (Below w.heap.size w w1) := Lib.hid (Hb0.out.trans (hbel1.mono (by simp; omega)))
  clear hbel1
  cases d1
  · go_wp2_with fail
    go_ret
    exact ⟨by rw [← Hr.out]; rfl, Hb1.out⟩
  · go_wp2_with fail
    refine (Hd2.out ▸ slEqual_any (H2.out.at hB Hb1.out) (G2.out.at hB Hb1.out) (Nat.le_refl _)).mono ?_
    rintro e w2 ⟨rfl, hbel2⟩
    have Hb2 : Hid (Below w.heap.size w w2) := Lib.hid (Hb1.out.trans (hbel2.mono (by omega)))
    clear hbel2 hc1
    go_wp2_with fail
    go_ret
    exact ⟨by rw [← Hr.out]; simp, Hb2.out⟩
theorem sameBx_iff (p q : Bx) : sameBx p.1 p.2 q.1 q.2 = decide (p = q) := by
  obtain ⟨a, b⟩ := p; obtain ⟨c, d⟩ := q; simp [sameBx, Prod.ext_iff, Bool.decide_and]
theorem l07SameBox_is {B : Nat} {w : World} {v1 v2 u1 u2 : Value} {p q : Bx} {r : Bool} (hr : decide (p = q) = r) (h1 : Ri B w v1 p.1) (h2 : Ri B w v2 p.2) (g1 : Ri B w u1 q.1) (g2 : Ri B w u2 q.2) (hB : B ≤ w.heap.size) :
    Calls Try.prog 128 #[.agg #[v1, v2], .agg #[u1, u2]] w (GivesB (.bool r) w) := by rw [← hr, ← sameBx_iff]; exact l07SameBox_any h1 h2 g1 g2 hB
theorem sameBox_is {B : Nat} {w : World} {v1 v2 u1 u2 : Value} {p q : Bx} {r : Bool} (hr : decide (p = q) = r) (h1 : Ri B w v1 p.1) (h2 : Ri B w v2 p.2) (g1 : Ri B w u1 q.1) (g2 : Ri B w u2 q.2) (hB : B ≤ w.heap.size) :
    Calls Try.prog 91 #[.agg #[v1, v2], .agg #[u1, u2]] w (GivesB (.bool r) w) := by rw [← hr, ← sameBx_iff]; exact sameBox_any h1 h2 g1 g2 hB
set_option maxHeartbeats 1000000 in
set_option maxRecDepth 100000 in
theorem l07Same_any {B : Nat} {w : World} {v1 v2 : Value} {bs cs : List Bx} (h1 : RiB B w v1 bs) (h2 : RiB B w v2 cs) (hB : B ≤ w.heap.size) :
    Calls Try.prog 89 #[v1, v2] w (GivesB (.bool (decide (bs = cs))) w) := by
  obtain ⟨A1, c1, rfl, hl1, hm1, hx1⟩ := h1
  obtain ⟨A2, c2, rfl, hl2, hm2, hx2⟩ := h2
  have Hx1 := Lib.hid hx1; have Hx2 := Lib.hid hx2; clear hx1 hx2
  unfold maxLen at hm1 hm2
  by_cases hn : bs.length = cs.length
  · have hn' : (bs.length : Int) = (cs.length : Int) := by omega
    have Hn := Lib.hid hn
    clear hn
    generalize hd : decide (bs = cs) = d
    have Hd := Lib.hid hd; clear hd
    go_enter Try.func89, Try.ntmps89
    go_wp2
    clear hn'
    go_loopw [5] (fun i wr => ∃ k : Nat, k ≤ bs.length ∧ i = .int .i64 k ∧ Below w.heap.size w wr ∧ ∀ j (h1 : j < bs.length) (h2 : j < cs.length), j < k → bs[j] = cs[j]) (fun i _ => bs.length - (intOf i).toNat)
    case atStart => exact ⟨0, Nat.zero_le _, rfl, Below.refl _ _, fun j h1 h2 h => absurd h (by omega)⟩
    case round =>
      obtain ⟨k, hk, rfl, hbel, hall⟩ := hrel
      have Hall := Lib.hid hall
      have Hbel := Lib.hid hbel
      clear hall
      by_cases hlt : k < bs.length
      · have hlt2 : k < cs.length := by have := Hn.out; omega
        obtain ⟨b1, o1, u1, x1, rfl, hb1, hq1, hp1, hr1, hs1⟩ := Hx1.out k hlt
        obtain ⟨b2, o2, u2, x2, rfl, hb2, hq2, hp2, hr2, hs2⟩ := Hx2.out k hlt2
        have hs := hbel.size
        have Hr1 := Lib.hid (hr1.at hB hbel); have Hs1 := Lib.hid (hs1.at hB hbel)
        have Hr2 := Lib.hid (hr2.at hB hbel); have Hs2 := Lib.hid (hs2.at hB hbel)
        obtain ⟨E1, e1, rfl, _⟩ := hr1
        obtain ⟨E2, e2, rfl, _⟩ := hs1
        obtain ⟨E3, e3, rfl, _⟩ := hr2
        obtain ⟨E4, e4, rfl, _⟩ := hs2
        generalize he : decide (bs[k] = cs[k]) = eq1
        have He := Lib.hid he; clear he
        have hbw : Below wr.heap.size wr (wr.drewN 1) := below_draws (Below.refl _ _) 1
        have hbW : Below w.heap.size w (wr.drewN 1) := hbel.trans (hbw.mono hbel.size)
        have Hw2 := Lib.hid hbw
        have G1 := Lib.hid (run_load_cells (P := Try.prog) (wr.drewN 1) b1 (o1 + k * 2) 55 _ [.slice E1 bs[k].1.length e1, .slice E2 bs[k].2.length e2] (two_cells (by rw [hbW.cell (show b1 < _ from by omega)]; exact hq1) (by rw [hbW.cell (show b1 < _ from by omega)]; exact hp1)) Try.underlying55 (by kernel_rfl))
        have G2 := Lib.hid (run_load_cells (P := Try.prog) (wr.drewN 1) b2 (o2 + k * 2) 55 _ [.slice E3 cs[k].1.length e3, .slice E4 cs[k].2.length e4] (two_cells (by rw [hbW.cell (show b2 < _ from by omega)]; exact hq2) (by rw [hbW.cell (show b2 < _ from by omega)]; exact hp2)) Try.underlying55 (by kernel_rfl))
        clear hq1 hq2 hp1 hp2 hbel hbw hbW
        go_wp2
        refine wp_region_still_tail 8 (by kernel_rfl) (by kernel_rfl) ?_
        simp only [List.take_succ_cons, List.take_zero, List.drop_succ_cons, List.drop_zero]
        still_step
        still_step
        still_step
        refine wpStill_load rfl 55 (.tmp 19) rfl _ rfl _ G1.out ?_
        still_step
        still_step
        still_step
        refine wpStill_load rfl 55 (.tmp 23) rfl _ rfl _ G2.out ?_
        refine wpStill_nil ?_
        go_wp2_with fail
        refine (l07SameBox_is He.out (Hr1.out.at (Nat.le_refl _) Hw2.out) (Hs1.out.at (Nat.le_refl _) Hw2.out) (Hr2.out.at (Nat.le_refl _) Hw2.out) (Hs2.out.at (Nat.le_refl _) Hw2.out) (Nat.le_refl _)).mono ?_
        rintro e w1 ⟨rfl, hb1⟩
        have Hb1 : Hid (Below w.heap.size w w1) := Lib.hid (Hbel.out.trans ((Hw2.out.trans (hb1.mono Hw2.out.size)).mono Hbel.out.size))
        clear hb1
        cases eq1
        · have Hf : Hid (d = false) := Lib.hid (by
            have := He.out
            rw [decide_eq_false_iff_not] at this
            rw [← Hd.out, decide_eq_false_iff_not]; rintro rfl; exact this rfl)
          go_wp2
          go_ret
          exact ⟨by rw [Hf.out]; rfl, Hb1.out⟩
        · have Hall2 : Hid (∀ j (h1 : j < bs.length) (h2 : j < cs.length), j < k + 1 → bs[j] = cs[j]) := Lib.hid (fun j h1 h2 h => by
            rcases Nat.lt_or_ge j k with hj | hj
            · exact Hall.out j h1 h2 hj
            · obtain rfl : j = k := by omega
              exact of_decide_eq_true He.out)
          go_wp2
          go_roundw
          case rel => exact ⟨k + 1, by omega, by go_num, Hb1.out, Hall2.out⟩
          case measure => simp [intOf]; omega
      · have Hf : Hid (d = true) := Lib.hid (by
          rw [← Hd.out, decide_eq_true_iff]
          have := Hn.out
          exact List.ext_getElem this (fun j h1 h2 => Hall.out j h1 h2 (by omega)))
        have hlt2 : ¬ k < cs.length := by have := Hn.out; omega
        clear hbel
        go_wp2
        go_ret
        exact ⟨by rw [Hf.out]; rfl, Hbel.out⟩
  · have Hf : Hid (decide (bs = cs) = false) := Lib.hid (by rw [decide_eq_false_iff_not]; rintro rfl; exact hn rfl)
    have hn' : ((bs.length : Int) == (cs.length : Int)) = false := by simp; omega
    have hn2 : ((bs.length : Int) != (cs.length : Int)) = true := by simp; omega
    have hn3 : ¬ ((bs.length : Int) = (cs.length : Int)) := by omega
    generalize decide (bs = cs) = d at *
    go_enter Try.func89, Try.ntmps89
    go_wp2
    go_ret
    exact ⟨by rw [Hf.out]; rfl, Below.refl _ _⟩
set_option maxHeartbeats 1000000 in
set_option maxRecDepth 100000 in
theorem eqFuncB_any {B : Nat} {w : World} {v1 v2 : Value} {bs cs : List Bx} (h1 : RiB B w v1 bs) (h2 : RiB B w v2 cs) (hB : B ≤ w.heap.size) :
    Calls Try.prog 90 #[v1, v2, .func (.func 91) #[] #[]] w (GivesB (.bool (decide (bs = cs))) w) := by
  obtain ⟨A1, c1, rfl, hl1, hm1, hx1⟩ := h1
  obtain ⟨A2, c2, rfl, hl2, hm2, hx2⟩ := h2
  have Hx1 := Lib.hid hx1; have Hx2 := Lib.hid hx2; clear hx1 hx2
  unfold maxLen at hm1 hm2
  by_cases hn : bs.length = cs.length
  · have hn' : (bs.length : Int) = (cs.length : Int) := by omega
    have Hn := Lib.hid hn
    clear hn
    generalize hd : decide (bs = cs) = d
    have Hd := Lib.hid hd; clear hd
    go_enter Try.func90, Try.ntmps90
    go_wp2
    clear hn'
    go_loopw [17] (fun i wr => ∃ k : Nat, k ≤ bs.length ∧ i = .int .i64 k ∧ Below w.heap.size w wr ∧ ∀ j (h1 : j < bs.length) (h2 : j < cs.length), j < k → bs[j] = cs[j]) (fun i _ => bs.length - (intOf i).toNat)
    case atStart => exact ⟨0, Nat.zero_le _, rfl, Below.refl _ _, fun j h1 h2 h => absurd h (by omega)⟩
    case round =>
      obtain ⟨k, hk, rfl, hbel, hall⟩ := hrel
      have Hall := Lib.hid hall
      have Hbel := Lib.hid hbel
      clear hall
      by_cases hlt : k < bs.length
      · have hlt2 : k < cs.length := by have := Hn.out; omega
        obtain ⟨b1, o1, u1, x1, rfl, hb1, hq1, hp1, hr1, hs1⟩ := Hx1.out k hlt
        obtain ⟨b2, o2, u2, x2, rfl, hb2, hq2, hp2, hr2, hs2⟩ := Hx2.out k hlt2
        have hs := hbel.size
        have Hr1 := Lib.hid (hr1.at hB hbel); have Hs1 := Lib.hid (hs1.at hB hbel)
        have Hr2 := Lib.hid (hr2.at hB hbel); have Hs2 := Lib.hid (hs2.at hB hbel)
        obtain ⟨E1, e1, rfl, _⟩ := hr1
        obtain ⟨E2, e2, rfl, _⟩ := hs1
        obtain ⟨E3, e3, rfl, _⟩ := hr2
        obtain ⟨E4, e4, rfl, _⟩ := hs2
        generalize he : decide (bs[k] = cs[k]) = eq1
        have He := Lib.hid he; clear he
        have Hw2 : Hid (Below wr.heap.size wr ((wr.alloc (.cells #[.slice E1 bs[k].1.length e1, .slice E2 bs[k].2.length e2] 55)).alloc (.cells #[.slice E3 cs[k].1.length e3, .slice E4 cs[k].2.length e4] 55))) := Lib.hid (((Below.refl _ wr).alloc (Nat.le_refl _) _).alloc (by simp) _)
        have Hw1 : Hid (Below wr.heap.size wr (wr.alloc (.cells #[.slice E1 bs[k].1.length e1, .slice E2 bs[k].2.length e2] 55))) := Lib.hid ((Below.refl _ wr).alloc (Nat.le_refl _) _)
        have hlb1 : b1 < wr.heap.size := by omega
        have hlb2 : b2 < wr.heap.size := by omega
        have G1 := Lib.hid (run_load_cells (P := Try.prog) wr b1 (o1 + k * 2) 55 _ [.slice E1 bs[k].1.length e1, .slice E2 bs[k].2.length e2] (two_cells (by rw [hbel.cell (show b1 < _ from by omega)]; exact hq1) (by rw [hbel.cell (show b1 < _ from by omega)]; exact hp1)) Try.underlying55 (by kernel_rfl))
        have G2 := Lib.hid (run_load_cells (P := Try.prog) (wr.alloc (.cells #[.slice E1 bs[k].1.length e1, .slice E2 bs[k].2.length e2] 55)) b2 (o2 + k * 2) 55 _ [.slice E3 cs[k].1.length e3, .slice E4 cs[k].2.length e4] (two_cells (by rw [Hw1.out.cell hlb2, hbel.cell (show b2 < _ from by omega)]; exact hq2) (by rw [Hw1.out.cell hlb2, hbel.cell (show b2 < _ from by omega)]; exact hp2)) Try.underlying55 (by kernel_rfl))
        clear hq1 hq2 hp1 hp2 hbel
        go_wp2_with (first | (refine wpList_load_agg rfl 55 (.tmp 20) rfl _ rfl _ G1.out ?_) | (refine wpList_load_agg rfl 55 (.tmp 24) rfl _ rfl _ G2.out ?_))
        refine (sameBox_is He.out (Hr1.out.at (Nat.le_refl _) Hw2.out) (Hs1.out.at (Nat.le_refl _) Hw2.out) (Hr2.out.at (Nat.le_refl _) Hw2.out) (Hs2.out.at (Nat.le_refl _) Hw2.out) (Nat.le_refl _)).mono ?_
        rintro e w1 ⟨rfl, hb1⟩
        have Hb1 : Hid (Below w.heap.size w w1) := Lib.hid (Hbel.out.trans ((Hw2.out.trans (hb1.mono Hw2.out.size)).mono Hbel.out.size))
        clear hb1
        cases eq1
        · have Hf : Hid (d = false) := Lib.hid (by
            have := He.out
            rw [decide_eq_false_iff_not] at this
            rw [← Hd.out, decide_eq_false_iff_not]; rintro rfl; exact this rfl)
          go_wp2
          go_ret
          exact ⟨by rw [Hf.out]; rfl, Hb1.out⟩
        · have Hall2 : Hid (∀ j (h1 : j < bs.length) (h2 : j < cs.length), j < k + 1 → bs[j] = cs[j]) := Lib.hid (fun j h1 h2 h => by
            rcases Nat.lt_or_ge j k with hj | hj
            · exact Hall.out j h1 h2 hj
            · obtain rfl : j = k := by omega
              exact of_decide_eq_true He.out)
          go_wp2
          go_roundw
          case rel => exact ⟨k + 1, by omega, by go_num, Hb1.out, Hall2.out⟩
          case measure => simp [intOf]; omega
      · have Hf : Hid (d = true) := Lib.hid (by
          rw [← Hd.out, decide_eq_true_iff]
          have := Hn.out
          exact List.ext_getElem this (fun j h1 h2 => Hall.out j h1 h2 (by omega)))
        have hlt2 : ¬ k < cs.length := by have := Hn.out; omega
        clear hbel
        go_wp2
        go_ret
        exact ⟨by rw [Hf.out]; rfl, Hbel.out⟩
  · have Hf : Hid (decide (bs = cs) = false) := Lib.hid (by rw [decide_eq_false_iff_not]; rintro rfl; exact hn rfl)
    have hn' : ((bs.length : Int) == (cs.length : Int)) = false := by simp; omega
    have hn2 : ((bs.length : Int) != (cs.length : Int)) = true := by simp; omega
    have hn3 : ¬ ((bs.length : Int) = (cs.length : Int)) := by omega
    generalize decide (bs = cs) = d at *
    go_enter Try.func90, Try.ntmps90
    go_wp2
    go_ret
    exact ⟨by rw [Hf.out]; rfl, Below.refl _ _⟩
theorem specSameBoxes_any {B : Nat} {w : World} {v1 v2 : Value} {bs cs : List Bx} (h1 : RiB B w v1 bs) (h2 : RiB B w v2 cs) (hB : B ≤ w.heap.size) :
    Calls Try.prog 43 #[v1, v2] w (GivesB (.bool (decide (bs = cs))) w) := by
  have H1 := Lib.hid h1; have H2 := Lib.hid h2
  obtain ⟨A1, c1, rfl, _⟩ := h1
  obtain ⟨A2, c2, rfl, _⟩ := h2
  generalize hd : decide (bs = cs) = d
  have Hd := Lib.hid hd; clear hd
  go_enter Try.func43, Try.ntmps43
  go_wp2_with fail
  refine (Hd.out ▸ l07Same_any H1.out H2.out hB).mono ?_
  rintro e w1 ⟨rfl, g⟩
  have Hb1 := Lib.hid g; clear g
  go_wp2_with fail
  go_ret
  exact ⟨rfl, Hb1.out⟩
theorem implSameBoxes_any {B : Nat} {w : World} {v1 v2 : Value} {bs cs : List Bx} (h1 : RiB B w v1 bs) (h2 : RiB B w v2 cs) (hB : B ≤ w.heap.size) :
    Calls Try.prog 45 #[v1, v2] w (GivesB (.bool (decide (bs = cs))) w) := by
  have H1 := Lib.hid h1; have H2 := Lib.hid h2
  obtain ⟨A1, c1, rfl, _⟩ := h1
  obtain ⟨A2, c2, rfl, _⟩ := h2
  generalize hd : decide (bs = cs) = d
  have Hd := Lib.hid hd; clear hd
  go_enter Try.func45, Try.ntmps45
  go_wp2_with fail
  refine (Hd.out ▸ eqFuncB_any H1.out H2.out hB).mono ?_
  rintro e w1 ⟨rfl, g⟩
  have Hb1 := Lib.hid g; clear g
  go_wp2_with fail
  go_ret
  exact ⟨rfl, Hb1.out⟩
end Go.Proofs.Ytaokifppaagalaa
