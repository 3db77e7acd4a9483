/- Contracts of the functions that compare points and selections. No statement is proved here. -/
import Derived.Test.YtkgkhdnpgcgoeaaSame
import Derived.Test.YtkgkhdnpgcgoeaaSel
namespace Go.Proofs.Ytkgkhdnpgcgoeaa
open Go.RowKit
set_option linter.unusedVariables false
set_option maxHeartbeats 1000000 in
set_option maxRecDepth 100000 in
theorem l06SamePoints_any {B : Nat} {w : World} {v1 v2 : Value} {ps qs : List (List Int)} (h1 : RiP B w v1 ps) (h2 : RiP B w v2 qs) (hB : B ≤ w.heap.size) :
    Calls Try.prog 45 #[v1, v2] w (GivesB (.bool (decide (ps = qs))) w) := by
  obtain ⟨A1, c1, rfl, hl1, hm1, hx1⟩ := h1
  obtain ⟨A2, c2, rfl, hl2, hm2, hx2⟩ := h2
  have Hx1 := Lib.hid hx1; have Hx2 := Lib.hid hx2; clear hx1 hx2
  unfold maxLen at hm1 hm2
  by_cases hn : ps.length = qs.length
  · have hn' : (ps.length : Int) = (qs.length : Int) := by omega
    have Hn := Lib.hid hn
    clear hn
    generalize hd : decide (ps = qs) = d
    have Hd := Lib.hid hd; clear hd
    go_enter Try.func45, Try.ntmps45
    go_wp2
    clear hn'
    go_loopw [5] (fun i wr => ∃ k : Nat, k ≤ ps.length ∧ i = .int .i64 k ∧ Below w.heap.size w wr ∧ ∀ j (h1 : j < ps.length) (h2 : j < qs.length), j < k → ps[j] = qs[j]) (fun i _ => ps.length - (intOf i).toNat)
    case atStart => exact ⟨0, Nat.zero_le _, rfl, Below.refl _ _, fun j h1 h2 h => absurd h (by omega)⟩
    case round =>
      obtain ⟨k, hk, rfl, hbel, hall⟩ := hrel
      have Hall := Lib.hid hall
      have Hbel := Lib.hid hbel
      clear hall
      by_cases hlt : k < ps.length
      · have hlt2 : k < qs.length := by have := Hn.out; omega
        obtain ⟨b1, o1, u1, rfl, hb1, hq1, hr1⟩ := Hx1.out k hlt
        obtain ⟨b2, o2, u2, rfl, hb2, hq2, hr2⟩ := Hx2.out k hlt2
        have g1 : wr.cell? ⟨b1, o1 + k, none⟩ = some u1 := by rw [hbel.cell (p := ⟨b1, o1 + k, none⟩) (show b1 < _ from by omega)]; exact hq1
        have g2 : wr.cell? ⟨b2, o2 + k, none⟩ = some u2 := by rw [hbel.cell (p := ⟨b2, o2 + k, none⟩) (show b2 < _ from by omega)]; exact hq2
        have hbw : Below wr.heap.size wr (wr.drewN 1) := below_draws (Below.refl _ _) 1
        have Hr1 : Hid (Ri (wr.drewN 1).heap.size (wr.drewN 1) u1 ps[k]) := Lib.hid (hr1.at hB (hbel.trans (hbw.mono hbel.size)))
        have Hr2 : Hid (Ri (wr.drewN 1).heap.size (wr.drewN 1) u2 qs[k]) := Lib.hid (hr2.at hB (hbel.trans (hbw.mono hbel.size)))
        have Hbw : Hid (Below w.heap.size w (wr.drewN 1)) := Lib.hid (hbel.trans (hbw.mono hbel.size))
        obtain ⟨E1, e1, rfl, _⟩ := hr1
        obtain ⟨E2, e2, rfl, _⟩ := hr2
        clear hq1 hq2 hbel hbw
        generalize he : decide (ps[k] = qs[k]) = eq1
        have He := Lib.hid he; clear he
        go_wp2
        refine wp_region_still_tail 10 (by kernel_rfl) (by kernel_rfl) ?_
        simp only [List.take_succ_cons, List.take_zero, List.drop_succ_cons, List.drop_zero]
        repeat still_step
        refine wpStill_nil ?_
        clear g1 g2
        go_wp2_with fail
        refine (He.out ▸ l00Same_any Hr1.out Hr2.out (Nat.le_refl _)).mono ?_
        rintro e w1 ⟨rfl, hb1⟩
        have Hb1 : Hid (Below w.heap.size w w1) := Lib.hid (Hbw.out.trans (hb1.mono Hbw.out.size))
        clear hb1
        cases eq1
        · have Hf : Hid (d = false) := Lib.hid (by
            have := He.out
            rw [decide_eq_false_iff_not] at this
            rw [← Hd.out, decide_eq_false_iff_not]; rintro rfl; exact this rfl)
          go_wp2
          go_ret
          exact ⟨by rw [Hf.out]; rfl, Hb1.out⟩
        · have Hall2 : Hid (∀ j (h1 : j < ps.length) (h2 : j < qs.length), j < k + 1 → ps[j] = qs[j]) := Lib.hid (fun j h1 h2 h => by
            rcases Nat.lt_or_ge j k with hj | hj
            · exact Hall.out j h1 h2 hj
            · obtain rfl : j = k := by omega
              exact of_decide_eq_true He.out)
          go_wp2
          go_roundw
          case rel => exact ⟨k + 1, by omega, by go_num, Hb1.out, Hall2.out⟩
          case measure => simp [intOf]; omega
      · have Hf : Hid (d = true) := Lib.hid (by
          rw [← Hd.out, decide_eq_true_iff]
          have := Hn.out
          exact List.ext_getElem this (fun j h1 h2 => Hall.out j h1 h2 (by omega)))
        have hlt2 : ¬ k < qs.length := by have := Hn.out; omega
        clear hbel
        go_wp2
        go_ret
        exact ⟨by rw [Hf.out]; rfl, Hbel.out⟩
  · have Hf : Hid (decide (ps = qs) = false) := Lib.hid (by rw [decide_eq_false_iff_not]; rintro rfl; exact hn rfl)
    have hn' : ((ps.length : Int) == (qs.length : Int)) = false := by simp; omega
    have hn2 : ((ps.length : Int) != (qs.length : Int)) = true := by simp; omega
    have hn3 : ¬ ((ps.length : Int) = (qs.length : Int)) := by omega
    generalize decide (ps = qs) = d at *
    go_enter Try.func45, Try.ntmps45
    go_wp2
    go_ret
    exact ⟨by rw [Hf.out]; rfl, Below.refl _ _⟩
set_option maxHeartbeats 400000 in
theorem samePoint_any {B : Nat} {w : World} {v u : Value} {xs ys : List Int} (h : Ri B w v xs) (g : Ri B w u ys) (hB : B ≤ w.heap.size) :
    Calls Try.prog 48 #[.agg #[v], .agg #[u]] w (GivesB (.bool (decide (xs = ys))) w) := by
  have H := Lib.hid h; have G := Lib.hid g
  obtain ⟨A, c, rfl, _⟩ := h
  obtain ⟨D, d, rfl, _⟩ := g
  have Hb0 : Hid (Below w.heap.size w ((w.alloc (.cells #[.slice A xs.length c] 59)).alloc (.cells #[.slice D ys.length d] 59))) := Lib.hid (((Below.refl _ w).alloc (Nat.le_refl _) _).alloc (by simp) _)
  generalize he : decide (xs = ys) = r
  have He := Lib.hid he; clear he
  go_enter Try.func48, Try.ntmps48
  go_wp2_with fail
  refine (He.out ▸ slEqual_any (H.out.at hB Hb0.out) (G.out.at hB Hb0.out) (Nat.le_refl _)).mono ?_
  rintro e w1 ⟨rfl, hb1⟩
  have Hb1 : Hid (Below w.heap.size w w1) := Lib.hid (Hb0.out.trans (hb1.mono Hb0.out.size))
  clear hb1
  go_wp2_with fail
  go_ret
  exact ⟨rfl, Hb1.out⟩
set_option maxHeartbeats 1000000 in
set_option maxRecDepth 100000 in
theorem equalFunc_any {B : Nat} {w : World} {v1 v2 : Value} {ps qs : List (List Int)} (h1 : RiP B w v1 ps) (h2 : RiP B w v2 qs) (hB : B ≤ w.heap.size) :
    Calls Try.prog 47 #[v1, v2, .func (.func 48) #[] #[]] w (GivesB (.bool (decide (ps = qs))) w) := by
  obtain ⟨A1, c1, rfl, hl1, hm1, hx1⟩ := h1
  obtain ⟨A2, c2, rfl, hl2, hm2, hx2⟩ := h2
  have Hx1 := Lib.hid hx1; have Hx2 := Lib.hid hx2; clear hx1 hx2
  unfold maxLen at hm1 hm2
  by_cases hn : ps.length = qs.length
  · have hn' : (ps.length : Int) = (qs.length : Int) := by omega
    have Hn := Lib.hid hn
    clear hn
    generalize hd : decide (ps = qs) = d
    have Hd := Lib.hid hd; clear hd
    go_enter Try.func47, Try.ntmps47
    go_wp2
    clear hn'
    go_loopw [17] (fun i wr => ∃ k : Nat, k ≤ ps.length ∧ i = .int .i64 k ∧ Below w.heap.size w wr ∧ ∀ j (h1 : j < ps.length) (h2 : j < qs.length), j < k → ps[j] = qs[j]) (fun i _ => ps.length - (intOf i).toNat)
    case atStart => exact ⟨0, Nat.zero_le _, rfl, Below.refl _ _, fun j h1 h2 h => absurd h (by omega)⟩
    case round =>
      obtain ⟨k, hk, rfl, hbel, hall⟩ := hrel
      have Hall := Lib.hid hall
      have Hbel := Lib.hid hbel
      clear hall
      by_cases hlt : k < ps.length
      · have hlt2 : k < qs.length := by have := Hn.out; omega
        obtain ⟨b1, o1, u1, rfl, hb1, hq1, hr1⟩ := Hx1.out k hlt
        obtain ⟨b2, o2, u2, rfl, hb2, hq2, hr2⟩ := Hx2.out k hlt2
        have g1 : wr.cell? ⟨b1, o1 + k, none⟩ = some u1 := by rw [hbel.cell (p := ⟨b1, o1 + k, none⟩) (show b1 < _ from by omega)]; exact hq1
        have g2 : wr.cell? ⟨b2, o2 + k, none⟩ = some u2 := by rw [hbel.cell (p := ⟨b2, o2 + k, none⟩) (show b2 < _ from by omega)]; exact hq2
        have hs := hbel.size
        have hlb1 : b1 < wr.heap.size := by omega
        have hlb2 : b2 < wr.heap.size := by omega
        have Hr1 := Lib.hid (hr1.at hB hbel)
        have Hr2 := Lib.hid (hr2.at hB hbel)
        obtain ⟨E1, e1, rfl, _⟩ := hr1
        obtain ⟨E2, e2, rfl, _⟩ := hr2
        have Hw2 : Hid (Below wr.heap.size wr ((wr.alloc (.cells #[.slice E1 ps[k].length e1] 59)).alloc (.cells #[.slice E2 qs[k].length e2] 59))) := Lib.hid (((Below.refl _ wr).alloc (Nat.le_refl _) _).alloc (by simp) _)
        clear hq1 hq2 hbel
        generalize he : decide (ps[k] = qs[k]) = eq1
        have He := Lib.hid he; clear he
        go_wp2_with fail
        refine (He.out ▸ samePoint_any (Hr1.out.at (Nat.le_refl _) Hw2.out) (Hr2.out.at (Nat.le_refl _) Hw2.out) (Nat.le_refl _)).mono ?_
        rintro e w1 ⟨rfl, hb1⟩
        have Hb1 : Hid (Below w.heap.size w w1) := Lib.hid (Hbel.out.trans ((Hw2.out.trans (hb1.mono Hw2.out.size)).mono Hbel.out.size))
        clear hb1 g1 g2
        cases eq1
        · have Hf : Hid (d = false) := Lib.hid (by
            have := He.out
            rw [decide_eq_false_iff_not] at this
            rw [← Hd.out, decide_eq_false_iff_not]; rintro rfl; exact this rfl)
          go_wp2
          go_ret
          exact ⟨by rw [Hf.out]; rfl, Hb1.out⟩
        · have Hall2 : Hid (∀ j (h1 : j < ps.length) (h2 : j < qs.length), j < k + 1 → ps[j] = qs[j]) := Lib.hid (fun j h1 h2 h => by
            rcases Nat.lt_or_ge j k with hj | hj
            · exact Hall.out j h1 h2 hj
            · obtain rfl : j = k := by omega
              exact of_decide_eq_true He.out)
          go_wp2
          go_roundw
          case rel => exact ⟨k + 1, by omega, by go_num, Hb1.out, Hall2.out⟩
          case measure => simp [intOf]; omega
      · have Hf : Hid (d = true) := Lib.hid (by
          rw [← Hd.out, decide_eq_true_iff]
          have := Hn.out
          exact List.ext_getElem this (fun j h1 h2 => Hall.out j h1 h2 (by omega)))
        have hlt2 : ¬ k < qs.length := by have := Hn.out; omega
        clear hbel
        go_wp2
        go_ret
        exact ⟨by rw [Hf.out]; rfl, Hbel.out⟩
  · have Hf : Hid (decide (ps = qs) = false) := Lib.hid (by rw [decide_eq_false_iff_not]; rintro rfl; exact hn rfl)
    have hn' : ((ps.length : Int) == (qs.length : Int)) = false := by simp; omega
    have hn2 : ((ps.length : Int) != (qs.length : Int)) = true := by simp; omega
    have hn3 : ¬ ((ps.length : Int) = (qs.length : Int)) := by omega
    generalize decide (ps = qs) = d at *
    go_enter Try.func47, Try.ntmps47
    go_wp2
    go_ret
    exact ⟨by rw [Hf.out]; rfl, Below.refl _ _⟩
def sameSel (k l : Int) (a1 a2 a3 a4 b1 b2 b3 b4 : List Int) (ps qs : List (List Int)) : Bool := decide (k = l) && (decide (a1 = b1) && (decide (a2 = b2) && (decide (a3 = b3) && (decide (a4 = b4) && decide (ps = qs)))))
set_option maxHeartbeats 2000000 in
set_option maxRecDepth 100000 in
theorem specSameSel_any {B : Nat} {w : World} {k : Int} {v1 u1 : Value} {xs1 ys1 : List Int} {v2 u2 : Value} {xs2 ys2 : List Int} {v3 u3 : Value} {xs3 ys3 : List Int} {v4 u4 : Value} {xs4 ys4 : List Int} {v5 u5 : Value} {xs5 ys5 : List (List Int)} {l : Int} (h1 : Ri B w v1 xs1) (h2 : Ri B w v2 xs2) (h3 : Ri B w v3 xs3) (h4 : Ri B w v4 xs4) (h5 : RiP B w v5 xs5) (g1 : Ri B w u1 ys1) (g2 : Ri B w u2 ys2) (g3 : Ri B w u3 ys3) (g4 : Ri B w u4 ys4) (g5 : RiP B w u5 ys5) (hB : B ≤ w.heap.size) :
    Calls Try.prog 20 #[.agg #[.int .i64 k, v1, v2, v3, v4, v5], .agg #[.int .i64 l, u1, u2, u3, u4, u5]] w (GivesB (.bool (sameSel k l xs1 xs2 xs3 xs4 ys1 ys2 ys3 ys4 xs5 ys5)) w) := by
  have H1 := Lib.hid h1; obtain ⟨A1, c1, rfl, _⟩ := h1
  have G1 := Lib.hid g1; obtain ⟨D1, d1, rfl, _⟩ := g1
  have H2 := Lib.hid h2; obtain ⟨A2, c2, rfl, _⟩ := h2
  have G2 := Lib.hid g2; obtain ⟨D2, d2, rfl, _⟩ := g2
  have H3 := Lib.hid h3; obtain ⟨A3, c3, rfl, _⟩ := h3
  have G3 := Lib.hid g3; obtain ⟨D3, d3, rfl, _⟩ := g3
  have H4 := Lib.hid h4; obtain ⟨A4, c4, rfl, _⟩ := h4
  have G4 := Lib.hid g4; obtain ⟨D4, d4, rfl, _⟩ := g4
  have H5 := Lib.hid h5; obtain ⟨A5, c5, rfl, _⟩ := h5
  have G5 := Lib.hid g5; obtain ⟨D5, d5, rfl, _⟩ := g5
  have Hb0 : Hid (Below w.heap.size w ((w.alloc (.cells #[.int .i64 k, .slice A1 xs1.length c1, .slice A2 xs2.length c2, .slice A3 xs3.length c3, .slice A4 xs4.length c4, .slice A5 xs5.length c5] 30)).alloc (.cells #[.int .i64 l, .slice D1 ys1.length d1, .slice D2 ys2.length d2, .slice D3 ys3.length d3, .slice D4 ys4.length d4, .slice D5 ys5.length d5] 30))) := Lib.hid (((Below.refl _ w).alloc (Nat.le_refl _) _).alloc (by simp) _)
  have C1_0 : Hid (((w.alloc (.cells #[.int .i64 k, .slice A1 xs1.length c1, .slice A2 xs2.length c2, .slice A3 xs3.length c3, .slice A4 xs4.length c4, .slice A5 xs5.length c5] 30)).alloc (.cells #[.int .i64 l, .slice D1 ys1.length d1, .slice D2 ys2.length d2, .slice D3 ys3.length d3, .slice D4 ys4.length d4, .slice D5 ys5.length d5] 30)).cell? ⟨w.heap.size, 1, none⟩ = some (.slice A1 xs1.length c1)) := Lib.hid (by rw [old_cell ((Below.refl _ (w.alloc (.cells #[.int .i64 k, .slice A1 xs1.length c1, .slice A2 xs2.length c2, .slice A3 xs3.length c3, .slice A4 xs4.length c4, .slice A5 xs5.length c5] 30))).alloc (Nat.le_refl _) _) _ _ (by simp), cell_of_row _ _ _ _ _ _ (heap_alloc_new w _)]; rfl)
  have K1_0 : Hid (((w.alloc (.cells #[.int .i64 k, .slice A1 xs1.length c1, .slice A2 xs2.length c2, .slice A3 xs3.length c3, .slice A4 xs4.length c4, .slice A5 xs5.length c5] 30)).alloc (.cells #[.int .i64 l, .slice D1 ys1.length d1, .slice D2 ys2.length d2, .slice D3 ys3.length d3, .slice D4 ys4.length d4, .slice D5 ys5.length d5] 30)).cell? ⟨w.heap.size + 1, 1, none⟩ = some (.slice D1 ys1.length d1)) := Lib.hid (by
    have e : (w.alloc (.cells #[.int .i64 k, .slice A1 xs1.length c1, .slice A2 xs2.length c2, .slice A3 xs3.length c3, .slice A4 xs4.length c4, .slice A5 xs5.length c5] 30)).heap.size = w.heap.size + 1 := by simp
    rw [← e, cell_of_row _ _ _ _ _ _ (heap_alloc_new (w.alloc (.cells #[.int .i64 k, .slice A1 xs1.length c1, .slice A2 xs2.length c2, .slice A3 xs3.length c3, .slice A4 xs4.length c4, .slice A5 xs5.length c5] 30)) _)]; rfl)
  have C2_0 : Hid (((w.alloc (.cells #[.int .i64 k, .slice A1 xs1.length c1, .slice A2 xs2.length c2, .slice A3 xs3.length c3, .slice A4 xs4.length c4, .slice A5 xs5.length c5] 30)).alloc (.cells #[.int .i64 l, .slice D1 ys1.length d1, .slice D2 ys2.length d2, .slice D3 ys3.length d3, .slice D4 ys4.length d4, .slice D5 ys5.length d5] 30)).cell? ⟨w.heap.size, 2, none⟩ = some (.slice A2 xs2.length c2)) := Lib.hid (by rw [old_cell ((Below.refl _ (w.alloc (.cells #[.int .i64 k, .slice A1 xs1.length c1, .slice A2 xs2.length c2, .slice A3 xs3.length c3, .slice A4 xs4.length c4, .slice A5 xs5.length c5] 30))).alloc (Nat.le_refl _) _) _ _ (by simp), cell_of_row _ _ _ _ _ _ (heap_alloc_new w _)]; rfl)
  have K2_0 : Hid (((w.alloc (.cells #[.int .i64 k, .slice A1 xs1.length c1, .slice A2 xs2.length c2, .slice A3 xs3.length c3, .slice A4 xs4.length c4, .slice A5 xs5.length c5] 30)).alloc (.cells #[.int .i64 l, .slice D1 ys1.length d1, .slice D2 ys2.length d2, .slice D3 ys3.length d3, .slice D4 ys4.length d4, .slice D5 ys5.length d5] 30)).cell? ⟨w.heap.size + 1, 2, none⟩ = some (.slice D2 ys2.length d2)) := Lib.hid (by
    have e : (w.alloc (.cells #[.int .i64 k, .slice A1 xs1.length c1, .slice A2 xs2.length c2, .slice A3 xs3.length c3, .slice A4 xs4.length c4, .slice A5 xs5.length c5] 30)).heap.size = w.heap.size + 1 := by simp
    rw [← e, cell_of_row _ _ _ _ _ _ (heap_alloc_new (w.alloc (.cells #[.int .i64 k, .slice A1 xs1.length c1, .slice A2 xs2.length c2, .slice A3 xs3.length c3, .slice A4 xs4.length c4, .slice A5 xs5.length c5] 30)) _)]; rfl)
  have C3_0 : Hid (((w.alloc (.cells #[.int .i64 k, .slice A1 xs1.length c1, .slice A2 xs2.length c2, .slice A3 xs3.length c3, .slice A4 xs4.length c4, .slice A5 xs5.length c5] 30)).alloc (.cells #[.int .i64 l, .slice D1 ys1.length d1, .slice D2 ys2.length d2, .slice D3 ys3.length d3, .slice D4 ys4.length d4, .slice D5 ys5.length d5] 30)).cell? ⟨w.heap.size, 3, none⟩ = some (.slice A3 xs3.length c3)) := Lib.hid (by rw [old_cell ((Below.refl _ (w.alloc (.cells #[.int .i64 k, .slice A1 xs1.length c1, .slice A2 xs2.length c2, .slice A3 xs3.length c3, .slice A4 xs4.length c4, .slice A5 xs5.length c5] 30))).alloc (Nat.le_refl _) _) _ _ (by simp), cell_of_row _ _ _ _ _ _ (heap_alloc_new w _)]; rfl)
  have K3_0 : Hid (((w.alloc (.cells #[.int .i64 k, .slice A1 xs1.length c1, .slice A2 xs2.length c2, .slice A3 xs3.length c3, .slice A4 xs4.length c4, .slice A5 xs5.length c5] 30)).alloc (.cells #[.int .i64 l, .slice D1 ys1.length d1, .slice D2 ys2.length d2, .slice D3 ys3.length d3, .slice D4 ys4.length d4, .slice D5 ys5.length d5] 30)).cell? ⟨w.heap.size + 1, 3, none⟩ = some (.slice D3 ys3.length d3)) := Lib.hid (by
    have e : (w.alloc (.cells #[.int .i64 k, .slice A1 xs1.length c1, .slice A2 xs2.length c2, .slice A3 xs3.length c3, .slice A4 xs4.length c4, .slice A5 xs5.length c5] 30)).heap.size = w.heap.size + 1 := by simp
    rw [← e, cell_of_row _ _ _ _ _ _ (heap_alloc_new (w.alloc (.cells #[.int .i64 k, .slice A1 xs1.length c1, .slice A2 xs2.length c2, .slice A3 xs3.length c3, .slice A4 xs4.length c4, .slice A5 xs5.length c5] 30)) _)]; rfl)
  have C4_0 : Hid (((w.alloc (.cells #[.int .i64 k, .slice A1 xs1.length c1, .slice A2 xs2.length c2, .slice A3 xs3.length c3, .slice A4 xs4.length c4, .slice A5 xs5.length c5] 30)).alloc (.cells #[.int .i64 l, .slice D1 ys1.length d1, .slice D2 ys2.length d2, .slice D3 ys3.length d3, .slice D4 ys4.length d4, .slice D5 ys5.length d5] 30)).cell? ⟨w.heap.size, 4, none⟩ = some (.slice A4 xs4.length c4)) := Lib.hid (by rw [old_cell ((Below.refl _ (w.alloc (.cells #[.int .i64 k, .slice A1 xs1.length c1, .slice A2 xs2.length c2, .slice A3 xs3.length c3, .slice A4 xs4.length c4, .slice A5 xs5.length c5] 30))).alloc (Nat.le_refl _) _) _ _ (by simp), cell_of_row _ _ _ _ _ _ (heap_alloc_new w _)]; rfl)
  have K4_0 : Hid (((w.alloc (.cells #[.int .i64 k, .slice A1 xs1.length c1, .slice A2 xs2.length c2, .slice A3 xs3.length c3, .slice A4 xs4.length c4, .slice A5 xs5.length c5] 30)).alloc (.cells #[.int .i64 l, .slice D1 ys1.length d1, .slice D2 ys2.length d2, .slice D3 ys3.length d3, .slice D4 ys4.length d4, .slice D5 ys5.length d5] 30)).cell? ⟨w.heap.size + 1, 4, none⟩ = some (.slice D4 ys4.length d4)) := Lib.hid (by
    have e : (w.alloc (.cells #[.int .i64 k, .slice A1 xs1.length c1, .slice A2 xs2.length c2, .slice A3 xs3.length c3, .slice A4 xs4.length c4, .slice A5 xs5.length c5] 30)).heap.size = w.heap.size + 1 := by simp
    rw [← e, cell_of_row _ _ _ _ _ _ (heap_alloc_new (w.alloc (.cells #[.int .i64 k, .slice A1 xs1.length c1, .slice A2 xs2.length c2, .slice A3 xs3.length c3, .slice A4 xs4.length c4, .slice A5 xs5.length c5] 30)) _)]; rfl)
  have C5_0 : Hid (((w.alloc (.cells #[.int .i64 k, .slice A1 xs1.length c1, .slice A2 xs2.length c2, .slice A3 xs3.length c3, .slice A4 xs4.length c4, .slice A5 xs5.length c5] 30)).alloc (.cells #[.int .i64 l, .slice D1 ys1.length d1, .slice D2 ys2.length d2, .slice D3 ys3.length d3, .slice D4 ys4.length d4, .slice D5 ys5.length d5] 30)).cell? ⟨w.heap.size, 5, none⟩ = some (.slice A5 xs5.length c5)) := Lib.hid (by rw [old_cell ((Below.refl _ (w.alloc (.cells #[.int .i64 k, .slice A1 xs1.length c1, .slice A2 xs2.length c2, .slice A3 xs3.length c3, .slice A4 xs4.length c4, .slice A5 xs5.length c5] 30))).alloc (Nat.le_refl _) _) _ _ (by simp), cell_of_row _ _ _ _ _ _ (heap_alloc_new w _)]; rfl)
  have K5_0 : Hid (((w.alloc (.cells #[.int .i64 k, .slice A1 xs1.length c1, .slice A2 xs2.length c2, .slice A3 xs3.length c3, .slice A4 xs4.length c4, .slice A5 xs5.length c5] 30)).alloc (.cells #[.int .i64 l, .slice D1 ys1.length d1, .slice D2 ys2.length d2, .slice D3 ys3.length d3, .slice D4 ys4.length d4, .slice D5 ys5.length d5] 30)).cell? ⟨w.heap.size + 1, 5, none⟩ = some (.slice D5 ys5.length d5)) := Lib.hid (by
    have e : (w.alloc (.cells #[.int .i64 k, .slice A1 xs1.length c1, .slice A2 xs2.length c2, .slice A3 xs3.length c3, .slice A4 xs4.length c4, .slice A5 xs5.length c5] 30)).heap.size = w.heap.size + 1 := by simp
    rw [← e, cell_of_row _ _ _ _ _ _ (heap_alloc_new (w.alloc (.cells #[.int .i64 k, .slice A1 xs1.length c1, .slice A2 xs2.length c2, .slice A3 xs3.length c3, .slice A4 xs4.length c4, .slice A5 xs5.length c5] 30)) _)]; rfl)
  have Lt0 : Hid (w.heap.size + 1 < ((w.alloc (.cells #[.int .i64 k, .slice A1 xs1.length c1, .slice A2 xs2.length c2, .slice A3 xs3.length c3, .slice A4 xs4.length c4, .slice A5 xs5.length c5] 30)).alloc (.cells #[.int .i64 l, .slice D1 ys1.length d1, .slice D2 ys2.length d2, .slice D3 ys3.length d3, .slice D4 ys4.length d4, .slice D5 ys5.length d5] 30)).heap.size) := Lib.hid (by simp)
  generalize hr : sameSel k l xs1 xs2 xs3 xs4 ys1 ys2 ys3 ys4 xs5 ys5 = r
  unfold sameSel at hr
  generalize hd1 : decide (xs1 = ys1) = e1 at hr
  have Hd1 := Lib.hid hd1; clear hd1
  generalize hd2 : decide (xs2 = ys2) = e2 at hr
  have Hd2 := Lib.hid hd2; clear hd2
  generalize hd3 : decide (xs3 = ys3) = e3 at hr
  have Hd3 := Lib.hid hd3; clear hd3
  generalize hd4 : decide (xs4 = ys4) = e4 at hr
  have Hd4 := Lib.hid hd4; clear hd4
  generalize hd5 : decide (xs5 = ys5) = e5 at hr
  have Hd5 := Lib.hid hd5; clear hd5
  have Hr := Lib.hid hr; clear hr
  by_cases hk : k = l
  rotate_left
  · have Hf : Hid (r = false) := Lib.hid (by rw [← Hr.out]; simp [hk])
    have q1 : (k == l) = false := by simpa using hk
    clear hk
    go_enter Try.func20, Try.ntmps20
    go_wp2_with fail
    go_ret
    exact ⟨by rw [Hf.out]; rfl, Hb0.out⟩
  have Hr2 : Hid (r = (e1 && (e2 && (e3 && (e4 && e5))))) := Lib.hid (by rw [← Hr.out]; simp [hk])
  have q1 : (k == l) = true := by simpa using hk
  clear hk Hr
  go_enter Try.func20, Try.ntmps20
  go_wp2_with fail
  generalize ((w.alloc (.cells #[.int .i64 k, .slice A1 xs1.length c1, .slice A2 xs2.length c2, .slice A3 xs3.length c3, .slice A4 xs4.length c4, .slice A5 xs5.length c5] 30)).alloc (.cells #[.int .i64 l, .slice D1 ys1.length d1, .slice D2 ys2.length d2, .slice D3 ys3.length d3, .slice D4 ys4.length d4, .slice D5 ys5.length d5] 30)) = w0 at *
  refine (Hd1.out ▸ l00Same_any (H1.out.at hB Hb0.out) (G1.out.at hB Hb0.out) (Nat.le_refl _)).mono ?_
  rintro e w1 ⟨rfl, g⟩
  have Hb1 : Hid (Below w.heap.size w w1) := Lib.hid (Hb0.out.trans (g.mono Hb0.out.size))
  have Lt1 : Hid (w.heap.size + 1 < w1.heap.size) := Lib.hid (by have := Lt0.out; have := g.size; omega)
  have C2_1 : Hid (w1.cell? ⟨w.heap.size, 2, none⟩ = some (.slice A2 xs2.length c2)) := Lib.hid ((g.cell (p := ⟨w.heap.size, 2, none⟩) (show w.heap.size < _ from by have := Lt0.out; omega)).trans C2_0.out)
  have K2_1 : Hid (w1.cell? ⟨w.heap.size + 1, 2, none⟩ = some (.slice D2 ys2.length d2)) := Lib.hid ((g.cell (p := ⟨w.heap.size + 1, 2, none⟩) Lt0.out).trans K2_0.out)
  have C3_1 : Hid (w1.cell? ⟨w.heap.size, 3, none⟩ = some (.slice A3 xs3.length c3)) := Lib.hid ((g.cell (p := ⟨w.heap.size, 3, none⟩) (show w.heap.size < _ from by have := Lt0.out; omega)).trans C3_0.out)
  have K3_1 : Hid (w1.cell? ⟨w.heap.size + 1, 3, none⟩ = some (.slice D3 ys3.length d3)) := Lib.hid ((g.cell (p := ⟨w.heap.size + 1, 3, none⟩) Lt0.out).trans K3_0.out)
  have C4_1 : Hid (w1.cell? ⟨w.heap.size, 4, none⟩ = some (.slice A4 xs4.length c4)) := Lib.hid ((g.cell (p := ⟨w.heap.size, 4, none⟩) (show w.heap.size < _ from by have := Lt0.out; omega)).trans C4_0.out)
  have K4_1 : Hid (w1.cell? ⟨w.heap.size + 1, 4, none⟩ = some (.slice D4 ys4.length d4)) := Lib.hid ((g.cell (p := ⟨w.heap.size + 1, 4, none⟩) Lt0.out).trans K4_0.out)
  have C5_1 : Hid (w1.cell? ⟨w.heap.size, 5, none⟩ = some (.slice A5 xs5.length c5)) := Lib.hid ((g.cell (p := ⟨w.heap.size, 5, none⟩) (show w.heap.size < _ from by have := Lt0.out; omega)).trans C5_0.out)
  have K5_1 : Hid (w1.cell? ⟨w.heap.size + 1, 5, none⟩ = some (.slice D5 ys5.length d5)) := Lib.hid ((g.cell (p := ⟨w.heap.size + 1, 5, none⟩) Lt0.out).trans K5_0.out)
  clear g
  have q1 := C2_1.out; have q2 := K2_1.out
  cases e1
  · have Hf : Hid (r = false) := Lib.hid (by rw [Hr2.out]; simp)
    go_wp2_with fail
    go_ret
    exact ⟨by rw [Hf.out]; rfl, Hb1.out⟩
  go_wp2_with fail
  clear q1 q2
  refine (Hd2.out ▸ l00Same_any (H2.out.at hB Hb1.out) (G2.out.at hB Hb1.out) (Nat.le_refl _)).mono ?_
  rintro e w2 ⟨rfl, g⟩
  have Hb2 : Hid (Below w.heap.size w w2) := Lib.hid (Hb1.out.trans (g.mono Hb1.out.size))
  have Lt2 : Hid (w.heap.size + 1 < w2.heap.size) := Lib.hid (by have := Lt1.out; have := g.size; omega)
  have C3_2 : Hid (w2.cell? ⟨w.heap.size, 3, none⟩ = some (.slice A3 xs3.length c3)) := Lib.hid ((g.cell (p := ⟨w.heap.size, 3, none⟩) (show w.heap.size < _ from by have := Lt1.out; omega)).trans C3_1.out)
  have K3_2 : Hid (w2.cell? ⟨w.heap.size + 1, 3, none⟩ = some (.slice D3 ys3.length d3)) := Lib.hid ((g.cell (p := ⟨w.heap.size + 1, 3, none⟩) Lt1.out).trans K3_1.out)
  have C4_2 : Hid (w2.cell? ⟨w.heap.size, 4, none⟩ = some (.slice A4 xs4.length c4)) := Lib.hid ((g.cell (p := ⟨w.heap.size, 4, none⟩) (show w.heap.size < _ from by have := Lt1.out; omega)).trans C4_1.out)
  have K4_2 : Hid (w2.cell? ⟨w.heap.size + 1, 4, none⟩ = some (.slice D4 ys4.length d4)) := Lib.hid ((g.cell (p := ⟨w.heap.size + 1, 4, none⟩) Lt1.out).trans K4_1.out)
  have C5_2 : Hid (w2.cell? ⟨w.heap.size, 5, none⟩ = some (.slice A5 xs5.length c5)) := Lib.hid ((g.cell (p := ⟨w.heap.size, 5, none⟩) (show w.heap.size < _ from by have := Lt1.out; omega)).trans C5_1.out)
  have K5_2 : Hid (w2.cell? ⟨w.heap.size + 1, 5, none⟩ = some (.slice D5 ys5.length d5)) := Lib.hid ((g.cell (p := ⟨w.heap.size + 1, 5, none⟩) Lt1.out).trans K5_1.out)
  clear g
  have q1 := C3_2.out; have q2 := K3_2.out
  cases e2
  · have Hf : Hid (r = false) := Lib.hid (by rw [Hr2.out]; simp)
    go_wp2_with fail
    go_ret
    exact ⟨by rw [Hf.out]; rfl, Hb2.out⟩
  go_wp2_with fail
  clear q1 q2
  refine (Hd3.out ▸ l00Same_any (H3.out.at hB Hb2.out) (G3.out.at hB Hb2.out) (Nat.le_refl _)).mono ?_
  rintro e w3 ⟨rfl, g⟩
  have Hb3 : Hid (Below w.heap.size w w3) := Lib.hid (Hb2.out.trans (g.mono Hb2.out.size))
  have Lt3 : Hid (w.heap.size + 1 < w3.heap.size) := Lib.hid (by have := Lt2.out; have := g.size; omega)
  have C4_3 : Hid (w3.cell? ⟨w.heap.size, 4, none⟩ = some (.slice A4 xs4.length c4)) := Lib.hid ((g.cell (p := ⟨w.heap.size, 4, none⟩) (show w.heap.size < _ from by have := Lt2.out; omega)).trans C4_2.out)
  have K4_3 : Hid (w3.cell? ⟨w.heap.size + 1, 4, none⟩ = some (.slice D4 ys4.length d4)) := Lib.hid ((g.cell (p := ⟨w.heap.size + 1, 4, none⟩) Lt2.out).trans K4_2.out)
  have C5_3 : Hid (w3.cell? ⟨w.heap.size, 5, none⟩ = some (.slice A5 xs5.length c5)) := Lib.hid ((g.cell (p := ⟨w.heap.size, 5, none⟩) (show w.heap.size < _ from by have := Lt2.out; omega)).trans C5_2.out)
  have K5_3 : Hid (w3.cell? ⟨w.heap.size + 1, 5, none⟩ = some (.slice D5 ys5.length d5)) := Lib.hid ((g.cell (p := ⟨w.heap.size + 1, 5, none⟩) Lt2.out).trans K5_2.out)
  clear g
  have q1 := C4_3.out; have q2 := K4_3.out
  cases e3
  · have Hf : Hid (r = false) := Lib.hid (by rw [Hr2.out]; simp)
    go_wp2_with fail
    go_ret
    exact ⟨by rw [Hf.out]; rfl, Hb3.out⟩
  go_wp2_with fail
  clear q1 q2
  refine (Hd4.out ▸ l00Same_any (H4.out.at hB Hb3.out) (G4.out.at hB Hb3.out) (Nat.le_refl _)).mono ?_
  rintro e w4 ⟨rfl, g⟩
  have Hb4 : Hid (Below w.heap.size w w4) := Lib.hid (Hb3.out.trans (g.mono Hb3.out.size))
  have Lt4 : Hid (w.heap.size + 1 < w4.heap.size) := Lib.hid (by have := Lt3.out; have := g.size; omega)
  have C5_4 : Hid (w4.cell? ⟨w.heap.size, 5, none⟩ = some (.slice A5 xs5.length c5)) := Lib.hid ((g.cell (p := ⟨w.heap.size, 5, none⟩) (show w.heap.size < _ from by have := Lt3.out; omega)).trans C5_3.out)
  have K5_4 : Hid (w4.cell? ⟨w.heap.size + 1, 5, none⟩ = some (.slice D5 ys5.length d5)) := Lib.hid ((g.cell (p := ⟨w.heap.size + 1, 5, none⟩) Lt3.out).trans K5_3.out)
  clear g
  have q1 := C5_4.out; have q2 := K5_4.out
  cases e4
  · have Hf : Hid (r = false) := Lib.hid (by rw [Hr2.out]; simp)
    go_wp2_with fail
    go_ret
    exact ⟨by rw [Hf.out]; rfl, Hb4.out⟩
  go_wp2_with fail
  clear q1 q2
  refine (Hd5.out ▸ l06SamePoints_any (H5.out.at hB Hb4.out) (G5.out.at hB Hb4.out) (Nat.le_refl _)).mono ?_
  rintro e w5 ⟨rfl, g⟩
  have Hb5 : Hid (Below w.heap.size w w5) := Lib.hid (Hb4.out.trans (g.mono Hb4.out.size))
  have Lt5 : Hid (w.heap.size + 1 < w5.heap.size) := Lib.hid (by have := Lt4.out; have := g.size; omega)
  clear g
  have Hf : Hid (r = e5) := Lib.hid (by rw [Hr2.out]; simp)
  go_wp2_with fail
  go_ret
  exact ⟨by rw [Hf.out]; rfl, Hb5.out⟩
set_option maxHeartbeats 2000000 in
set_option maxRecDepth 100000 in
theorem implSameSel_any {B : Nat} {w : World} {k : Int} {v1 u1 : Value} {xs1 ys1 : List Int} {v2 u2 : Value} {xs2 ys2 : List Int} {v3 u3 : Value} {xs3 ys3 : List Int} {v4 u4 : Value} {xs4 ys4 : List Int} {v5 u5 : Value} {xs5 ys5 : List (List Int)} {l : Int} (h1 : Ri B w v1 xs1) (h2 : Ri B w v2 xs2) (h3 : Ri B w v3 xs3) (h4 : Ri B w v4 xs4) (h5 : RiP B w v5 xs5) (g1 : Ri B w u1 ys1) (g2 : Ri B w u2 ys2) (g3 : Ri B w u3 ys3) (g4 : Ri B w u4 ys4) (g5 : RiP B w u5 ys5) (hB : B ≤ w.heap.size) :
    Calls Try.prog 21 #[.agg #[.int .i64 k, v1, v2, v3, v4, v5], .agg #[.int .i64 l, u1, u2, u3, u4, u5]] w (GivesB (.bool (sameSel k l xs1 xs2 xs3 xs4 ys1 ys2 ys3 ys4 xs5 ys5)) w) := by
  have H1 := Lib.hid h1; obtain ⟨A1, c1, rfl, _⟩ := h1
  have G1 := Lib.hid g1; obtain ⟨D1, d1, rfl, _⟩ := g1
  have H2 := Lib.hid h2; obtain ⟨A2, c2, rfl, _⟩ := h2
  have G2 := Lib.hid g2; obtain ⟨D2, d2, rfl, _⟩ := g2
  have H3 := Lib.hid h3; obtain ⟨A3, c3, rfl, _⟩ := h3
  have G3 := Lib.hid g3; obtain ⟨D3, d3, rfl, _⟩ := g3
  have H4 := Lib.hid h4; obtain ⟨A4, c4, rfl, _⟩ := h4
  have G4 := Lib.hid g4; obtain ⟨D4, d4, rfl, _⟩ := g4
  have H5 := Lib.hid h5; obtain ⟨A5, c5, rfl, _⟩ := h5
  have G5 := Lib.hid g5; obtain ⟨D5, d5, rfl, _⟩ := g5
  have Hb0 : Hid (Below w.heap.size w ((w.alloc (.cells #[.int .i64 k, .slice A1 xs1.length c1, .slice A2 xs2.length c2, .slice A3 xs3.length c3, .slice A4 xs4.length c4, .slice A5 xs5.length c5] 30)).alloc (.cells #[.int .i64 l, .slice D1 ys1.length d1, .slice D2 ys2.length d2, .slice D3 ys3.length d3, .slice D4 ys4.length d4, .slice D5 ys5.length d5] 30))) := Lib.hid (((Below.refl _ w).alloc (Nat.le_refl _) _).alloc (by simp) _)
  have C1_0 : Hid (((w.alloc (.cells #[.int .i64 k, .slice A1 xs1.length c1, .slice A2 xs2.length c2, .slice A3 xs3.length c3, .slice A4 xs4.length c4, .slice A5 xs5.length c5] 30)).alloc (.cells #[.int .i64 l, .slice D1 ys1.length d1, .slice D2 ys2.length d2, .slice D3 ys3.length d3, .slice D4 ys4.length d4, .slice D5 ys5.length d5] 30)).cell? ⟨w.heap.size, 1, none⟩ = some (.slice A1 xs1.length c1)) := Lib.hid (by rw [old_cell ((Below.refl _ (w.alloc (.cells #[.int .i64 k, .slice A1 xs1.length c1, .slice A2 xs2.length c2, .slice A3 xs3.length c3, .slice A4 xs4.length c4, .slice A5 xs5.length c5] 30))).alloc (Nat.le_refl _) _) _ _ (by simp), cell_of_row _ _ _ _ _ _ (heap_alloc_new w _)]; rfl)
  have K1_0 : Hid (((w.alloc (.cells #[.int .i64 k, .slice A1 xs1.length c1, .slice A2 xs2.length c2, .slice A3 xs3.length c3, .slice A4 xs4.length c4, .slice A5 xs5.length c5] 30)).alloc (.cells #[.int .i64 l, .slice D1 ys1.length d1, .slice D2 ys2.length d2, .slice D3 ys3.length d3, .slice D4 ys4.length d4, .slice D5 ys5.length d5] 30)).cell? ⟨w.heap.size + 1, 1, none⟩ = some (.slice D1 ys1.length d1)) := Lib.hid (by
    have e : (w.alloc (.cells #[.int .i64 k, .slice A1 xs1.length c1, .slice A2 xs2.length c2, .slice A3 xs3.length c3, .slice A4 xs4.length c4, .slice A5 xs5.length c5] 30)).heap.size = w.heap.size + 1 := by simp
    rw [← e, cell_of_row _ _ _ _ _ _ (heap_alloc_new (w.alloc (.cells #[.int .i64 k, .slice A1 xs1.length c1, .slice A2 xs2.length c2, .slice A3 xs3.length c3, .slice A4 xs4.length c4, .slice A5 xs5.length c5] 30)) _)]; rfl)
  have C2_0 : Hid (((w.alloc (.cells #[.int .i64 k, .slice A1 xs1.length c1, .slice A2 xs2.length c2, .slice A3 xs3.length c3, .slice A4 xs4.length c4, .slice A5 xs5.length c5] 30)).alloc (.cells #[.int .i64 l, .slice D1 ys1.length d1, .slice D2 ys2.length d2, .slice D3 ys3.length d3, .slice D4 ys4.length d4, .slice D5 ys5.length d5] 30)).cell? ⟨w.heap.size, 2, none⟩ = some (.slice A2 xs2.length c2)) := Lib.hid (by rw [old_cell ((Below.refl _ (w.alloc (.cells #[.int .i64 k, .slice A1 xs1.length c1, .slice A2 xs2.length c2, .slice A3 xs3.length c3, .slice A4 xs4.length c4, .slice A5 xs5.length c5] 30))).alloc (Nat.le_refl _) _) _ _ (by simp), cell_of_row _ _ _ _ _ _ (heap_alloc_new w _)]; rfl)
  have K2_0 : Hid (((w.alloc (.cells #[.int .i64 k, .slice A1 xs1.length c1, .slice A2 xs2.length c2, .slice A3 xs3.length c3, .slice A4 xs4.length c4, .slice A5 xs5.length c5] 30)).alloc (.cells #[.int .i64 l, .slice D1 ys1.length d1, .slice D2 ys2.length d2, .slice D3 ys3.length d3, .slice D4 ys4.length d4, .slice D5 ys5.length d5] 30)).cell? ⟨w.heap.size + 1, 2, none⟩ = some (.slice D2 ys2.length d2)) := Lib.hid (by
    have e : (w.alloc (.cells #[.int .i64 k, .slice A1 xs1.length c1, .slice A2 xs2.length c2, .slice A3 xs3.length c3, .slice A4 xs4.length c4, .slice A5 xs5.length c5] 30)).heap.size = w.heap.size + 1 := by simp
    rw [← e, cell_of_row _ _ _ _ _ _ (heap_alloc_new (w.alloc (.cells #[.int .i64 k, .slice A1 xs1.length c1, .slice A2 xs2.length c2, .slice A3 xs3.length c3, .slice A4 xs4.length c4, .slice A5 xs5.length c5] 30)) _)]; rfl)
  have C3_0 : Hid (((w.alloc (.cells #[.int .i64 k, .slice A1 xs1.length c1, .slice A2 xs2.length c2, .slice A3 xs3.length c3, .slice A4 xs4.length c4, .slice A5 xs5.length c5] 30)).alloc (.cells #[.int .i64 l, .slice D1 ys1.length d1, .slice D2 ys2.length d2, .slice D3 ys3.length d3, .slice D4 ys4.length d4, .slice D5 ys5.length d5] 30)).cell? ⟨w.heap.size, 3, none⟩ = some (.slice A3 xs3.length c3)) := Lib.hid (by rw [old_cell ((Below.refl _ (w.alloc (.cells #[.int .i64 k, .slice A1 xs1.length c1, .slice A2 xs2.length c2, .slice A3 xs3.length c3, .slice A4 xs4.length c4, .slice A5 xs5.length c5] 30))).alloc (Nat.le_refl _) _) _ _ (by simp), cell_of_row _ _ _ _ _ _ (heap_alloc_new w _)]; rfl)
  have K3_0 : Hid (((w.alloc (.cells #[.int .i64 k, .slice A1 xs1.length c1, .slice A2 xs2.length c2, .slice A3 xs3.length c3, .slice A4 xs4.length c4, .slice A5 xs5.length c5] 30)).alloc (.cells #[.int .i64 l, .slice D1 ys1.length d1, .slice D2 ys2.length d2, .slice D3 ys3.length d3, .slice D4 ys4.length d4, .slice D5 ys5.length d5] 30)).cell? ⟨w.heap.size + 1, 3, none⟩ = some (.slice D3 ys3.length d3)) := Lib.hid (by
    have e : (w.alloc (.cells #[.int .i64 k, .slice A1 xs1.length c1, .slice A2 xs2.length c2, .slice A3 xs3.length c3, .slice A4 xs4.length c4, .slice A5 xs5.length c5] 30)).heap.size = w.heap.size + 1 := by simp
    rw [← e, cell_of_row _ _ _ _ _ _ (heap_alloc_new (w.alloc (.cells #[.int .i64 k, .slice A1 xs1.length c1, .slice A2 xs2.length c2, .slice A3 xs3.length c3, .slice A4 xs4.length c4, .slice A5 xs5.length c5] 30)) _)]; rfl)
  have C4_0 : Hid (((w.alloc (.cells #[.int .i64 k, .slice A1 xs1.length c1, .slice A2 xs2.length c2, .slice A3 xs3.length c3, .slice A4 xs4.length c4, .slice A5 xs5.length c5] 30)).alloc (.cells #[.int .i64 l, .slice D1 ys1.length d1, .slice D2 ys2.length d2, .slice D3 ys3.length d3, .slice D4 ys4.length d4, .slice D5 ys5.length d5] 30)).cell? ⟨w.heap.size, 4, none⟩ = some (.slice A4 xs4.length c4)) := Lib.hid (by rw [old_cell ((Below.refl _ (w.alloc (.cells #[.int .i64 k, .slice A1 xs1.length c1, .slice A2 xs2.length c2, .slice A3 xs3.length c3, .slice A4 xs4.length c4, .slice A5 xs5.length c5] 30))).alloc (Nat.le_refl _) _) _ _ (by simp), cell_of_row _ _ _ _ _ _ (heap_alloc_new w _)]; rfl)
  have K4_0 : Hid (((w.alloc (.cells #[.int .i64 k, .slice A1 xs1.length c1, .slice A2 xs2.length c2, .slice A3 xs3.length c3, .slice A4 xs4.length c4, .slice A5 xs5.length c5] 30)).alloc (.cells #[.int .i64 l, .slice D1 ys1.length d1, .slice D2 ys2.length d2, .slice D3 ys3.length d3, .slice D4 ys4.length d4, .slice D5 ys5.length d5] 30)).cell? ⟨w.heap.size + 1, 4, none⟩ = some (.slice D4 ys4.length d4)) := Lib.hid (by
    have e : (w.alloc (.cells #[.int .i64 k, .slice A1 xs1.length c1, .slice A2 xs2.length c2, .slice A3 xs3.length c3, .slice A4 xs4.length c4, .slice A5 xs5.length c5] 30)).heap.size = w.heap.size + 1 := by simp
    rw [← e, cell_of_row _ _ _ _ _ _ (heap_alloc_new (w.alloc (.cells #[.int .i64 k, .slice A1 xs1.length c1, .slice A2 xs2.length c2, .slice A3 xs3.length c3, .slice A4 xs4.length c4, .slice A5 xs5.length c5] 30)) _)]; rfl)
  have C5_0 : Hid (((w.alloc (.cells #[.int .i64 k, .slice A1 xs1.length c1, .slice A2 xs2.length c2, .slice A3 xs3.length c3, .slice A4 xs4.length c4, .slice A5 xs5.length c5] 30)).alloc (.cells #[.int .i64 l, .slice D1 ys1.length d1, .slice D2 ys2.length d2, .slice D3 ys3.length d3, .slice D4 ys4.length d4, .slice D5 ys5.length d5] 30)).cell? ⟨w.heap.size, 5, none⟩ = some (.slice A5 xs5.length c5)) := Lib.hid (by rw [old_cell ((Below.refl _ (w.alloc (.cells #[.int .i64 k, .slice A1 xs1.length c1, .slice A2 xs2.length c2, .slice A3 xs3.length c3, .slice A4 xs4.length c4, .slice A5 xs5.length c5] 30))).alloc (Nat.le_refl _) _) _ _ (by simp), cell_of_row _ _ _ _ _ _ (heap_alloc_new w _)]; rfl)
  have K5_0 : Hid (((w.alloc (.cells #[.int .i64 k, .slice A1 xs1.length c1, .slice A2 xs2.length c2, .slice A3 xs3.length c3, .slice A4 xs4.length c4, .slice A5 xs5.length c5] 30)).alloc (.cells #[.int .i64 l, .slice D1 ys1.length d1, .slice D2 ys2.length d2, .slice D3 ys3.length d3, .slice D4 ys4.length d4, .slice D5 ys5.length d5] 30)).cell? ⟨w.heap.size + 1, 5, none⟩ = some (.slice D5 ys5.length d5)) := Lib.hid (by
    have e : (w.alloc (.cells #[.int .i64 k, .slice A1 xs1.length c1, .slice A2 xs2.length c2, .slice A3 xs3.length c3, .slice A4 xs4.length c4, .slice A5 xs5.length c5] 30)).heap.size = w.heap.size + 1 := by simp
    rw [← e, cell_of_row _ _ _ _ _ _ (heap_alloc_new (w.alloc (.cells #[.int .i64 k, .slice A1 xs1.length c1, .slice A2 xs2.length c2, .slice A3 xs3.length c3, .slice A4 xs4.length c4, .slice A5 xs5.length c5] 30)) _)]; rfl)
  have Lt0 : Hid (w.heap.size + 1 < ((w.alloc (.cells #[.int .i64 k, .slice A1 xs1.length c1, .slice A2 xs2.length c2, .slice A3 xs3.length c3, .slice A4 xs4.length c4, .slice A5 xs5.length c5] 30)).alloc (.cells #[.int .i64 l, .slice D1 ys1.length d1, .slice D2 ys2.length d2, .slice D3 ys3.length d3, .slice D4 ys4.length d4, .slice D5 ys5.length d5] 30)).heap.size) := Lib.hid (by simp)
  generalize hr : sameSel k l xs1 xs2 xs3 xs4 ys1 ys2 ys3 ys4 xs5 ys5 = r
  unfold sameSel at hr
  generalize hd1 : decide (xs1 = ys1) = e1 at hr
  have Hd1 := Lib.hid hd1; clear hd1
  generalize hd2 : decide (xs2 = ys2) = e2 at hr
  have Hd2 := Lib.hid hd2; clear hd2
  generalize hd3 : decide (xs3 = ys3) = e3 at hr
  have Hd3 := Lib.hid hd3; clear hd3
  generalize hd4 : decide (xs4 = ys4) = e4 at hr
  have Hd4 := Lib.hid hd4; clear hd4
  generalize hd5 : decide (xs5 = ys5) = e5 at hr
  have Hd5 := Lib.hid hd5; clear hd5
  have Hr := Lib.hid hr; clear hr
  by_cases hk : k = l
  rotate_left
  · have Hf : Hid (r = false) := Lib.hid (by rw [← Hr.out]; simp [hk])
    have q1 : (k == l) = false := by simpa using hk
    clear hk
    go_enter Try.func21, Try.ntmps21
    go_wp2_with fail
    go_ret
    exact ⟨by rw [Hf.out]; rfl, Hb0.out⟩
  have Hr2 : Hid (r = (e1 && (e2 && (e3 && (e4 && e5))))) := Lib.hid (by rw [← Hr.out]; simp [hk])
  have q1 : (k == l) = true := by simpa using hk
  clear hk Hr
  go_enter Try.func21, Try.ntmps21
  go_wp2_with fail
  generalize ((w.alloc (.cells #[.int .i64 k, .slice A1 xs1.length c1, .slice A2 xs2.length c2, .slice A3 xs3.length c3, .slice A4 xs4.length c4, .slice A5 xs5.length c5] 30)).alloc (.cells #[.int .i64 l, .slice D1 ys1.length d1, .slice D2 ys2.length d2, .slice D3 ys3.length d3, .slice D4 ys4.length d4, .slice D5 ys5.length d5] 30)) = w0 at *
  refine (Hd1.out ▸ slEqual_any (H1.out.at hB Hb0.out) (G1.out.at hB Hb0.out) (Nat.le_refl _)).mono ?_
  rintro e w1 ⟨rfl, g⟩
  have Hb1 : Hid (Below w.heap.size w w1) := Lib.hid (Hb0.out.trans (g.mono Hb0.out.size))
  have Lt1 : Hid (w.heap.size + 1 < w1.heap.size) := Lib.hid (by have := Lt0.out; have := g.size; omega)
  have C2_1 : Hid (w1.cell? ⟨w.heap.size, 2, none⟩ = some (.slice A2 xs2.length c2)) := Lib.hid ((g.cell (p := ⟨w.heap.size, 2, none⟩) (show w.heap.size < _ from by have := Lt0.out; omega)).trans C2_0.out)
  have K2_1 : Hid (w1.cell? ⟨w.heap.size + 1, 2, none⟩ = some (.slice D2 ys2.length d2)) := Lib.hid ((g.cell (p := ⟨w.heap.size + 1, 2, none⟩) Lt0.out).trans K2_0.out)
  have C3_1 : Hid (w1.cell? ⟨w.heap.size, 3, none⟩ = some (.slice A3 xs3.length c3)) := Lib.hid ((g.cell (p := ⟨w.heap.size, 3, none⟩) (show w.heap.size < _ from by have := Lt0.out; omega)).trans C3_0.out)
  have K3_1 : Hid (w1.cell? ⟨w.heap.size + 1, 3, none⟩ = some (.slice D3 ys3.length d3)) := Lib.hid ((g.cell (p := ⟨w.heap.size + 1, 3, none⟩) Lt0.out).trans K3_0.out)
  have C4_1 : Hid (w1.cell? ⟨w.heap.size, 4, none⟩ = some (.slice A4 xs4.length c4)) := Lib.hid ((g.cell (p := ⟨w.heap.size, 4, none⟩) (show w.heap.size < _ from by have := Lt0.out; omega)).trans C4_0.out)
  have K4_1 : Hid (w1.cell? ⟨w.heap.size + 1, 4, none⟩ = some (.slice D4 ys4.length d4)) := Lib.hid ((g.cell (p := ⟨w.heap.size + 1, 4, none⟩) Lt0.out).trans K4_0.out)
  have C5_1 : Hid (w1.cell? ⟨w.heap.size, 5, none⟩ = some (.slice A5 xs5.length c5)) := Lib.hid ((g.cell (p := ⟨w.heap.size, 5, none⟩) (show w.heap.size < _ from by have := Lt0.out; omega)).trans C5_0.out)
  have K5_1 : Hid (w1.cell? ⟨w.heap.size + 1, 5, none⟩ = some (.slice D5 ys5.length d5)) := Lib.hid ((g.cell (p := ⟨w.heap.size + 1, 5, none⟩) Lt0.out).trans K5_0.out)
  clear g
  have q1 := C2_1.out; have q2 := K2_1.out
  cases e1
  · have Hf : Hid (r = false) := Lib.hid (by rw [Hr2.out]; simp)
    go_wp2_with fail
    go_ret
    exact ⟨by rw [Hf.out]; rfl, Hb1.out⟩
  go_wp2_with fail
  clear q1 q2
  refine (Hd2.out ▸ slEqual_any (H2.out.at hB Hb1.out) (G2.out.at hB Hb1.out) (Nat.le_refl _)).mono ?_
  rintro e w2 ⟨rfl, g⟩
  have Hb2 : Hid (Below w.heap.size w w2) := Lib.hid (Hb1.out.trans (g.mono Hb1.out.size))
  have Lt2 : Hid (w.heap.size + 1 < w2.heap.size) := Lib.hid (by have := Lt1.out; have := g.size; omega)
  have C3_2 : Hid (w2.cell? ⟨w.heap.size, 3, none⟩ = some (.slice A3 xs3.length c3)) := Lib.hid ((g.cell (p := ⟨w.heap.size, 3, none⟩) (show w.heap.size < _ from by have := Lt1.out; omega)).trans C3_1.out)
  have K3_2 : Hid (w2.cell? ⟨w.heap.size + 1, 3, none⟩ = some (.slice D3 ys3.length d3)) := Lib.hid ((g.cell (p := ⟨w.heap.size + 1, 3, none⟩) Lt1.out).trans K3_1.out)
  have C4_2 : Hid (w2.cell? ⟨w.heap.size, 4, none⟩ = some (.slice A4 xs4.length c4)) := Lib.hid ((g.cell (p := ⟨w.heap.size, 4, none⟩) (show w.heap.size < _ from by have := Lt1.out; omega)).trans C4_1.out)
  have K4_2 : Hid (w2.cell? ⟨w.heap.size + 1, 4, none⟩ = some (.slice D4 ys4.length d4)) := Lib.hid ((g.cell (p := ⟨w.heap.size + 1, 4, none⟩) Lt1.out).trans K4_1.out)
  have C5_2 : Hid (w2.cell? ⟨w.heap.size, 5, none⟩ = some (.slice A5 xs5.length c5)) := Lib.hid ((g.cell (p := ⟨w.heap.size, 5, none⟩) (show w.heap.size < _ from by have := Lt1.out; omega)).trans C5_1.out)
  have K5_2 : Hid (w2.cell? ⟨w.heap.size + 1, 5, none⟩ = some (.slice D5 ys5.length d5)) := Lib.hid ((g.cell (p := ⟨w.heap.size + 1, 5, none⟩) Lt1.out).trans K5_1.out)
  clear g
  have q1 := C3_2.out; have q2 := K3_2.out
  cases e2
  · have Hf : Hid (r = false) := Lib.hid (by rw [Hr2.out]; simp)
    go_wp2_with fail
    go_ret
    exact ⟨by rw [Hf.out]; rfl, Hb2.out⟩
  go_wp2_with fail
  clear q1 q2
  refine (Hd3.out ▸ slEqual_any (H3.out.at hB Hb2.out) (G3.out.at hB Hb2.out) (Nat.le_refl _)).mono ?_
  rintro e w3 ⟨rfl, g⟩
  have Hb3 : Hid (Below w.heap.size w w3) := Lib.hid (Hb2.out.trans (g.mono Hb2.out.size))
  have Lt3 : Hid (w.heap.size + 1 < w3.heap.size) := Lib.hid (by have := Lt2.out; have := g.size; omega)
  have C4_3 : Hid (w3.cell? ⟨w.heap.size, 4, none⟩ = some (.slice A4 xs4.length c4)) := Lib.hid ((g.cell (p := ⟨w.heap.size, 4, none⟩) (show w.heap.size < _ from by have := Lt2.out; omega)).trans C4_2.out)
  have K4_3 : Hid (w3.cell? ⟨w.heap.size + 1, 4, none⟩ = some (.slice D4 ys4.length d4)) := Lib.hid ((g.cell (p := ⟨w.heap.size + 1, 4, none⟩) Lt2.out).trans K4_2.out)
  have C5_3 : Hid (w3.cell? ⟨w.heap.size, 5, none⟩ = some (.slice A5 xs5.length c5)) := Lib.hid ((g.cell (p := ⟨w.heap.size, 5, none⟩) (show w.heap.size < _ from by have := Lt2.out; omega)).trans C5_2.out)
  have K5_3 : Hid (w3.cell? ⟨w.heap.size + 1, 5, none⟩ = some (.slice D5 ys5.length d5)) := Lib.hid ((g.cell (p := ⟨w.heap.size + 1, 5, none⟩) Lt2.out).trans K5_2.out)
  clear g
  have q1 := C4_3.out; have q2 := K4_3.out
  cases e3
  · have Hf : Hid (r = false) := Lib.hid (by rw [Hr2.out]; simp)
    go_wp2_with fail
    go_ret
    exact ⟨by rw [Hf.out]; rfl, Hb3.out⟩
  go_wp2_with fail
  clear q1 q2
  refine (Hd4.out ▸ slEqual_any (H4.out.at hB Hb3.out) (G4.out.at hB Hb3.out) (Nat.le_refl _)).mono ?_
  rintro e w4 ⟨rfl, g⟩
  have Hb4 : Hid (Below w.heap.size w w4) := Lib.hid (Hb3.out.trans (g.mono Hb3.out.size))
  have Lt4 : Hid (w.heap.size + 1 < w4.heap.size) := Lib.hid (by have := Lt3.out; have := g.size; omega)
  have C5_4 : Hid (w4.cell? ⟨w.heap.size, 5, none⟩ = some (.slice A5 xs5.length c5)) := Lib.hid ((g.cell (p := ⟨w.heap.size, 5, none⟩) (show w.heap.size < _ from by have := Lt3.out; omega)).trans C5_3.out)
  have K5_4 : Hid (w4.cell? ⟨w.heap.size + 1, 5, none⟩ = some (.slice D5 ys5.length d5)) := Lib.hid ((g.cell (p := ⟨w.heap.size + 1, 5, none⟩) Lt3.out).trans K5_3.out)
  clear g
  have q1 := C5_4.out; have q2 := K5_4.out
  cases e4
  · have Hf : Hid (r = false) := Lib.hid (by rw [Hr2.out]; simp)
    go_wp2_with fail
    go_ret
    exact ⟨by rw [Hf.out]; rfl, Hb4.out⟩
  go_wp2_with fail
  clear q1 q2
  refine (Hd5.out ▸ equalFunc_any (H5.out.at hB Hb4.out) (G5.out.at hB Hb4.out) (Nat.le_refl _)).mono ?_
  rintro e w5 ⟨rfl, g⟩
  have Hb5 : Hid (Below w.heap.size w w5) := Lib.hid (Hb4.out.trans (g.mono Hb4.out.size))
  have Lt5 : Hid (w.heap.size + 1 < w5.heap.size) := Lib.hid (by have := Lt4.out; have := g.size; omega)
  clear g
  have Hf : Hid (r = e5) := Lib.hid (by rw [Hr2.out]; simp)
  go_wp2_with fail
  go_ret
  exact ⟨by rw [Hf.out]; rfl, Hb5.out⟩
end Go.Proofs.Ytkgkhdnpgcgoeaa
