/- Contracts of the functions that compare lists and dataspaces. No statement is proved here. -/
import Derived.Test.YtmnmjepppghnlaaSpc
namespace Go.Proofs.Ytmnmjepppghnlaa
open Go.RowKit
set_option linter.unusedVariables false
set_option maxHeartbeats 400000 in
theorem l00Same_any {B : Nat} {w : World} {v u : Value} {xs ys : List Int} (h1 : Ri B w v xs) (h2 : Ri B w u ys) (hB : B ≤ w.heap.size) :
    Calls Try.prog 52 #[v, u] w (GivesB (.bool (decide (xs = ys))) w) := by
  obtain ⟨A1, c1, rfl, hl1, hm1, hx1⟩ := h1
  obtain ⟨A2, c2, rfl, hl2, hm2, hx2⟩ := h2
  have Hx1 := Lib.hid hx1; have Hx2 := Lib.hid hx2; clear hx1 hx2
  unfold maxLen at hm1 hm2
  by_cases hn : xs.length = ys.length
  · have hn' : (xs.length : Int) = (ys.length : Int) := by omega
    have Hn := Lib.hid hn
    clear hn
    generalize hd : decide (xs = ys) = d
    have Hd := Lib.hid hd; clear hd
    go_enter Try.func52, Try.ntmps52
    go_wp2
    clear hn'
    go_loopw [5] (fun i wr => ∃ k : Nat, k ≤ xs.length ∧ i = .int .i64 k ∧ Below w.heap.size w wr ∧ ∀ j (h1 : j < xs.length) (h2 : j < ys.length), j < k → xs[j] = ys[j]) (fun i _ => xs.length - (intOf i).toNat)
    case atStart => exact ⟨0, Nat.zero_le _, rfl, Below.refl _ _, fun j h1 h2 h => absurd h (by omega)⟩
    case round =>
      obtain ⟨k, hk, rfl, hbel, hall⟩ := hrel
      have Hall := Lib.hid hall
      have Hbel := Lib.hid hbel
      clear hall
      by_cases hlt : k < xs.length
      · have hlt2 : k < ys.length := by have := Hn.out; omega
        obtain ⟨b1, o1, rfl, hb1, hq1, hI1⟩ := Hx1.out k hlt
        obtain ⟨b2, o2, rfl, hb2, hq2, hI2⟩ := Hx2.out k hlt2
        have g1 : wr.cell? ⟨b1, o1 + k, none⟩ = some (.int .i64 xs[k]) := by rw [hbel.cell (p := ⟨b1, o1 + k, none⟩) (show b1 < _ from by omega)]; exact hq1
        have g2 : wr.cell? ⟨b2, o2 + k, none⟩ = some (.int .i64 ys[k]) := by rw [hbel.cell (p := ⟨b2, o2 + k, none⟩) (show b2 < _ from by omega)]; exact hq2
        clear hq1 hq2 hbel hI1 hI2
        by_cases he : xs[k] = ys[k]
        · have Hall2 : Hid (∀ j (h1 : j < xs.length) (h2 : j < ys.length), j < k + 1 → xs[j] = ys[j]) := Lib.hid (fun j h1 h2 h => by
            rcases Nat.lt_or_ge j k with hj | hj
            · exact Hall.out j h1 h2 hj
            · obtain rfl : j = k := by omega
              exact he)
          rw [← he] at g2
          clear he
          go_wp2
          go_quiet (fail)
          go_wp2
          go_roundw
          case rel => exact ⟨k + 1, by omega, by go_num, below_draws Hbel.out _, Hall2.out⟩
          case measure => simp [intOf]; omega
        · have Hf : Hid (d = false) := Lib.hid (by rw [← Hd.out, decide_eq_false_iff_not]; rintro rfl; exact he rfl)
          generalize xs[k] = x at *
          generalize ys[k] = y at *
          have e1 : (x == y) = false := by simpa using he
          have e2 : (x != y) = true := by simpa using he
          clear he
          go_wp2
          go_quiet (fail)
          go_wp2
          go_ret
          exact ⟨by rw [Hf.out]; rfl, below_draws Hbel.out _⟩
      · have Hf : Hid (d = true) := Lib.hid (by
          rw [← Hd.out, decide_eq_true_iff]
          have := Hn.out
          exact List.ext_getElem this (fun j h1 h2 => Hall.out j h1 h2 (by omega)))
        have hlt2 : ¬ k < ys.length := by have := Hn.out; omega
        clear hbel
        go_wp2
        go_ret
        exact ⟨by rw [Hf.out]; rfl, Hbel.out⟩
  · have Hf : Hid (decide (xs = ys) = false) := Lib.hid (by rw [decide_eq_false_iff_not]; rintro rfl; exact hn rfl)
    have hn' : ((xs.length : Int) == (ys.length : Int)) = false := by simp; omega
    have hn2 : ((xs.length : Int) != (ys.length : Int)) = true := by simp; omega
    have hn3 : ¬ ((xs.length : Int) = (ys.length : Int)) := by omega
    generalize decide (xs = ys) = d at *
    go_enter Try.func52, Try.ntmps52
    go_wp2
    go_ret
    exact ⟨by rw [Hf.out]; rfl, Below.refl _ _⟩
set_option maxHeartbeats 400000 in
theorem slEqual_any {B : Nat} {w : World} {v u : Value} {xs ys : List Int} (h1 : Ri B w v xs) (h2 : Ri B w u ys) (hB : B ≤ w.heap.size) :
    Calls Try.prog 53 #[v, u] w (GivesB (.bool (decide (xs = ys))) w) := by
  obtain ⟨A1, c1, rfl, hl1, hm1, hx1⟩ := h1
  obtain ⟨A2, c2, rfl, hl2, hm2, hx2⟩ := h2
  have Hx1 := Lib.hid hx1; have Hx2 := Lib.hid hx2; clear hx1 hx2
  unfold maxLen at hm1 hm2
  by_cases hn : xs.length = ys.length
  · have hn' : (xs.length : Int) = (ys.length : Int) := by omega
    have Hn := Lib.hid hn
    clear hn
    generalize hd : decide (xs = ys) = d
    have Hd := Lib.hid hd; clear hd
    go_enter Try.func53, Try.ntmps53
    go_wp2
    clear hn'
    go_loopw [13] (fun i wr => ∃ k : Nat, k ≤ xs.length ∧ i = .int .i64 k ∧ Below w.heap.size w wr ∧ ∀ j (h1 : j < xs.length) (h2 : j < ys.length), j < k → xs[j] = ys[j]) (fun i _ => xs.length - (intOf i).toNat)
    case atStart => exact ⟨0, Nat.zero_le _, rfl, Below.refl _ _, fun j h1 h2 h => absurd h (by omega)⟩
    case round =>
      obtain ⟨k, hk, rfl, hbel, hall⟩ := hrel
      have Hall := Lib.hid hall
      have Hbel := Lib.hid hbel
      clear hall
      by_cases hlt : k < xs.length
      · have hlt2 : k < ys.length := by have := Hn.out; omega
        obtain ⟨b1, o1, rfl, hb1, hq1, hI1⟩ := Hx1.out k hlt
        obtain ⟨b2, o2, rfl, hb2, hq2, hI2⟩ := Hx2.out k hlt2
        have g1 : wr.cell? ⟨b1, o1 + k, none⟩ = some (.int .i64 xs[k]) := by rw [hbel.cell (p := ⟨b1, o1 + k, none⟩) (show b1 < _ from by omega)]; exact hq1
        have g2 : wr.cell? ⟨b2, o2 + k, none⟩ = some (.int .i64 ys[k]) := by rw [hbel.cell (p := ⟨b2, o2 + k, none⟩) (show b2 < _ from by omega)]; exact hq2
        clear hq1 hq2 hbel hI1 hI2
        by_cases he : xs[k] = ys[k]
        · have Hall2 : Hid (∀ j (h1 : j < xs.length) (h2 : j < ys.length), j < k + 1 → xs[j] = ys[j]) := Lib.hid (fun j h1 h2 h => by
            rcases Nat.lt_or_ge j k with hj | hj
            · exact Hall.out j h1 h2 hj
            · obtain rfl : j = k := by omega
              exact he)
          rw [← he] at g2
          clear he
          go_wp2
          go_quiet (fail)
          go_wp2
          go_roundw
          case rel => exact ⟨k + 1, by omega, by go_num, below_draws Hbel.out _, Hall2.out⟩
          case measure => simp [intOf]; omega
        · have Hf : Hid (d = false) := Lib.hid (by rw [← Hd.out, decide_eq_false_iff_not]; rintro rfl; exact he rfl)
          generalize xs[k] = x at *
          generalize ys[k] = y at *
          have e1 : (x == y) = false := by simpa using he
          have e2 : (x != y) = true := by simpa using he
          clear he
          go_wp2
          go_quiet (fail)
          go_wp2
          go_ret
          exact ⟨by rw [Hf.out]; rfl, below_draws Hbel.out _⟩
      · have Hf : Hid (d = true) := Lib.hid (by
          rw [← Hd.out, decide_eq_true_iff]
          have := Hn.out
          exact List.ext_getElem this (fun j h1 h2 => Hall.out j h1 h2 (by omega)))
        have hlt2 : ¬ k < ys.length := by have := Hn.out; omega
        clear hbel
        go_wp2
        go_ret
        exact ⟨by rw [Hf.out]; rfl, Hbel.out⟩
  · have Hf : Hid (decide (xs = ys) = false) := Lib.hid (by rw [decide_eq_false_iff_not]; rintro rfl; exact hn rfl)
    have hn' : ((xs.length : Int) == (ys.length : Int)) = false := by simp; omega
    have hn2 : ((xs.length : Int) != (ys.length : Int)) = true := by simp; omega
    have hn3 : ¬ ((xs.length : Int) = (ys.length : Int)) := by omega
    generalize decide (xs = ys) = d at *
    go_enter Try.func53, Try.ntmps53
    go_wp2
    go_ret
    exact ⟨by rw [Hf.out]; rfl, Below.refl _ _⟩
def sameSp (xs ms ys ns : List Int) : Bool := decide (xs = ys) && decide (ms = ns)
set_option maxHeartbeats 400000 in
theorem specSameSpace_any {B : Nat} {w : World} {v1 v2 u1 u2 : Value} {xs ms ys ns : List Int} (h1 : Ri B w v1 xs) (h2 : Ri B w v2 ms) (g1 : Ri B w u1 ys) (g2 : Ri B w u2 ns) (hB : B ≤ w.heap.size) :
    Calls Try.prog 29 #[.agg #[v1, v2], .agg #[u1, u2]] w (GivesB (.bool (sameSp xs ms ys ns)) w) := by
  have H1 := Lib.hid h1; have H2 := Lib.hid h2; have G1 := Lib.hid g1; have G2 := Lib.hid g2
  obtain ⟨A1, c1, rfl, _⟩ := h1
  obtain ⟨A2, c2, rfl, _⟩ := h2
  obtain ⟨A3, c3, rfl, _⟩ := g1
  obtain ⟨A4, c4, rfl, _⟩ := g2
  have hb0 : Below w.heap.size w ((w.alloc (.cells #[.slice A1 xs.length c1, .slice A2 ms.length c2] 35)).alloc (.cells #[.slice A3 ys.length c3, .slice A4 ns.length c4] 35)) :=
    ((Below.refl _ w).alloc (Nat.le_refl _) _).alloc (by simp) _
  have Hb0 := Lib.hid hb0; clear hb0
  generalize hr : sameSp xs ms ys ns = r
  unfold sameSp at hr
  generalize hd1 : decide (xs = ys) = d1 at hr
  generalize hd2 : decide (ms = ns) = d2 at hr
  have Hr := Lib.hid hr; have Hd1 := Lib.hid hd1; have Hd2 := Lib.hid hd2
  clear hr hd1 hd2
  go_enter Try.func29, Try.ntmps29
  go_wp2_with fail
  refine (Hd1.out ▸ l00Same_any (H1.out.at hB Hb0.out) (G1.out.at hB Hb0.out) (Nat.le_refl _)).mono ?_
  rintro e w1 ⟨rfl, hbel1⟩
  have hc1 := old_cell hbel1
  have hz1 := hbel1.size
  simp at hz1
  have hq1 : w.heap.size < w1.heap.size := by omega
  have hr1 : w.heap.size + 1 < w1.heap.size := by omega
  have Hb1 : Hid (Below w.heap.size w w1) := Lib.hid (Hb0.out.trans (hbel1.mono (by simp; omega)))
  clear hbel1
  cases d1
  · go_wp2_with fail
    go_ret
    exact ⟨by rw [← Hr.out]; rfl, Hb1.out⟩
  · go_wp2_with fail
    refine (Hd2.out ▸ l00Same_any (H2.out.at hB Hb1.out) (G2.out.at hB Hb1.out) (Nat.le_refl _)).mono ?_
    rintro e w2 ⟨rfl, hbel2⟩
    have Hb2 : Hid (Below w.heap.size w w2) := Lib.hid (Hb1.out.trans (hbel2.mono (by omega)))
    clear hbel2 hc1
    go_wp2_with fail
    go_ret
    exact ⟨by rw [← Hr.out]; simp, Hb2.out⟩
set_option maxHeartbeats 400000 in
theorem implSameSpace_any {B : Nat} {w : World} {v1 v2 u1 u2 : Value} {xs ms ys ns : List Int} (h1 : Ri B w v1 xs) (h2 : Ri B w v2 ms) (g1 : Ri B w u1 ys) (g2 : Ri B w u2 ns) (hB : B ≤ w.heap.size) :
    Calls Try.prog 30 #[.agg #[v1, v2], .agg #[u1, u2]] w (GivesB (.bool (sameSp xs ms ys ns)) w) := by
  have H1 := Lib.hid h1; have H2 := Lib.hid h2; have G1 := Lib.hid g1; have G2 := Lib.hid g2
  obtain ⟨A1, c1, rfl, _⟩ := h1
  obtain ⟨A2, c2, rfl, _⟩ := h2
  obtain ⟨A3, c3, rfl, _⟩ := g1
  obtain ⟨A4, c4, rfl, _⟩ := g2
  have hb0 : Below w.heap.size w ((w.alloc (.cells #[.slice A1 xs.length c1, .slice A2 ms.length c2] 35)).alloc (.cells #[.slice A3 ys.length c3, .slice A4 ns.length c4] 35)) :=
    ((Below.refl _ w).alloc (Nat.le_refl _) _).alloc (by simp) _
  have Hb0 := Lib.hid hb0; clear hb0
  generalize hr : sameSp xs ms ys ns = r
  unfold sameSp at hr
  generalize hd1 : decide (xs = ys) = d1 at hr
  generalize hd2 : decide (ms = ns) = d2 at hr
  have Hr := Lib.hid hr; have Hd1 := Lib.hid hd1; have Hd2 := Lib.hid hd2
  clear hr hd1 hd2
  go_enter Try.func30, Try.ntmps30
  go_wp2_with fail
  refine (Hd1.out ▸ slEqual_any (H1.out.at hB Hb0.out) (G1.out.at hB Hb0.out) (Nat.le_refl _)).mono ?_
  rintro e w1 ⟨rfl, hbel1⟩
  have hc1 := old_cell hbel1
  have hz1 := hbel1.size
  simp at hz1
  have hq1 : w.heap.size < w1.heap.size := by omega
  have hr1 : w.heap.size + 1 < w1.heap.size := by omega
  have Hb1 : Hid (Below w.heap.size w w1) := Lib.hid (Hb0.out.trans (hbel1.mono (by simp; omega)))
  clear hbel1
  cases d1
  · go_wp2_with fail
    go_ret
    exact ⟨by rw [← Hr.out]; rfl, Hb1.out⟩
  · go_wp2_with fail
    refine (Hd2.out ▸ slEqual_any (H2.out.at hB Hb1.out) (G2.out.at hB Hb1.out) (Nat.le_refl _)).mono ?_
    rintro e w2 ⟨rfl, hbel2⟩
    have Hb2 : Hid (Below w.heap.size w w2) := Lib.hid (Hb1.out.trans (hbel2.mono (by omega)))
    clear hbel2 hc1
    go_wp2_with fail
    go_ret
    exact ⟨by rw [← Hr.out]; simp, Hb2.out⟩
end Go.Proofs.Ytmnmjepppghnlaa
