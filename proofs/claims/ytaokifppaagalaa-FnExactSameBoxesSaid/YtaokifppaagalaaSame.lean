/- Contracts of the functions that compare lists and dataspaces. No statement is proved here. -/
import Derived.Test.YtaokifppaagalaaIdx
import Derived.Test.YtaokifppaagalaaPre
namespace Go.Proofs.Ytaokifppaagalaa
open Go.RowKit
set_option linter.unusedVariables false
set_option maxHeartbeats 400000 in
theorem l00Same_any {B : Nat} {w : World} {v u : Value} {xs ys : List Int} (h1 : Ri B w v xs) (h2 : Ri B w u ys) (hB : B ≤ w.heap.size) :
    Calls Try.prog 141 #[v, u] w (GivesB (.bool (decide (xs = ys))) w) := by
  obtain ⟨A1, c1, rfl, hl1, hm1, hx1⟩ := h1
  obtain ⟨A2, c2, rfl, hl2, hm2, hx2⟩ := h2
  have Hx1 := Lib.hid hx1; have Hx2 := Lib.hid hx2; clear hx1 hx2
  unfold maxLen at hm1 hm2
  by_cases hn : xs.length = ys.length
  · have hn' : (xs.length : Int) = (ys.length : Int) := by omega
    have Hn := Lib.hid hn
    clear hn
    generalize hd : decide (xs = ys) = d
    have Hd := Lib.hid hd; clear hd
    go_enter Try.func141, Try.ntmps141
    go_wp2
    clear hn'
    go_loopw [5] (fun i wr => ∃ k : Nat, k ≤ xs.length ∧ i = .int .i64 k ∧ Below w.heap.size w wr ∧ ∀ j (h1 : j < xs.length) (h2 : j < ys.length), j < k → xs[j] = ys[j]) (fun i _ => xs.length - (intOf i).toNat)
    case atStart => exact ⟨0, Nat.zero_le _, rfl, Below.refl _ _, fun j h1 h2 h => absurd h (by omega)⟩
    case round =>
      obtain ⟨k, hk, rfl, hbel, hall⟩ := hrel
      have Hall := Lib.hid hall
      have Hbel := Lib.hid hbel
      clear hall
      by_cases hlt : k < xs.length
      · have hlt2 : k < ys.length := by have := Hn.out; omega
        obtain ⟨b1, o1, rfl, hb1, hq1, hI1⟩ := Hx1.out k hlt
        obtain ⟨b2, o2, rfl, hb2, hq2, hI2⟩ := Hx2.out k hlt2
        have g1 : wr.cell? ⟨b1, o1 + k, none⟩ = some (.int .i64 xs[k]) := by rw [hbel.cell (p := ⟨b1, o1 + k, none⟩) (show b1 < _ from by omega)]; exact hq1
        have g2 : wr.cell? ⟨b2, o2 + k, none⟩ = some (.int .i64 ys[k]) := by rw [hbel.cell (p := ⟨b2, o2 + k, none⟩) (show b2 < _ from by omega)]; exact hq2
        clear hq1 hq2 hbel hI1 hI2
        by_cases he : xs[k] = ys[k]
        · have Hall2 : Hid (∀ j (h1 : j < xs.length) (h2 : j < ys.length), j < k + 1 → xs[j] = ys[j]) := Lib.hid (fun j h1 h2 h => by
            rcases Nat.lt_or_ge j k with hj | hj
            · exact Hall.out j h1 h2 hj
            · obtain rfl : j = k := by omega
              exact he)
          rw [← he] at g2
          clear he
          go_wp2
          go_quiet (fail)
          go_wp2
          go_roundw
          case rel => exact ⟨k + 1, by omega, by go_num, below_draws Hbel.out _, Hall2.out⟩
          case measure => simp [intOf]; omega
        · have Hf : Hid (d = false) := Lib.hid (by rw [← Hd.out, decide_eq_false_iff_not]; rintro rfl; exact he rfl)
          generalize xs[k] = x at *
          generalize ys[k] = y at *
          have e1 : (x == y) = false := by simpa using he
          have e2 : (x != y) = true := by simpa using he
          clear he
          go_wp2
          go_quiet (fail)
          go_wp2
          go_ret
          exact ⟨by rw [Hf.out]; rfl, below_draws Hbel.out _⟩
      · have Hf : Hid (d = true) := Lib.hid (by
          rw [← Hd.out, decide_eq_true_iff]
          have := Hn.out
          exact List.ext_getElem this (fun j h1 h2 => Hall.out j h1 h2 (by omega)))
        have hlt2 : ¬ k < ys.length := by have := Hn.out; omega
        clear hbel
        go_wp2
        go_ret
        exact ⟨by rw [Hf.out]; rfl, Hbel.out⟩
  · have Hf : Hid (decide (xs = ys) = false) := Lib.hid (by rw [decide_eq_false_iff_not]; rintro rfl; exact hn rfl)
    have hn' : ((xs.length : Int) == (ys.length : Int)) = false := by simp; omega
    have hn2 : ((xs.length : Int) != (ys.length : Int)) = true := by simp; omega
    have hn3 : ¬ ((xs.length : Int) = (ys.length : Int)) := by omega
    generalize decide (xs = ys) = d at *
    go_enter Try.func141, Try.ntmps141
    go_wp2
    go_ret
    exact ⟨by rw [Hf.out]; rfl, Below.refl _ _⟩
set_option maxHeartbeats 400000 in
theorem slEqual_any {B : Nat} {w : World} {v u : Value} {xs ys : List Int} (h1 : Ri B w v xs) (h2 : Ri B w u ys) (hB : B ≤ w.heap.size) :
    Calls Try.prog 77 #[v, u] w (GivesB (.bool (decide (xs = ys))) w) := by
  obtain ⟨A1, c1, rfl, hl1, hm1, hx1⟩ := h1
  obtain ⟨A2, c2, rfl, hl2, hm2, hx2⟩ := h2
  have Hx1 := Lib.hid hx1; have Hx2 := Lib.hid hx2; clear hx1 hx2
  unfold maxLen at hm1 hm2
  by_cases hn : xs.length = ys.length
  · have hn' : (xs.length : Int) = (ys.length : Int) := by omega
    have Hn := Lib.hid hn
    clear hn
    generalize hd : decide (xs = ys) = d
    have Hd := Lib.hid hd; clear hd
    go_enter Try.func77, Try.ntmps77
    go_wp2
    clear hn'
    go_loopw [13] (fun i wr => ∃ k : Nat, k ≤ xs.length ∧ i = .int .i64 k ∧ Below w.heap.size w wr ∧ ∀ j (h1 : j < xs.length) (h2 : j < ys.length), j < k → xs[j] = ys[j]) (fun i _ => xs.length - (intOf i).toNat)
    case atStart => exact ⟨0, Nat.zero_le _, rfl, Below.refl _ _, fun j h1 h2 h => absurd h (by omega)⟩
    case round =>
      obtain ⟨k, hk, rfl, hbel, hall⟩ := hrel
      have Hall := Lib.hid hall
      have Hbel := Lib.hid hbel
      clear hall
      by_cases hlt : k < xs.length
      · have hlt2 : k < ys.length := by have := Hn.out; omega
        obtain ⟨b1, o1, rfl, hb1, hq1, hI1⟩ := Hx1.out k hlt
        obtain ⟨b2, o2, rfl, hb2, hq2, hI2⟩ := Hx2.out k hlt2
        have g1 : wr.cell? ⟨b1, o1 + k, none⟩ = some (.int .i64 xs[k]) := by rw [hbel.cell (p := ⟨b1, o1 + k, none⟩) (show b1 < _ from by omega)]; exact hq1
        have g2 : wr.cell? ⟨b2, o2 + k, none⟩ = some (.int .i64 ys[k]) := by rw [hbel.cell (p := ⟨b2, o2 + k, none⟩) (show b2 < _ from by omega)]; exact hq2
        clear hq1 hq2 hbel hI1 hI2
        by_cases he : xs[k] = ys[k]
        · have Hall2 : Hid (∀ j (h1 : j < xs.length) (h2 : j < ys.length), j < k + 1 → xs[j] = ys[j]) := Lib.hid (fun j h1 h2 h => by
            rcases Nat.lt_or_ge j k with hj | hj
            · exact Hall.out j h1 h2 hj
            · obtain rfl : j = k := by omega
              exact he)
          rw [← he] at g2
          clear he
          go_wp2
          go_quiet (fail)
          go_wp2
          go_roundw
          case rel => exact ⟨k + 1, by omega, by go_num, below_draws Hbel.out _, Hall2.out⟩
          case measure => simp [intOf]; omega
        · have Hf : Hid (d = false) := Lib.hid (by rw [← Hd.out, decide_eq_false_iff_not]; rintro rfl; exact he rfl)
          generalize xs[k] = x at *
          generalize ys[k] = y at *
          have e1 : (x == y) = false := by simpa using he
          have e2 : (x != y) = true := by simpa using he
          clear he
          go_wp2
          go_quiet (fail)
          go_wp2
          go_ret
          exact ⟨by rw [Hf.out]; rfl, below_draws Hbel.out _⟩
      · have Hf : Hid (d = true) := Lib.hid (by
          rw [← Hd.out, decide_eq_true_iff]
          have := Hn.out
          exact List.ext_getElem this (fun j h1 h2 => Hall.out j h1 h2 (by omega)))
        have hlt2 : ¬ k < ys.length := by have := Hn.out; omega
        clear hbel
        go_wp2
        go_ret
        exact ⟨by rw [Hf.out]; rfl, Hbel.out⟩
  · have Hf : Hid (decide (xs = ys) = false) := Lib.hid (by rw [decide_eq_false_iff_not]; rintro rfl; exact hn rfl)
    have hn' : ((xs.length : Int) == (ys.length : Int)) = false := by simp; omega
    have hn2 : ((xs.length : Int) != (ys.length : Int)) = true := by simp; omega
    have hn3 : ¬ ((xs.length : Int) = (ys.length : Int)) := by omega
    generalize decide (xs = ys) = d at *
    go_enter Try.func77, Try.ntmps77
    go_wp2
    go_ret
    exact ⟨by rw [Hf.out]; rfl, Below.refl _ _⟩
def sameSp (xs ms ys ns : List Int) : Bool := decide (xs = ys) && decide (ms = ns)
end Go.Proofs.Ytaokifppaagalaa
