/- Contracts of the functions that count a box's coordinates. No statement is proved here. -/
import Derived.Test.YtaokifppaagalaaVb
namespace Go.Proofs.Ytaokifppaagalaa
open Go.RowKit
set_option linter.unusedVariables false
/-- The number of coordinates in the first k dimensions. -/
def bszK (xs ms : List Int) : Nat → Int
  | 0 => 1
  | k + 1 => bszK xs ms k * (ms.getD k 0 - xs.getD k 0)
def boxSz (xs ms : List Int) : Int := if boxOk xs ms then bszK xs ms xs.length else 0
theorem bsz_bd {xs ms : List Int} (h : boxOk xs ms = true) : ∀ k, k ≤ xs.length → 1 ≤ bszK xs ms k ∧ bszK xs ms k ≤ ((40 ^ k : Nat) : Int)
  | 0, _ => by simp [bszK]
  | k + 1, hk => by
    have ih := bsz_bd h k (by omega)
    have hl := (boxOk_iff h).2.1
    have hb := boxOk_in h k (by omega) (by omega)
    rw [bszK, getD_at _ _ (by omega), getD_at _ _ (by omega)]
    have h1 : 1 ≤ ms[k] - xs[k] := by omega
    have h2 : ms[k] - xs[k] ≤ 40 := by omega
    generalize ms[k] - xs[k] = d at *
    refine ⟨?_, ?_⟩
    · have := Int.mul_le_mul ih.1 h1 (by omega) (by omega)
      omega
    · rw [Nat.pow_succ, Int.natCast_mul]
      exact Int.mul_le_mul ih.2 h2 (by omega) (by omega)
theorem bsz_lt {xs ms : List Int} (h : boxOk xs ms = true) (k : Nat) (hk : k ≤ xs.length) : 1 ≤ bszK xs ms k ∧ bszK xs ms k ≤ 64000 := by
  have h1 := bsz_bd h k hk
  have h3 : 40 ^ k ≤ 40 ^ 3 := Nat.pow_le_pow_right (by decide) (by have := (boxOk_iff h).1; omega)
  omega
set_option maxHeartbeats 1000000 in
set_option maxRecDepth 100000 in
theorem l07Size_any {B : Nat} {w : World} {v1 v2 : Value} {xs ms : List Int} (h1 : Ri B w v1 xs) (h2 : Ri B w v2 ms) (hB : B ≤ w.heap.size) (hok : boxOk xs ms = true) :
    Calls Try.prog 92 #[.agg #[v1, v2]] w (GivesB (.int .i64 (bszK xs ms xs.length)) w) := by
  obtain ⟨A1, c1, rfl, hl1, hm1, hx1⟩ := h1
  obtain ⟨A2, c2, rfl, hl2, hm2, hx2⟩ := h2
  have Hx1 := Lib.hid hx1; have Hx2 := Lib.hid hx2; have Hok := Lib.hid hok; clear hx1 hx2 hok
  unfold maxLen at hm1 hm2
  have Hb0 : Hid (Below w.heap.size w (w.alloc (.cells #[.slice A1 xs.length c1, .slice A2 ms.length c2] 55))) := Lib.hid ((Below.refl _ w).alloc (Nat.le_refl _) _)
  have Hc0 : Hid ((w.alloc (.cells #[.slice A1 xs.length c1, .slice A2 ms.length c2] 55)).cell? ⟨w.heap.size, 0, none⟩ = some (.slice A1 xs.length c1)) := Lib.hid (by rw [cell_of_row _ _ _ _ _ _ (heap_alloc_new w _)]; rfl)
  have Hc1 : Hid ((w.alloc (.cells #[.slice A1 xs.length c1, .slice A2 ms.length c2] 55)).cell? ⟨w.heap.size, 1, none⟩ = some (.slice A2 ms.length c2)) := Lib.hid (by rw [cell_of_row _ _ _ _ _ _ (heap_alloc_new w _)]; rfl)
  have Hz0 : Hid (w.heap.size < (w.alloc (.cells #[.slice A1 xs.length c1, .slice A2 ms.length c2] 55)).heap.size) := Lib.hid (by simp)
  go_enter Try.func92, Try.ntmps92
  go_wp2
  go_loopw [3, 4] (fun n i wr => ∃ k : Nat, k ≤ xs.length ∧ i = .int .i64 k ∧ n = .int .i64 (bszK xs ms k) ∧ Below w.heap.size w wr ∧ wr.cell? ⟨w.heap.size, 0, none⟩ = some (.slice A1 xs.length c1) ∧ wr.cell? ⟨w.heap.size, 1, none⟩ = some (.slice A2 ms.length c2) ∧ w.heap.size < wr.heap.size) (fun _ i _ => xs.length - (intOf i).toNat)
  case atStart => exact ⟨0, Nat.zero_le _, rfl, rfl, Hb0.out, Hc0.out, Hc1.out, Hz0.out⟩
  case round =>
    obtain ⟨k, hk, rfl, rfl, hbel, hc0, hc1, hlt0⟩ := hrel
    have Hbel := Lib.hid hbel
    have Hk0 := Lib.hid hc0; have Hk1 := Lib.hid hc1
    by_cases hlt : k < xs.length
    · have hlt2 : k < ms.length := by have := (boxOk_iff Hok.out).2.1; omega
      obtain ⟨b1, o1, rfl, hb1, hq1, hI1⟩ := Hx1.out k hlt
      obtain ⟨b2, o2, rfl, hb2, hq2, hI2⟩ := Hx2.out k hlt2
      have g1 : wr.cell? ⟨b1, o1 + k, none⟩ = some (.int .i64 xs[k]) := by rw [hbel.cell (p := ⟨b1, o1 + k, none⟩) (show b1 < _ from by omega)]; exact hq1
      have g2 : wr.cell? ⟨b2, o2 + k, none⟩ = some (.int .i64 ms[k]) := by rw [hbel.cell (p := ⟨b2, o2 + k, none⟩) (show b2 < _ from by omega)]; exact hq2
      have hb := boxOk_in Hok.out k hlt hlt2
      have hq := bsz_lt Hok.out (k + 1) hlt
      have Hk : Hid (bszK xs ms (k + 1) = bszK xs ms k * (ms[k] - xs[k])) := Lib.hid (by rw [bszK, getD_at _ _ hlt, getD_at _ _ hlt2])
      rw [Hk.out] at hq
      clear hq1 hq2 hbel hI1 hI2
      generalize hxk : xs[k] = x at *
      generalize hyk : ms[k] = m at *
      generalize hpk : bszK xs ms k = p at *
      have Hxk := Lib.hid hxk; have Hyk := Lib.hid hyk
      have Hpk := Lib.hid hpk
      clear hxk hyk hpk
      have w1 : IntKind.i64.wrap (m - x) = m - x := IntWalk.i64_in _ (by omega)
      have w2 : IntKind.i64.wrap (p * (m - x)) = p * (m - x) := IntWalk.i64_in _ (by omega)
      clear hq
      go_wp2
      go_quiet (fail)
      go_wp2
      go_roundw
      case rel => exact ⟨k + 1, by omega, by go_num, by rw [Hk.out], below_draws Hbel.out _, Hk0.out, Hk1.out, hlt0⟩
      case measure => simp [intOf]; omega
    · obtain rfl : k = xs.length := by omega
      clear hbel
      go_wp2
      go_ret
      exact ⟨rfl, Hbel.out⟩
set_option maxHeartbeats 400000 in
theorem l07Box_is {B : Nat} {w : World} {v1 v2 : Value} {xs ms : List Int} {r : Bool} (hr : boxOk xs ms = r) (h1 : Ri B w v1 xs) (h2 : Ri B w v2 ms) (hB : B ≤ w.heap.size) :
    Calls Try.prog 88 #[.agg #[v1, v2]] w (GivesB (.bool r) w) := by subst hr; exact l07Box_any h1 h2 hB
theorem implValidBox_is {B : Nat} {w : World} {v1 v2 : Value} {xs ms : List Int} {r : Bool} (hr : boxOk xs ms = r) (h1 : Ri B w v1 xs) (h2 : Ri B w v2 ms) (hB : B ≤ w.heap.size) :
    Calls Try.prog 40 #[.agg #[v1, v2]] w (GivesB (.bool r) w) := by subst hr; exact implValidBox_any h1 h2 hB
set_option maxHeartbeats 1000000 in
set_option maxRecDepth 100000 in
theorem specBoxSize_any {B : Nat} {w : World} {v1 v2 : Value} {xs ms : List Int} (h1 : Ri B w v1 xs) (h2 : Ri B w v2 ms) (hB : B ≤ w.heap.size) :
    Calls Try.prog 47 #[.agg #[v1, v2]] w (GivesB (.int .i64 (boxSz xs ms)) w) := by
  have H1 := Lib.hid h1; have H2 := Lib.hid h2
  obtain ⟨A1, c1, rfl, _⟩ := h1
  obtain ⟨A2, c2, rfl, _⟩ := h2
  have Hb0 : Hid (Below w.heap.size w (w.alloc (.cells #[.slice A1 xs.length c1, .slice A2 ms.length c2] 55))) := Lib.hid ((Below.refl _ w).alloc (Nat.le_refl _) _)
  have Hc0 : Hid ((w.alloc (.cells #[.slice A1 xs.length c1, .slice A2 ms.length c2] 55)).cell? ⟨w.heap.size, 0, none⟩ = some (.slice A1 xs.length c1)) := Lib.hid (by rw [cell_of_row _ _ _ _ _ _ (heap_alloc_new w _)]; rfl)
  have Hc1 : Hid ((w.alloc (.cells #[.slice A1 xs.length c1, .slice A2 ms.length c2] 55)).cell? ⟨w.heap.size, 1, none⟩ = some (.slice A2 ms.length c2)) := Lib.hid (by rw [cell_of_row _ _ _ _ _ _ (heap_alloc_new w _)]; rfl)
  have Hz0 : Hid (w.heap.size < (w.alloc (.cells #[.slice A1 xs.length c1, .slice A2 ms.length c2] 55)).heap.size) := Lib.hid (by simp)
  cases hok : boxOk xs ms
  · have Hok := Lib.hid hok
    have Hf : Hid (boxSz xs ms = 0) := Lib.hid (by simp [boxSz, hok])
    clear hok
    go_enter Try.func47, Try.ntmps47
    go_wp2_with fail
    refine (l07Box_is Hok.out (H1.out.at hB Hb0.out) (H2.out.at hB Hb0.out) (Nat.le_refl _)).mono ?_
    rintro e w1 ⟨rfl, g⟩
    have Hb1 : Hid (Below w.heap.size w w1) := Lib.hid (Hb0.out.trans (g.mono Hb0.out.size))
    clear g
    go_wp2_with fail
    go_ret
    exact ⟨by rw [Hf.out]; rfl, Hb1.out⟩
  · have Hok := Lib.hid hok
    have Hf : Hid (boxSz xs ms = bszK xs ms xs.length) := Lib.hid (by simp [boxSz, hok])
    clear hok
    go_enter Try.func47, Try.ntmps47
    go_wp2_with fail
    refine (l07Box_is Hok.out (H1.out.at hB Hb0.out) (H2.out.at hB Hb0.out) (Nat.le_refl _)).mono ?_
    rintro e w1 ⟨rfl, g⟩
    have Hb1 : Hid (Below w.heap.size w w1) := Lib.hid (Hb0.out.trans (g.mono Hb0.out.size))
    have q0 : w1.cell? ⟨w.heap.size, 0, none⟩ = some (.slice A1 xs.length c1) := (g.cell (p := ⟨w.heap.size, 0, none⟩) Hz0.out).trans Hc0.out
    have q1 : w1.cell? ⟨w.heap.size, 1, none⟩ = some (.slice A2 ms.length c2) := (g.cell (p := ⟨w.heap.size, 1, none⟩) Hz0.out).trans Hc1.out
    clear g
    go_wp2_with fail
    refine (l07Size_any (H1.out.at hB Hb1.out) (H2.out.at hB Hb1.out) (Nat.le_refl _) Hok.out).mono ?_
    rintro e w2 ⟨rfl, g⟩
    have Hb2 : Hid (Below w.heap.size w w2) := Lib.hid (Hb1.out.trans (g.mono Hb1.out.size))
    clear g q0 q1
    go_wp2_with fail
    go_ret
    exact ⟨by rw [Hf.out]; rfl, Hb2.out⟩
set_option maxHeartbeats 1000000 in
set_option maxRecDepth 100000 in
theorem implBoxSize_any {B : Nat} {w : World} {v1 v2 : Value} {xs ms : List Int} (h1 : Ri B w v1 xs) (h2 : Ri B w v2 ms) (hB : B ≤ w.heap.size) :
    Calls Try.prog 48 #[.agg #[v1, v2]] w (GivesB (.int .i64 (boxSz xs ms)) w) := by
  have H1 := Lib.hid h1; have H2 := Lib.hid h2
  obtain ⟨A1, c1, rfl, hl1, hm1, hx1⟩ := h1
  obtain ⟨A2, c2, rfl, hl2, hm2, hx2⟩ := h2
  have Hx1 := Lib.hid hx1; have Hx2 := Lib.hid hx2; clear hx1 hx2
  unfold maxLen at hm1 hm2
  have Hb0 : Hid (Below w.heap.size w (w.alloc (.cells #[.slice A1 xs.length c1, .slice A2 ms.length c2] 55))) := Lib.hid ((Below.refl _ w).alloc (Nat.le_refl _) _)
  have Hc0 : Hid ((w.alloc (.cells #[.slice A1 xs.length c1, .slice A2 ms.length c2] 55)).cell? ⟨w.heap.size, 0, none⟩ = some (.slice A1 xs.length c1)) := Lib.hid (by rw [cell_of_row _ _ _ _ _ _ (heap_alloc_new w _)]; rfl)
  have Hc1 : Hid ((w.alloc (.cells #[.slice A1 xs.length c1, .slice A2 ms.length c2] 55)).cell? ⟨w.heap.size, 1, none⟩ = some (.slice A2 ms.length c2)) := Lib.hid (by rw [cell_of_row _ _ _ _ _ _ (heap_alloc_new w _)]; rfl)
  have Hz0 : Hid (w.heap.size < (w.alloc (.cells #[.slice A1 xs.length c1, .slice A2 ms.length c2] 55)).heap.size) := Lib.hid (by simp)
  cases hok : boxOk xs ms
  · have Hok := Lib.hid hok
    have Hf : Hid (boxSz xs ms = 0) := Lib.hid (by simp [boxSz, hok])
    clear hok
    go_enter Try.func48, Try.ntmps48
    go_wp2_with fail
    refine (implValidBox_is Hok.out (H1.out.at hB Hb0.out) (H2.out.at hB Hb0.out) (Nat.le_refl _)).mono ?_
    rintro e w1 ⟨rfl, g⟩
    have Hb1 : Hid (Below w.heap.size w w1) := Lib.hid (Hb0.out.trans (g.mono Hb0.out.size))
    clear g
    go_wp2_with fail
    go_ret
    exact ⟨by rw [Hf.out]; rfl, Hb1.out⟩
  · have Hok := Lib.hid hok
    have Hf : Hid (boxSz xs ms = bszK xs ms xs.length) := Lib.hid (by simp [boxSz, hok])
    clear hok
    go_enter Try.func48, Try.ntmps48
    go_wp2_with fail
    refine (implValidBox_is Hok.out (H1.out.at hB Hb0.out) (H2.out.at hB Hb0.out) (Nat.le_refl _)).mono ?_
    rintro e w1 ⟨rfl, g⟩
    have Hb1 : Hid (Below w.heap.size w w1) := Lib.hid (Hb0.out.trans (g.mono Hb0.out.size))
    have q0 : w1.cell? ⟨w.heap.size, 0, none⟩ = some (.slice A1 xs.length c1) := (g.cell (p := ⟨w.heap.size, 0, none⟩) Hz0.out).trans Hc0.out
    have q1 : w1.cell? ⟨w.heap.size, 1, none⟩ = some (.slice A2 ms.length c2) := (g.cell (p := ⟨w.heap.size, 1, none⟩) Hz0.out).trans Hc1.out
    have Q1 := Lib.hid q1
    clear g
    go_wp2
    clear q0 q1
    go_loop [3, 12] (fun n i => ∃ k : Nat, k ≤ xs.length ∧ i = .int .i64 k ∧ n = .int .i64 (bszK xs ms k)) (fun _ i => xs.length - (intOf i).toNat)
    case atStart => exact ⟨0, Nat.zero_le _, rfl, rfl⟩
    case round =>
      obtain ⟨k, hk, rfl, rfl⟩ := hrel
      by_cases hlt : k < xs.length
      · have hlt2 : k < ms.length := by have := (boxOk_iff Hok.out).2.1; omega
        obtain ⟨b1, o1, rfl, hb1, hq1, hI1⟩ := Hx1.out k hlt
        obtain ⟨b2, o2, rfl, hb2, hq2, hI2⟩ := Hx2.out k hlt2
        have g1 : w1.cell? ⟨b1, o1 + k, none⟩ = some (.int .i64 xs[k]) := by rw [Hb1.out.cell (p := ⟨b1, o1 + k, none⟩) (show b1 < _ from by omega)]; exact hq1
        have g2 : w1.cell? ⟨b2, o2 + k, none⟩ = some (.int .i64 ms[k]) := by rw [Hb1.out.cell (p := ⟨b2, o2 + k, none⟩) (show b2 < _ from by omega)]; exact hq2
        have hb := boxOk_in Hok.out k hlt hlt2
        have hq := bsz_lt Hok.out (k + 1) hlt
        have Hk : Hid (bszK xs ms (k + 1) = bszK xs ms k * (ms[k] - xs[k])) := Lib.hid (by rw [bszK, getD_at _ _ hlt, getD_at _ _ hlt2])
        rw [Hk.out] at hq
        have q1 := Q1.out
        clear hq1 hq2 hI1 hI2
        generalize hxk : xs[k] = x at *
        generalize hyk : ms[k] = m at *
        generalize hpk : bszK xs ms k = p at *
        have Hxk := Lib.hid hxk; have Hyk := Lib.hid hyk
        have Hpk := Lib.hid hpk
        clear hxk hyk hpk
        have w1 : IntKind.i64.wrap (m - x) = m - x := IntWalk.i64_in _ (by omega)
        have w2 : IntKind.i64.wrap (p * (m - x)) = p * (m - x) := IntWalk.i64_in _ (by omega)
        clear hq
        go_wp2
        go_round
        case rel => exact ⟨k + 1, by omega, by go_num, by rw [Hk.out]⟩
        case measure => simp [intOf]; omega
      · obtain rfl : k = xs.length := by omega
        go_wp2
        go_ret
        exact ⟨by rw [Hf.out]; rfl, Hb1.out⟩
end Go.Proofs.Ytaokifppaagalaa
