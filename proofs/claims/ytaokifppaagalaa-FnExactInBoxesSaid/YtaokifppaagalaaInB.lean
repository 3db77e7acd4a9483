/- Contracts of the functions that look for an element in a list of boxes. No statement is proved here. -/
import Derived.Test.YtaokifppaagalaaLstI
namespace Go.Proofs.Ytaokifppaagalaa
open Go.RowKit
set_option linter.unusedVariables false
def inQ (p : Bx) (ys : List Int) (i : Nat) : Bool := inB (ys.getD i 0) (p.1.getD i 0) (p.2.getD i 0 - 1)
/-- Does the box contain these coordinates? -/
def inBx (p : Bx) (ys : List Int) : Bool := decide (ys.length = p.1.length) && allTo (inQ p ys) p.1.length
def notIn (bs : List Bx) (ys : List Int) (i : Nat) : Bool := !inBx (bxAt bs i) ys
def inBoxes (bs : List Bx) (ys : List Int) : Bool := boxesOk bs && !allTo (notIn bs ys) bs.length
theorem inQ_at (p : Bx) (ys : List Int) (i : Nat) (h : i < ys.length) (h1 : i < p.1.length) (h2 : i < p.2.length) : inQ p ys i = inB ys[i] p.1[i] (p.2[i] - 1) := by unfold inQ; rw [getD_at _ _ h, getD_at _ _ h1, getD_at _ _ h2]
theorem inBx_len {p : Bx} {ys : List Int} (h : ys.length ≠ p.1.length) : inBx p ys = false := by simp [inBx, h]
theorem inBx_bad {p : Bx} {ys : List Int} {k : Nat} (hk : k < p.1.length) (h : inQ p ys k = false) : inBx p ys = false := by simp [inBx, allTo_bad _ k _ hk h]
theorem inBx_end {p : Bx} {ys : List Int} (hl : ys.length = p.1.length) (h : allTo (inQ p ys) p.1.length = true) : inBx p ys = true := by simp [inBx, h, hl]
set_option maxHeartbeats 1000000 in
set_option maxRecDepth 100000 in
theorem l07In_any {B : Nat} {w : World} {v1 v2 v3 : Value} {p : Bx} {ys : List Int} {r : Bool} (hr : inBx p ys = r) (h1 : Ri B w v1 p.1) (h2 : Ri B w v2 p.2) (h3 : Ri B w v3 ys) (hB : B ≤ w.heap.size) (hok : boxOk p.1 p.2 = true) (hn : ys.length = p.1.length) :
    Calls Try.prog 94 #[.agg #[v1, v2], v3] w (GivesB (.bool r) w) := by
  obtain ⟨xs, ms⟩ := p
  simp only at h1 h2 hok hn
  have Hr := Lib.hid hr; clear hr
  obtain ⟨A1, c1, rfl, hl1, hm1, hx1⟩ := h1
  obtain ⟨A2, c2, rfl, hl2, hm2, hx2⟩ := h2
  obtain ⟨A3, c3, rfl, hl3, hm3, hx3⟩ := h3
  have Hx1 := Lib.hid hx1; have Hx2 := Lib.hid hx2; have Hx3 := Lib.hid hx3; clear hx1 hx2 hx3
  unfold maxLen at hm1 hm2 hm3
  have Hb0 : Hid (Below w.heap.size w (w.alloc (.cells #[.slice A1 xs.length c1, .slice A2 ms.length c2] 55))) := Lib.hid ((Below.refl _ w).alloc (Nat.le_refl _) _)
  have Hc0 : Hid ((w.alloc (.cells #[.slice A1 xs.length c1, .slice A2 ms.length c2] 55)).cell? ⟨w.heap.size, 0, none⟩ = some (.slice A1 xs.length c1)) := Lib.hid (by rw [cell_of_row _ _ _ _ _ _ (heap_alloc_new w _)]; rfl)
  have Hc1 : Hid ((w.alloc (.cells #[.slice A1 xs.length c1, .slice A2 ms.length c2] 55)).cell? ⟨w.heap.size, 1, none⟩ = some (.slice A2 ms.length c2)) := Lib.hid (by rw [cell_of_row _ _ _ _ _ _ (heap_alloc_new w _)]; rfl)
  have Hz0 : Hid (w.heap.size < (w.alloc (.cells #[.slice A1 xs.length c1, .slice A2 ms.length c2] 55)).heap.size) := Lib.hid (by simp)
  have Hn := Lib.hid hn; have Hok := Lib.hid hok
  clear hn hok
  go_enter Try.func94, Try.ntmps94
  go_wp2
  go_loopw [5] (fun i wr => ∃ k : Nat, k ≤ xs.length ∧ i = .int .i64 k ∧ Below w.heap.size w wr ∧ wr.cell? ⟨w.heap.size, 0, none⟩ = some (.slice A1 xs.length c1) ∧ wr.cell? ⟨w.heap.size, 1, none⟩ = some (.slice A2 ms.length c2) ∧ w.heap.size < wr.heap.size ∧ allTo (inQ (xs, ms) ys) k = true) (fun i _ => xs.length - (intOf i).toNat)
  case atStart => exact ⟨0, Nat.zero_le _, rfl, Hb0.out, Hc0.out, Hc1.out, Hz0.out, allTo_zero _⟩
  case round =>
    obtain ⟨k, hk, rfl, hbel, hc0, hc1, hlt0, hall⟩ := hrel
    have Hall := Lib.hid hall; have Hbel := Lib.hid hbel
    have Hk0 := Lib.hid hc0; have Hk1 := Lib.hid hc1
    clear hall
    by_cases hlt : k < xs.length
    · have hlt2 : k < ms.length := by have := (boxOk_iff Hok.out).2.1; omega
      have hlt3 : k < ys.length := by have := Hn.out; omega
      obtain ⟨b1, o1, rfl, hb1, hq1, hI1⟩ := Hx1.out k hlt
      obtain ⟨b2, o2, rfl, hb2, hq2, hI2⟩ := Hx2.out k hlt2
      obtain ⟨b3, o3, rfl, hb3, hq3, hI3⟩ := Hx3.out k hlt3
      have g1 : wr.cell? ⟨b1, o1 + k, none⟩ = some (.int .i64 xs[k]) := by rw [hbel.cell (p := ⟨b1, o1 + k, none⟩) (show b1 < _ from by omega)]; exact hq1
      have g2 : wr.cell? ⟨b2, o2 + k, none⟩ = some (.int .i64 ms[k]) := by rw [hbel.cell (p := ⟨b2, o2 + k, none⟩) (show b2 < _ from by omega)]; exact hq2
      have g3 : wr.cell? ⟨b3, o3 + k, none⟩ = some (.int .i64 ys[k]) := by rw [hbel.cell (p := ⟨b3, o3 + k, none⟩) (show b3 < _ from by omega)]; exact hq3
      have hb := boxOk_in Hok.out k hlt hlt2
      have Hp : Hid (inQ (xs, ms) ys k = inB ys[k] xs[k] (ms[k] - 1)) := Lib.hid (inQ_at (xs, ms) ys k hlt3 hlt hlt2)
      have Hk2 := Lib.hid (allTo_succ (inQ (xs, ms) ys) k)
      have Hbad : Hid (inQ (xs, ms) ys k = false → r = false) := Lib.hid (fun h => by rw [← Hr.out]; exact inBx_bad hlt h)
      clear hq1 hq2 hq3 hI1 hI2 hI3 hbel
      generalize hxk : xs[k] = x at *
      generalize hyk : ms[k] = m at *
      generalize hzk : ys[k] = y at *
      have Hxk := Lib.hid hxk; have Hyk := Lib.hid hyk; have Hzk := Lib.hid hzk
      clear hxk hyk hzk
      have hwr : IntKind.i64.wrap (m - 1) = m - 1 := IntWalk.i64_in _ (by omega)
      clear hb
      cases hm : inB y x (m - 1)
      · have Hm := Lib.hid hm
        have Hf := Lib.hid (Hbad.out (by rw [Hp.out, hm]))
        clear hm Hbad
        go_wp2
        go_quiet ((go_at_call 78; exact Quiet.qs (l00In_no _ _ _ _ Hm.out)))
        go_wp2
        go_ret
        exact ⟨by rw [Hf.out]; rfl, below_draws Hbel.out _⟩
      · have Hm := Lib.hid hm
        have Hall2 : Hid (allTo (inQ (xs, ms) ys) (k + 1) = true) := Lib.hid (by rw [Hk2.out, Hall.out, Hp.out, hm]; rfl)
        clear hm Hbad
        go_wp2
        go_quiet ((go_at_call 78; exact Quiet.qs (l00In_yes _ _ _ _ Hm.out)))
        go_wp2
        go_roundw
        case rel => exact ⟨k + 1, by omega, by go_num, below_draws Hbel.out _, Hk0.out, Hk1.out, hlt0, Hall2.out⟩
        case measure => simp [intOf]; omega
    · have Hf : Hid (r = true) := Lib.hid (by rw [← Hr.out]; exact inBx_end Hn.out (by rw [show (xs, ms).1.length = k by simp only; omega]; exact Hall.out))
      clear hbel
      go_wp2
      go_ret
      exact ⟨by rw [Hf.out]; rfl, Hbel.out⟩
set_option maxHeartbeats 1000000 in
set_option maxRecDepth 100000 in
theorem boxContains_any {B : Nat} {w : World} {v1 v2 v3 : Value} {p : Bx} {ys : List Int} {r : Bool} (hr : inBx p ys = r) (h1 : Ri B w v1 p.1) (h2 : Ri B w v2 p.2) (h3 : Ri B w v3 ys) (hB : B ≤ w.heap.size) (hok : boxOk p.1 p.2 = true) :
    Calls Try.prog 96 #[.agg #[v1, v2], v3] w (GivesB (.bool r) w) := by
  obtain ⟨xs, ms⟩ := p
  simp only at h1 h2 hok
  have Hr := Lib.hid hr; clear hr
  obtain ⟨A1, c1, rfl, hl1, hm1, hx1⟩ := h1
  obtain ⟨A2, c2, rfl, hl2, hm2, hx2⟩ := h2
  obtain ⟨A3, c3, rfl, hl3, hm3, hx3⟩ := h3
  have Hx1 := Lib.hid hx1; have Hx2 := Lib.hid hx2; have Hx3 := Lib.hid hx3; clear hx1 hx2 hx3
  unfold maxLen at hm1 hm2 hm3
  have Hb0 : Hid (Below w.heap.size w (w.alloc (.cells #[.slice A1 xs.length c1, .slice A2 ms.length c2] 55))) := Lib.hid ((Below.refl _ w).alloc (Nat.le_refl _) _)
  have Hc0 : Hid ((w.alloc (.cells #[.slice A1 xs.length c1, .slice A2 ms.length c2] 55)).cell? ⟨w.heap.size, 0, none⟩ = some (.slice A1 xs.length c1)) := Lib.hid (by rw [cell_of_row _ _ _ _ _ _ (heap_alloc_new w _)]; rfl)
  have Hc1 : Hid ((w.alloc (.cells #[.slice A1 xs.length c1, .slice A2 ms.length c2] 55)).cell? ⟨w.heap.size, 1, none⟩ = some (.slice A2 ms.length c2)) := Lib.hid (by rw [cell_of_row _ _ _ _ _ _ (heap_alloc_new w _)]; rfl)
  by_cases hn : ys.length = xs.length
  rotate_left
  · have Hf : Hid (r = false) := Lib.hid (by rw [← Hr.out]; exact inBx_len hn)
    have hn' : ((ys.length : Int) == (xs.length : Int)) = false := by simp; omega
    have hn2 : ((ys.length : Int) != (xs.length : Int)) = true := by simp; omega
    have hn3 : ¬ ((ys.length : Int) = (xs.length : Int)) := by omega
    go_enter Try.func96, Try.ntmps96
    go_wp2
    go_ret
    exact ⟨by rw [Hf.out]; rfl, Hb0.out⟩
  have hn' : (ys.length : Int) = (xs.length : Int) := by omega
  have Hn := Lib.hid hn; have Hok := Lib.hid hok
  clear hn hok
  go_enter Try.func96, Try.ntmps96
  go_wp2
  clear hn'
  have HCx : Hid (∀ (b o : Nat), b < w.heap.size → (w.alloc (.cells #[.slice A1 xs.length c1, .slice A2 ms.length c2] 55)).cell? ⟨b, o, none⟩ = w.cell? ⟨b, o, none⟩) := Lib.hid (fun b o h => Hb0.out.cell (p := ⟨b, o, none⟩) h)
  generalize (w.alloc (.cells #[.slice A1 xs.length c1, .slice A2 ms.length c2] 55)) = w0 at *
  go_loop [15] (fun i => ∃ k : Nat, k ≤ ys.length ∧ i = .int .i64 k ∧ allTo (inQ (xs, ms) ys) k = true) (fun i => ys.length - (intOf i).toNat)
  case atStart => exact ⟨0, Nat.zero_le _, rfl, allTo_zero _⟩
  case round =>
    obtain ⟨k, hk, rfl, hall⟩ := hrel
    have Hall := Lib.hid hall
    clear hall
    by_cases hlt3 : k < ys.length
    · have hlt : k < xs.length := by have := Hn.out; omega
      have hlt2 : k < ms.length := by have := (boxOk_iff Hok.out).2.1; omega
      obtain ⟨b1, o1, rfl, hb1, hq1, hI1⟩ := Hx1.out k hlt
      obtain ⟨b2, o2, rfl, hb2, hq2, hI2⟩ := Hx2.out k hlt2
      obtain ⟨b3, o3, rfl, hb3, hq3, hI3⟩ := Hx3.out k hlt3
      have g1 : w0.cell? ⟨b1, o1 + k, none⟩ = some (.int .i64 xs[k]) := by rw [HCx.out _ _ (show b1 < _ from by omega)]; exact hq1
      have g2 : w0.cell? ⟨b2, o2 + k, none⟩ = some (.int .i64 ms[k]) := by rw [HCx.out _ _ (show b2 < _ from by omega)]; exact hq2
      have g3 : w0.cell? ⟨b3, o3 + k, none⟩ = some (.int .i64 ys[k]) := by rw [HCx.out _ _ (show b3 < _ from by omega)]; exact hq3
      have hc0 := Hc0.out
      have hc1 := Hc1.out
      have Hp : Hid (inQ (xs, ms) ys k = inB ys[k] xs[k] (ms[k] - 1)) := Lib.hid (inQ_at (xs, ms) ys k hlt3 hlt hlt2)
      have Hk2 := Lib.hid (allTo_succ (inQ (xs, ms) ys) k)
      have Hbad : Hid (inQ (xs, ms) ys k = false → r = false) := Lib.hid (fun h => by rw [← Hr.out]; exact inBx_bad hlt h)
      clear hq1 hq2 hq3 hI1 hI2 hI3
      generalize hxk : xs[k] = x at *
      generalize hyk : ms[k] = m at *
      generalize hzk : ys[k] = y at *
      have Hxk := Lib.hid hxk; have Hyk := Lib.hid hyk; have Hzk := Lib.hid hzk
      clear hxk hyk hzk
      by_cases hlo : y < x
      · have Hf := Lib.hid (Hbad.out (by rw [Hp.out]; exact inB_no (.inl hlo)))
        clear Hbad
        go_wp2
        go_ret
        exact ⟨by rw [Hf.out]; rfl, Hb0.out⟩
      by_cases hle : m ≤ y
      · have Hf := Lib.hid (Hbad.out (by rw [Hp.out]; exact inB_no (.inr (by omega))))
        clear Hbad
        go_wp2
        go_ret
        exact ⟨by rw [Hf.out]; rfl, Hb0.out⟩
      have Hall2 : Hid (allTo (inQ (xs, ms) ys) (k + 1) = true) := Lib.hid (by rw [Hk2.out, Hall.out, Hp.out, inB_yes (by omega) (by omega)]; rfl)
      clear Hbad
      go_wp2
      go_round
      case rel => exact ⟨k + 1, by omega, by go_num, Hall2.out⟩
      case measure => simp [intOf]; omega
    · have Hf : Hid (r = true) := Lib.hid (by rw [← Hr.out]; exact inBx_end Hn.out (by rw [show (xs, ms).1.length = k by have := Hn.out; simp only; omega]; exact Hall.out))
      have hlt4 : ¬ k < xs.length := by have := Hn.out; omega
      go_wp2
      go_ret
      exact ⟨by rw [Hf.out]; rfl, Hb0.out⟩
end Go.Proofs.Ytaokifppaagalaa
