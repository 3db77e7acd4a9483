/- Contracts of the functions that check a box. No statement is proved here. -/
import Derived.Test.YtbghekgghiamcaaBx
namespace Go.Proofs.Ytbghekgghiamcaa
open Go.RowKit
set_option linter.unusedVariables false
def boxP (xs ms : List Int) (i : Nat) : Bool := inB (ms.getD i 0) 1 40 && inB (xs.getD i 0) 0 (ms.getD i 0 - 1)
/-- Is this a valid box? -/
def boxOk (xs ms : List Int) : Bool := decide (xs.length ≤ 3) && (decide (ms.length = xs.length) && allTo (boxP xs ms) xs.length)
theorem boxP_at (xs ms : List Int) (i : Nat) (h : i < xs.length) (h2 : i < ms.length) : boxP xs ms i = (inB ms[i] 1 40 && inB xs[i] 0 (ms[i] - 1)) := by unfold boxP; rw [getD_at _ _ h, getD_at _ _ h2]
theorem boxOk_long {xs ms : List Int} (h : ¬ xs.length ≤ 3) : boxOk xs ms = false := by simp [boxOk, h]
theorem boxOk_len {xs ms : List Int} (h : ms.length ≠ xs.length) : boxOk xs ms = false := by simp [boxOk, h]
theorem boxOk_bad {xs ms : List Int} {k : Nat} (hk : k < xs.length) (h : boxP xs ms k = false) : boxOk xs ms = false := by simp [boxOk, allTo_bad _ k _ hk h]
theorem boxOk_end {xs ms : List Int} (hd : xs.length ≤ 3) (hl : ms.length = xs.length) (h : allTo (boxP xs ms) xs.length = true) : boxOk xs ms = true := by simp [boxOk, h, hl, hd]
theorem boxOk_iff {xs ms : List Int} (h : boxOk xs ms = true) : xs.length ≤ 3 ∧ ms.length = xs.length ∧ allTo (boxP xs ms) xs.length = true := by simpa [boxOk] using h
theorem boxOk_in {xs ms : List Int} (h : boxOk xs ms = true) (i : Nat) (h1 : i < xs.length) (h2 : i < ms.length) : 0 ≤ xs[i] ∧ xs[i] < ms[i] ∧ ms[i] ≤ 40 := by
  have := allTo_at (boxOk_iff h).2.2 h1
  rw [boxP_at _ _ _ h1 h2, Bool.and_eq_true, inB_iff, inB_iff] at this
  omega
set_option maxHeartbeats 1000000 in
set_option maxRecDepth 100000 in
theorem l07Box_any {B : Nat} {w : World} {v1 v2 : Value} {xs ms : List Int} (h1 : Ri B w v1 xs) (h2 : Ri B w v2 ms) (hB : B ≤ w.heap.size) :
    Calls Try.prog 74 #[.agg #[v1, v2]] w (GivesB (.bool (boxOk xs ms)) w) := by
  obtain ⟨A1, c1, rfl, hl1, hm1, hx1⟩ := h1
  obtain ⟨A2, c2, rfl, hl2, hm2, hx2⟩ := h2
  have Hx1 := Lib.hid hx1; have Hx2 := Lib.hid hx2; clear hx1 hx2
  unfold maxLen at hm1 hm2
  have Hb0 : Hid (Below w.heap.size w (w.alloc (.cells #[.slice A1 xs.length c1, .slice A2 ms.length c2] 43))) := Lib.hid ((Below.refl _ w).alloc (Nat.le_refl _) _)
  have Hc0 : Hid ((w.alloc (.cells #[.slice A1 xs.length c1, .slice A2 ms.length c2] 43)).cell? ⟨w.heap.size, 0, none⟩ = some (.slice A1 xs.length c1)) := Lib.hid (by rw [cell_of_row _ _ _ _ _ _ (heap_alloc_new w _)]; rfl)
  have Hc1 : Hid ((w.alloc (.cells #[.slice A1 xs.length c1, .slice A2 ms.length c2] 43)).cell? ⟨w.heap.size, 1, none⟩ = some (.slice A2 ms.length c2)) := Lib.hid (by rw [cell_of_row _ _ _ _ _ _ (heap_alloc_new w _)]; rfl)
  have Hz0 : Hid (w.heap.size < (w.alloc (.cells #[.slice A1 xs.length c1, .slice A2 ms.length c2] 43)).heap.size) := Lib.hid (by simp)
  by_cases hd : xs.length ≤ 3
  rotate_left
  · have Hf := Lib.hid (boxOk_long (ms := ms) hd)
    have hd' : decide ((3 : Int) < (xs.length : Int)) = true := decide_eq_true (by omega)
    go_enter Try.func74, Try.ntmps74
    go_wp2
    go_ret
    exact ⟨by rw [Hf.out]; rfl, Hb0.out⟩
  have hd' : decide ((3 : Int) < (xs.length : Int)) = false := decide_eq_false (by omega)
  by_cases hn : ms.length = xs.length
  rotate_left
  · have Hf := Lib.hid (boxOk_len hn)
    have hn' : ((ms.length : Int) == (xs.length : Int)) = false := by simp; omega
    have hn2 : ((ms.length : Int) != (xs.length : Int)) = true := by simp; omega
    have hn3 : ¬ ((ms.length : Int) = (xs.length : Int)) := by omega
    go_enter Try.func74, Try.ntmps74
    go_wp2
    go_ret
    exact ⟨by rw [Hf.out]; rfl, Hb0.out⟩
  have hn' : (ms.length : Int) = (xs.length : Int) := by omega
  have Hn := Lib.hid hn; have Hd := Lib.hid hd
  clear hn
  go_enter Try.func74, Try.ntmps74
  go_wp2
  clear hn' hd'
  go_loopw [3] (fun i wr => ∃ k : Nat, k ≤ xs.length ∧ i = .int .i64 k ∧ Below w.heap.size w wr ∧ wr.cell? ⟨w.heap.size, 0, none⟩ = some (.slice A1 xs.length c1) ∧ wr.cell? ⟨w.heap.size, 1, none⟩ = some (.slice A2 ms.length c2) ∧ w.heap.size < wr.heap.size ∧ allTo (boxP xs ms) k = true) (fun i _ => xs.length - (intOf i).toNat)
  case atStart => exact ⟨0, Nat.zero_le _, rfl, Hb0.out, Hc0.out, Hc1.out, Hz0.out, allTo_zero _⟩
  case round =>
    obtain ⟨k, hk, rfl, hbel, hc0, hc1, hlt0, hall⟩ := hrel
    have Hall := Lib.hid hall; have Hbel := Lib.hid hbel
    have Hk0 := Lib.hid hc0; have Hk1 := Lib.hid hc1
    clear hall
    by_cases hlt : k < xs.length
    · have hlt2 : k < ms.length := by have := Hn.out; omega
      obtain ⟨b1, o1, rfl, hb1, hq1, hI1⟩ := Hx1.out k hlt
      obtain ⟨b2, o2, rfl, hb2, hq2, hI2⟩ := Hx2.out k hlt2
      have g1 : wr.cell? ⟨b1, o1 + k, none⟩ = some (.int .i64 xs[k]) := by rw [hbel.cell (p := ⟨b1, o1 + k, none⟩) (show b1 < _ from by omega)]; exact hq1
      have g2 : wr.cell? ⟨b2, o2 + k, none⟩ = some (.int .i64 ms[k]) := by rw [hbel.cell (p := ⟨b2, o2 + k, none⟩) (show b2 < _ from by omega)]; exact hq2
      have Hp := Lib.hid (boxP_at xs ms k hlt hlt2)
      have Hk2 := Lib.hid (allTo_succ (boxP xs ms) k)
      have Hbad : Hid (boxP xs ms k = false → boxOk xs ms = false) := Lib.hid (fun h => boxOk_bad hlt h)
      clear hq1 hq2 hI1 hI2 hbel
      generalize hxk : xs[k] = x at *
      generalize hyk : ms[k] = m at *
      have Hxk := Lib.hid hxk; have Hyk := Lib.hid hyk
      clear hxk hyk
      cases hm : inB m 1 40
      · have Hm := Lib.hid hm
        have Hf := Lib.hid (Hbad.out (by rw [Hp.out, hm]; rfl))
        clear hm Hbad
        go_wp2
        go_quiet ((go_at_call 34; exact Quiet.qs (l00In_no _ _ _ _ Hm.out)))
        go_wp2
        go_ret
        exact ⟨by rw [Hf.out]; rfl, below_draws Hbel.out _⟩
      · have Hm := Lib.hid hm
        have hmi := inB_iff.1 hm
        have hwr : IntKind.i64.wrap (m - 1) = m - 1 := IntWalk.i64_in _ (by omega)
        cases hx : inB x 0 (m - 1)
        · have Hx := Lib.hid hx
          have Hf := Lib.hid (Hbad.out (by rw [Hp.out, hm, hx]; rfl))
          clear hm hx Hbad hmi
          go_wp2
          go_quiet (first | (go_at_call 34; exact Quiet.qs (l00In_yes _ _ _ _ Hm.out)) | (go_at_call 34; exact Quiet.qs (l00In_no _ _ _ _ Hx.out)))
          go_wp2
          go_ret
          exact ⟨by rw [Hf.out]; rfl, below_draws Hbel.out _⟩
        · have Hx := Lib.hid hx
          have Hall2 : Hid (allTo (boxP xs ms) (k + 1) = true) := Lib.hid (by rw [Hk2.out, Hall.out, Hp.out, hm, hx]; rfl)
          clear hm hx Hbad hmi
          go_wp2
          go_quiet (first | (go_at_call 34; exact Quiet.qs (l00In_yes _ _ _ _ Hm.out)) | (go_at_call 34; exact Quiet.qs (l00In_yes _ _ _ _ Hx.out)))
          go_wp2
          go_roundw
          case rel => exact ⟨k + 1, by omega, by go_num, below_draws Hbel.out _, Hk0.out, Hk1.out, hlt0, Hall2.out⟩
          case measure => simp [intOf]; omega
    · have Hf : Hid (boxOk xs ms = true) := Lib.hid (boxOk_end Hd.out Hn.out (by rw [show xs.length = k by omega]; exact Hall.out))
      clear hbel
      go_wp2
      go_ret
      exact ⟨by rw [Hf.out]; rfl, Hbel.out⟩
set_option maxHeartbeats 1000000 in
set_option maxRecDepth 100000 in
theorem implValidBox_any {B : Nat} {w : World} {v1 v2 : Value} {xs ms : List Int} (h1 : Ri B w v1 xs) (h2 : Ri B w v2 ms) (hB : B ≤ w.heap.size) :
    Calls Try.prog 75 #[.agg #[v1, v2]] w (GivesB (.bool (boxOk xs ms)) w) := by
  obtain ⟨A1, c1, rfl, hl1, hm1, hx1⟩ := h1
  obtain ⟨A2, c2, rfl, hl2, hm2, hx2⟩ := h2
  have Hx1 := Lib.hid hx1; have Hx2 := Lib.hid hx2; clear hx1 hx2
  unfold maxLen at hm1 hm2
  have Hb0 : Hid (Below w.heap.size w (w.alloc (.cells #[.slice A1 xs.length c1, .slice A2 ms.length c2] 43))) := Lib.hid ((Below.refl _ w).alloc (Nat.le_refl _) _)
  have Hc1 : Hid ((w.alloc (.cells #[.slice A1 xs.length c1, .slice A2 ms.length c2] 43)).cell? ⟨w.heap.size, 1, none⟩ = some (.slice A2 ms.length c2)) := Lib.hid (by rw [cell_of_row _ _ _ _ _ _ (heap_alloc_new w _)]; rfl)
  by_cases hn : ms.length = xs.length
  rotate_left
  · have Hf := Lib.hid (boxOk_len hn)
    have hn' : ((xs.length : Int) == (ms.length : Int)) = false := by simp; omega
    have hn2 : ((xs.length : Int) != (ms.length : Int)) = true := by simp; omega
    have hn3 : ¬ ((xs.length : Int) = (ms.length : Int)) := by omega
    go_enter Try.func75, Try.ntmps75
    go_wp2
    go_ret
    exact ⟨by rw [Hf.out]; rfl, Hb0.out⟩
  have hn' : (xs.length : Int) = (ms.length : Int) := by omega
  have Hn := Lib.hid hn
  by_cases hd : xs.length ≤ 3
  rotate_left
  · have Hf := Lib.hid (boxOk_long (ms := ms) hd)
    have hd' : decide ((3 : Int) < (xs.length : Int)) = true := decide_eq_true (by omega)
    have hd'' : decide ((3 : Int) < (ms.length : Int)) = true := decide_eq_true (by omega)
    clear hn
    go_enter Try.func75, Try.ntmps75
    go_wp2
    go_ret
    exact ⟨by rw [Hf.out]; rfl, Hb0.out⟩
  have hd' : decide ((3 : Int) < (xs.length : Int)) = false := decide_eq_false (by omega)
  have hd'' : decide ((3 : Int) < (ms.length : Int)) = false := decide_eq_false (by omega)
  have Hd := Lib.hid hd
  clear hn
  go_enter Try.func75, Try.ntmps75
  go_wp2
  clear hn' hd' hd''
  have HCx : Hid (∀ (b o : Nat), b < w.heap.size → (w.alloc (.cells #[.slice A1 xs.length c1, .slice A2 ms.length c2] 43)).cell? ⟨b, o, none⟩ = w.cell? ⟨b, o, none⟩) := Lib.hid (fun b o h => Hb0.out.cell (p := ⟨b, o, none⟩) h)
  generalize (w.alloc (.cells #[.slice A1 xs.length c1, .slice A2 ms.length c2] 43)) = w0 at *
  go_loop [21] (fun i => ∃ k : Nat, k ≤ xs.length ∧ i = .int .i64 k ∧ allTo (boxP xs ms) k = true) (fun i => xs.length - (intOf i).toNat)
  case atStart => exact ⟨0, Nat.zero_le _, rfl, allTo_zero _⟩
  case round =>
    obtain ⟨k, hk, rfl, hall⟩ := hrel
    have Hall := Lib.hid hall
    clear hall
    by_cases hlt : k < xs.length
    · have hlt2 : k < ms.length := by have := Hn.out; omega
      obtain ⟨b1, o1, rfl, hb1, hq1, hI1⟩ := Hx1.out k hlt
      obtain ⟨b2, o2, rfl, hb2, hq2, hI2⟩ := Hx2.out k hlt2
      have g1 : w0.cell? ⟨b1, o1 + k, none⟩ = some (.int .i64 xs[k]) := by rw [HCx.out _ _ (show b1 < _ from by omega)]; exact hq1
      have g2 : w0.cell? ⟨b2, o2 + k, none⟩ = some (.int .i64 ms[k]) := by rw [HCx.out _ _ (show b2 < _ from by omega)]; exact hq2
      have hc1 := Hc1.out
      have Hp := Lib.hid (boxP_at xs ms k hlt hlt2)
      have Hk2 := Lib.hid (allTo_succ (boxP xs ms) k)
      have Hbad : Hid (boxP xs ms k = false → boxOk xs ms = false) := Lib.hid (fun h => boxOk_bad hlt h)
      clear hq1 hq2 hI1 hI2
      generalize hxk : xs[k] = x at *
      generalize hyk : ms[k] = m at *
      have Hxk := Lib.hid hxk; have Hyk := Lib.hid hyk
      clear hxk hyk
      by_cases hlo : x < 0
      · have Hf := Lib.hid (Hbad.out (by rw [Hp.out, Bool.and_eq_false_iff]; exact .inr (inB_no (.inl hlo))))
        clear Hbad
        go_wp2
        go_ret
        exact ⟨by rw [Hf.out]; rfl, Hb0.out⟩
      by_cases hle : m ≤ x
      · have Hf := Lib.hid (Hbad.out (by rw [Hp.out, Bool.and_eq_false_iff]; exact .inr (inB_no (.inr (by omega)))))
        clear Hbad
        go_wp2
        go_ret
        exact ⟨by rw [Hf.out]; rfl, Hb0.out⟩
      by_cases hhi : 40 < m
      · have Hf := Lib.hid (Hbad.out (by rw [Hp.out, Bool.and_eq_false_iff]; exact .inl (inB_no (.inr hhi))))
        clear Hbad
        go_wp2
        go_ret
        exact ⟨by rw [Hf.out]; rfl, Hb0.out⟩
      have Hall2 : Hid (allTo (boxP xs ms) (k + 1) = true) := Lib.hid (by rw [Hk2.out, Hall.out, Hp.out, inB_yes (by omega) (by omega), inB_yes (by omega) (by omega)]; rfl)
      clear Hbad
      go_wp2
      go_round
      case rel => exact ⟨k + 1, by omega, by go_num, Hall2.out⟩
      case measure => simp [intOf]; omega
    · have Hf : Hid (boxOk xs ms = true) := Lib.hid (boxOk_end Hd.out Hn.out (by rw [show xs.length = k by omega]; exact Hall.out))
      have hlt3 : ¬ k < ms.length := by have := Hn.out; omega
      go_wp2
      go_ret
      exact ⟨by rw [Hf.out]; rfl, Hb0.out⟩
end Go.Proofs.Ytbghekgghiamcaa
