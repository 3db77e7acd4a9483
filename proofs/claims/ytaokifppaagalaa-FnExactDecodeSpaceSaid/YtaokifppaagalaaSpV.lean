/- Contracts of the functions that check a dataspace. No statement is proved here. -/
import Derived.Test.YtaokifppaagalaaSpc
namespace Go.Proofs.Ytaokifppaagalaa
open Go.RowKit
set_option linter.unusedVariables false
def maxP (xs ms : List Int) (i : Nat) : Bool := decide (ms.getD i 0 = -1) || inB (ms.getD i 0) (xs.getD i 0) 40
def spaceOk (xs ms : List Int) : Bool := dimsOk xs && (decide (ms.length = xs.length) && allTo (maxP xs ms) xs.length)
theorem maxP_at (xs ms : List Int) (i : Nat) (h : i < xs.length) (h2 : i < ms.length) : maxP xs ms i = (decide (ms[i] = -1) || inB ms[i] xs[i] 40) := by unfold maxP; rw [getD_at _ _ h, getD_at _ _ h2]
theorem spaceOk_dims {xs ms : List Int} (h : dimsOk xs = false) : spaceOk xs ms = false := by simp [spaceOk, h]
theorem spaceOk_len {xs ms : List Int} (h : ms.length ≠ xs.length) : spaceOk xs ms = false := by simp [spaceOk, h]
theorem spaceOk_bad {xs ms : List Int} {k : Nat} (hk : k < xs.length) (h : maxP xs ms k = false) : spaceOk xs ms = false := by simp [spaceOk, allTo_bad _ k _ hk h]
theorem spaceOk_end {xs ms : List Int} (hd : dimsOk xs = true) (hl : ms.length = xs.length) (h : allTo (maxP xs ms) xs.length = true) : spaceOk xs ms = true := by simp [spaceOk, h, hl, hd]
theorem spaceOk_iff {xs ms : List Int} (h : spaceOk xs ms = true) : dimsOk xs = true ∧ ms.length = xs.length ∧ allTo (maxP xs ms) xs.length = true := by simpa [spaceOk] using h
theorem implDims_yes {B : Nat} {w : World} {v : Value} {xs : List Int} (h : Ri B w v xs) (hd : dimsOk xs = true) : Calls Try.prog 135 #[v] w (Quiet (.bool true) w) := hd ▸ implValidDims_any h
theorem implDims_no {B : Nat} {w : World} {v : Value} {xs : List Int} (h : Ri B w v xs) (hd : dimsOk xs = false) : Calls Try.prog 135 #[v] w (Quiet (.bool false) w) := hd ▸ implValidDims_any h
theorem cell_draw (w : World) (n : Nat) (p : Addr) : (w.drewN n).cell? p = w.cell? p := rfl
set_option maxHeartbeats 1000000 in
set_option maxRecDepth 100000 in
theorem l05Space_any {B : Nat} {w : World} {v1 v2 : Value} {xs ms : List Int} (h1 : Ri B w v1 xs) (h2 : Ri B w v2 ms) (hB : B ≤ w.heap.size) :
    Calls Try.prog 106 #[.agg #[v1, v2]] w (GivesB (.bool (spaceOk xs ms)) w) := by
  have H1 := Lib.hid h1
  obtain ⟨A1, c1, rfl, hl1, hm1, hx1⟩ := h1
  obtain ⟨A2, c2, rfl, hl2, hm2, hx2⟩ := h2
  have Hx1 := Lib.hid hx1; have Hx2 := Lib.hid hx2; clear hx1 hx2
  unfold maxLen at hm1 hm2
  have Hb0 : Hid (Below w.heap.size w (w.alloc (.cells #[.slice A1 xs.length c1, .slice A2 ms.length c2] 24))) := Lib.hid ((Below.refl _ w).alloc (Nat.le_refl _) _)
  have Hc0 : Hid ((w.alloc (.cells #[.slice A1 xs.length c1, .slice A2 ms.length c2] 24)).cell? ⟨w.heap.size, 0, none⟩ = some (.slice A1 xs.length c1)) := Lib.hid (by rw [cell_of_row _ _ _ _ _ _ (heap_alloc_new w _)]; rfl)
  have Hc1 : Hid ((w.alloc (.cells #[.slice A1 xs.length c1, .slice A2 ms.length c2] 24)).cell? ⟨w.heap.size, 1, none⟩ = some (.slice A2 ms.length c2)) := Lib.hid (by rw [cell_of_row _ _ _ _ _ _ (heap_alloc_new w _)]; rfl)
  have Hz0 : Hid (w.heap.size < (w.alloc (.cells #[.slice A1 xs.length c1, .slice A2 ms.length c2] 24)).heap.size) := Lib.hid (by simp)
  by_cases hd : dimsOk xs = true
  rotate_left
  · have Hd : Hid (dimsOk xs = false) := Lib.hid (by simpa using hd)
    have Hf := Lib.hid (spaceOk_dims (ms := ms) Hd.out)
    clear hd
    go_enter Try.func106, Try.ntmps106
    go_wp2_with (go_at_call 114; (with_reducible refine (dims_no (H1.out.at hB Hb0.out) Hd.out).mono ?_); rintro e w' ⟨rfl, rfl⟩)
    go_ret
    exact ⟨by rw [Hf.out]; rfl, Hb0.out⟩
  have Hd := Lib.hid hd; clear hd
  by_cases hn : ms.length = xs.length
  rotate_left
  · have Hf := Lib.hid (spaceOk_len hn)
    have hn' : ((ms.length : Int) == (xs.length : Int)) = false := by simp; omega
    have hn2 : ((ms.length : Int) != (xs.length : Int)) = true := by simp; omega
    have hn3 : ¬ ((ms.length : Int) = (xs.length : Int)) := by omega
    go_enter Try.func106, Try.ntmps106
    go_wp2_with (go_at_call 114; (with_reducible refine (dims_yes (H1.out.at hB Hb0.out) Hd.out).mono ?_); rintro e w' ⟨rfl, rfl⟩)
    go_ret
    exact ⟨by rw [Hf.out]; rfl, Hb0.out⟩
  have hn' : (ms.length : Int) = (xs.length : Int) := by omega
  have Hn := Lib.hid hn
  clear hn
  go_enter Try.func106, Try.ntmps106
  go_wp2_with (go_at_call 114; (with_reducible refine (dims_yes (H1.out.at hB Hb0.out) Hd.out).mono ?_); rintro e w' ⟨rfl, rfl⟩)
  clear hn'
  go_loopw [3] (fun i wr => ∃ k : Nat, k ≤ ms.length ∧ i = .int .i64 k ∧ Below w.heap.size w wr ∧ wr.cell? ⟨w.heap.size, 0, none⟩ = some (.slice A1 xs.length c1) ∧ wr.cell? ⟨w.heap.size, 1, none⟩ = some (.slice A2 ms.length c2) ∧ w.heap.size < wr.heap.size ∧ allTo (maxP xs ms) k = true) (fun i _ => ms.length - (intOf i).toNat)
  case atStart => exact ⟨0, Nat.zero_le _, rfl, Hb0.out, Hc0.out, Hc1.out, Hz0.out, allTo_zero _⟩
  case round =>
    obtain ⟨k, hk, rfl, hbel, hc0, hc1, hlt0, hall⟩ := hrel
    have Hall := Lib.hid hall; have Hbel := Lib.hid hbel
    have Hk0 := Lib.hid hc0; have Hk1 := Lib.hid hc1
    clear hall
    by_cases hlt : k < ms.length
    · have hlt2 : k < xs.length := by have := Hn.out; omega
      obtain ⟨b1, o1, rfl, hb1, hq1, hI1⟩ := Hx1.out k hlt2
      obtain ⟨b2, o2, rfl, hb2, hq2, hI2⟩ := Hx2.out k hlt
      have g1 : wr.cell? ⟨b1, o1 + k, none⟩ = some (.int .i64 xs[k]) := by rw [hbel.cell (p := ⟨b1, o1 + k, none⟩) (show b1 < _ from by omega)]; exact hq1
      have g2 : wr.cell? ⟨b2, o2 + k, none⟩ = some (.int .i64 ms[k]) := by rw [hbel.cell (p := ⟨b2, o2 + k, none⟩) (show b2 < _ from by omega)]; exact hq2
      have Hp := Lib.hid (maxP_at xs ms k hlt2 hlt)
      have Hk2 := Lib.hid (allTo_succ (maxP xs ms) k)
      have Hbad : Hid (maxP xs ms k = false → spaceOk xs ms = false) := Lib.hid (fun h => spaceOk_bad hlt2 h)
      clear hq1 hq2 hbel hI1 hI2
      generalize hxk : xs[k] = x at *
      generalize hyk : ms[k] = m at *
      have Hxk := Lib.hid hxk; have Hyk := Lib.hid hyk
      clear hxk hyk
      by_cases hm : m = -1
      · have Hall2 : Hid (allTo (maxP xs ms) (k + 1) = true) := Lib.hid (by rw [Hk2.out, Hall.out, Hp.out]; simp [hm])
        have e1 : (m == -1) = true := by simpa using hm
        have e2 : (m != -1) = false := by simpa using hm
        clear hm Hbad
        go_wp2
        go_quiet (fail)
        go_wp2
        go_roundw
        case rel => exact ⟨k + 1, by omega, by go_num, below_draws Hbel.out _, Hk0.out, Hk1.out, hlt0, Hall2.out⟩
        case measure => simp [intOf]; omega
      · have e1 : (m == -1) = false := by simpa using hm
        have e2 : (m != -1) = true := by simpa using hm
        have Hm := Lib.hid hm
        clear hm
        cases hin : inB m x 40
        · have Hin := Lib.hid hin
          have Hf := Lib.hid (Hbad.out (by rw [Hp.out, hin]; simpa using Hm.out))
          clear hin Hbad
          go_wp2
          go_quiet ((go_at_call 78; exact Quiet.qs (l00In_no _ _ _ _ Hin.out)))
          go_wp2
          go_ret
          exact ⟨by rw [Hf.out]; rfl, below_draws Hbel.out _⟩
        · have Hin := Lib.hid hin
          have Hall2 : Hid (allTo (maxP xs ms) (k + 1) = true) := Lib.hid (by rw [Hk2.out, Hall.out, Hp.out, hin]; simp)
          clear hin Hbad
          go_wp2
          go_quiet ((go_at_call 78; exact Quiet.qs (l00In_yes _ _ _ _ Hin.out)))
          go_wp2
          go_roundw
          case rel => exact ⟨k + 1, by omega, by go_num, below_draws Hbel.out _, Hk0.out, Hk1.out, hlt0, Hall2.out⟩
          case measure => simp [intOf]; omega
    · have Hf : Hid (spaceOk xs ms = true) := Lib.hid (spaceOk_end Hd.out Hn.out (by rw [← Hn.out, show ms.length = k by omega]; exact Hall.out))
      clear hbel
      go_wp2
      go_ret
      exact ⟨by rw [Hf.out]; rfl, Hbel.out⟩
set_option maxHeartbeats 1000000 in
set_option maxRecDepth 100000 in
theorem implValidSpace_any {B : Nat} {w : World} {v1 v2 : Value} {xs ms : List Int} (h1 : Ri B w v1 xs) (h2 : Ri B w v2 ms) (hB : B ≤ w.heap.size) :
    Calls Try.prog 109 #[.agg #[v1, v2]] w (GivesB (.bool (spaceOk xs ms)) w) := by
  have H1 := Lib.hid h1
  obtain ⟨A1, c1, rfl, hl1, hm1, hx1⟩ := h1
  obtain ⟨A2, c2, rfl, hl2, hm2, hx2⟩ := h2
  have Hx1 := Lib.hid hx1; have Hx2 := Lib.hid hx2; clear hx1 hx2
  unfold maxLen at hm1 hm2
  have Hb0 : Hid (Below w.heap.size w (w.alloc (.cells #[.slice A1 xs.length c1, .slice A2 ms.length c2] 24))) := Lib.hid ((Below.refl _ w).alloc (Nat.le_refl _) _)
  have Hc0 : Hid ((w.alloc (.cells #[.slice A1 xs.length c1, .slice A2 ms.length c2] 24)).cell? ⟨w.heap.size, 0, none⟩ = some (.slice A1 xs.length c1)) := Lib.hid (by rw [cell_of_row _ _ _ _ _ _ (heap_alloc_new w _)]; rfl)
  by_cases hd : dimsOk xs = true
  rotate_left
  · have Hd : Hid (dimsOk xs = false) := Lib.hid (by simpa using hd)
    have Hf := Lib.hid (spaceOk_dims (ms := ms) Hd.out)
    clear hd
    go_enter Try.func109, Try.ntmps109
    go_wp2_with (go_at_call 135; (with_reducible refine (implDims_no (H1.out.at hB Hb0.out) Hd.out).mono ?_); rintro e w' ⟨rfl, rfl⟩)
    go_ret
    exact ⟨by rw [Hf.out]; rfl, Hb0.out⟩
  have Hd := Lib.hid hd; clear hd
  by_cases hn : ms.length = xs.length
  rotate_left
  · have Hf := Lib.hid (spaceOk_len hn)
    have hn' : ((ms.length : Int) == (xs.length : Int)) = false := by simp; omega
    have hn2 : ((ms.length : Int) != (xs.length : Int)) = true := by simp; omega
    have hn3 : ¬ ((ms.length : Int) = (xs.length : Int)) := by omega
    go_enter Try.func109, Try.ntmps109
    go_wp2_with (go_at_call 135; (with_reducible refine (implDims_yes (H1.out.at hB Hb0.out) Hd.out).mono ?_); rintro e w' ⟨rfl, rfl⟩)
    go_ret
    exact ⟨by rw [Hf.out]; rfl, Hb0.out⟩
  have hn' : (ms.length : Int) = (xs.length : Int) := by omega
  have Hn := Lib.hid hn
  clear hn
  go_enter Try.func109, Try.ntmps109
  go_wp2_with (go_at_call 135; (with_reducible refine (implDims_yes (H1.out.at hB Hb0.out) Hd.out).mono ?_); rintro e w' ⟨rfl, rfl⟩)
  clear hn'
  have Hcx : ∀ (b o : Nat), b < w.heap.size → (w.alloc (.cells #[.slice A1 xs.length c1, .slice A2 ms.length c2] 24)).cell? ⟨b, o, none⟩ = w.cell? ⟨b, o, none⟩ := fun b o h => Hb0.out.cell (p := ⟨b, o, none⟩) h
  have HCx := Lib.hid Hcx; clear Hcx
  generalize (w.alloc (.cells #[.slice A1 xs.length c1, .slice A2 ms.length c2] 24)) = w0 at *
  go_loop [21] (fun i => ∃ k : Nat, k ≤ xs.length ∧ i = .int .i64 k ∧ allTo (maxP xs ms) k = true) (fun i => xs.length - (intOf i).toNat)
  case atStart => exact ⟨0, Nat.zero_le _, rfl, allTo_zero _⟩
  case round =>
    obtain ⟨k, hk, rfl, hall⟩ := hrel
    have Hall := Lib.hid hall
    clear hall
    by_cases hlt2 : k < xs.length
    · have hlt : k < ms.length := by have := Hn.out; omega
      obtain ⟨b1, o1, rfl, hb1, hq1, hI1⟩ := Hx1.out k hlt2
      obtain ⟨b2, o2, rfl, hb2, hq2, hI2⟩ := Hx2.out k hlt
      have g1 : w0.cell? ⟨b1, o1 + k, none⟩ = some (.int .i64 xs[k]) := by rw [HCx.out _ _ (show b1 < _ from by omega)]; exact hq1
      have g2 : w0.cell? ⟨b2, o2 + k, none⟩ = some (.int .i64 ms[k]) := by rw [HCx.out _ _ (show b2 < _ from by omega)]; exact hq2
      have hc0 := Hc0.out
      have Hp := Lib.hid (maxP_at xs ms k hlt2 hlt)
      have Hk2 := Lib.hid (allTo_succ (maxP xs ms) k)
      have Hbad : Hid (maxP xs ms k = false → spaceOk xs ms = false) := Lib.hid (fun h => spaceOk_bad hlt2 h)
      clear hq1 hq2 hI1 hI2
      generalize hxk : xs[k] = x at *
      generalize hyk : ms[k] = m at *
      have Hxk := Lib.hid hxk; have Hyk := Lib.hid hyk
      clear hxk hyk
      by_cases hm : m = -1
      · have Hall2 : Hid (allTo (maxP xs ms) (k + 1) = true) := Lib.hid (by rw [Hk2.out, Hall.out, Hp.out]; simp [hm])
        have e1 : (m == -1) = true := by simpa using hm
        have e2 : (m != -1) = false := by simpa using hm
        clear hm Hbad
        go_wp2
        go_round
        case rel => exact ⟨k + 1, by omega, by go_num, Hall2.out⟩
        case measure => simp [intOf]; omega
      · have e1 : (m == -1) = false := by simpa using hm
        have e2 : (m != -1) = true := by simpa using hm
        have Hm := Lib.hid hm
        clear hm
        by_cases hlo : m < x
        · have Hf := Lib.hid (Hbad.out (by rw [Hp.out, inB_no (.inl hlo)]; simpa using Hm.out))
          clear Hbad
          go_wp2
          go_ret
          exact ⟨by rw [Hf.out]; rfl, Hb0.out⟩
        by_cases hhi : 40 < m
        · have Hf := Lib.hid (Hbad.out (by rw [Hp.out, inB_no (.inr hhi)]; simpa using Hm.out))
          clear Hbad
          go_wp2
          go_ret
          exact ⟨by rw [Hf.out]; rfl, Hb0.out⟩
        have Hall2 : Hid (allTo (maxP xs ms) (k + 1) = true) := Lib.hid (by rw [Hk2.out, Hall.out, Hp.out, inB_yes (by omega) (by omega)]; simp)
        clear Hbad
        go_wp2
        go_round
        case rel => exact ⟨k + 1, by omega, by go_num, Hall2.out⟩
        case measure => simp [intOf]; omega
    · have Hf : Hid (spaceOk xs ms = true) := Lib.hid (spaceOk_end Hd.out Hn.out (by rw [show xs.length = k by omega]; exact Hall.out))
      have hlt : ¬ k < ms.length := by have := Hn.out; omega
      go_wp2
      go_ret
      exact ⟨by rw [Hf.out]; rfl, Hb0.out⟩
end Go.Proofs.Ytaokifppaagalaa
