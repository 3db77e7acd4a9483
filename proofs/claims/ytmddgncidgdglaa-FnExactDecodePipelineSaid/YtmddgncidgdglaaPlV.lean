/- Which lists of filters are pipelines, and which are the same: contracts of the functions that say so. No statement is proved here. -/
import Derived.Test.YtmddgncidgdglaaFiV
import Derived.Test.YtmddgncidgdglaaIdx
import Derived.Laws.StructEq
namespace Go.Proofs.Ytmddgncidgdglaa
open Go.RowKit
set_option linter.unusedVariables false
def flAt (ps : List EFI) (i : Nat) : Bool := filOk (ps.getD i (0, 0, false)).1 (ps.getD i (0, 0, false)).2.1 (ps.getD i (0, 0, false)).2.2
theorem flAt_at {ps : List EFI} {i : Nat} (h : i < ps.length) : flAt ps i = filOk ps[i].1 ps[i].2.1 ps[i].2.2 := by
  unfold flAt
  rw [List.getD_eq_getElem?_getD, List.getElem?_eq_getElem h]
  rfl
def plOk (ps : List EFI) : Bool := decide (ps.length ≤ 4) && allTo (flAt ps) ps.length
theorem plOk_b {ps : List EFI} (h : plOk ps = true) : ps.length ≤ 4 ∧ allTo (flAt ps) ps.length = true := by simpa [plOk] using h
set_option maxHeartbeats 2000000 in
set_option maxRecDepth 100000 in
theorem idxF_any {B : Nat} {w : World} {v : Value} {ss : List EFI} (h : RiFI B w v ss) (hB : B ≤ w.heap.size) :
    Calls Try.prog 100 #[v, .func (.func 75) #[] #[]] w
      fun e w' => (∃ n : Int, e = .returned (.int .i64 n) ∧ -1 ≤ n ∧ n < 9223372036854775808 ∧ decide (0 ≤ n) = !allTo (flAt ss) ss.length) ∧ Below w.heap.size w w' := by
  obtain ⟨A, cap, rfl, hl, hm, hx⟩ := h
  unfold maxLen at hm
  have Hx := Lib.hid hx; clear hx
  go_enter Try.func100, Try.ntmps100
  go_wp2_with fail
  go_loopw [8] (fun i wr => ∃ k : Nat, k ≤ ss.length ∧ i = .int .i64 (k : Int) ∧ Below w.heap.size w wr ∧ allTo (flAt ss) k = true) (fun i _ => ss.length - (intOf i).toNat)
  case atStart => exact ⟨0, Nat.zero_le _, rfl, Below.refl _ _, allTo_zero _⟩
  case round =>
    obtain ⟨k, hk, rfl, hbel, hall⟩ := hrel
    have Hall := Lib.hid hall; have Hbel := Lib.hid hbel; clear hall
    by_cases hlt : k < ss.length
    · obtain ⟨b, o, rfl, hb, hc0, hc1, hc2, -⟩ := Hx.out k hlt
      have Hld := Lib.hid (run_load_cells (P := Try.prog) wr b (o + k * 3) 25 _ [.int .i64 ss[k].1, .int .i64 ss[k].2.1, .bool ss[k].2.2] (cells_FI (by rw [hbel.cell (show b < _ from by omega)]; exact hc0) (by rw [hbel.cell (show b < _ from by omega)]; exact hc1) (by rw [hbel.cell (show b < _ from by omega)]; exact hc2)) Try.underlying25 (by kernel_rfl))
      have HS := Lib.hid (allTo_succ (flAt ss) k)
      have HP := Lib.hid (flAt_at hlt)
      have Hbad : Hid (flAt ss k = false → allTo (flAt ss) ss.length = false) := Lib.hid (fun h => allTo_bad _ k _ hlt h)
      have hsz := hbel.size
      have HC := Lib.hid (isNoFilter_any ss[k].1 ss[k].2.1 ss[k].2.2 wr)
      clear hc0 hc1 hc2 hbel
      generalize ss[k].1 = n0 at *; generalize ss[k].2.1 = n1 at *; generalize ss[k].2.2 = n2 at *
      cases hn : filOk n0 n1 n2
      · have Hf := Lib.hid (Hbad.out (by rw [HP.out, hn]))
        rw [hn] at HC
        clear hn Hbad HP
        go_wp2_with (first | (refine wpList_load_agg rfl 25 (.tmp 14) rfl _ rfl _ Hld.out ?_) | (refine HC.out.mono ?_; rintro e w' ⟨rfl, g⟩; have Hg := Lib.hid (Hbel.out.trans (g.mono hsz)); clear g))
        go_ret
        exact ⟨⟨(k : Int), rfl, by omega, by omega, by rw [Hf.out]; simp⟩, Hg.out⟩
      · have Hall2 : Hid (allTo (flAt ss) (k + 1) = true) := Lib.hid (by rw [HS.out, Hall.out, HP.out, hn]; rfl)
        rw [hn] at HC
        clear hn Hbad HP
        go_wp2_with (first | (refine wpList_load_agg rfl 25 (.tmp 14) rfl _ rfl _ Hld.out ?_) | (refine HC.out.mono ?_; rintro e w' ⟨rfl, g⟩; have Hg := Lib.hid (Hbel.out.trans (g.mono hsz)); clear g))
        go_roundw
        case rel => exact ⟨k + 1, by omega, by go_num, Hg.out, Hall2.out⟩
        case measure => simp [intOf]; omega
    · obtain rfl : k = ss.length := by omega
      clear hbel
      go_wp2_with fail
      go_ret
      exact ⟨⟨-1, rfl, by omega, by omega, by rw [Hall.out]; rfl⟩, Hbel.out⟩
set_option maxHeartbeats 2000000 in
set_option maxRecDepth 100000 in
theorem hasF_any {B : Nat} {w : World} {v : Value} {ss : List EFI} (h : RiFI B w v ss) (hB : B ≤ w.heap.size) :
    Calls Try.prog 74 #[v, .func (.func 75) #[] #[]] w (GivesB (.bool (!allTo (flAt ss) ss.length)) w) := by
  have H := Lib.hid h
  obtain ⟨A, cap, rfl, -⟩ := h
  have HC := Lib.hid (idxF_any H.out hB)
  generalize (!allTo (flAt ss) ss.length) = r at *
  go_enter Try.func74, Try.ntmps74
  go_wp2_with fail
  refine HC.out.mono ?_
  rintro e w1 ⟨⟨n, rfl, n1, n2, hn⟩, g⟩
  have Hb1 := Lib.hid g; have Hn := Lib.hid hn; clear g hn
  go_wp2_with fail
  go_ret
  exact ⟨by rw [← Hn.out]; rfl, Hb1.out⟩
set_option maxHeartbeats 2000000 in
theorem implValidPipeline_any {B : Nat} {w : World} {v : Value} {ss : List EFI} (h : RiFI B w v ss) (hB : B ≤ w.heap.size) :
    Calls Try.prog 37 #[v] w (GivesB (.bool (plOk ss)) w) := by
  have HC := Lib.hid (hasF_any h hB)
  obtain ⟨A, cap, rfl, hl, hm, -⟩ := h
  unfold maxLen at hm
  by_cases h4 : ss.length ≤ 4
  · have Hf : Hid (plOk ss = !(!allTo (flAt ss) ss.length)) := Lib.hid (by simp [plOk, h4])
    generalize (!allTo (flAt ss) ss.length) = r at *
    have hd : decide ((ss.length : Int) ≤ 4) = true := decide_eq_true (by omega)
    go_enter Try.func37, Try.ntmps37
    go_wp2_with ((go_at_call 74; refine HC.out.mono ?_; rintro e w1 ⟨rfl, g⟩))
    go_ret
    exact ⟨by rw [Hf.out]; rfl, g⟩
  · have Hf : Hid (plOk ss = false) := Lib.hid (by simp [plOk, h4])
    have hd : decide ((ss.length : Int) ≤ 4) = false := decide_eq_false (by omega)
    clear HC
    go_enter Try.func37, Try.ntmps37
    go_wp2_with fail
    go_ret
    exact ⟨by rw [Hf.out]; rfl, Below.refl _ _⟩
set_option maxHeartbeats 2000000 in
set_option maxRecDepth 100000 in
theorem l19Ok_any {B : Nat} {w : World} {v : Value} {ss : List EFI} (h : RiFI B w v ss) (hB : B ≤ w.heap.size) :
    Calls Try.prog 73 #[v] w (GivesB (.bool (plOk ss)) w) := by
  obtain ⟨A, cap, rfl, hl, hm, hx⟩ := h
  unfold maxLen at hm
  have Hx := Lib.hid hx; clear hx
  have Hpl : Hid (plOk ss = (decide (ss.length ≤ 4) && allTo (flAt ss) ss.length)) := Lib.hid rfl
  generalize plOk ss = r at *
  go_enter Try.func73, Try.ntmps73
  go_wp2_with fail
  go_loopw [3] (fun i wr => ∃ k : Nat, k ≤ ss.length ∧ i = .int .i64 (k : Int) ∧ Below w.heap.size w wr ∧ allTo (flAt ss) k = true) (fun i _ => ss.length - (intOf i).toNat)
  case atStart => exact ⟨0, Nat.zero_le _, rfl, Below.refl _ _, allTo_zero _⟩
  case round =>
    obtain ⟨k, hk, rfl, hbel, hall⟩ := hrel
    have Hall := Lib.hid hall; have Hbel := Lib.hid hbel; clear hall
    by_cases hlt : k < ss.length
    · obtain ⟨b, o, rfl, hb, hc0, hc1, hc2, -⟩ := Hx.out k hlt
      have Hld := Lib.hid (run_load_cells (P := Try.prog) wr b (o + k * 3) 25 _ [.int .i64 ss[k].1, .int .i64 ss[k].2.1, .bool ss[k].2.2] (cells_FI (by rw [hbel.cell (show b < _ from by omega)]; exact hc0) (by rw [hbel.cell (show b < _ from by omega)]; exact hc1) (by rw [hbel.cell (show b < _ from by omega)]; exact hc2)) Try.underlying25 (by kernel_rfl))
      have HS := Lib.hid (allTo_succ (flAt ss) k)
      have HP := Lib.hid (flAt_at hlt)
      have Hbad : Hid (flAt ss k = false → allTo (flAt ss) ss.length = false) := Lib.hid (fun h => allTo_bad _ k _ hlt h)
      have hsz := hbel.size
      have HC := Lib.hid (l18Ok_any ss[k].1 ss[k].2.1 ss[k].2.2 wr)
      clear hc0 hc1 hc2 hbel
      generalize ss[k].1 = n0 at *; generalize ss[k].2.1 = n1 at *; generalize ss[k].2.2 = n2 at *
      cases hn : filOk n0 n1 n2
      · have Hf : Hid (r = false) := Lib.hid (by rw [Hpl.out, Hbad.out (by rw [HP.out, hn])]; simp)
        rw [hn] at HC
        clear hn Hbad HP
        go_wp2_with (first | (refine wpList_load_agg rfl 25 (.tmp 12) rfl _ rfl _ Hld.out ?_) | (refine HC.out.mono ?_; rintro e w' ⟨rfl, g⟩; have Hg := Lib.hid (Hbel.out.trans (g.mono hsz)); clear g))
        go_ret
        exact ⟨by rw [Hf.out]; rfl, Hg.out⟩
      · have Hall2 : Hid (allTo (flAt ss) (k + 1) = true) := Lib.hid (by rw [HS.out, Hall.out, HP.out, hn]; rfl)
        rw [hn] at HC
        clear hn Hbad HP
        go_wp2_with (first | (refine wpList_load_agg rfl 25 (.tmp 12) rfl _ rfl _ Hld.out ?_) | (refine HC.out.mono ?_; rintro e w' ⟨rfl, g⟩; have Hg := Lib.hid (Hbel.out.trans (g.mono hsz)); clear g))
        go_roundw
        case rel => exact ⟨k + 1, by omega, by go_num, Hg.out, Hall2.out⟩
        case measure => simp [intOf]; omega
    · obtain rfl : k = ss.length := by omega
      have Hf : Hid (r = decide (ss.length ≤ 4)) := Lib.hid (by rw [Hpl.out, Hall.out]; simp)
      have hd : decide ((ss.length : Int) ≤ 4) = decide (ss.length ≤ 4) := by rw [decide_eq_decide]; omega
      generalize decide (ss.length ≤ 4) = r2 at *
      clear hbel
      go_wp2_with fail
      go_ret
      exact ⟨by rw [Hf.out]; rfl, Hbel.out⟩
theorem specValidPipeline_any {B : Nat} {w : World} {v : Value} {ss : List EFI} (h : RiFI B w v ss) (hB : B ≤ w.heap.size) :
    Calls Try.prog 35 #[v] w (GivesB (.bool (plOk ss)) w) := by
  have HC := Lib.hid (l19Ok_any h hB)
  obtain ⟨A, cap, rfl, -⟩ := h
  generalize plOk ss = r at *
  go_enter Try.func35, Try.ntmps35
  go_wp2_with ((go_at_call 73; refine HC.out.mono ?_; rintro e w1 ⟨rfl, g⟩))
  go_ret
  exact ⟨rfl, g⟩
end Go.Proofs.Ytmddgncidgdglaa
