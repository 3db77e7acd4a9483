/- Contracts of the functions on dimensions, the model's and the program's. No statement is proved here. -/
import Derived.Test.YtmghbgnalkkppaaInt
import Derived.IntWalk
namespace Go.Proofs.Ytmghbgnalkkppaa
open Go.RowKit
set_option linter.unusedVariables false
theorem l00In_any (a lo hi : Int) (w : World) : Calls Try.prog 59 #[.int .i64 a, .int .i64 lo, .int .i64 hi] w (Quiet (.bool (inB a lo hi)) w) := by
  by_cases h1 : lo ≤ a
  · by_cases h2 : a ≤ hi
    · have Hf2 : Hid (inB a lo hi = true) := Lib.hid (by simp [inB, h1, h2])
      go_enter Try.func59, Try.ntmps59
      go_wp2
      go_ret
      exact ⟨by rw [Hf2.out]; rfl, rfl⟩
    · have Hf2 : Hid (inB a lo hi = false) := Lib.hid (by simp [inB]; omega)
      go_enter Try.func59, Try.ntmps59
      go_wp2
      go_ret
      exact ⟨by rw [Hf2.out]; rfl, rfl⟩
  · have Hf2 : Hid (inB a lo hi = false) := Lib.hid (by simp [inB]; omega)
    go_enter Try.func59, Try.ntmps59
    go_wp2
    go_ret
    exact ⟨by rw [Hf2.out]; rfl, rfl⟩
theorem l00In_yes (a lo hi : Int) (w : World) (h : inB a lo hi = true) : Calls Try.prog 59 #[.int .i64 a, .int .i64 lo, .int .i64 hi] w (Quiet (.bool true) w) := h ▸ l00In_any a lo hi w
theorem l00In_no (a lo hi : Int) (w : World) (h : inB a lo hi = false) : Calls Try.prog 59 #[.int .i64 a, .int .i64 lo, .int .i64 hi] w (Quiet (.bool false) w) := h ▸ l00In_any a lo hi w
theorem i64_of {n : Int} (h0 : 0 ≤ n) (h1 : n ≤ 9223372036854775807) : IntKind.i64.wrap n = n := IntWalk.i64_in _ (by omega)
theorem dimsOk_long {xs : List Int} (h : 3 < xs.length) : dimsOk xs = false := by simp [dimsOk]; omega
theorem dimsOk_bad {xs : List Int} {k : Nat} (hk : k < xs.length) (h : inD xs k = false) : dimsOk xs = false := by
  simp [dimsOk, allTo_bad _ k _ hk h]
theorem dimsOk_end {xs : List Int} (hl : xs.length ≤ 3) (h : allTo (inD xs) xs.length = true) : dimsOk xs = decide (prodL xs ≤ 600) := by simp [dimsOk, h, hl]
theorem dimsOk_iff {xs : List Int} (h : dimsOk xs = true) : xs.length ≤ 3 ∧ allTo (inD xs) xs.length = true ∧ prodL xs ≤ 600 := by
  simpa [dimsOk] using h
set_option maxHeartbeats 400000 in
theorem l05Dims_any {B : Nat} {w : World} {v : Value} {xs : List Int} (h : Ri B w v xs) : Calls Try.prog 58 #[v] w (Quiet (.bool (dimsOk xs)) w) := by
  obtain ⟨A, cap, rfl, hl, hc, hx⟩ := h
  unfold maxLen at hc
  have Hx := Lib.hid hx; clear hx
  by_cases h3 : 3 < xs.length
  · have Hf := Lib.hid (dimsOk_long h3)
    have h3' : decide ((3 : Int) < (xs.length : Int)) = true := decide_eq_true (by omega)
    go_enter Try.func58, Try.ntmps58
    go_wp2
    go_ret
    exact ⟨by rw [Hf.out]; rfl, rfl⟩
  · have h3' : decide ((3 : Int) < (xs.length : Int)) = false := decide_eq_false (by omega)
    go_enter Try.func58, Try.ntmps58
    go_wp2
    go_loop [3, 4] (fun n i => ∃ k : Nat, k ≤ xs.length ∧ i = .int .i64 k ∧ n = .int .i64 (prodK xs k) ∧ allTo (inD xs) k = true) (fun _ i => xs.length - (intOf i).toNat)
    case atStart => exact ⟨0, Nat.zero_le _, rfl, by rw [prodK_zero], allTo_zero _⟩
    case round =>
      obtain ⟨k, hk, rfl, rfl, hall⟩ := hrel
      have hpb := prodK_small xs (by omega) k hk hall
      have Hall := Lib.hid hall; clear hall
      by_cases hlt : k < xs.length
      · obtain ⟨b, o, rfl, hb, hcell, hI⟩ := Hx.out k hlt
        by_cases hin : inB xs[k] 0 40 = true
        · have hr := inB_iff.1 hin
          have Hin := Lib.hid hin; clear hin
          have Hall2 : Hid (allTo (inD xs) (k + 1) = true) := Lib.hid (by rw [allTo_succ, Hall.out, inD_at _ _ hlt, Hin.out]; rfl)
          have hpb2 := prodK_small xs (by omega) (k + 1) hlt Hall2.out
          have Hps := Lib.hid (prodK_succ xs k hlt)
          rw [Hps.out] at hpb2
          generalize hp : prodK xs k = p at *
          generalize hxk : xs[k] = x at *
          have Hp := Lib.hid hp; have Hxk := Lib.hid hxk
          clear hp hxk
          have hwr := i64_of (n := p * x) (by omega) (by omega)
          go_wp2_with (go_at_call 59; (with_reducible refine (l00In_yes _ _ _ _ Hin.out).mono ?_); rintro e w' ⟨rfl, rfl⟩)
          go_round
          case rel => exact ⟨k + 1, by omega, by go_num, by rw [Hps.out], Hall2.out⟩
          case measure => simp [intOf]; omega
        · have Hin : Hid (inB xs[k] 0 40 = false) := Lib.hid (by simpa using hin)
          have Hf := Lib.hid (dimsOk_bad hlt (by rw [inD_at _ _ hlt]; exact Hin.out))
          clear hin
          go_wp2_with (go_at_call 59; (with_reducible refine (l00In_no _ _ _ _ Hin.out).mono ?_); rintro e w' ⟨rfl, rfl⟩)
          go_ret
          exact ⟨by rw [Hf.out]; rfl, rfl⟩
      · obtain rfl : k = xs.length := by omega
        have Hf := Lib.hid (dimsOk_end (by omega) Hall.out)
        go_wp2
        go_ret
        exact ⟨by rw [Hf.out]; rfl, rfl⟩
set_option maxHeartbeats 400000 in
theorem l05Count_any {B : Nat} {w : World} {v : Value} {xs : List Int} (h : Ri B w v xs) (hok : xs.length ≤ 3 ∧ allTo (inD xs) xs.length = true) : Calls Try.prog 37 #[v] w (Quiet (.int .i64 (prodL xs)) w) := by
  obtain ⟨A, cap, rfl, hl, hc, hx⟩ := h
  obtain ⟨h3, hall⟩ := hok
  unfold maxLen at hc
  have Hx := Lib.hid hx; have Hall := Lib.hid hall; clear hx hall
  go_enter Try.func37, Try.ntmps37
  go_wp2
  go_loop [3, 4] (fun n i => ∃ k : Nat, k ≤ xs.length ∧ i = .int .i64 k ∧ n = .int .i64 (prodK xs k) ∧ allTo (inD xs) k = true) (fun _ i => xs.length - (intOf i).toNat)
  case atStart => exact ⟨0, Nat.zero_le _, rfl, by rw [prodK_zero], allTo_zero _⟩
  case round =>
    obtain ⟨k, hk, rfl, rfl, hk2⟩ := hrel
    have hpb := prodK_small xs (by omega) k hk hk2
    have Hk2 := Lib.hid hk2; clear hk2
    by_cases hlt : k < xs.length
    · obtain ⟨b, o, rfl, hb, hcell, hI⟩ := Hx.out k hlt
      have Hall2 : Hid (allTo (inD xs) (k + 1) = true) := Lib.hid (by rw [allTo_succ, Hk2.out, allTo_at Hall.out hlt]; rfl)
      have hpb2 := prodK_small xs (by omega) (k + 1) hlt Hall2.out
      have Hps := Lib.hid (prodK_succ xs k hlt)
      rw [Hps.out] at hpb2
      generalize hp : prodK xs k = p at *
      generalize hxk : xs[k] = x at *
      have Hp := Lib.hid hp; have Hxk := Lib.hid hxk
      clear hp hxk
      have hwr := i64_of (n := p * x) (by omega) (by omega)
      go_wp2
      go_round
      case rel => exact ⟨k + 1, by omega, by go_num, by rw [Hps.out], Hall2.out⟩
      case measure => simp [intOf]; omega
    · obtain rfl : k = xs.length := by omega
      go_wp2
      go_ret
      exact ⟨rfl, rfl⟩
set_option maxHeartbeats 400000 in
theorem product_any {B : Nat} {w : World} {v : Value} {xs : List Int} (h : Ri B w v xs) (hok : xs.length ≤ 3 ∧ allTo (inD xs) xs.length = true) : Calls Try.prog 38 #[v] w (Quiet (.int .i64 (prodL xs)) w) := by
  obtain ⟨A, cap, rfl, hl, hc, hx⟩ := h
  obtain ⟨h3, hall⟩ := hok
  unfold maxLen at hc
  have Hx := Lib.hid hx; have Hall := Lib.hid hall; clear hx hall
  go_enter Try.func38, Try.ntmps38
  go_wp2
  go_loop [3, 8] (fun n i => ∃ k : Nat, k ≤ xs.length ∧ i = .int .i64 k ∧ n = .int .i64 (prodK xs k) ∧ allTo (inD xs) k = true) (fun _ i => xs.length - (intOf i).toNat)
  case atStart => exact ⟨0, Nat.zero_le _, rfl, by rw [prodK_zero], allTo_zero _⟩
  case round =>
    obtain ⟨k, hk, rfl, rfl, hk2⟩ := hrel
    have hpb := prodK_small xs (by omega) k hk hk2
    have Hk2 := Lib.hid hk2; clear hk2
    by_cases hlt : k < xs.length
    · obtain ⟨b, o, rfl, hb, hcell, hI⟩ := Hx.out k hlt
      have Hall2 : Hid (allTo (inD xs) (k + 1) = true) := Lib.hid (by rw [allTo_succ, Hk2.out, allTo_at Hall.out hlt]; rfl)
      have hpb2 := prodK_small xs (by omega) (k + 1) hlt Hall2.out
      have Hps := Lib.hid (prodK_succ xs k hlt)
      rw [Hps.out] at hpb2
      generalize hp : prodK xs k = p at *
      generalize hxk : xs[k] = x at *
      have Hp := Lib.hid hp; have Hxk := Lib.hid hxk
      clear hp hxk
      have hwr := i64_of (n := p * x) (by omega) (by omega)
      go_wp2
      go_round
      case rel => exact ⟨k + 1, by omega, by go_num, by rw [Hps.out], Hall2.out⟩
      case measure => simp [intOf]; omega
    · obtain rfl : k = xs.length := by omega
      go_wp2
      go_ret
      exact ⟨rfl, rfl⟩
set_option maxHeartbeats 400000 in
theorem valid_any {B : Nat} {w : World} {v : Value} {xs : List Int} (h : Ri B w v xs) : Calls Try.prog 60 #[v] w (Quiet (.bool (dimsOk xs)) w) := by
  have Hri := Lib.hid h
  obtain ⟨A, cap, rfl, hl, hc, hx⟩ := h
  unfold maxLen at hc
  have Hx := Lib.hid hx; clear hx
  by_cases h3 : 3 < xs.length
  · have Hf := Lib.hid (dimsOk_long h3)
    have h3' : decide ((3 : Int) < (xs.length : Int)) = true := decide_eq_true (by omega)
    go_enter Try.func60, Try.ntmps60
    go_wp2
    go_ret
    exact ⟨by rw [Hf.out]; rfl, rfl⟩
  · have h3' : decide ((3 : Int) < (xs.length : Int)) = false := decide_eq_false (by omega)
    go_enter Try.func60, Try.ntmps60
    go_wp2
    go_loop [10] (fun i => ∃ k : Nat, k ≤ xs.length ∧ i = .int .i64 k ∧ allTo (inD xs) k = true) (fun i => xs.length - (intOf i).toNat)
    case atStart => exact ⟨0, Nat.zero_le _, rfl, allTo_zero _⟩
    case round =>
      obtain ⟨k, hk, rfl, hall⟩ := hrel
      have Hall := Lib.hid hall; clear hall
      by_cases hlt : k < xs.length
      · obtain ⟨b, o, rfl, hb, hcell, hI⟩ := Hx.out k hlt
        by_cases hneg : xs[k] < 0
        · have Hf := Lib.hid (dimsOk_bad hlt (by rw [inD_at _ _ hlt]; exact inB_no (.inl hneg)))
          go_wp2
          go_ret
          exact ⟨by rw [Hf.out]; rfl, rfl⟩
        by_cases hbig : 40 < xs[k]
        · have Hf := Lib.hid (dimsOk_bad hlt (by rw [inD_at _ _ hlt]; exact inB_no (.inr hbig)))
          go_wp2
          go_ret
          exact ⟨by rw [Hf.out]; rfl, rfl⟩
        have Hall2 : Hid (allTo (inD xs) (k + 1) = true) := Lib.hid (by rw [allTo_succ, Hall.out, inD_at _ _ hlt, inB_yes (by omega) (by omega)]; rfl)
        go_wp2
        go_round
        case rel => exact ⟨k + 1, by omega, by go_num, Hall2.out⟩
        case measure => simp [intOf]; omega
      · obtain rfl : k = xs.length := by omega
        have Hf := Lib.hid (dimsOk_end (by omega) Hall.out)
        go_wp2_with (go_at_call 38; (with_reducible refine (product_any Hri.out ⟨by omega, Hall.out⟩).mono ?_); rintro e w' ⟨rfl, rfl⟩)
        go_ret
        exact ⟨by rw [Hf.out]; rfl, rfl⟩
/-- The number of elements, or -1. -/
def countE (xs : List Int) : Int := if dimsOk xs = true then prodL xs else -1
end Go.Proofs.Ytmghbgnalkkppaa
