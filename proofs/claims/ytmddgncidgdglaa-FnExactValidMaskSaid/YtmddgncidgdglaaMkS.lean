/- Masks of pipelines: the model's side. No statement is proved here. -/
import Derived.Test.YtmddgncidgdglaaMkP
namespace Go.Proofs.Ytmddgncidgdglaa
open Go.RowKit
set_option linter.unusedVariables false
set_option maxHeartbeats 1000000 in
set_option maxRecDepth 100000 in
theorem l19Mask_any {B : Nat} {w : World} {v : Value} {ss : List EFI} {m : Int} (h : RiFI B w v ss) (hm0 : (Lit.int .i64 m).wf = true) (hB : B ≤ w.heap.size) :
    Calls Try.prog 82 #[v, .int .i64 m] w (GivesB (.bool (mskOk ss m)) w) := by
  have HC := Lib.hid (l19Ok_any h hB)
  obtain ⟨A, cap, rfl, hl, hm, hx⟩ := h
  unfold maxLen at hm
  have Hx := Lib.hid hx; clear hx
  have HM := Lib.hid hm0; clear hm0
  cases hok : plOk ss
  · have Hf : Hid (mskOk ss m = false) := Lib.hid (by simp [mskOk, hok])
    rw [hok] at HC
    clear hok
    go_enter Try.func82, Try.ntmps82
    go_wp2_with ((go_at_call 73; refine HC.out.mono ?_; rintro e w1 ⟨rfl, g⟩; have HB1 := Lib.hid g; clear g))
    go_ret
    exact ⟨by rw [Hf.out]; rfl, HB1.out⟩
  have hlen := (plOk_b hok).1
  have hpw := pow_is ss.length hlen
  rw [IntWalk.i64_left, IntWalk.i64_left] at hpw
  have HR : Hid (mskOk ss m = (decide (0 ≤ m) && (decide (m < 2 ^ ss.length) && allTo (mkAt ss m) ss.length))) := Lib.hid (by rw [mskOk, hok, Bool.true_and])
  rw [hok] at HC
  clear hok
  generalize mskOk ss m = r at *
  have HP : Hid ((2 : Int) ^ ss.length - 1 + 1 = 2 ^ ss.length) := Lib.hid (by omega)
  generalize hp2 : (2 : Int) ^ ss.length - 1 = P at *
  cases hi : inB m 0 P
  · have Hf : Hid (r = false) := Lib.hid (by
      rw [HR.out]
      by_cases h0 : 0 ≤ m
      · by_cases h1 : m < 2 ^ ss.length
        · have : inB m 0 P = true := inB_iff.2 ⟨h0, by have := HP.out; omega⟩
          rw [this] at hi
          cases hi
        · rw [decide_eq_false h1]; simp
      · rw [decide_eq_false h0]; rfl)
    have Hi := Lib.hid hi; clear hi hp2 HP
    go_enter Try.func82, Try.ntmps82
    go_wp2_with (first | (go_at_call 73; refine HC.out.mono ?_; rintro e w1 ⟨rfl, g⟩; have HB1 := Lib.hid g; clear g) | (go_at_call 57; refine (l00In_no _ _ _ _ Hi.out).mono ?_; rintro e w' ⟨rfl, rfl⟩))
    go_ret
    exact ⟨by rw [Hf.out]; rfl, HB1.out⟩
  have hmb := inB_iff.1 hi
  have HR2 : Hid (r = allTo (mkAt ss m) ss.length) := Lib.hid (by
    rw [HR.out, decide_eq_true hmb.1, decide_eq_true (show m < 2 ^ ss.length by have := HP.out; omega), Bool.true_and, Bool.true_and])
  have Hi := Lib.hid hi; clear hi hp2 HP HR hmb
  go_enter Try.func82, Try.ntmps82
  go_wp2_with (first | (go_at_call 73; refine HC.out.mono ?_; rintro e w1 ⟨rfl, g⟩; have HB1 := Lib.hid g; clear g) | (go_at_call 57; refine (l00In_yes _ _ _ _ Hi.out).mono ?_; rintro e w' ⟨rfl, rfl⟩))
  go_loopw [5] (fun i wr => ∃ (k : Nat), k ≤ ss.length ∧ i = .int .i64 (k : Int) ∧ Below w.heap.size w wr ∧ allTo (mkAt ss m) k = true) (fun i _ => ss.length - (intOf i).toNat)
  case atStart => exact ⟨0, Nat.zero_le _, rfl, HB1.out, allTo_zero _⟩
  case round =>
    obtain ⟨j, hj, rfl, hbel, hall⟩ := hrel
    have Hbel := Lib.hid hbel; have Hall := Lib.hid hall; clear hall
    by_cases hlt : j < ss.length
    · obtain ⟨b, o, rfl, hb, hc0, hc1, hc2, -⟩ := Hx.out j hlt
      have q2 : wr.cell? ⟨b, o + j * 3 + 2, none⟩ = some (.bool ss[j].2.2) := by rw [hbel.cell (show b < _ from by omega)]; exact hc2
      have HS := Lib.hid (allTo_succ (mkAt ss m) j)
      have HP : Hid (mkAt ss m j = (!bitOn m j || ss[j].2.2)) := Lib.hid (by rw [mkAt, ob_at hlt])
      have Hbad : Hid (mkAt ss m j = false → allTo (mkAt ss m) ss.length = false) := Lib.hid (fun h => allTo_bad _ j _ hlt h)
      clear hc0 hc1 hc2 hbel
      generalize ss[j].2.2 = n2 at *
      cases hbt : bitOn m j
      · have hq : ¬ bits BinOp.and IntKind.i64 (m / 2 ^ j) 1 = 1 := of_decide_eq_false hbt
        have hq2 : (bits BinOp.and IntKind.i64 (m / 2 ^ j) 1 == 1) = false := by rw [beq_eq_false_iff_ne]; exact hq
        have Hn : Hid (allTo (mkAt ss m) (j + 1) = true) := Lib.hid (by rw [HS.out, Hall.out, HP.out, hbt]; rfl)
        clear hbt
        go_wp2_with fail
        go_roundw
        case rel => exact ⟨j + 1, by omega, by go_num, Hbel.out, Hn.out⟩
        case measure => simp [intOf]; omega
      · have hq : bits BinOp.and IntKind.i64 (m / 2 ^ j) 1 = 1 := of_decide_eq_true hbt
        have hq2 : (bits BinOp.and IntKind.i64 (m / 2 ^ j) 1 == 1) = true := by rw [beq_iff_eq]; exact hq
        cases n2
        · have Hf : Hid (r = false) := Lib.hid (by rw [HR2.out, Hbad.out (by rw [HP.out, hbt]; rfl)])
          clear hbt
          go_wp2_with fail
          go_ret
          exact ⟨by rw [Hf.out]; rfl, Hbel.out⟩
        · have Hn : Hid (allTo (mkAt ss m) (j + 1) = true) := Lib.hid (by rw [HS.out, Hall.out, HP.out, hbt]; rfl)
          clear hbt
          go_wp2_with fail
          go_roundw
          case rel => exact ⟨j + 1, by omega, by go_num, Hbel.out, Hn.out⟩
          case measure => simp [intOf]; omega
    · obtain rfl : j = ss.length := by omega
      have Hf : Hid (r = true) := Lib.hid (by rw [HR2.out, Hall.out])
      clear hbel
      go_wp2_with fail
      go_ret
      exact ⟨by rw [Hf.out]; rfl, Hbel.out⟩
theorem specValidMask_any {B : Nat} {w : World} {v : Value} {ss : List EFI} {m : Int} (h : RiFI B w v ss) (hm0 : (Lit.int .i64 m).wf = true) (hB : B ≤ w.heap.size) :
    Calls Try.prog 47 #[v, .int .i64 m] w (GivesB (.bool (mskOk ss m)) w) := by
  have HC := Lib.hid (l19Mask_any h hm0 hB)
  obtain ⟨A, cap, rfl, -⟩ := h
  generalize mskOk ss m = r at *
  go_enter Try.func47, Try.ntmps47
  go_wp2_with ((go_at_call 82; refine HC.out.mono ?_; rintro e w1 ⟨rfl, g⟩))
  go_ret
  exact ⟨rfl, g⟩
end Go.Proofs.Ytmddgncidgdglaa
