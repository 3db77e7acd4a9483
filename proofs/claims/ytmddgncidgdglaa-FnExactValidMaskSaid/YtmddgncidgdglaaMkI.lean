/- Masks of pipelines: the program's side. No statement is proved here. -/
import Derived.Test.YtmddgncidgdglaaMkP
namespace Go.Proofs.Ytmddgncidgdglaa
open Go.RowKit
set_option linter.unusedVariables false
set_option maxHeartbeats 1000000 in
set_option maxRecDepth 100000 in
theorem implValidMask_any {B : Nat} {w : World} {v : Value} {ss : List EFI} {m : Int} (h : RiFI B w v ss) (hm0 : (Lit.int .i64 m).wf = true) (hB : B ≤ w.heap.size) :
    Calls Try.prog 48 #[v, .int .i64 m] w (GivesB (.bool (mskOk ss m)) w) := by
  have H := Lib.hid h
  obtain ⟨A, cap, rfl, hl, hm, hx⟩ := h
  unfold maxLen at hm
  have Hx := Lib.hid hx; clear hx
  have HM := Lib.hid hm0; clear hm0
  go_enter Try.func48, Try.ntmps48
  go_wp2_with fail
  go_loopw [5, 10] (fun z i wr => ∃ (k : Nat) (y : Int), k ≤ ss.length ∧ i = .int .i64 (k : Int) ∧ z = .int .i64 y ∧ (k ≤ 4 → y = opB (ob ss) k) ∧ Below w.heap.size w wr) (fun _ i _ => ss.length - (intOf i).toNat)
  case atStart => exact ⟨0, 0, Nat.zero_le _, rfl, rfl, fun _ => rfl, Below.refl _ _⟩
  case round =>
    obtain ⟨j, y, hj, rfl, rfl, hy, hbel⟩ := hrel
    have Hbel := Lib.hid hbel; have Hy := Lib.hid hy; clear hy
    by_cases hlt : j < ss.length
    · obtain ⟨b, o, rfl, hb, hc0, hc1, hc2, -⟩ := Hx.out j hlt
      have Hld := Lib.hid (run_load_cells (P := Try.prog) wr b (o + j * 3) 25 _ [.int .i64 ss[j].1, .int .i64 ss[j].2.1, .bool ss[j].2.2] (cells_FI (by rw [hbel.cell (show b < _ from by omega)]; exact hc0) (by rw [hbel.cell (show b < _ from by omega)]; exact hc1) (by rw [hbel.cell (show b < _ from by omega)]; exact hc2)) Try.underlying25 (by kernel_rfl))
      have HO := Lib.hid (ob_at hlt)
      clear hc0 hc1 hc2 hbel
      generalize ss[j].1 = n0 at *; generalize ss[j].2.1 = n1 at *; generalize ss[j].2.2 = n2 at *
      have Hi0 : Hid ((Try.prog.info? 25).map (·.size) = some (#[.int .i64 n0, .int .i64 n1, .bool n2] : Array Value).size) := Lib.hid (by kernel_rfl)
      have H10 : Hid ((#[.int .i64 n0, .int .i64 n1, .bool n2] : Array Value).all (·.oneCell') = true) := Lib.hid (by simp [Value.oneCell'])
      have HV1 : Hid (Below w.heap.size w (wr.alloc (.cells #[.int .i64 n0, .int .i64 n1, .bool n2] 25))) := Lib.hid (Hbel.out.trans ((Below.refl _ wr).alloc Hbel.out.size _))
      have R1 : Hid ((wr.alloc (.cells #[.int .i64 n0, .int .i64 n1, .bool n2] 25)).heap[wr.heap.size]? = some (.cells #[.int .i64 n0, .int .i64 n1, .bool n2] 25 (0, 0))) := Lib.hid (heap_alloc_new wr _)
      have q2 : (wr.alloc (.cells #[.int .i64 n0, .int .i64 n1, .bool n2] 25)).cell? ⟨wr.heap.size, 2, none⟩ = some (.bool n2) := by rw [cell_of_row _ _ _ _ _ _ R1.out]; rfl
      cases n2
      · have Hn : Hid (j + 1 ≤ 4 → y = opB (ob ss) (j + 1)) := Lib.hid (fun h => by rw [opB_skip _ _ HO.out]; exact Hy.out (by omega))
        go_wp2_with (first | (refine wpList_load_agg rfl 25 (.tmp 13) rfl _ rfl _ Hld.out ?_) | (refine wpList_store_last rfl 25 (.tmp 7) (.tmp 14) rfl #[.int .i64 n0, .int .i64 n1, .bool false] _ 25 rfl rfl Hi0.out rfl H10.out ?_))
        go_roundw
        case rel => exact ⟨j + 1, y, by omega, by go_num, rfl, Hn.out, HV1.out⟩
        case measure => simp [intOf]; omega
      · have Hn : Hid (j + 1 ≤ 4 → bits BinOp.or IntKind.i64 y (wrap64 (2 ^ min j 64)) = opB (ob ss) (j + 1)) := Lib.hid (fun h => by rw [Hy.out (by omega), ← IntWalk.i64_left]; exact or_step _ _ (by omega) HO.out)
        go_wp2_with (first | (refine wpList_load_agg rfl 25 (.tmp 13) rfl _ rfl _ Hld.out ?_) | (refine wpList_store_last rfl 25 (.tmp 7) (.tmp 14) rfl #[.int .i64 n0, .int .i64 n1, .bool true] _ 25 rfl rfl Hi0.out rfl H10.out ?_))
        go_roundw
        case rel => exact ⟨j + 1, _, by omega, by go_num, rfl, Hn.out, HV1.out⟩
        case measure => simp [intOf]; omega
    · obtain rfl : j = ss.length := by omega
      have HV := Lib.hid (implValidPipeline_any (H.out.at hB hbel) (Nat.le_refl _))
      have hsz := hbel.size
      have hmb := i64_bounds HM.out
      cases hok : plOk ss
      · have Hf : Hid (mskOk ss m = false) := Lib.hid (by simp [mskOk, hok])
        rw [hok] at HV
        clear hok hbel hmb
        go_wp2_with ((go_at_call 37; refine HV.out.mono ?_; rintro e w1 ⟨rfl, g⟩; have Hg := Lib.hid (Hbel.out.trans (g.mono hsz)); clear g))
        go_ret
        exact ⟨by rw [Hf.out]; rfl, Hg.out⟩
      · have hlen := (plOk_b hok).1
        have hq : (bits BinOp.andNot IntKind.i64 m y == 0) = mskOk ss m := by
          rw [Hy.out hlen, msk_fin ss m hmb hlen, mskOk, hok, Bool.true_and]
        rw [hok] at HV
        clear hok hbel hmb
        generalize mskOk ss m = r at *
        go_wp2_with ((go_at_call 37; refine HV.out.mono ?_; rintro e w1 ⟨rfl, g⟩; have Hg := Lib.hid (Hbel.out.trans (g.mono hsz)); clear g))
        go_ret
        exact ⟨rfl, Hg.out⟩
end Go.Proofs.Ytmddgncidgdglaa
