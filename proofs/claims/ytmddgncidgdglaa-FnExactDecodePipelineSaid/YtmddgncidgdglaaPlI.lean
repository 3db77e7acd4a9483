/- The binary form of a pipeline: the program's side. No statement is proved here. -/
import Derived.Test.YtmddgncidgdglaaPlE
namespace Go.Proofs.Ytmddgncidgdglaa
open Go.RowKit
set_option linter.unusedVariables false
theorem oc3 (x y z : Int) : (⟨(oc [x, y, z]).toArray⟩ : ByteArray) = leS x 1 ++ leS y 1 ++ leS z 1 := by
  apply ByteArray.ext
  simp [oc, leS, leL]
theorem oc3_ri (w : World) (x y z : Int) (hx : InI x) (hy : InI y) (hz : InI z) : Ri (w.heap.size + 1) (w.alloc (.cells #[.int .i64 x, .int .i64 y, .int .i64 z] 2)) (.slice (some ⟨w.heap.size, 0, none⟩) 3 3) [x, y, z] := by
  refine ⟨_, 3, rfl, by simp, by unfold maxLen; decide, fun i hi => ⟨w.heap.size, 0, rfl, by omega, ?_, ?_⟩⟩
  · rw [cell_of_row _ _ _ _ _ _ (heap_alloc_new w _)]
    rcases i with _ | _ | _ | i
    · rfl
    · rfl
    · rfl
    · simp only [List.length_cons, List.length_nil] at hi; omega
  · rcases i with _ | _ | _ | i
    · exact hx
    · exact hy
    · exact hz
    · simp only [List.length_cons, List.length_nil] at hi; omega
theorem oct3_any (w : World) (x y z : Int) (hx : InI x) (hy : InI y) (hz : InI z) :
    Calls Try.prog 81 #[.slice (some ⟨w.heap.size, 0, none⟩) 3 3] (w.alloc (.cells #[.int .i64 x, .int .i64 y, .int .i64 z] 2)) (GivesB (.string (leS x 1 ++ leS y 1 ++ leS z 1)) (w.alloc (.cells #[.int .i64 x, .int .i64 y, .int .i64 z] 2))) := by
  have := octets_any (oc3_ri w x y z hx hy hz) (by simp) (by simp)
  rwa [oc3] at this
theorem oct3g_any (w : World) (g : Nat) (hg : w.heap.size = g) (x y z : Int) (hx : InI x) (hy : InI y) (hz : InI z) :
    Calls Try.prog 81 #[.slice (some ⟨g, 0, none⟩) 3 3] (w.alloc (.cells #[.int .i64 x, .int .i64 y, .int .i64 z] 2)) (GivesB (.string (leS x 1 ++ leS y 1 ++ leS z 1)) (w.alloc (.cells #[.int .i64 x, .int .i64 y, .int .i64 z] 2))) := by
  subst hg
  exact oct3_any w x y z hx hy hz
set_option maxHeartbeats 1000000 in
set_option maxRecDepth 100000 in
theorem implEncodePipeline_any {B : Nat} {w : World} {v : Value} {ss : List EFI} (h : RiFI B w v ss) (hB : B ≤ w.heap.size) :
    Calls Try.prog 42 #[v] w (GivesB (.string (plA ss)) w) := by
  have HC := Lib.hid (implValidPipeline_any h hB)
  obtain ⟨A, cap, rfl, hl, hm, hx⟩ := h
  unfold maxLen at hm
  cases hok : plOk ss
  · have Hf : Hid (plA ss = ⟨#[]⟩) := Lib.hid (by simp [plA, hok])
    rw [hok] at HC
    clear hok hx
    go_enter Try.func42, Try.ntmps42
    go_wp2_with ((go_at_call 37; refine HC.out.mono ?_; rintro e w1 ⟨rfl, g⟩))
    go_ret
    exact ⟨by rw [Hf.out]; rfl, g⟩
  have Hx := Lib.hid hx; clear hx
  have hpb := plOk_b hok
  have hlen : ss.length ≤ 4 := hpb.1
  have HFB : Hid (∀ j (hj : j < ss.length), 1 ≤ ss[j].1 ∧ ss[j].1 ≤ 5 ∧ 0 ≤ ss[j].2.1 ∧ ss[j].2.1 ≤ 24) := Lib.hid (fun j hj => filOk_b (by rw [← flAt_at hj]; exact allTo_at hpb.2 hj))
  have Hf : Hid (plA ss = plT (plH ss) ss ss.length) := Lib.hid (by simp [plA, hok, plF])
  have F1 := Lib.hid (fun W => oct1_any W (ss.length : Int) (by unfold InI; omega))
  have HH : Hid (plH ss = leS (ss.length : Int) 1) := Lib.hid rfl
  have HZ : Hid ((plH ss).size = 1) := Lib.hid (leS_one _ _)
  rw [hok] at HC
  rw [← HH.out] at F1
  clear hok hpb HH
  generalize plA ss = R at *
  generalize plH ss = EH at *
  have HT : Hid (∀ j, (plT EH ss j).size = 1 + 3 * j) := Lib.hid (fun j => by rw [plT_size, HZ.out])
  go_enter Try.func42, Try.ntmps42
  go_wp2_with (first | (go_at_call 37; refine HC.out.mono ?_; rintro e w1 ⟨rfl, g⟩; have HB1 := Lib.hid g; clear g) | (go_at_call 81; refine (F1.out _).mono ?_; rintro e w2 ⟨rfl, g⟩; have HB2 := Lib.hid (HB1.out.trans ((((Below.refl _ _).alloc (Nat.le_refl _) _).trans (g.mono (by simp))).mono HB1.out.size)); clear g))
  go_loopw [3, 16] (fun v i wr => ∃ j : Nat, j ≤ ss.length ∧ i = .int .i64 (j : Int) ∧ v = .string (plT EH ss j) ∧ Below w.heap.size w wr) (fun _ i _ => ss.length - (intOf i).toNat)
  case atStart => exact ⟨0, Nat.zero_le _, rfl, rfl, HB2.out⟩
  case round =>
    obtain ⟨j, hj, rfl, rfl, hbel⟩ := hrel
    have Hbel := Lib.hid hbel
    by_cases hlt : j < ss.length
    · obtain ⟨b, o, rfl, hb, hc0, hc1, hc2, -⟩ := Hx.out j hlt
      have Hld := Lib.hid (run_load_cells (P := Try.prog) wr b (o + j * 3) 25 _ [.int .i64 ss[j].1, .int .i64 ss[j].2.1, .bool ss[j].2.2] (cells_FI (by rw [hbel.cell (show b < _ from by omega)]; exact hc0) (by rw [hbel.cell (show b < _ from by omega)]; exact hc1) (by rw [hbel.cell (show b < _ from by omega)]; exact hc2)) Try.underlying25 (by kernel_rfl))
      have HS := Lib.hid (plT_at (h := EH) hlt)
      have hfb := HFB.out j hlt
      have hz := HT.out j
      clear hc0 hc1 hc2 hbel
      generalize ss[j].1 = n0 at *; generalize ss[j].2.1 = n1 at *; generalize ss[j].2.2 = n2 at *
      generalize hN : plT EH ss (j + 1) = S1 at *
      have HN := Lib.hid hN; clear hN
      generalize plT EH ss j = S0 at *
      have Hi0 : Hid ((Try.prog.info? 25).map (·.size) = some (#[.int .i64 n0, .int .i64 n1, .bool n2] : Array Value).size) := Lib.hid (by kernel_rfl)
      have H10 : Hid ((#[.int .i64 n0, .int .i64 n1, .bool n2] : Array Value).all (·.oneCell') = true) := Lib.hid (by simp [Value.oneCell'])
      have HV1 : Hid (Below w.heap.size w (wr.alloc (.cells #[.int .i64 n0, .int .i64 n1, .bool n2] 25))) := Lib.hid (Hbel.out.trans ((Below.refl _ wr).alloc Hbel.out.size _))
      have R1 : Hid ((wr.alloc (.cells #[.int .i64 n0, .int .i64 n1, .bool n2] 25)).heap[wr.heap.size]? = some (.cells #[.int .i64 n0, .int .i64 n1, .bool n2] 25 (0, 0))) := Lib.hid (heap_alloc_new wr _)
      have q0 : (wr.alloc (.cells #[.int .i64 n0, .int .i64 n1, .bool n2] 25)).cell? ⟨wr.heap.size, 0, none⟩ = some (.int .i64 n0) := by rw [cell_of_row _ _ _ _ _ _ R1.out]; rfl
      have q1 : (wr.alloc (.cells #[.int .i64 n0, .int .i64 n1, .bool n2] 25)).cell? ⟨wr.heap.size, 1, none⟩ = some (.int .i64 n1) := by rw [cell_of_row _ _ _ _ _ _ R1.out]; rfl
      have q2 : (wr.alloc (.cells #[.int .i64 n0, .int .i64 n1, .bool n2] 25)).cell? ⟨wr.heap.size, 2, none⟩ = some (.bool n2) := by rw [cell_of_row _ _ _ _ _ _ R1.out]; rfl
      cases n2
      · have HS : Hid (S1 = S0 ++ (leS n0 1 ++ leS n1 1 ++ leS 0 1)) := HS
        have G1 := Lib.hid (fun W g (hg : W.heap.size = g) => oct3g_any W g hg n0 n1 0 (by unfold InI; omega) (by unfold InI; omega) (by unfold InI; omega))
        have y1 : (leS n0 1 ++ leS n1 1 ++ leS 0 1).size = 3 := by simp only [ByteArray.size_append, leS_one]
        generalize leS n0 1 ++ leS n1 1 ++ leS 0 1 = t2 at *
        have a3 := fun W => addS (a := S0) (b := t2) HS.out.symm (by omega) W
        clear y1 hz HS hfb
        go_wp2_with (first | (refine wpList_load_agg rfl 25 (.tmp 18) rfl _ rfl _ Hld.out ?_) | (refine wpList_store_last rfl 25 (.tmp 5) (.tmp 19) rfl #[.int .i64 n0, .int .i64 n1, .bool false] _ 25 rfl rfl Hi0.out rfl H10.out ?_) | (go_at_call 81; refine (G1.out _ _ (by simp)).mono ?_; rintro e u1 ⟨rfl, g1⟩; have Hk5 := Lib.hid (HV1.out.trans ((((Below.refl _ _).alloc (Nat.le_refl _) _).trans (g1.mono (by simp))).mono HV1.out.size)); clear g1))
        go_roundw
        case rel => exact ⟨j + 1, by omega, by go_num, by rw [HN.out], Hk5.out⟩
        case measure => simp [intOf]; omega
      · have HS : Hid (S1 = S0 ++ (leS n0 1 ++ leS n1 1 ++ leS 1 1)) := HS
        have G1 := Lib.hid (fun W g (hg : W.heap.size = g) => oct3g_any W g hg n0 n1 1 (by unfold InI; omega) (by unfold InI; omega) (by unfold InI; omega))
        have y1 : (leS n0 1 ++ leS n1 1 ++ leS 1 1).size = 3 := by simp only [ByteArray.size_append, leS_one]
        generalize leS n0 1 ++ leS n1 1 ++ leS 1 1 = t2 at *
        have a3 := fun W => addS (a := S0) (b := t2) HS.out.symm (by omega) W
        clear y1 hz HS hfb
        go_wp2_with (first | (refine wpList_load_agg rfl 25 (.tmp 18) rfl _ rfl _ Hld.out ?_) | (refine wpList_store_last rfl 25 (.tmp 5) (.tmp 19) rfl #[.int .i64 n0, .int .i64 n1, .bool true] _ 25 rfl rfl Hi0.out rfl H10.out ?_) | (go_at_call 81; refine (G1.out _ _ (by simp)).mono ?_; rintro e u1 ⟨rfl, g1⟩; have Hk5 := Lib.hid (HV1.out.trans ((((Below.refl _ _).alloc (Nat.le_refl _) _).trans (g1.mono (by simp))).mono HV1.out.size)); clear g1))
        go_roundw
        case rel => exact ⟨j + 1, by omega, by go_num, by rw [HN.out], Hk5.out⟩
        case measure => simp [intOf]; omega
    · obtain rfl : j = ss.length := by omega
      clear hbel
      go_wp2_with fail
      go_ret
      exact ⟨by rw [Hf.out]; rfl, Hbel.out⟩
end Go.Proofs.Ytmddgncidgdglaa
