/- Contracts of the laws' functions that bound, copy and compare selections. No statement is proved here. -/
import Derived.Test.YtbghekgghiamcaaPts
namespace Go.Proofs.Ytbghekgghiamcaa
open Go.RowKit
set_option linter.unusedVariables false
set_option maxHeartbeats 400000 in
theorem eqPoint_any {B : Nat} {w : World} {v u : Value} {xs : List Int} (h : Ri B w v xs) (g : Ri B w u xs) (hB : B ≤ w.heap.size) :
    Calls Try.prog 68 #[.agg #[v], .agg #[u]] w (GivesB (.bool true) w) := by
  have H := Lib.hid h; have G := Lib.hid g
  obtain ⟨A, c, rfl, _⟩ := h
  obtain ⟨D, d, rfl, _⟩ := g
  have Hb0 : Hid (Below w.heap.size w ((w.alloc (.cells #[.slice A xs.length c] 66)).alloc (.cells #[.slice D xs.length d] 66))) := Lib.hid (((Below.refl _ w).alloc (Nat.le_refl _) _).alloc (by simp) _)
  go_enter Try.func68, Try.ntmps68
  go_wp2_with fail
  refine (eqI_any (H.out.at hB Hb0.out) (G.out.at hB Hb0.out) (Nat.le_refl _)).mono ?_
  rintro e w1 ⟨rfl, hb1⟩
  have Hb1 : Hid (Below w.heap.size w w1) := Lib.hid (Hb0.out.trans (hb1.mono Hb0.out.size))
  clear hb1
  go_wp2_with fail
  go_ret
  exact ⟨rfl, Hb1.out⟩
set_option maxHeartbeats 1000000 in
set_option maxRecDepth 100000 in
theorem eqPoints_any {B : Nat} {w : World} {v1 v2 : Value} {ps : List (List Int)} (h1 : RiP B w v1 ps) (h2 : RiP B w v2 ps) (hB : B ≤ w.heap.size) :
    Calls Try.prog 39 #[v1, v2] w (GivesB (.bool true) w) := by
  obtain ⟨A1, c1, rfl, hl1, hm1, hx1⟩ := h1
  obtain ⟨A2, c2, rfl, hl2, hm2, hx2⟩ := h2
  have Hx1 := Lib.hid hx1; have Hx2 := Lib.hid hx2; clear hx1 hx2
  unfold maxLen at hm1 hm2
  go_enter Try.func39, Try.ntmps39
  go_wp2
  go_loopw [5] (fun i wr => ∃ k : Nat, k ≤ ps.length ∧ i = .int .i64 k ∧ Below w.heap.size w wr) (fun i _ => ps.length - (intOf i).toNat)
  case atStart => exact ⟨0, Nat.zero_le _, rfl, Below.refl _ _⟩
  case round =>
    obtain ⟨k, hk, rfl, hbel⟩ := hrel
    by_cases hlt : k < ps.length
    · obtain ⟨b1, o1, u1, rfl, hb1, hq1, hr1⟩ := Hx1.out k hlt
      obtain ⟨b2, o2, u2, rfl, hb2, hq2, hr2⟩ := Hx2.out k hlt
      have g1 : wr.cell? ⟨b1, o1 + k, none⟩ = some u1 := by rw [hbel.cell (p := ⟨b1, o1 + k, none⟩) (show b1 < _ from by omega)]; exact hq1
      have g2 : wr.cell? ⟨b2, o2 + k, none⟩ = some u2 := by rw [hbel.cell (p := ⟨b2, o2 + k, none⟩) (show b2 < _ from by omega)]; exact hq2
      have hbw : Below wr.heap.size wr (wr.drewN 1) := below_draws (Below.refl _ _) 1
      have Hr1 : Hid (Ri (wr.drewN 1).heap.size (wr.drewN 1) u1 ps[k]) := Lib.hid (hr1.at hB (hbel.trans (hbw.mono hbel.size)))
      have Hr2 : Hid (Ri (wr.drewN 1).heap.size (wr.drewN 1) u2 ps[k]) := Lib.hid (hr2.at hB (hbel.trans (hbw.mono hbel.size)))
      have Hbel := Lib.hid hbel; have Hbw := Lib.hid hbw
      obtain ⟨E1, e1, rfl, _⟩ := hr1
      obtain ⟨E2, e2, rfl, _⟩ := hr2
      have G1 := Lib.hid (run_load_cells (P := Try.prog) (wr.drewN 1) b1 (o1 + k) 66 _ [.slice E1 ps[k].length e1] (fun j u hj => by
        cases j with
        | zero => rw [show o1 + k + 0 = o1 + k from rfl]; obtain rfl := Option.some.inj hj; exact g1
        | succ j => simp at hj) Try.underlying66 (by kernel_rfl))
      have G2 := Lib.hid (run_load_cells (P := Try.prog) (wr.drewN 1) b2 (o2 + k) 66 _ [.slice E2 ps[k].length e2] (fun j u hj => by
        cases j with
        | zero => rw [show o2 + k + 0 = o2 + k from rfl]; obtain rfl := Option.some.inj hj; exact g2
        | succ j => simp at hj) Try.underlying66 (by kernel_rfl))
      clear hq1 hq2 hbel hbw g1 g2
      go_wp2
      refine wp_region_still_tail 8 (by kernel_rfl) (by kernel_rfl) ?_
      simp only [List.take_succ_cons, List.take_zero, List.drop_succ_cons, List.drop_zero]
      still_step
      still_step
      still_step
      refine wpStill_load rfl 66 (.tmp 19) rfl _ rfl _ G1.out ?_
      still_step
      still_step
      still_step
      refine wpStill_load rfl 66 (.tmp 23) rfl _ rfl _ G2.out ?_
      refine wpStill_nil ?_
      go_wp2_with fail
      refine (eqPoint_any Hr1.out Hr2.out (Nat.le_refl _)).mono ?_
      rintro e w1 ⟨rfl, hb1⟩
      have Hb1 : Hid (Below w.heap.size w w1) := Lib.hid (Hbel.out.trans ((Hbw.out.trans (hb1.mono Hbw.out.size)).mono Hbel.out.size))
      clear hb1
      go_wp2
      go_roundw
      case rel => exact ⟨k + 1, by omega, by go_num, Hb1.out⟩
      case measure => simp [intOf]; omega
    · go_wp2
      go_ret
      exact ⟨rfl, hbel⟩
set_option maxHeartbeats 1000000 in
set_option maxRecDepth 100000 in
theorem szSel_any {B : Nat} {w : World} {n0 : Int} {v1 : Value} {xs1 : List Int} {v2 : Value} {xs2 : List Int} {v3 : Value} {xs3 : List Int} {v4 : Value} {xs4 : List Int} {v5 : Value} {xs5 : List (List Int)} (h1 : Ri B w v1 xs1) (h2 : Ri B w v2 xs2) (h3 : Ri B w v3 xs3) (h4 : Ri B w v4 xs4) (h5 : RiP B w v5 xs5) (hB : B ≤ w.heap.size) (L : Int) (hL0 : 0 ≤ L) (hL : L ≤ 1048576) :
    Calls Try.prog 16 #[.agg #[.int .i64 n0, v1, v2, v3, v4, v5], .int .i64 L] w (Left L (xs1.length ≤ 1048576 ∧ xs2.length ≤ 1048576 ∧ xs3.length ≤ 1048576 ∧ xs4.length ≤ 1048576 ∧ (xs5.length ≤ 1048576 ∧ ∀ p ∈ xs5, p.length ≤ 1048576)) w) := by
  have H1 := Lib.hid h1; obtain ⟨A1, c1, rfl, _⟩ := h1
  have H2 := Lib.hid h2; obtain ⟨A2, c2, rfl, _⟩ := h2
  have H3 := Lib.hid h3; obtain ⟨A3, c3, rfl, _⟩ := h3
  have H4 := Lib.hid h4; obtain ⟨A4, c4, rfl, _⟩ := h4
  have H5 := Lib.hid h5; obtain ⟨A5, c5, rfl, _⟩ := h5
  generalize hP1 : (xs1.length ≤ 1048576) = P1 at *
  have HP1 := Lib.hid hP1; clear hP1
  generalize hP2 : (xs2.length ≤ 1048576) = P2 at *
  have HP2 := Lib.hid hP2; clear hP2
  generalize hP3 : (xs3.length ≤ 1048576) = P3 at *
  have HP3 := Lib.hid hP3; clear hP3
  generalize hP4 : (xs4.length ≤ 1048576) = P4 at *
  have HP4 := Lib.hid hP4; clear hP4
  generalize hP5 : ((xs5.length ≤ 1048576 ∧ ∀ p ∈ xs5, p.length ≤ 1048576)) = P5 at *
  have HP5 := Lib.hid hP5; clear hP5
  have Hb0 : Hid (Below w.heap.size w (w.alloc (.cells #[.int .i64 n0, .slice A1 xs1.length c1, .slice A2 xs2.length c2, .slice A3 xs3.length c3, .slice A4 xs4.length c4, .slice A5 xs5.length c5] 35))) := Lib.hid ((Below.refl _ w).alloc (Nat.le_refl _) _)
  have C1_0 : Hid ((w.alloc (.cells #[.int .i64 n0, .slice A1 xs1.length c1, .slice A2 xs2.length c2, .slice A3 xs3.length c3, .slice A4 xs4.length c4, .slice A5 xs5.length c5] 35)).cell? ⟨w.heap.size, 1, none⟩ = some (.slice A1 xs1.length c1)) := Lib.hid (by rw [cell_of_row _ _ _ _ _ _ (heap_alloc_new w _)]; rfl)
  have C2_0 : Hid ((w.alloc (.cells #[.int .i64 n0, .slice A1 xs1.length c1, .slice A2 xs2.length c2, .slice A3 xs3.length c3, .slice A4 xs4.length c4, .slice A5 xs5.length c5] 35)).cell? ⟨w.heap.size, 2, none⟩ = some (.slice A2 xs2.length c2)) := Lib.hid (by rw [cell_of_row _ _ _ _ _ _ (heap_alloc_new w _)]; rfl)
  have C3_0 : Hid ((w.alloc (.cells #[.int .i64 n0, .slice A1 xs1.length c1, .slice A2 xs2.length c2, .slice A3 xs3.length c3, .slice A4 xs4.length c4, .slice A5 xs5.length c5] 35)).cell? ⟨w.heap.size, 3, none⟩ = some (.slice A3 xs3.length c3)) := Lib.hid (by rw [cell_of_row _ _ _ _ _ _ (heap_alloc_new w _)]; rfl)
  have C4_0 : Hid ((w.alloc (.cells #[.int .i64 n0, .slice A1 xs1.length c1, .slice A2 xs2.length c2, .slice A3 xs3.length c3, .slice A4 xs4.length c4, .slice A5 xs5.length c5] 35)).cell? ⟨w.heap.size, 4, none⟩ = some (.slice A4 xs4.length c4)) := Lib.hid (by rw [cell_of_row _ _ _ _ _ _ (heap_alloc_new w _)]; rfl)
  have C5_0 : Hid ((w.alloc (.cells #[.int .i64 n0, .slice A1 xs1.length c1, .slice A2 xs2.length c2, .slice A3 xs3.length c3, .slice A4 xs4.length c4, .slice A5 xs5.length c5] 35)).cell? ⟨w.heap.size, 5, none⟩ = some (.slice A5 xs5.length c5)) := Lib.hid (by rw [cell_of_row _ _ _ _ _ _ (heap_alloc_new w _)]; rfl)
  have Lt0 : Hid (w.heap.size < (w.alloc (.cells #[.int .i64 n0, .slice A1 xs1.length c1, .slice A2 xs2.length c2, .slice A3 xs3.length c3, .slice A4 xs4.length c4, .slice A5 xs5.length c5] 35)).heap.size) := Lib.hid (by simp)
  go_enter Try.func16, Try.ntmps16
  go_wp2_with fail
  generalize (w.alloc (.cells #[.int .i64 n0, .slice A1 xs1.length c1, .slice A2 xs2.length c2, .slice A3 xs3.length c3, .slice A4 xs4.length c4, .slice A5 xs5.length c5] 35)) = w0 at *
  refine (szI_any (H1.out.at hB Hb0.out) L (by omega) (by omega)).mono ?_
  rintro e w1 ⟨l1, rfl, hn1, hl1, hp, g⟩
  have Hp1 : Hid (0 ≤ l1 → P1) := Lib.hid (fun h => HP1.out ▸ hp h); clear hp
  have Hb1 : Hid (Below w.heap.size w w1) := Lib.hid (Hb0.out.trans (g.mono Hb0.out.size))
  have Lt1 : Hid (w.heap.size < w1.heap.size) := Lib.hid (by have := Lt0.out; have := g.size; omega)
  have C2_1 : Hid (w1.cell? ⟨w.heap.size, 2, none⟩ = some (.slice A2 xs2.length c2)) := Lib.hid ((g.cell (p := ⟨w.heap.size, 2, none⟩) Lt0.out).trans C2_0.out)
  have C3_1 : Hid (w1.cell? ⟨w.heap.size, 3, none⟩ = some (.slice A3 xs3.length c3)) := Lib.hid ((g.cell (p := ⟨w.heap.size, 3, none⟩) Lt0.out).trans C3_0.out)
  have C4_1 : Hid (w1.cell? ⟨w.heap.size, 4, none⟩ = some (.slice A4 xs4.length c4)) := Lib.hid ((g.cell (p := ⟨w.heap.size, 4, none⟩) Lt0.out).trans C4_0.out)
  have C5_1 : Hid (w1.cell? ⟨w.heap.size, 5, none⟩ = some (.slice A5 xs5.length c5)) := Lib.hid ((g.cell (p := ⟨w.heap.size, 5, none⟩) Lt0.out).trans C5_0.out)
  clear g
  have q1 := C2_1.out
  by_cases neg1 : l1 < 0
  · go_wp2_with fail
    go_ret
    exact ⟨-1, rfl, by omega, by omega, by omega, Hb1.out⟩
  go_wp2_with fail
  clear q1
  refine (szI_any (H2.out.at hB Hb1.out) l1 (by omega) (by omega)).mono ?_
  rintro e w2 ⟨l2, rfl, hn2, hl2, hp, g⟩
  have Hp2 : Hid (0 ≤ l2 → P2) := Lib.hid (fun h => HP2.out ▸ hp h); clear hp
  have Hb2 : Hid (Below w.heap.size w w2) := Lib.hid (Hb1.out.trans (g.mono Hb1.out.size))
  have Lt2 : Hid (w.heap.size < w2.heap.size) := Lib.hid (by have := Lt1.out; have := g.size; omega)
  have C3_2 : Hid (w2.cell? ⟨w.heap.size, 3, none⟩ = some (.slice A3 xs3.length c3)) := Lib.hid ((g.cell (p := ⟨w.heap.size, 3, none⟩) Lt1.out).trans C3_1.out)
  have C4_2 : Hid (w2.cell? ⟨w.heap.size, 4, none⟩ = some (.slice A4 xs4.length c4)) := Lib.hid ((g.cell (p := ⟨w.heap.size, 4, none⟩) Lt1.out).trans C4_1.out)
  have C5_2 : Hid (w2.cell? ⟨w.heap.size, 5, none⟩ = some (.slice A5 xs5.length c5)) := Lib.hid ((g.cell (p := ⟨w.heap.size, 5, none⟩) Lt1.out).trans C5_1.out)
  clear g
  have q1 := C3_2.out
  by_cases neg2 : l2 < 0
  · go_wp2_with fail
    go_ret
    exact ⟨-1, rfl, by omega, by omega, by omega, Hb2.out⟩
  go_wp2_with fail
  clear q1
  refine (szI_any (H3.out.at hB Hb2.out) l2 (by omega) (by omega)).mono ?_
  rintro e w3 ⟨l3, rfl, hn3, hl3, hp, g⟩
  have Hp3 : Hid (0 ≤ l3 → P3) := Lib.hid (fun h => HP3.out ▸ hp h); clear hp
  have Hb3 : Hid (Below w.heap.size w w3) := Lib.hid (Hb2.out.trans (g.mono Hb2.out.size))
  have Lt3 : Hid (w.heap.size < w3.heap.size) := Lib.hid (by have := Lt2.out; have := g.size; omega)
  have C4_3 : Hid (w3.cell? ⟨w.heap.size, 4, none⟩ = some (.slice A4 xs4.length c4)) := Lib.hid ((g.cell (p := ⟨w.heap.size, 4, none⟩) Lt2.out).trans C4_2.out)
  have C5_3 : Hid (w3.cell? ⟨w.heap.size, 5, none⟩ = some (.slice A5 xs5.length c5)) := Lib.hid ((g.cell (p := ⟨w.heap.size, 5, none⟩) Lt2.out).trans C5_2.out)
  clear g
  have q1 := C4_3.out
  by_cases neg3 : l3 < 0
  · go_wp2_with fail
    go_ret
    exact ⟨-1, rfl, by omega, by omega, by omega, Hb3.out⟩
  go_wp2_with fail
  clear q1
  refine (szI_any (H4.out.at hB Hb3.out) l3 (by omega) (by omega)).mono ?_
  rintro e w4 ⟨l4, rfl, hn4, hl4, hp, g⟩
  have Hp4 : Hid (0 ≤ l4 → P4) := Lib.hid (fun h => HP4.out ▸ hp h); clear hp
  have Hb4 : Hid (Below w.heap.size w w4) := Lib.hid (Hb3.out.trans (g.mono Hb3.out.size))
  have Lt4 : Hid (w.heap.size < w4.heap.size) := Lib.hid (by have := Lt3.out; have := g.size; omega)
  have C5_4 : Hid (w4.cell? ⟨w.heap.size, 5, none⟩ = some (.slice A5 xs5.length c5)) := Lib.hid ((g.cell (p := ⟨w.heap.size, 5, none⟩) Lt3.out).trans C5_3.out)
  clear g
  have q1 := C5_4.out
  by_cases neg4 : l4 < 0
  · go_wp2_with fail
    go_ret
    exact ⟨-1, rfl, by omega, by omega, by omega, Hb4.out⟩
  go_wp2_with fail
  clear q1
  refine (szPoints_any (H5.out.at hB Hb4.out) (Nat.le_refl _) l4 (by omega) (by omega)).mono ?_
  rintro e w5 ⟨l5, rfl, hn5, hl5, hp, g⟩
  have Hp5 : Hid (0 ≤ l5 → P5) := Lib.hid (fun h => HP5.out ▸ hp h); clear hp
  have Hb5 : Hid (Below w.heap.size w w5) := Lib.hid (Hb4.out.trans (g.mono Hb4.out.size))
  have Lt5 : Hid (w.heap.size < w5.heap.size) := Lib.hid (by have := Lt4.out; have := g.size; omega)
  clear g
  by_cases neg5 : l5 < 0
  · go_wp2_with fail
    go_ret
    exact ⟨-1, rfl, by omega, by omega, by omega, Hb5.out⟩
  go_wp2_with fail
  go_ret
  exact ⟨l5, rfl, by omega, by omega, fun h => ⟨Hp1.out (by omega), Hp2.out (by omega), Hp3.out (by omega), Hp4.out (by omega), Hp5.out (by omega)⟩, Hb5.out⟩
set_option maxHeartbeats 2000000 in
set_option maxRecDepth 100000 in
theorem toSel_any {B : Nat} {w : World} {n0 : Int} {v1 : Value} {xs1 : List Int} {v2 : Value} {xs2 : List Int} {v3 : Value} {xs3 : List Int} {v4 : Value} {xs4 : List Int} {v5 : Value} {xs5 : List (List Int)} (h1 : Ri B w v1 xs1) (h2 : Ri B w v2 xs2) (h3 : Ri B w v3 xs3) (h4 : Ri B w v4 xs4) (h5 : RiP B w v5 xs5) (hB : B ≤ w.heap.size) (hs : xs1.length ≤ 1048576 ∧ xs2.length ≤ 1048576 ∧ xs3.length ≤ 1048576 ∧ xs4.length ≤ 1048576 ∧ (xs5.length ≤ 1048576 ∧ ∀ p ∈ xs5, p.length ≤ 1048576)) :
    Calls Try.prog 18 #[.agg #[.int .i64 n0, v1, v2, v3, v4, v5]] w fun e w' => e = .returned (.agg #[.int .i64 n0, .slice (some ⟨w.heap.size + 3, 0, none⟩) xs1.length xs1.length, .slice (some ⟨w.heap.size + 4, 0, none⟩) xs2.length xs2.length, .slice (some ⟨w.heap.size + 5, 0, none⟩) xs3.length xs3.length, .slice (some ⟨w.heap.size + 6, 0, none⟩) xs4.length xs4.length, .slice (some ⟨w.heap.size + 7, 0, none⟩) xs5.length xs5.length]) ∧ Row w' (w.heap.size + 3) xs1 ∧ Row w' (w.heap.size + 4) xs2 ∧ Row w' (w.heap.size + 5) xs3 ∧ Row w' (w.heap.size + 6) xs4 ∧ PRow w' (w.heap.size + 7) (.slice (some ⟨w.heap.size + 7, 0, none⟩) xs5.length xs5.length) xs5 ∧ Below w.heap.size w w' := by
  have H1 := Lib.hid h1; obtain ⟨A1, c1, rfl, _⟩ := h1
  have H2 := Lib.hid h2; obtain ⟨A2, c2, rfl, _⟩ := h2
  have H3 := Lib.hid h3; obtain ⟨A3, c3, rfl, _⟩ := h3
  have H4 := Lib.hid h4; obtain ⟨A4, c4, rfl, _⟩ := h4
  have H5 := Lib.hid h5; obtain ⟨A5, c5, rfl, _⟩ := h5
  have Hs := Lib.hid hs; clear hs
  have Tri0 := Lib.hid (Tri.start w 35 25 #[.int .i64 n0, .slice A1 xs1.length c1, .slice A2 xs2.length c2, .slice A3 xs3.length c3, .slice A4 xs4.length c4, .slice A5 xs5.length c5] #[.int .i64 0, .slice none 0 0, .slice none 0 0, .slice none 0 0, .slice none 0 0, .slice none 0 0] #[.int .i64 n0, .slice none 0 0, .slice none 0 0, .slice none 0 0, .slice none 0 0, .slice none 0 0])
  have Z0 : Hid ((((w.alloc (.cells #[.int .i64 n0, .slice A1 xs1.length c1, .slice A2 xs2.length c2, .slice A3 xs3.length c3, .slice A4 xs4.length c4, .slice A5 xs5.length c5] 35)).alloc (.cells #[.int .i64 0, .slice none 0 0, .slice none 0 0, .slice none 0 0, .slice none 0 0, .slice none 0 0] 25)).alloc (.cells #[.int .i64 n0, .slice none 0 0, .slice none 0 0, .slice none 0 0, .slice none 0 0, .slice none 0 0] 25)).heap.size = w.heap.size + 3) := Lib.hid (by simp)
  go_enter Try.func18, Try.ntmps18
  go_wp2_with fail
  generalize (((w.alloc (.cells #[.int .i64 n0, .slice A1 xs1.length c1, .slice A2 xs2.length c2, .slice A3 xs3.length c3, .slice A4 xs4.length c4, .slice A5 xs5.length c5] 35)).alloc (.cells #[.int .i64 0, .slice none 0 0, .slice none 0 0, .slice none 0 0, .slice none 0 0, .slice none 0 0] 25)).alloc (.cells #[.int .i64 n0, .slice none 0 0, .slice none 0 0, .slice none 0 0, .slice none 0 0, .slice none 0 0] 25)) = W0 at *
  refine (toI_any (H1.out.at hB Tri0.out.2.2.2.1) (Nat.le_refl _) Hs.out.1).mono ?_
  rintro e w1 ⟨rfl, r, z, g⟩
  have tri := Tri0.out.after g
  have R1_0 : Hid (Row w1 (w.heap.size + 3) xs1) := Lib.hid (Z0.out ▸ r)
  have Y1 : Hid (w1.heap.size = w.heap.size + 4) := Lib.hid (by rw [z, Z0.out])
  have q1 := tri.box 2 _ rfl
  have q2 := tri.out 1 _ rfl
  have q3 := tri.free 1
  have Tri1 : Hid (Tri w (w1.setCell ⟨w.heap.size + 1 + 1, 1, none⟩ (.slice (some ⟨W0.heap.size, 0, none⟩) xs1.length xs1.length)) 35 25 #[.int .i64 n0, .slice A1 xs1.length c1, .slice A2 xs2.length c2, .slice A3 xs3.length c3, .slice A4 xs4.length c4, .slice A5 xs5.length c5] #[.int .i64 0, .slice none 0 0, .slice none 0 0, .slice none 0 0, .slice none 0 0, .slice none 0 0] #[.int .i64 n0, .slice (some ⟨W0.heap.size, 0, none⟩) xs1.length xs1.length, .slice none 0 0, .slice none 0 0, .slice none 0 0, .slice none 0 0]) := Lib.hid (tri.set 1 _)
  have R1_0s : Hid (Row (w1.setCell ⟨w.heap.size + 1 + 1, 1, none⟩ (.slice (some ⟨W0.heap.size, 0, none⟩) xs1.length xs1.length)) (w.heap.size + 3) xs1) := Lib.hid (R1_0.out.setCell (by omega) _ _)
  have Z1 : Hid ((w1.setCell ⟨w.heap.size + 1 + 1, 1, none⟩ (.slice (some ⟨W0.heap.size, 0, none⟩) xs1.length xs1.length)).heap.size = w.heap.size + 4) := Lib.hid (by simp [World.setCell, Y1.out])
  clear r z g tri
  go_wp2_with fail
  clear q1 q2 q3
  generalize (w1.setCell ⟨w.heap.size + 1 + 1, 1, none⟩ (.slice (some ⟨W0.heap.size, 0, none⟩) xs1.length xs1.length)) = W1 at *
  refine (toI_any (H2.out.at hB Tri1.out.2.2.2.1) (Nat.le_refl _) Hs.out.2.1).mono ?_
  rintro e w2 ⟨rfl, r, z, g⟩
  have tri := Tri1.out.after g
  have R2_1 : Hid (Row w2 (w.heap.size + 4) xs2) := Lib.hid (Z1.out ▸ r)
  have Y2 : Hid (w2.heap.size = w.heap.size + 5) := Lib.hid (by rw [z, Z1.out])
  have R1_1 : Hid (Row w2 (w.heap.size + 3) xs1) := Lib.hid (R1_0s.out.below g)
  have q1 := tri.box 3 _ rfl
  have q2 := tri.out 2 _ rfl
  have q3 := tri.free 2
  have Tri2 : Hid (Tri w (w2.setCell ⟨w.heap.size + 1 + 1, 2, none⟩ (.slice (some ⟨W1.heap.size, 0, none⟩) xs2.length xs2.length)) 35 25 #[.int .i64 n0, .slice A1 xs1.length c1, .slice A2 xs2.length c2, .slice A3 xs3.length c3, .slice A4 xs4.length c4, .slice A5 xs5.length c5] #[.int .i64 0, .slice none 0 0, .slice none 0 0, .slice none 0 0, .slice none 0 0, .slice none 0 0] #[.int .i64 n0, .slice (some ⟨W0.heap.size, 0, none⟩) xs1.length xs1.length, .slice (some ⟨W1.heap.size, 0, none⟩) xs2.length xs2.length, .slice none 0 0, .slice none 0 0, .slice none 0 0]) := Lib.hid (tri.set 2 _)
  have R1_1s : Hid (Row (w2.setCell ⟨w.heap.size + 1 + 1, 2, none⟩ (.slice (some ⟨W1.heap.size, 0, none⟩) xs2.length xs2.length)) (w.heap.size + 3) xs1) := Lib.hid (R1_1.out.setCell (by omega) _ _)
  have R2_1s : Hid (Row (w2.setCell ⟨w.heap.size + 1 + 1, 2, none⟩ (.slice (some ⟨W1.heap.size, 0, none⟩) xs2.length xs2.length)) (w.heap.size + 4) xs2) := Lib.hid (R2_1.out.setCell (by omega) _ _)
  have Z2 : Hid ((w2.setCell ⟨w.heap.size + 1 + 1, 2, none⟩ (.slice (some ⟨W1.heap.size, 0, none⟩) xs2.length xs2.length)).heap.size = w.heap.size + 5) := Lib.hid (by simp [World.setCell, Y2.out])
  clear r z g tri
  go_wp2_with fail
  clear q1 q2 q3
  generalize (w2.setCell ⟨w.heap.size + 1 + 1, 2, none⟩ (.slice (some ⟨W1.heap.size, 0, none⟩) xs2.length xs2.length)) = W2 at *
  refine (toI_any (H3.out.at hB Tri2.out.2.2.2.1) (Nat.le_refl _) Hs.out.2.2.1).mono ?_
  rintro e w3 ⟨rfl, r, z, g⟩
  have tri := Tri2.out.after g
  have R3_2 : Hid (Row w3 (w.heap.size + 5) xs3) := Lib.hid (Z2.out ▸ r)
  have Y3 : Hid (w3.heap.size = w.heap.size + 6) := Lib.hid (by rw [z, Z2.out])
  have R1_2 : Hid (Row w3 (w.heap.size + 3) xs1) := Lib.hid (R1_1s.out.below g)
  have R2_2 : Hid (Row w3 (w.heap.size + 4) xs2) := Lib.hid (R2_1s.out.below g)
  have q1 := tri.box 4 _ rfl
  have q2 := tri.out 3 _ rfl
  have q3 := tri.free 3
  have Tri3 : Hid (Tri w (w3.setCell ⟨w.heap.size + 1 + 1, 3, none⟩ (.slice (some ⟨W2.heap.size, 0, none⟩) xs3.length xs3.length)) 35 25 #[.int .i64 n0, .slice A1 xs1.length c1, .slice A2 xs2.length c2, .slice A3 xs3.length c3, .slice A4 xs4.length c4, .slice A5 xs5.length c5] #[.int .i64 0, .slice none 0 0, .slice none 0 0, .slice none 0 0, .slice none 0 0, .slice none 0 0] #[.int .i64 n0, .slice (some ⟨W0.heap.size, 0, none⟩) xs1.length xs1.length, .slice (some ⟨W1.heap.size, 0, none⟩) xs2.length xs2.length, .slice (some ⟨W2.heap.size, 0, none⟩) xs3.length xs3.length, .slice none 0 0, .slice none 0 0]) := Lib.hid (tri.set 3 _)
  have R1_2s : Hid (Row (w3.setCell ⟨w.heap.size + 1 + 1, 3, none⟩ (.slice (some ⟨W2.heap.size, 0, none⟩) xs3.length xs3.length)) (w.heap.size + 3) xs1) := Lib.hid (R1_2.out.setCell (by omega) _ _)
  have R2_2s : Hid (Row (w3.setCell ⟨w.heap.size + 1 + 1, 3, none⟩ (.slice (some ⟨W2.heap.size, 0, none⟩) xs3.length xs3.length)) (w.heap.size + 4) xs2) := Lib.hid (R2_2.out.setCell (by omega) _ _)
  have R3_2s : Hid (Row (w3.setCell ⟨w.heap.size + 1 + 1, 3, none⟩ (.slice (some ⟨W2.heap.size, 0, none⟩) xs3.length xs3.length)) (w.heap.size + 5) xs3) := Lib.hid (R3_2.out.setCell (by omega) _ _)
  have Z3 : Hid ((w3.setCell ⟨w.heap.size + 1 + 1, 3, none⟩ (.slice (some ⟨W2.heap.size, 0, none⟩) xs3.length xs3.length)).heap.size = w.heap.size + 6) := Lib.hid (by simp [World.setCell, Y3.out])
  clear r z g tri
  go_wp2_with fail
  clear q1 q2 q3
  generalize (w3.setCell ⟨w.heap.size + 1 + 1, 3, none⟩ (.slice (some ⟨W2.heap.size, 0, none⟩) xs3.length xs3.length)) = W3 at *
  refine (toI_any (H4.out.at hB Tri3.out.2.2.2.1) (Nat.le_refl _) Hs.out.2.2.2.1).mono ?_
  rintro e w4 ⟨rfl, r, z, g⟩
  have tri := Tri3.out.after g
  have R4_3 : Hid (Row w4 (w.heap.size + 6) xs4) := Lib.hid (Z3.out ▸ r)
  have Y4 : Hid (w4.heap.size = w.heap.size + 7) := Lib.hid (by rw [z, Z3.out])
  have R1_3 : Hid (Row w4 (w.heap.size + 3) xs1) := Lib.hid (R1_2s.out.below g)
  have R2_3 : Hid (Row w4 (w.heap.size + 4) xs2) := Lib.hid (R2_2s.out.below g)
  have R3_3 : Hid (Row w4 (w.heap.size + 5) xs3) := Lib.hid (R3_2s.out.below g)
  have q1 := tri.box 5 _ rfl
  have q2 := tri.out 4 _ rfl
  have q3 := tri.free 4
  have Tri4 : Hid (Tri w (w4.setCell ⟨w.heap.size + 1 + 1, 4, none⟩ (.slice (some ⟨W3.heap.size, 0, none⟩) xs4.length xs4.length)) 35 25 #[.int .i64 n0, .slice A1 xs1.length c1, .slice A2 xs2.length c2, .slice A3 xs3.length c3, .slice A4 xs4.length c4, .slice A5 xs5.length c5] #[.int .i64 0, .slice none 0 0, .slice none 0 0, .slice none 0 0, .slice none 0 0, .slice none 0 0] #[.int .i64 n0, .slice (some ⟨W0.heap.size, 0, none⟩) xs1.length xs1.length, .slice (some ⟨W1.heap.size, 0, none⟩) xs2.length xs2.length, .slice (some ⟨W2.heap.size, 0, none⟩) xs3.length xs3.length, .slice (some ⟨W3.heap.size, 0, none⟩) xs4.length xs4.length, .slice none 0 0]) := Lib.hid (tri.set 4 _)
  have R1_3s : Hid (Row (w4.setCell ⟨w.heap.size + 1 + 1, 4, none⟩ (.slice (some ⟨W3.heap.size, 0, none⟩) xs4.length xs4.length)) (w.heap.size + 3) xs1) := Lib.hid (R1_3.out.setCell (by omega) _ _)
  have R2_3s : Hid (Row (w4.setCell ⟨w.heap.size + 1 + 1, 4, none⟩ (.slice (some ⟨W3.heap.size, 0, none⟩) xs4.length xs4.length)) (w.heap.size + 4) xs2) := Lib.hid (R2_3.out.setCell (by omega) _ _)
  have R3_3s : Hid (Row (w4.setCell ⟨w.heap.size + 1 + 1, 4, none⟩ (.slice (some ⟨W3.heap.size, 0, none⟩) xs4.length xs4.length)) (w.heap.size + 5) xs3) := Lib.hid (R3_3.out.setCell (by omega) _ _)
  have R4_3s : Hid (Row (w4.setCell ⟨w.heap.size + 1 + 1, 4, none⟩ (.slice (some ⟨W3.heap.size, 0, none⟩) xs4.length xs4.length)) (w.heap.size + 6) xs4) := Lib.hid (R4_3.out.setCell (by omega) _ _)
  have Z4 : Hid ((w4.setCell ⟨w.heap.size + 1 + 1, 4, none⟩ (.slice (some ⟨W3.heap.size, 0, none⟩) xs4.length xs4.length)).heap.size = w.heap.size + 7) := Lib.hid (by simp [World.setCell, Y4.out])
  clear r z g tri
  go_wp2_with fail
  clear q1 q2 q3
  generalize (w4.setCell ⟨w.heap.size + 1 + 1, 4, none⟩ (.slice (some ⟨W3.heap.size, 0, none⟩) xs4.length xs4.length)) = W4 at *
  refine (toPoints_any (H5.out.at hB Tri4.out.2.2.2.1) (Nat.le_refl _) Hs.out.2.2.2.2).mono ?_
  rintro e w5 ⟨rfl, r, z, g⟩
  have tri := Tri4.out.after g
  have R5_4 : Hid (PRow w5 (w.heap.size + 7) (.slice (some ⟨w.heap.size + 7, 0, none⟩) xs5.length xs5.length) xs5) := Lib.hid (Z4.out ▸ r)
  have R1_4 : Hid (Row w5 (w.heap.size + 3) xs1) := Lib.hid (R1_3s.out.below g)
  have R2_4 : Hid (Row w5 (w.heap.size + 4) xs2) := Lib.hid (R2_3s.out.below g)
  have R3_4 : Hid (Row w5 (w.heap.size + 5) xs3) := Lib.hid (R3_3s.out.below g)
  have R4_4 : Hid (Row w5 (w.heap.size + 6) xs4) := Lib.hid (R4_3s.out.below g)
  have q1 := trivial
  have q2 := tri.out 5 _ rfl
  have q3 := tri.free 5
  have Tri5 : Hid (Tri w (w5.setCell ⟨w.heap.size + 1 + 1, 5, none⟩ (.slice (some ⟨W4.heap.size, 0, none⟩) xs5.length xs5.length)) 35 25 #[.int .i64 n0, .slice A1 xs1.length c1, .slice A2 xs2.length c2, .slice A3 xs3.length c3, .slice A4 xs4.length c4, .slice A5 xs5.length c5] #[.int .i64 0, .slice none 0 0, .slice none 0 0, .slice none 0 0, .slice none 0 0, .slice none 0 0] #[.int .i64 n0, .slice (some ⟨W0.heap.size, 0, none⟩) xs1.length xs1.length, .slice (some ⟨W1.heap.size, 0, none⟩) xs2.length xs2.length, .slice (some ⟨W2.heap.size, 0, none⟩) xs3.length xs3.length, .slice (some ⟨W3.heap.size, 0, none⟩) xs4.length xs4.length, .slice (some ⟨W4.heap.size, 0, none⟩) xs5.length xs5.length]) := Lib.hid (tri.set 5 _)
  have R1_4s : Hid (Row (w5.setCell ⟨w.heap.size + 1 + 1, 5, none⟩ (.slice (some ⟨W4.heap.size, 0, none⟩) xs5.length xs5.length)) (w.heap.size + 3) xs1) := Lib.hid (R1_4.out.setCell (by omega) _ _)
  have R2_4s : Hid (Row (w5.setCell ⟨w.heap.size + 1 + 1, 5, none⟩ (.slice (some ⟨W4.heap.size, 0, none⟩) xs5.length xs5.length)) (w.heap.size + 4) xs2) := Lib.hid (R2_4.out.setCell (by omega) _ _)
  have R3_4s : Hid (Row (w5.setCell ⟨w.heap.size + 1 + 1, 5, none⟩ (.slice (some ⟨W4.heap.size, 0, none⟩) xs5.length xs5.length)) (w.heap.size + 5) xs3) := Lib.hid (R3_4.out.setCell (by omega) _ _)
  have R4_4s : Hid (Row (w5.setCell ⟨w.heap.size + 1 + 1, 5, none⟩ (.slice (some ⟨W4.heap.size, 0, none⟩) xs5.length xs5.length)) (w.heap.size + 6) xs4) := Lib.hid (R4_4.out.setCell (by omega) _ _)
  have R5_4s : Hid (PRow (w5.setCell ⟨w.heap.size + 1 + 1, 5, none⟩ (.slice (some ⟨W4.heap.size, 0, none⟩) xs5.length xs5.length)) (w.heap.size + 7) (.slice (some ⟨w.heap.size + 7, 0, none⟩) xs5.length xs5.length) xs5) := Lib.hid (R5_4.out.setCell (by omega) _ _)
  clear r z g tri
  have Hi9 : Hid ((Try.prog.info? 25).map (·.size) = some (#[.int .i64 n0, .slice (some ⟨W0.heap.size, 0, none⟩) xs1.length xs1.length, .slice (some ⟨W1.heap.size, 0, none⟩) xs2.length xs2.length, .slice (some ⟨W2.heap.size, 0, none⟩) xs3.length xs3.length, .slice (some ⟨W3.heap.size, 0, none⟩) xs4.length xs4.length, .slice (some ⟨W4.heap.size, 0, none⟩) xs5.length xs5.length] : Array Value).size) := Lib.hid (by kernel_rfl)
  have H19 : Hid ((#[.int .i64 n0, .slice (some ⟨W0.heap.size, 0, none⟩) xs1.length xs1.length, .slice (some ⟨W1.heap.size, 0, none⟩) xs2.length xs2.length, .slice (some ⟨W2.heap.size, 0, none⟩) xs3.length xs3.length, .slice (some ⟨W3.heap.size, 0, none⟩) xs4.length xs4.length, .slice (some ⟨W4.heap.size, 0, none⟩) xs5.length xs5.length] : Array Value).all (·.oneCell') = true) := Lib.hid (by simp [Value.oneCell'])
  go_wp2_with (first | (refine wpList_load_row rfl 25 (.tmp 3) rfl _ rfl 25 _ (0, 0) _ Tri5.out.2.2.1 Try.underlying25 rfl (by kernel_rfl) ?_) | (refine wpList_store_row rfl 25 (.tmp 2) (.tmp 27) rfl (w.heap.size + 1) #[.int .i64 n0, .slice (some ⟨W0.heap.size, 0, none⟩) xs1.length xs1.length, .slice (some ⟨W1.heap.size, 0, none⟩) xs2.length xs2.length, .slice (some ⟨W2.heap.size, 0, none⟩) xs3.length xs3.length, .slice (some ⟨W3.heap.size, 0, none⟩) xs4.length xs4.length, .slice (some ⟨W4.heap.size, 0, none⟩) xs5.length xs5.length] rfl rfl 25 #[.int .i64 0, .slice none 0 0, .slice none 0 0, .slice none 0 0, .slice none 0 0, .slice none 0 0] Tri5.out.2.1 Hi9.out rfl H19.out ?_))
  refine bodyPost_ret (v := .agg #[.int .i64 n0, .slice (some ⟨W0.heap.size, 0, none⟩) xs1.length xs1.length, .slice (some ⟨W1.heap.size, 0, none⟩) xs2.length xs2.length, .slice (some ⟨W2.heap.size, 0, none⟩) xs3.length xs3.length, .slice (some ⟨W3.heap.size, 0, none⟩) xs4.length xs4.length, .slice (some ⟨W4.heap.size, 0, none⟩) xs5.length xs5.length]) ?h1 ?h2 ?h3
  case h2 => rfl
  case h1 => exact results_cell_row rfl _ _ (w.heap.size + 1) 25 _ (0, 0) _ rfl (setRow_heap _ _ _ _ _ _ Tri5.out.2.1) Try.underlying25 rfl (by kernel_rfl)
  case h3 =>
    clear q1 q2 q3
    have hw := below_setRow Tri5.out.2.2.2.1 (show w.heap.size ≤ w.heap.size + 1 from by omega) #[.int .i64 n0, .slice (some ⟨W0.heap.size, 0, none⟩) xs1.length xs1.length, .slice (some ⟨W1.heap.size, 0, none⟩) xs2.length xs2.length, .slice (some ⟨W2.heap.size, 0, none⟩) xs3.length xs3.length, .slice (some ⟨W3.heap.size, 0, none⟩) xs4.length xs4.length, .slice (some ⟨W4.heap.size, 0, none⟩) xs5.length xs5.length]
    refine ⟨by rw [Z0.out, Z1.out, Z2.out, Z3.out, Z4.out], R1_4s.out.setRow (by omega) _, R2_4s.out.setRow (by omega) _, R3_4s.out.setRow (by omega) _, R4_4s.out.setRow (by omega) _, R5_4s.out.setRow (by omega) _, hw⟩
theorem toSel_rd {B : Nat} {w : World} {n0 : Int} {v1 : Value} {xs1 : List Int} {v2 : Value} {xs2 : List Int} {v3 : Value} {xs3 : List Int} {v4 : Value} {xs4 : List Int} {v5 : Value} {xs5 : List (List Int)} (h1 : Ri B w v1 xs1) (h2 : Ri B w v2 xs2) (h3 : Ri B w v3 xs3) (h4 : Ri B w v4 xs4) (h5 : RiP B w v5 xs5) (hB : B ≤ w.heap.size) (hs : xs1.length ≤ 1048576 ∧ xs2.length ≤ 1048576 ∧ xs3.length ≤ 1048576 ∧ xs4.length ≤ 1048576 ∧ (xs5.length ≤ 1048576 ∧ ∀ p ∈ xs5, p.length ≤ 1048576)) :
    Calls Try.prog 18 #[.agg #[.int .i64 n0, v1, v2, v3, v4, v5]] w fun e w' => ∃ A1 A2 A3 A4 A5 : Option Addr, e = .returned (.agg #[.int .i64 n0, .slice A1 xs1.length xs1.length, .slice A2 xs2.length xs2.length, .slice A3 xs3.length xs3.length, .slice A4 xs4.length xs4.length, .slice A5 xs5.length xs5.length]) ∧ Ri w'.heap.size w' (.slice A1 xs1.length xs1.length) xs1 ∧ Ri w'.heap.size w' (.slice A2 xs2.length xs2.length) xs2 ∧ Ri w'.heap.size w' (.slice A3 xs3.length xs3.length) xs3 ∧ Ri w'.heap.size w' (.slice A4 xs4.length xs4.length) xs4 ∧ RiP w'.heap.size w' (.slice A5 xs5.length xs5.length) xs5 ∧ Below w.heap.size w w' :=
  (toSel_any h1 h2 h3 h4 h5 hB hs).mono fun e w' ⟨he, r1, r2, r3, r4, r5, g⟩ => ⟨_, _, _, _, _, he, r1.ri r1.lt h1.inI (by unfold maxLen; have := hs.1; omega), r2.ri r2.lt h2.inI (by unfold maxLen; have := hs.2.1; omega), r3.ri r3.lt h3.inI (by unfold maxLen; have := hs.2.2.1; omega), r4.ri r4.lt h4.inI (by unfold maxLen; have := hs.2.2.2.1; omega), r5.rip (by unfold maxLen; have := hs.2.2.2.2.1; omega) (fun p hp => by unfold maxLen; have := hs.2.2.2.2.2 p hp; omega) h5.inI, g⟩
set_option maxHeartbeats 1000000 in
set_option maxRecDepth 100000 in
theorem eqSel_any {B : Nat} {w : World} {n0 : Int} {v1 u1 : Value} {xs1 : List Int} {v2 u2 : Value} {xs2 : List Int} {v3 u3 : Value} {xs3 : List Int} {v4 u4 : Value} {xs4 : List Int} {v5 u5 : Value} {xs5 : List (List Int)} (h1 : Ri B w v1 xs1) (h2 : Ri B w v2 xs2) (h3 : Ri B w v3 xs3) (h4 : Ri B w v4 xs4) (h5 : RiP B w v5 xs5) (g1 : Ri B w u1 xs1) (g2 : Ri B w u2 xs2) (g3 : Ri B w u3 xs3) (g4 : Ri B w u4 xs4) (g5 : RiP B w u5 xs5) (hB : B ≤ w.heap.size) :
    Calls Try.prog 11 #[.agg #[.int .i64 n0, v1, v2, v3, v4, v5], .agg #[.int .i64 n0, u1, u2, u3, u4, u5]] w (GivesB (.bool true) w) := by
  have H1 := Lib.hid h1; obtain ⟨A1, c1, rfl, _⟩ := h1
  have G1 := Lib.hid g1; obtain ⟨D1, d1, rfl, _⟩ := g1
  have H2 := Lib.hid h2; obtain ⟨A2, c2, rfl, _⟩ := h2
  have G2 := Lib.hid g2; obtain ⟨D2, d2, rfl, _⟩ := g2
  have H3 := Lib.hid h3; obtain ⟨A3, c3, rfl, _⟩ := h3
  have G3 := Lib.hid g3; obtain ⟨D3, d3, rfl, _⟩ := g3
  have H4 := Lib.hid h4; obtain ⟨A4, c4, rfl, _⟩ := h4
  have G4 := Lib.hid g4; obtain ⟨D4, d4, rfl, _⟩ := g4
  have H5 := Lib.hid h5; obtain ⟨A5, c5, rfl, _⟩ := h5
  have G5 := Lib.hid g5; obtain ⟨D5, d5, rfl, _⟩ := g5
  have Hb0 : Hid (Below w.heap.size w ((w.alloc (.cells #[.int .i64 n0, .slice A1 xs1.length c1, .slice A2 xs2.length c2, .slice A3 xs3.length c3, .slice A4 xs4.length c4, .slice A5 xs5.length c5] 25)).alloc (.cells #[.int .i64 n0, .slice D1 xs1.length d1, .slice D2 xs2.length d2, .slice D3 xs3.length d3, .slice D4 xs4.length d4, .slice D5 xs5.length d5] 25))) := Lib.hid (((Below.refl _ w).alloc (Nat.le_refl _) _).alloc (by simp) _)
  have C0_0 : Hid (((w.alloc (.cells #[.int .i64 n0, .slice A1 xs1.length c1, .slice A2 xs2.length c2, .slice A3 xs3.length c3, .slice A4 xs4.length c4, .slice A5 xs5.length c5] 25)).alloc (.cells #[.int .i64 n0, .slice D1 xs1.length d1, .slice D2 xs2.length d2, .slice D3 xs3.length d3, .slice D4 xs4.length d4, .slice D5 xs5.length d5] 25)).cell? ⟨w.heap.size, 0, none⟩ = some (.int .i64 n0)) := Lib.hid (by rw [old_cell ((Below.refl _ (w.alloc (.cells #[.int .i64 n0, .slice A1 xs1.length c1, .slice A2 xs2.length c2, .slice A3 xs3.length c3, .slice A4 xs4.length c4, .slice A5 xs5.length c5] 25))).alloc (Nat.le_refl _) _) _ _ (by simp), cell_of_row _ _ _ _ _ _ (heap_alloc_new w _)]; rfl)
  have K0_0 : Hid (((w.alloc (.cells #[.int .i64 n0, .slice A1 xs1.length c1, .slice A2 xs2.length c2, .slice A3 xs3.length c3, .slice A4 xs4.length c4, .slice A5 xs5.length c5] 25)).alloc (.cells #[.int .i64 n0, .slice D1 xs1.length d1, .slice D2 xs2.length d2, .slice D3 xs3.length d3, .slice D4 xs4.length d4, .slice D5 xs5.length d5] 25)).cell? ⟨w.heap.size + 1, 0, none⟩ = some (.int .i64 n0)) := Lib.hid (by
    have e : (w.alloc (.cells #[.int .i64 n0, .slice A1 xs1.length c1, .slice A2 xs2.length c2, .slice A3 xs3.length c3, .slice A4 xs4.length c4, .slice A5 xs5.length c5] 25)).heap.size = w.heap.size + 1 := by simp
    rw [← e, cell_of_row _ _ _ _ _ _ (heap_alloc_new (w.alloc (.cells #[.int .i64 n0, .slice A1 xs1.length c1, .slice A2 xs2.length c2, .slice A3 xs3.length c3, .slice A4 xs4.length c4, .slice A5 xs5.length c5] 25)) _)]; rfl)
  have C1_0 : Hid (((w.alloc (.cells #[.int .i64 n0, .slice A1 xs1.length c1, .slice A2 xs2.length c2, .slice A3 xs3.length c3, .slice A4 xs4.length c4, .slice A5 xs5.length c5] 25)).alloc (.cells #[.int .i64 n0, .slice D1 xs1.length d1, .slice D2 xs2.length d2, .slice D3 xs3.length d3, .slice D4 xs4.length d4, .slice D5 xs5.length d5] 25)).cell? ⟨w.heap.size, 1, none⟩ = some (.slice A1 xs1.length c1)) := Lib.hid (by rw [old_cell ((Below.refl _ (w.alloc (.cells #[.int .i64 n0, .slice A1 xs1.length c1, .slice A2 xs2.length c2, .slice A3 xs3.length c3, .slice A4 xs4.length c4, .slice A5 xs5.length c5] 25))).alloc (Nat.le_refl _) _) _ _ (by simp), cell_of_row _ _ _ _ _ _ (heap_alloc_new w _)]; rfl)
  have K1_0 : Hid (((w.alloc (.cells #[.int .i64 n0, .slice A1 xs1.length c1, .slice A2 xs2.length c2, .slice A3 xs3.length c3, .slice A4 xs4.length c4, .slice A5 xs5.length c5] 25)).alloc (.cells #[.int .i64 n0, .slice D1 xs1.length d1, .slice D2 xs2.length d2, .slice D3 xs3.length d3, .slice D4 xs4.length d4, .slice D5 xs5.length d5] 25)).cell? ⟨w.heap.size + 1, 1, none⟩ = some (.slice D1 xs1.length d1)) := Lib.hid (by
    have e : (w.alloc (.cells #[.int .i64 n0, .slice A1 xs1.length c1, .slice A2 xs2.length c2, .slice A3 xs3.length c3, .slice A4 xs4.length c4, .slice A5 xs5.length c5] 25)).heap.size = w.heap.size + 1 := by simp
    rw [← e, cell_of_row _ _ _ _ _ _ (heap_alloc_new (w.alloc (.cells #[.int .i64 n0, .slice A1 xs1.length c1, .slice A2 xs2.length c2, .slice A3 xs3.length c3, .slice A4 xs4.length c4, .slice A5 xs5.length c5] 25)) _)]; rfl)
  have C2_0 : Hid (((w.alloc (.cells #[.int .i64 n0, .slice A1 xs1.length c1, .slice A2 xs2.length c2, .slice A3 xs3.length c3, .slice A4 xs4.length c4, .slice A5 xs5.length c5] 25)).alloc (.cells #[.int .i64 n0, .slice D1 xs1.length d1, .slice D2 xs2.length d2, .slice D3 xs3.length d3, .slice D4 xs4.length d4, .slice D5 xs5.length d5] 25)).cell? ⟨w.heap.size, 2, none⟩ = some (.slice A2 xs2.length c2)) := Lib.hid (by rw [old_cell ((Below.refl _ (w.alloc (.cells #[.int .i64 n0, .slice A1 xs1.length c1, .slice A2 xs2.length c2, .slice A3 xs3.length c3, .slice A4 xs4.length c4, .slice A5 xs5.length c5] 25))).alloc (Nat.le_refl _) _) _ _ (by simp), cell_of_row _ _ _ _ _ _ (heap_alloc_new w _)]; rfl)
  have K2_0 : Hid (((w.alloc (.cells #[.int .i64 n0, .slice A1 xs1.length c1, .slice A2 xs2.length c2, .slice A3 xs3.length c3, .slice A4 xs4.length c4, .slice A5 xs5.length c5] 25)).alloc (.cells #[.int .i64 n0, .slice D1 xs1.length d1, .slice D2 xs2.length d2, .slice D3 xs3.length d3, .slice D4 xs4.length d4, .slice D5 xs5.length d5] 25)).cell? ⟨w.heap.size + 1, 2, none⟩ = some (.slice D2 xs2.length d2)) := Lib.hid (by
    have e : (w.alloc (.cells #[.int .i64 n0, .slice A1 xs1.length c1, .slice A2 xs2.length c2, .slice A3 xs3.length c3, .slice A4 xs4.length c4, .slice A5 xs5.length c5] 25)).heap.size = w.heap.size + 1 := by simp
    rw [← e, cell_of_row _ _ _ _ _ _ (heap_alloc_new (w.alloc (.cells #[.int .i64 n0, .slice A1 xs1.length c1, .slice A2 xs2.length c2, .slice A3 xs3.length c3, .slice A4 xs4.length c4, .slice A5 xs5.length c5] 25)) _)]; rfl)
  have C3_0 : Hid (((w.alloc (.cells #[.int .i64 n0, .slice A1 xs1.length c1, .slice A2 xs2.length c2, .slice A3 xs3.length c3, .slice A4 xs4.length c4, .slice A5 xs5.length c5] 25)).alloc (.cells #[.int .i64 n0, .slice D1 xs1.length d1, .slice D2 xs2.length d2, .slice D3 xs3.length d3, .slice D4 xs4.length d4, .slice D5 xs5.length d5] 25)).cell? ⟨w.heap.size, 3, none⟩ = some (.slice A3 xs3.length c3)) := Lib.hid (by rw [old_cell ((Below.refl _ (w.alloc (.cells #[.int .i64 n0, .slice A1 xs1.length c1, .slice A2 xs2.length c2, .slice A3 xs3.length c3, .slice A4 xs4.length c4, .slice A5 xs5.length c5] 25))).alloc (Nat.le_refl _) _) _ _ (by simp), cell_of_row _ _ _ _ _ _ (heap_alloc_new w _)]; rfl)
  have K3_0 : Hid (((w.alloc (.cells #[.int .i64 n0, .slice A1 xs1.length c1, .slice A2 xs2.length c2, .slice A3 xs3.length c3, .slice A4 xs4.length c4, .slice A5 xs5.length c5] 25)).alloc (.cells #[.int .i64 n0, .slice D1 xs1.length d1, .slice D2 xs2.length d2, .slice D3 xs3.length d3, .slice D4 xs4.length d4, .slice D5 xs5.length d5] 25)).cell? ⟨w.heap.size + 1, 3, none⟩ = some (.slice D3 xs3.length d3)) := Lib.hid (by
    have e : (w.alloc (.cells #[.int .i64 n0, .slice A1 xs1.length c1, .slice A2 xs2.length c2, .slice A3 xs3.length c3, .slice A4 xs4.length c4, .slice A5 xs5.length c5] 25)).heap.size = w.heap.size + 1 := by simp
    rw [← e, cell_of_row _ _ _ _ _ _ (heap_alloc_new (w.alloc (.cells #[.int .i64 n0, .slice A1 xs1.length c1, .slice A2 xs2.length c2, .slice A3 xs3.length c3, .slice A4 xs4.length c4, .slice A5 xs5.length c5] 25)) _)]; rfl)
  have C4_0 : Hid (((w.alloc (.cells #[.int .i64 n0, .slice A1 xs1.length c1, .slice A2 xs2.length c2, .slice A3 xs3.length c3, .slice A4 xs4.length c4, .slice A5 xs5.length c5] 25)).alloc (.cells #[.int .i64 n0, .slice D1 xs1.length d1, .slice D2 xs2.length d2, .slice D3 xs3.length d3, .slice D4 xs4.length d4, .slice D5 xs5.length d5] 25)).cell? ⟨w.heap.size, 4, none⟩ = some (.slice A4 xs4.length c4)) := Lib.hid (by rw [old_cell ((Below.refl _ (w.alloc (.cells #[.int .i64 n0, .slice A1 xs1.length c1, .slice A2 xs2.length c2, .slice A3 xs3.length c3, .slice A4 xs4.length c4, .slice A5 xs5.length c5] 25))).alloc (Nat.le_refl _) _) _ _ (by simp), cell_of_row _ _ _ _ _ _ (heap_alloc_new w _)]; rfl)
  have K4_0 : Hid (((w.alloc (.cells #[.int .i64 n0, .slice A1 xs1.length c1, .slice A2 xs2.length c2, .slice A3 xs3.length c3, .slice A4 xs4.length c4, .slice A5 xs5.length c5] 25)).alloc (.cells #[.int .i64 n0, .slice D1 xs1.length d1, .slice D2 xs2.length d2, .slice D3 xs3.length d3, .slice D4 xs4.length d4, .slice D5 xs5.length d5] 25)).cell? ⟨w.heap.size + 1, 4, none⟩ = some (.slice D4 xs4.length d4)) := Lib.hid (by
    have e : (w.alloc (.cells #[.int .i64 n0, .slice A1 xs1.length c1, .slice A2 xs2.length c2, .slice A3 xs3.length c3, .slice A4 xs4.length c4, .slice A5 xs5.length c5] 25)).heap.size = w.heap.size + 1 := by simp
    rw [← e, cell_of_row _ _ _ _ _ _ (heap_alloc_new (w.alloc (.cells #[.int .i64 n0, .slice A1 xs1.length c1, .slice A2 xs2.length c2, .slice A3 xs3.length c3, .slice A4 xs4.length c4, .slice A5 xs5.length c5] 25)) _)]; rfl)
  have C5_0 : Hid (((w.alloc (.cells #[.int .i64 n0, .slice A1 xs1.length c1, .slice A2 xs2.length c2, .slice A3 xs3.length c3, .slice A4 xs4.length c4, .slice A5 xs5.length c5] 25)).alloc (.cells #[.int .i64 n0, .slice D1 xs1.length d1, .slice D2 xs2.length d2, .slice D3 xs3.length d3, .slice D4 xs4.length d4, .slice D5 xs5.length d5] 25)).cell? ⟨w.heap.size, 5, none⟩ = some (.slice A5 xs5.length c5)) := Lib.hid (by rw [old_cell ((Below.refl _ (w.alloc (.cells #[.int .i64 n0, .slice A1 xs1.length c1, .slice A2 xs2.length c2, .slice A3 xs3.length c3, .slice A4 xs4.length c4, .slice A5 xs5.length c5] 25))).alloc (Nat.le_refl _) _) _ _ (by simp), cell_of_row _ _ _ _ _ _ (heap_alloc_new w _)]; rfl)
  have K5_0 : Hid (((w.alloc (.cells #[.int .i64 n0, .slice A1 xs1.length c1, .slice A2 xs2.length c2, .slice A3 xs3.length c3, .slice A4 xs4.length c4, .slice A5 xs5.length c5] 25)).alloc (.cells #[.int .i64 n0, .slice D1 xs1.length d1, .slice D2 xs2.length d2, .slice D3 xs3.length d3, .slice D4 xs4.length d4, .slice D5 xs5.length d5] 25)).cell? ⟨w.heap.size + 1, 5, none⟩ = some (.slice D5 xs5.length d5)) := Lib.hid (by
    have e : (w.alloc (.cells #[.int .i64 n0, .slice A1 xs1.length c1, .slice A2 xs2.length c2, .slice A3 xs3.length c3, .slice A4 xs4.length c4, .slice A5 xs5.length c5] 25)).heap.size = w.heap.size + 1 := by simp
    rw [← e, cell_of_row _ _ _ _ _ _ (heap_alloc_new (w.alloc (.cells #[.int .i64 n0, .slice A1 xs1.length c1, .slice A2 xs2.length c2, .slice A3 xs3.length c3, .slice A4 xs4.length c4, .slice A5 xs5.length c5] 25)) _)]; rfl)
  have Lt0 : Hid (w.heap.size + 1 < ((w.alloc (.cells #[.int .i64 n0, .slice A1 xs1.length c1, .slice A2 xs2.length c2, .slice A3 xs3.length c3, .slice A4 xs4.length c4, .slice A5 xs5.length c5] 25)).alloc (.cells #[.int .i64 n0, .slice D1 xs1.length d1, .slice D2 xs2.length d2, .slice D3 xs3.length d3, .slice D4 xs4.length d4, .slice D5 xs5.length d5] 25)).heap.size) := Lib.hid (by simp)
  go_enter Try.func11, Try.ntmps11
  go_wp2_with fail
  generalize ((w.alloc (.cells #[.int .i64 n0, .slice A1 xs1.length c1, .slice A2 xs2.length c2, .slice A3 xs3.length c3, .slice A4 xs4.length c4, .slice A5 xs5.length c5] 25)).alloc (.cells #[.int .i64 n0, .slice D1 xs1.length d1, .slice D2 xs2.length d2, .slice D3 xs3.length d3, .slice D4 xs4.length d4, .slice D5 xs5.length d5] 25)) = w0 at *
  refine (eqI_any (H1.out.at hB Hb0.out) (G1.out.at hB Hb0.out) (Nat.le_refl _)).mono ?_
  rintro e w1 ⟨rfl, g⟩
  have Hb1 : Hid (Below w.heap.size w w1) := Lib.hid (Hb0.out.trans (g.mono Hb0.out.size))
  have Lt1 : Hid (w.heap.size + 1 < w1.heap.size) := Lib.hid (by have := Lt0.out; have := g.size; omega)
  have C2_1 : Hid (w1.cell? ⟨w.heap.size, 2, none⟩ = some (.slice A2 xs2.length c2)) := Lib.hid ((g.cell (p := ⟨w.heap.size, 2, none⟩) (show w.heap.size < _ from by have := Lt0.out; omega)).trans C2_0.out)
  have K2_1 : Hid (w1.cell? ⟨w.heap.size + 1, 2, none⟩ = some (.slice D2 xs2.length d2)) := Lib.hid ((g.cell (p := ⟨w.heap.size + 1, 2, none⟩) Lt0.out).trans K2_0.out)
  have C3_1 : Hid (w1.cell? ⟨w.heap.size, 3, none⟩ = some (.slice A3 xs3.length c3)) := Lib.hid ((g.cell (p := ⟨w.heap.size, 3, none⟩) (show w.heap.size < _ from by have := Lt0.out; omega)).trans C3_0.out)
  have K3_1 : Hid (w1.cell? ⟨w.heap.size + 1, 3, none⟩ = some (.slice D3 xs3.length d3)) := Lib.hid ((g.cell (p := ⟨w.heap.size + 1, 3, none⟩) Lt0.out).trans K3_0.out)
  have C4_1 : Hid (w1.cell? ⟨w.heap.size, 4, none⟩ = some (.slice A4 xs4.length c4)) := Lib.hid ((g.cell (p := ⟨w.heap.size, 4, none⟩) (show w.heap.size < _ from by have := Lt0.out; omega)).trans C4_0.out)
  have K4_1 : Hid (w1.cell? ⟨w.heap.size + 1, 4, none⟩ = some (.slice D4 xs4.length d4)) := Lib.hid ((g.cell (p := ⟨w.heap.size + 1, 4, none⟩) Lt0.out).trans K4_0.out)
  have C5_1 : Hid (w1.cell? ⟨w.heap.size, 5, none⟩ = some (.slice A5 xs5.length c5)) := Lib.hid ((g.cell (p := ⟨w.heap.size, 5, none⟩) (show w.heap.size < _ from by have := Lt0.out; omega)).trans C5_0.out)
  have K5_1 : Hid (w1.cell? ⟨w.heap.size + 1, 5, none⟩ = some (.slice D5 xs5.length d5)) := Lib.hid ((g.cell (p := ⟨w.heap.size + 1, 5, none⟩) Lt0.out).trans K5_0.out)
  clear g
  have q1 := C2_1.out; have q2 := K2_1.out
  go_wp2_with fail
  clear q1 q2
  refine (eqI_any (H2.out.at hB Hb1.out) (G2.out.at hB Hb1.out) (Nat.le_refl _)).mono ?_
  rintro e w2 ⟨rfl, g⟩
  have Hb2 : Hid (Below w.heap.size w w2) := Lib.hid (Hb1.out.trans (g.mono Hb1.out.size))
  have Lt2 : Hid (w.heap.size + 1 < w2.heap.size) := Lib.hid (by have := Lt1.out; have := g.size; omega)
  have C3_2 : Hid (w2.cell? ⟨w.heap.size, 3, none⟩ = some (.slice A3 xs3.length c3)) := Lib.hid ((g.cell (p := ⟨w.heap.size, 3, none⟩) (show w.heap.size < _ from by have := Lt1.out; omega)).trans C3_1.out)
  have K3_2 : Hid (w2.cell? ⟨w.heap.size + 1, 3, none⟩ = some (.slice D3 xs3.length d3)) := Lib.hid ((g.cell (p := ⟨w.heap.size + 1, 3, none⟩) Lt1.out).trans K3_1.out)
  have C4_2 : Hid (w2.cell? ⟨w.heap.size, 4, none⟩ = some (.slice A4 xs4.length c4)) := Lib.hid ((g.cell (p := ⟨w.heap.size, 4, none⟩) (show w.heap.size < _ from by have := Lt1.out; omega)).trans C4_1.out)
  have K4_2 : Hid (w2.cell? ⟨w.heap.size + 1, 4, none⟩ = some (.slice D4 xs4.length d4)) := Lib.hid ((g.cell (p := ⟨w.heap.size + 1, 4, none⟩) Lt1.out).trans K4_1.out)
  have C5_2 : Hid (w2.cell? ⟨w.heap.size, 5, none⟩ = some (.slice A5 xs5.length c5)) := Lib.hid ((g.cell (p := ⟨w.heap.size, 5, none⟩) (show w.heap.size < _ from by have := Lt1.out; omega)).trans C5_1.out)
  have K5_2 : Hid (w2.cell? ⟨w.heap.size + 1, 5, none⟩ = some (.slice D5 xs5.length d5)) := Lib.hid ((g.cell (p := ⟨w.heap.size + 1, 5, none⟩) Lt1.out).trans K5_1.out)
  clear g
  have q1 := C3_2.out; have q2 := K3_2.out
  go_wp2_with fail
  clear q1 q2
  refine (eqI_any (H3.out.at hB Hb2.out) (G3.out.at hB Hb2.out) (Nat.le_refl _)).mono ?_
  rintro e w3 ⟨rfl, g⟩
  have Hb3 : Hid (Below w.heap.size w w3) := Lib.hid (Hb2.out.trans (g.mono Hb2.out.size))
  have Lt3 : Hid (w.heap.size + 1 < w3.heap.size) := Lib.hid (by have := Lt2.out; have := g.size; omega)
  have C4_3 : Hid (w3.cell? ⟨w.heap.size, 4, none⟩ = some (.slice A4 xs4.length c4)) := Lib.hid ((g.cell (p := ⟨w.heap.size, 4, none⟩) (show w.heap.size < _ from by have := Lt2.out; omega)).trans C4_2.out)
  have K4_3 : Hid (w3.cell? ⟨w.heap.size + 1, 4, none⟩ = some (.slice D4 xs4.length d4)) := Lib.hid ((g.cell (p := ⟨w.heap.size + 1, 4, none⟩) Lt2.out).trans K4_2.out)
  have C5_3 : Hid (w3.cell? ⟨w.heap.size, 5, none⟩ = some (.slice A5 xs5.length c5)) := Lib.hid ((g.cell (p := ⟨w.heap.size, 5, none⟩) (show w.heap.size < _ from by have := Lt2.out; omega)).trans C5_2.out)
  have K5_3 : Hid (w3.cell? ⟨w.heap.size + 1, 5, none⟩ = some (.slice D5 xs5.length d5)) := Lib.hid ((g.cell (p := ⟨w.heap.size + 1, 5, none⟩) Lt2.out).trans K5_2.out)
  clear g
  have q1 := C4_3.out; have q2 := K4_3.out
  go_wp2_with fail
  clear q1 q2
  refine (eqI_any (H4.out.at hB Hb3.out) (G4.out.at hB Hb3.out) (Nat.le_refl _)).mono ?_
  rintro e w4 ⟨rfl, g⟩
  have Hb4 : Hid (Below w.heap.size w w4) := Lib.hid (Hb3.out.trans (g.mono Hb3.out.size))
  have Lt4 : Hid (w.heap.size + 1 < w4.heap.size) := Lib.hid (by have := Lt3.out; have := g.size; omega)
  have C5_4 : Hid (w4.cell? ⟨w.heap.size, 5, none⟩ = some (.slice A5 xs5.length c5)) := Lib.hid ((g.cell (p := ⟨w.heap.size, 5, none⟩) (show w.heap.size < _ from by have := Lt3.out; omega)).trans C5_3.out)
  have K5_4 : Hid (w4.cell? ⟨w.heap.size + 1, 5, none⟩ = some (.slice D5 xs5.length d5)) := Lib.hid ((g.cell (p := ⟨w.heap.size + 1, 5, none⟩) Lt3.out).trans K5_3.out)
  clear g
  have q1 := C5_4.out; have q2 := K5_4.out
  go_wp2_with fail
  clear q1 q2
  refine (eqPoints_any (H5.out.at hB Hb4.out) (G5.out.at hB Hb4.out) (Nat.le_refl _)).mono ?_
  rintro e w5 ⟨rfl, g⟩
  have Hb5 : Hid (Below w.heap.size w w5) := Lib.hid (Hb4.out.trans (g.mono Hb4.out.size))
  have Lt5 : Hid (w.heap.size + 1 < w5.heap.size) := Lib.hid (by have := Lt4.out; have := g.size; omega)
  clear g
  go_wp2_with fail
  go_ret
  exact ⟨rfl, Hb5.out⟩
end Go.Proofs.Ytbghekgghiamcaa
