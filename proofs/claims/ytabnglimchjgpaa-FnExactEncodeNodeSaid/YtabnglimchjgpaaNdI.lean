/- The program writes a node. No statement is proved here. -/
import Derived.Test.YtabnglimchjgpaaNdE
import Derived.Test.YtabnglimchjgpaaChI
import Derived.Test.YtabnglimchjgpaaCat
import Derived.Test.YtabnglimchjgpaaBl2
import Derived.Test.YtabnglimchjgpaaPdI
namespace Go.Proofs.Ytabnglimchjgpaa
open Go.RowKit
set_option linter.unusedVariables false
theorem oct2_any (w : World) (z f : Int) (hz : InI z) (hf : InI f) :
    Calls Try.prog 69 #[.slice (some ⟨w.heap.size, 0, none⟩) 2 2] (w.alloc (.cells #[.int .i64 z, .int .i64 f] 2)) (GivesB (.string (leS z 1 ++ leS f 1)) (w.alloc (.cells #[.int .i64 z, .int .i64 f] 2))) := by
  have := octets_any (oc2_ri w z f hz hf) (by simp) (by simp)
  rwa [oc2] at this
theorem OI.kp {b lo : Nat} {w w' : World} {v : Value} {xs : List Int} (h : OI w lo v xs) (hb : b < lo) (hk : Kp b w w') : OI w' lo v xs :=
  own_same h fun g hg => by
    rcases h.2 with ⟨h0, _⟩ | ⟨g', cap, cur, he, hbg, hgg, _⟩
    · subst h0; cases hg
    · subst he
      obtain rfl : g' = g := Option.some.inj hg
      rw [hk _ _ _ _ (by omega) hgg (by decide), hgg]
theorem ndI_left (H : ByteArray) (ds ks : List Int) : ∀ j, j ≤ ds.length → ndI H (ds ++ ks) j = ndI H ds j
  | 0, _ => rfl
  | j + 1, h => by rw [ndI_at _ (by simp; omega), ndI_at _ (by omega), ndI_left H ds ks j (by omega), List.getElem_append_left (by omega)]
theorem ndI_right (H : ByteArray) (ds ks : List Int) : ∀ j, j ≤ ks.length → ndI H (ds ++ ks) (ds.length + j) = ndI (ndI H ds ds.length) ks j
  | 0, _ => ndI_left H ds ks ds.length (Nat.le_refl _)
  | j + 1, h => by
    rw [← Nat.add_assoc, ndI_at _ (by simp; omega), ndI_at _ (by omega), ndI_right H ds ks j (by omega), List.getElem_append_right (by omega)]
    simp
theorem put2 {n : Int} (h0 : 0 ≤ n) (h1 : n < 65536) (W : World) : Calls Try.prog 89 #[.int .i64 n, .int .i64 2] W (GivesB (.string (leS n 2)) W) := by
  have h := implPutUint_any n 2 (by omega) W
  have e := putU_leS (n := n) (s := 2) (by omega) (by omega) h0 (by simpa using h1)
  rw [show putU n 2 = leS n 2 from e] at h
  exact h
theorem put1 {n : Int} (h0 : 0 ≤ n) (h1 : n < 256) (W : World) : Calls Try.prog 89 #[.int .i64 n, .int .i64 1] W (GivesB (.string (leS n 1)) W) := by
  have h := implPutUint_any n 1 (by omega) W
  have e := putU_leS (n := n) (s := 1) (by omega) (by omega) h0 (by simpa using h1)
  rw [show putU n 1 = leS n 1 from e] at h
  exact h
theorem chOk_bd {c : EC} (h : chOk c = true) : (0 ≤ c.1 ∧ c.1 < 65536) ∧ (0 ≤ c.2.1 ∧ c.2.1 < 65536) ∧ (0 ≤ c.2.2.1 ∧ c.2.2.1 < 65536) ∧ (0 ≤ c.2.2.2 ∧ c.2.2.2 < 256) := by
  simp only [chOk, inB, Bool.and_eq_true, decide_eq_true_eq] at h
  omega
theorem nodeL_bd {cs : List EC} {ks ds : List Int} (h : nodeOk true cs ks ds = true) : ∀ j (hj : j < cs.length), chOk cs[j] = true := fun j hj => by
  simp only [nodeOk, if_true, Bool.and_eq_true] at h
  have := allTo_at h.2.2 hj
  rwa [chAt_at hj] at this
theorem nodeI_bd {cs : List EC} {ks ds : List Int} (h : nodeOk false cs ks ds = true) : ∀ j (hj : j < (ds ++ ks).length), 0 ≤ (ds ++ ks)[j] ∧ (ds ++ ks)[j] < 65536 := fun j hj => by
  simp only [nodeOk, Bool.false_eq_true, if_false, Bool.and_eq_true] at h
  have hr := h.2.1
  have hk := h.2.2
  rcases Nat.lt_or_ge j ds.length with h1 | h1
  · rw [List.getElem_append_left h1]
    have := allTo_at hk h1
    rw [kidAt_at h1, inB_iff] at this
    omega
  · rw [List.getElem_append_right h1]
    have hj2 : j - ds.length < ks.length := by simp at hj; omega
    have := allTo_at (p := rz ks) hr hj2
    unfold rz at this
    rw [Bool.and_eq_true, inB_iff, getD_in hj2] at this
    omega
set_option maxHeartbeats 4000000 in
set_option maxRecDepth 100000 in
theorem implEncL_any {B : Nat} {w : World} {v0 v1 v2 : Value} {cs : List EC} {ks ds : List Int} (h0 : RiC B w v0 cs) (h1 : Ri B w v1 ks) (h2 : Ri B w v2 ds) (hB : B ≤ w.heap.size) (hs : cs.length ≤ 1048576) :
    Calls Try.prog 41 #[.agg #[.bool true, v0, v1, v2]] w (GivesB (.string (ndV true cs ks ds)) w) := by
  have H0 := Lib.hid h0; have H1 := Lib.hid h1; have H2 := Lib.hid h2
  obtain ⟨A0, c0, rfl, hl0, hm0, hx0⟩ := h0
  obtain ⟨A1, c1, rfl, hl1, hm1, -⟩ := h1
  obtain ⟨A2, c2, rfl, hl2, hm2, -⟩ := h2
  have Hx0 := Lib.hid hx0; clear hx0
  unfold maxLen at hm0 hm1 hm2
  have HB0 : Hid (Below w.heap.size w (w.alloc (.cells #[.bool true, .slice A0 cs.length c0, .slice A1 ks.length c1, .slice A2 ds.length c2] 54))) := Lib.hid ((Below.refl _ w).alloc (Nat.le_refl _) _)
  have R0 : Hid ((w.alloc (.cells #[.bool true, .slice A0 cs.length c0, .slice A1 ks.length c1, .slice A2 ds.length c2] 54)).heap[w.heap.size]? = some (.cells #[.bool true, .slice A0 cs.length c0, .slice A1 ks.length c1, .slice A2 ds.length c2] 54 (0, 0))) := Lib.hid (heap_alloc_new w _)
  have HZ0 : Hid (w.heap.size < (w.alloc (.cells #[.bool true, .slice A0 cs.length c0, .slice A1 ks.length c1, .slice A2 ds.length c2] 54)).heap.size) := Lib.hid (by simp)
  have HC := Lib.hid (implValidNode_any (lf := true) (H0.out.at hB HB0.out) (H1.out.at hB HB0.out) (H2.out.at hB HB0.out) (Nat.le_refl _) hs)
  clear hs
  have HI : Hid (nodeOk true cs ks ds = false → ndV true cs ks ds = ⟨#[]⟩) := Lib.hid ndV_no
  have HY : Hid (nodeOk true cs ks ds = true → ndV true cs ks ds = ndC (ndH 1 cs.length) cs cs.length ++ zeros (64 - (ndC (ndH 1 cs.length) cs cs.length).size)) := Lib.hid ndV_y
  have HK : Hid (nodeOk true cs ks ds = true → (cs.length ≤ 8 ∧ ks.length = 0 ∧ ds.length = 0) ∧ ∀ j (hj : j < cs.length), chOk cs[j] = true) := Lib.hid (fun h => ⟨nodeL_len h, nodeL_bd h⟩)
  generalize ndV true cs ks ds = r at *
  go_enter Try.func41, Try.ntmps41
  go_wp2_with (refine wpList_load_row rfl 54 (.tmp 1) rfl _ rfl 54 _ (0, 0) _ R0.out Try.underlying54 rfl (by kernel_rfl) ?_)
  generalize (w.alloc (.cells #[.bool true, .slice A0 cs.length c0, .slice A1 ks.length c1, .slice A2 ds.length c2] 54)) = w0 at *
  refine HC.out.mono ?_
  rintro e w1 ⟨rfl, g⟩
  have HB1 := Lib.hid (HB0.out.trans (g.mono HB0.out.size))
  have R1 := Lib.hid ((g.block _ HZ0.out).trans R0.out)
  have HZ1 : Hid (w.heap.size < w1.heap.size) := Lib.hid (by have := HZ0.out; have := g.size; omega)
  clear g HC
  generalize nodeOk true cs ks ds = ok at *
  cases ok
  · have Hf := Lib.hid (HI.out rfl)
    go_wp2_with fail
    go_ret
    exact ⟨by rw [Hf.out]; rfl, HB1.out⟩
  have Hf := Lib.hid (HY.out rfl)
  obtain ⟨hlens, hbd⟩ := HK.out rfl
  have HLN := Lib.hid hlens; have HBD := Lib.hid hbd
  clear hlens hbd HK HY HI
  have HHs : Hid ((ndH 1 cs.length).size = 2) := Lib.hid (ndH_size _ _)
  have HSC : Hid (∀ j, (ndC (ndH 1 cs.length) cs j).size = 2 + 7 * j) := Lib.hid (fun j => by rw [ndC_size, ndH_size])
  have HAC := Lib.hid (fun j (h : j < cs.length) => ndC_at (ndH 1 cs.length) h)
  have HSI : Hid (∀ xs j, (ndI (ndH 1 cs.length) xs j).size = 2 + 2 * j) := Lib.hid (fun xs j => by rw [ndI_size, ndH_size])
  have HAI := Lib.hid (fun (xs : List Int) j (h : j < xs.length) => ndI_at (ndH 1 cs.length) h)
  have HH : Hid (leS 1 1 ++ leS (cs.length : Int) 1 = ndH 1 cs.length) := Lib.hid rfl
  have I2 : Hid (IsB w1.heap.size w1.heap.size (bsOf ⟨#[]⟩) (w1.alloc (.cells #[.pointer none, .slice none 0 0] 83))) := Lib.hid (IsB.new w1)
  have Hb2 : Hid (Below w1.heap.size w1 (w1.alloc (.cells #[.pointer none, .slice none 0 0] 83))) := Lib.hid ((Below.refl _ _).alloc (Nat.le_refl _) _)
  have Z2 : Hid (w1.heap.size < (w1.alloc (.cells #[.pointer none, .slice none 0 0] 83)).heap.size) := Lib.hid (by simp)
  have HL : Hid (∀ W, Below w1.heap.size w1 W → W.cell? ⟨w.heap.size, 0, none⟩ = some (.bool true) ∧ W.cell? ⟨w.heap.size, 1, none⟩ = some (.slice A0 cs.length c0) ∧ W.cell? ⟨w.heap.size, 2, none⟩ = some (.slice A1 ks.length c1) ∧ W.cell? ⟨w.heap.size, 3, none⟩ = some (.slice A2 ds.length c2)) := Lib.hid (fun W hW => by
    have hr := (hW.block _ HZ1.out).trans R1.out
    exact ⟨by rw [cell_of_row _ _ _ _ _ _ hr]; rfl, by rw [cell_of_row _ _ _ _ _ _ hr]; rfl, by rw [cell_of_row _ _ _ _ _ _ hr]; rfl, by rw [cell_of_row _ _ _ _ _ _ hr]; rfl⟩)
  obtain ⟨q0, q1, q2, q3⟩ := HL.out _ Hb2.out
  have HO := Lib.hid (oct2_any (w1.alloc (.cells #[.pointer none, .slice none 0 0] 83)) 1 (cs.length : Int) (by unfold InI; omega) (by unfold InI; omega))
  rw [HH.out] at HO
  have hsz2 : (w1.alloc (.cells #[.pointer none, .slice none 0 0] 83)).heap.size = w1.heap.size + 1 := by simp
  have HO1 := HO.out
  rw [hsz2] at HO1
  have HO2 := Lib.hid HO1
  clear HO1 hsz2 HO
  generalize ndH 1 cs.length = EH at *
  go_wp2_with fail
  clear q0 q1 q2 q3
  refine HO2.out.mono ?_
  rintro e u1 ⟨rfl, g1⟩
  generalize (w1.alloc (.cells #[.pointer none, .slice none 0 0] 83)) = w2 at *
  have K1 : Hid (Below w2.heap.size w2 u1) := Lib.hid (((Below.refl _ w2).alloc (Nat.le_refl _) _).trans (g1.mono (by simp)))
  clear g1 HO2
  generalize hbb : w1.heap.size = bb at *
  have Hbb := Lib.hid hbb; clear hbb
  have HW1 := Lib.hid (wrS (B := bb) (a := ⟨#[]⟩) (c := EH) (nilB_app EH) (I2.out.bel K1.out) (by have := HHs.out; have : ByteArray.size ⟨#[]⟩ = 0 := rfl; omega) (by have := K1.out.size; have := Z2.out; omega))
  go_wp2_with fail
  refine HW1.out.mono ?_
  rintro e u2 ⟨rfl, i2, g2, kp2⟩
  have I3 := Lib.hid i2
  have K2 : Hid (Below bb w1 u2) := Lib.hid ((Hb2.out.trans (K1.out.mono (by have := Z2.out; omega))).trans g2)
  have Z3 : Hid (bb < u2.heap.size) := Lib.hid (by have := K1.out.size; have := Z2.out; have := g2.size; omega)
  obtain ⟨-, q1, -, -⟩ := HL.out _ K2.out
  clear i2 g2 kp2 HW1 K1
  go_wp2_with fail
  clear q1
  go_loopw [30] (fun i wr => ∃ j : Nat, j ≤ cs.length ∧ i = .int .i64 (j : Int) ∧ IsB bb bb (bsOf (ndC EH cs j)) wr ∧ Below bb w1 wr ∧ bb < wr.heap.size) (fun i _ => cs.length - (intOf i).toNat)
  case atStart => exact ⟨0, Nat.zero_le _, rfl, I3.out, K2.out, Z3.out⟩
  case round =>
    obtain ⟨j, hj, rfl, hib, hbel, hbz⟩ := hrel
    have Hbel := Lib.hid hbel; have Hib := Lib.hid hib; have Hbz := Lib.hid hbz
    have Hbw : Hid (Below w.heap.size w wr) := Lib.hid (HB1.out.trans (hbel.mono (by have := Hbb.out; have := HZ1.out; omega)))
    clear hib hbz hbel
    by_cases hlt : j < cs.length
    · obtain ⟨b, o, rfl, hb, hc0, hc1, hc2, hc3, -⟩ := Hx0.out j hlt
      have Hld := Lib.hid (run_load_cells (P := Try.prog) wr b (o + j * 4) 106 _ [.int .i64 cs[j].1, .int .i64 cs[j].2.1, .int .i64 cs[j].2.2.1, .int .i64 cs[j].2.2.2] (cells_C (by rw [Hbw.out.cell (show b < _ from by omega)]; exact hc0) (by rw [Hbw.out.cell (show b < _ from by omega)]; exact hc1) (by rw [Hbw.out.cell (show b < _ from by omega)]; exact hc2) (by rw [Hbw.out.cell (show b < _ from by omega)]; exact hc3)) Try.underlying106 (by kernel_rfl))
      have HS := Lib.hid (HAC.out j hlt)
      have hz := HSC.out j
      have hl8 := HLN.out.1
      obtain ⟨p0, p1, p2, p3⟩ := chOk_bd (HBD.out j hlt)
      clear hc0 hc1 hc2 hc3
      generalize cs[j].1 = n0 at *; generalize cs[j].2.1 = n1 at *; generalize cs[j].2.2.1 = n2 at *; generalize cs[j].2.2.2 = n3 at *
      generalize hN : ndC EH cs (j + 1) = S1 at *
      have HN := Lib.hid hN; clear hN
      generalize ndC EH cs j = S0 at *
      have G1 := Lib.hid (fun W => put2 p0.1 p0.2 W)
      have G2 := Lib.hid (fun W => put2 p1.1 p1.2 W)
      have G3 := Lib.hid (fun W => put2 p2.1 p2.2 W)
      have G4 := Lib.hid (fun W => put1 p3.1 p3.2 W)
      have z1 := leS_one n0 2; have z2 := leS_one n1 2; have z3 := leS_one n2 2; have z4 := leS_one n3 1
      generalize leS n0 2 = b1 at *; generalize leS n1 2 = b2 at *; generalize leS n2 2 = b3 at *; generalize leS n3 1 = b4 at *
      have a1 := fun W => addS (a := b1) (b := b2) rfl (by omega) W
      have y1 : (b1 ++ b2).size = 4 := by rw [ByteArray.size_append]; omega
      generalize b1 ++ b2 = t1 at *
      have a2 := fun W => addS (a := t1) (b := b3) rfl (by omega) W
      have y2 : (t1 ++ b3).size = 6 := by rw [ByteArray.size_append]; omega
      generalize t1 ++ b3 = t2 at *
      have a3 := fun W => addS (a := t2) (b := b4) rfl (by omega) W
      have y3 : (t2 ++ b4).size = 7 := by rw [ByteArray.size_append]; omega
      generalize t2 ++ b4 = t3 at *
      have Hz4 : Hid (S0.size + t3.size ≤ 1000) := Lib.hid (by omega)
      clear z1 z2 z3 z4 y1 y2 y3 hz p0 p1 p2 p3 hl8
      have Hi0 : Hid ((Try.prog.info? 106).map (·.size) = some (#[.int .i64 n0, .int .i64 n1, .int .i64 n2, .int .i64 n3] : Array Value).size) := Lib.hid (by kernel_rfl)
      have H10 : Hid ((#[.int .i64 n0, .int .i64 n1, .int .i64 n2, .int .i64 n3] : Array Value).all (·.oneCell') = true) := Lib.hid (by simp [Value.oneCell'])
      have RM : Hid ((wr.alloc (.cells #[.int .i64 n0, .int .i64 n1, .int .i64 n2, .int .i64 n3] 106)).heap[wr.heap.size]? = some (.cells #[.int .i64 n0, .int .i64 n1, .int .i64 n2, .int .i64 n3] 106 (0, 0))) := Lib.hid (heap_alloc_new wr _)
      have LM : Hid (wr.heap.size < (wr.alloc (.cells #[.int .i64 n0, .int .i64 n1, .int .i64 n2, .int .i64 n3] 106)).heap.size) := Lib.hid (by simp)
      have GM : Hid (Below wr.heap.size wr (wr.alloc (.cells #[.int .i64 n0, .int .i64 n1, .int .i64 n2, .int .i64 n3] 106))) := Lib.hid ((Below.refl _ _).alloc (Nat.le_refl _) _)
      have IM : Hid (IsB bb bb (bsOf S0) (wr.alloc (.cells #[.int .i64 n0, .int .i64 n1, .int .i64 n2, .int .i64 n3] 106))) := Lib.hid (Hib.out.bel GM.out)
      have BM : Hid (Below bb w1 (wr.alloc (.cells #[.int .i64 n0, .int .i64 n1, .int .i64 n2, .int .i64 n3] 106))) := Lib.hid (Hbel.out.trans (GM.out.mono (by have := Hbz.out; omega)))
      go_wp2_with (first | (refine wpList_load_agg rfl 106 (.tmp 32) rfl _ rfl _ Hld.out ?_) | (refine wpList_store_last rfl 106 (.tmp 5) (.tmp 33) rfl #[.int .i64 n0, .int .i64 n1, .int .i64 n2, .int .i64 n3] _ 106 rfl rfl Hi0.out rfl H10.out ?_))
      clear Hld GM
      generalize (wr.alloc (.cells #[.int .i64 n0, .int .i64 n1, .int .i64 n2, .int .i64 n3] 106)) = w5 at *
      generalize hbm : wr.heap.size = bm at *
      have Hbm := Lib.hid hbm; clear hbm
      have HSm : Hid (∀ W, Below w5.heap.size w5 W → W.cell? ⟨bm, 0, none⟩ = some (.int .i64 n0) ∧ W.cell? ⟨bm, 1, none⟩ = some (.int .i64 n1) ∧ W.cell? ⟨bm, 2, none⟩ = some (.int .i64 n2) ∧ W.cell? ⟨bm, 3, none⟩ = some (.int .i64 n3)) := Lib.hid (fun W hW => by
        have hr := (hW.block _ LM.out).trans RM.out
        exact ⟨by rw [cell_of_row _ _ _ _ _ _ hr]; rfl, by rw [cell_of_row _ _ _ _ _ _ hr]; rfl, by rw [cell_of_row _ _ _ _ _ _ hr]; rfl, by rw [cell_of_row _ _ _ _ _ _ hr]; rfl⟩)
      have HKm : Hid (∀ W0 W, Below w5.heap.size w5 W0 → Kp bb W0 W → W.cell? ⟨bm, 0, none⟩ = some (.int .i64 n0) ∧ W.cell? ⟨bm, 1, none⟩ = some (.int .i64 n1) ∧ W.cell? ⟨bm, 2, none⟩ = some (.int .i64 n2) ∧ W.cell? ⟨bm, 3, none⟩ = some (.int .i64 n3)) := Lib.hid (fun W0 W hW hk => by
        have hr := hk _ _ _ _ (by have := Hbz.out; have := Hbm.out; omega) ((hW.block _ LM.out).trans RM.out) (by decide)
        exact ⟨by rw [cell_of_row _ _ _ _ _ _ hr]; rfl, by rw [cell_of_row _ _ _ _ _ _ hr]; rfl, by rw [cell_of_row _ _ _ _ _ _ hr]; rfl, by rw [cell_of_row _ _ _ _ _ _ hr]; rfl⟩)
      have HDm : Hid (Below w5.heap.size w5 w5.drew) := Lib.hid (Below.refl _ _).drew
      go_region_held3 (fun W => W.cell? ⟨bm, 0, none⟩ = some (.int .i64 n0) ∧ W.cell? ⟨bm, 1, none⟩ = some (.int .i64 n1) ∧ W.cell? ⟨bm, 2, none⟩ = some (.int .i64 n2) ∧ W.cell? ⟨bm, 3, none⟩ = some (.int .i64 n3)) (first | exact ks2 | exact HSm.out _ (by first | exact kb4 | exact kb3 | exact kb2 | exact kb1 | exact HDm.out))
        ((first | (go_at_call 89; go_fit (G1.out _); rintro e u1 ⟨rfl, g1⟩; have kb1 : Below w5.heap.size w5 u1 := HDm.out.trans (g1.mono HDm.out.size)) | (go_at_call 89; go_fit (G2.out _); rintro e u2 ⟨rfl, g2⟩; have kb2 : Below w5.heap.size w5 u2 := kb1.trans (g2.mono kb1.size)) | (go_at_call 89; go_fit (G3.out _); rintro e u3 ⟨rfl, g3⟩; have kb3 : Below w5.heap.size w5 u3 := kb2.trans (g3.mono kb2.size)) | (go_at_call 89; go_fit (G4.out _); rintro e u4 ⟨rfl, g4⟩; have kb4 : Below w5.heap.size w5 u4 := kb3.trans (g4.mono kb3.size)) | (go_at_call 68; go_fit (wrS (B := bb) (a := S0) (c := S1) HS.out.symm (IM.out.bel kb4) (by have := Hz4.out; omega) (by have := kb4.size; have := LM.out; have := Hbz.out; have := Hbm.out; omega)); rintro e u5 ⟨rfl, i2, g5, kp2⟩; have ks2 := HKm.out _ _ kb4 kp2; have kb5 : Below bb w1 u5 := BM.out.trans ((kb4.mono (by have := LM.out; have := Hbz.out; have := Hbm.out; omega)).trans g5); have zb5 : bb < u5.heap.size := by have := kb4.size; have := g5.size; have := LM.out; have := Hbz.out; have := Hbm.out; omega)))
      try simp only [Exit.then]
      have Hk5 : Hid (Below bb w1 u5) := Lib.hid kb5
      have I5 : Hid (IsB bb bb (bsOf S1) u5) := Lib.hid i2
      have Z5 : Hid (bb < u5.heap.size) := Lib.hid zb5
      clear kb1 kb2 kb3 kb4 kb5 g1 g2 g3 g4 g5 i2 zb5 ks2 kp2 a1 a2 a3 G1 G2 G3 G4
      go_wp2_with fail
      go_roundw
      case rel => exact ⟨j + 1, by omega, by go_num, by rw [HN.out]; exact I5.out, Hk5.out, Z5.out⟩
      case measure => simp [intOf]; omega
    · obtain rfl : j = cs.length := by omega
      obtain ⟨-, -, q2, q3⟩ := HL.out _ Hbel.out
      have GC : Hid (Below wr.heap.size wr (wr.alloc (.cells #[.slice A2 ds.length c2, .slice A1 ks.length c1] 47))) := Lib.hid ((Below.refl _ _).alloc (Nat.le_refl _) _)
      have RC : Hid ((wr.alloc (.cells #[.slice A2 ds.length c2, .slice A1 ks.length c1] 47)).heap[wr.heap.size]? = some (.cells #[.slice A2 ds.length c2, .slice A1 ks.length c1] 47 (0, 0))) := Lib.hid (heap_alloc_new wr _)
      have BC : Hid (Below bb w1 (wr.alloc (.cells #[.slice A2 ds.length c2, .slice A1 ks.length c1] 47))) := Lib.hid (Hbel.out.trans (GC.out.mono (by have := Hbz.out; omega)))
      have ZC : Hid (bb < (wr.alloc (.cells #[.slice A2 ds.length c2, .slice A1 ks.length c1] 47)).heap.size) := Lib.hid (by have := GC.out.size; have := Hbz.out; omega)
      have BW : Hid (Below w.heap.size w (wr.alloc (.cells #[.slice A2 ds.length c2, .slice A1 ks.length c1] 47))) := Lib.hid (Hbw.out.trans (GC.out.mono Hbw.out.size))
      have IC : Hid (IsB bb bb (bsOf (ndC EH cs cs.length)) (wr.alloc (.cells #[.slice A2 ds.length c2, .slice A1 ks.length c1] 47))) := Lib.hid (Hib.out.bel GC.out)
      have eK := HLN.out.2.1; have eD := HLN.out.2.2
      have HSZ := Lib.hid (HSC.out cs.length)
      have HL8 := Lib.hid HLN.out.1
      have RC2 := RC.out
      rw [eD, eK] at RC2
      have HCC := Lib.hid (concat0_any RC2)
      clear RC2
      rw [eD, eK] at BC ZC IC BW
      rw [eK] at q2; rw [eD] at q3
      clear eK eD RC GC
      generalize hS0 : ndC EH cs cs.length = S0 at *
      clear hS0
      go_wp2_with fail
      clear q2 q3
      refine HCC.out.mono ?_
      rintro e x1 ⟨rfl, hxx⟩
      subst hxx
      clear HCC
      generalize (wr.alloc (.cells #[.slice A2 0 c2, .slice A1 0 c1] 47)) = w5 at *
      go_wp2_with fail
      go_loopw [58] (fun i wr => i = .int .i64 0 ∧ w5 = wr) (fun _ _ => 0)
      case atStart => exact ⟨rfl, rfl⟩
      case round =>
        obtain ⟨rfl, hww⟩ := hrel
        subst hww
        have HRd := Lib.hid (rdBld IC.out (by have := ZC.out; omega))
        have HPd := Lib.hid (fun W => implPad_any S0 64 (by omega) (by have := HSZ.out; have := HL8.out; omega) W)
        rw [padV_yes (by have := HSZ.out; have := HL8.out; omega)] at HPd
        go_wp2_with fail
        refine HRd.out.mono ?_
        rintro e w9 ⟨rfl, g9⟩
        have Hb9 : Hid (Below w.heap.size w w9) := Lib.hid (HB1.out.trans ((BC.out.trans g9).mono (by have := Hbb.out; have := HZ1.out; omega)))
        clear g9 HRd
        go_wp2_with fail
        refine (HPd.out _).mono ?_
        rintro e w10 ⟨rfl, g10⟩
        have Hb10 := Lib.hid (Hb9.out.trans (g10.mono Hb9.out.size))
        clear g10 HPd
        go_wp2_with fail
        go_ret
        exact ⟨by rw [Hf.out]; rfl, Hb10.out⟩
set_option maxHeartbeats 4000000 in
set_option maxRecDepth 100000 in
theorem implEncI_any {B : Nat} {w : World} {v0 v1 v2 : Value} {cs : List EC} {ks ds : List Int} (h0 : RiC B w v0 cs) (h1 : Ri B w v1 ks) (h2 : Ri B w v2 ds) (hB : B ≤ w.heap.size) (hs : cs.length ≤ 1048576) :
    Calls Try.prog 41 #[.agg #[.bool false, v0, v1, v2]] w (GivesB (.string (ndV false cs ks ds)) w) := by
  have H0 := Lib.hid h0; have H1 := Lib.hid h1; have H2 := Lib.hid h2
  obtain ⟨A0, c0, rfl, hl0, hm0, hx0⟩ := h0
  obtain ⟨A1, c1, rfl, hl1, hm1, -⟩ := h1
  obtain ⟨A2, c2, rfl, hl2, hm2, -⟩ := h2
  have Hx0 := Lib.hid hx0; clear hx0
  unfold maxLen at hm0 hm1 hm2
  have HB0 : Hid (Below w.heap.size w (w.alloc (.cells #[.bool false, .slice A0 cs.length c0, .slice A1 ks.length c1, .slice A2 ds.length c2] 54))) := Lib.hid ((Below.refl _ w).alloc (Nat.le_refl _) _)
  have R0 : Hid ((w.alloc (.cells #[.bool false, .slice A0 cs.length c0, .slice A1 ks.length c1, .slice A2 ds.length c2] 54)).heap[w.heap.size]? = some (.cells #[.bool false, .slice A0 cs.length c0, .slice A1 ks.length c1, .slice A2 ds.length c2] 54 (0, 0))) := Lib.hid (heap_alloc_new w _)
  have HZ0 : Hid (w.heap.size < (w.alloc (.cells #[.bool false, .slice A0 cs.length c0, .slice A1 ks.length c1, .slice A2 ds.length c2] 54)).heap.size) := Lib.hid (by simp)
  have HC := Lib.hid (implValidNode_any (lf := false) (H0.out.at hB HB0.out) (H1.out.at hB HB0.out) (H2.out.at hB HB0.out) (Nat.le_refl _) hs)
  clear hs
  have HI : Hid (nodeOk false cs ks ds = false → ndV false cs ks ds = ⟨#[]⟩) := Lib.hid ndV_no
  have HY : Hid (nodeOk false cs ks ds = true → ndV false cs ks ds = ndI (ndH 2 ks.length) (ds ++ ks) (ds.length + ks.length) ++ zeros (64 - (ndI (ndH 2 ks.length) (ds ++ ks) (ds.length + ks.length)).size)) := Lib.hid (fun h => by rw [ndI_right _ _ _ _ (Nat.le_refl _)]; exact ndV_y h)
  have HK : Hid (nodeOk false cs ks ds = true → (ks.length ≤ 7 ∧ 1 ≤ ks.length ∧ ds.length = ks.length + 1 ∧ cs.length = 0) ∧ ∀ j (hj : j < (ds ++ ks).length), 0 ≤ (ds ++ ks)[j] ∧ (ds ++ ks)[j] < 65536) := Lib.hid (fun h => ⟨nodeI_len h, nodeI_bd h⟩)
  generalize ndV false cs ks ds = r at *
  go_enter Try.func41, Try.ntmps41
  go_wp2_with (refine wpList_load_row rfl 54 (.tmp 1) rfl _ rfl 54 _ (0, 0) _ R0.out Try.underlying54 rfl (by kernel_rfl) ?_)
  generalize (w.alloc (.cells #[.bool false, .slice A0 cs.length c0, .slice A1 ks.length c1, .slice A2 ds.length c2] 54)) = w0 at *
  refine HC.out.mono ?_
  rintro e w1 ⟨rfl, g⟩
  have HB1 := Lib.hid (HB0.out.trans (g.mono HB0.out.size))
  have R1 := Lib.hid ((g.block _ HZ0.out).trans R0.out)
  have HZ1 : Hid (w.heap.size < w1.heap.size) := Lib.hid (by have := HZ0.out; have := g.size; omega)
  clear g HC
  generalize nodeOk false cs ks ds = ok at *
  cases ok
  · have Hf := Lib.hid (HI.out rfl)
    go_wp2_with fail
    go_ret
    exact ⟨by rw [Hf.out]; rfl, HB1.out⟩
  have Hf := Lib.hid (HY.out rfl)
  obtain ⟨hlens, hbd⟩ := HK.out rfl
  have HLN := Lib.hid hlens; have HBD := Lib.hid hbd
  clear hlens hbd HK HY HI
  have HHs : Hid ((ndH 2 ks.length).size = 2) := Lib.hid (ndH_size _ _)
  have HSC : Hid (∀ j, (ndC (ndH 2 ks.length) cs j).size = 2 + 7 * j) := Lib.hid (fun j => by rw [ndC_size, ndH_size])
  have HAC := Lib.hid (fun j (h : j < cs.length) => ndC_at (ndH 2 ks.length) h)
  have HSI : Hid (∀ xs j, (ndI (ndH 2 ks.length) xs j).size = 2 + 2 * j) := Lib.hid (fun xs j => by rw [ndI_size, ndH_size])
  have HAI := Lib.hid (fun (xs : List Int) j (h : j < xs.length) => ndI_at (ndH 2 ks.length) h)
  have HH : Hid (leS 2 1 ++ leS (ks.length : Int) 1 = ndH 2 ks.length) := Lib.hid rfl
  have I2 : Hid (IsB w1.heap.size w1.heap.size (bsOf ⟨#[]⟩) (w1.alloc (.cells #[.pointer none, .slice none 0 0] 83))) := Lib.hid (IsB.new w1)
  have Hb2 : Hid (Below w1.heap.size w1 (w1.alloc (.cells #[.pointer none, .slice none 0 0] 83))) := Lib.hid ((Below.refl _ _).alloc (Nat.le_refl _) _)
  have Z2 : Hid (w1.heap.size < (w1.alloc (.cells #[.pointer none, .slice none 0 0] 83)).heap.size) := Lib.hid (by simp)
  have HL : Hid (∀ W, Below w1.heap.size w1 W → W.cell? ⟨w.heap.size, 0, none⟩ = some (.bool false) ∧ W.cell? ⟨w.heap.size, 1, none⟩ = some (.slice A0 cs.length c0) ∧ W.cell? ⟨w.heap.size, 2, none⟩ = some (.slice A1 ks.length c1) ∧ W.cell? ⟨w.heap.size, 3, none⟩ = some (.slice A2 ds.length c2)) := Lib.hid (fun W hW => by
    have hr := (hW.block _ HZ1.out).trans R1.out
    exact ⟨by rw [cell_of_row _ _ _ _ _ _ hr]; rfl, by rw [cell_of_row _ _ _ _ _ _ hr]; rfl, by rw [cell_of_row _ _ _ _ _ _ hr]; rfl, by rw [cell_of_row _ _ _ _ _ _ hr]; rfl⟩)
  obtain ⟨q0, q1, q2, q3⟩ := HL.out _ Hb2.out
  have HO := Lib.hid (oct2_any (w1.alloc (.cells #[.pointer none, .slice none 0 0] 83)) 2 (ks.length : Int) (by unfold InI; omega) (by unfold InI; omega))
  rw [HH.out] at HO
  have hsz2 : (w1.alloc (.cells #[.pointer none, .slice none 0 0] 83)).heap.size = w1.heap.size + 1 := by simp
  have HO1 := HO.out
  rw [hsz2] at HO1
  have HO2 := Lib.hid HO1
  clear HO1 hsz2 HO
  generalize ndH 2 ks.length = EH at *
  go_wp2_with fail
  clear q0 q1 q2 q3
  refine HO2.out.mono ?_
  rintro e u1 ⟨rfl, g1⟩
  generalize (w1.alloc (.cells #[.pointer none, .slice none 0 0] 83)) = w2 at *
  have K1 : Hid (Below w2.heap.size w2 u1) := Lib.hid (((Below.refl _ w2).alloc (Nat.le_refl _) _).trans (g1.mono (by simp)))
  clear g1 HO2
  generalize hbb : w1.heap.size = bb at *
  have Hbb := Lib.hid hbb; clear hbb
  have HW1 := Lib.hid (wrS (B := bb) (a := ⟨#[]⟩) (c := EH) (nilB_app EH) (I2.out.bel K1.out) (by have := HHs.out; have : ByteArray.size ⟨#[]⟩ = 0 := rfl; omega) (by have := K1.out.size; have := Z2.out; omega))
  go_wp2_with fail
  refine HW1.out.mono ?_
  rintro e u2 ⟨rfl, i2, g2, kp2⟩
  have I3 := Lib.hid i2
  have K2 : Hid (Below bb w1 u2) := Lib.hid ((Hb2.out.trans (K1.out.mono (by have := Z2.out; omega))).trans g2)
  have Z3 : Hid (bb < u2.heap.size) := Lib.hid (by have := K1.out.size; have := Z2.out; have := g2.size; omega)
  obtain ⟨-, q1, -, -⟩ := HL.out _ K2.out
  clear i2 g2 kp2 HW1 K1
  go_wp2_with fail
  clear q1
  go_loopw [30] (fun i wr => ∃ j : Nat, j ≤ cs.length ∧ i = .int .i64 (j : Int) ∧ IsB bb bb (bsOf (ndC EH cs j)) wr ∧ Below bb w1 wr ∧ bb < wr.heap.size) (fun i _ => cs.length - (intOf i).toNat)
  case atStart => exact ⟨0, Nat.zero_le _, rfl, I3.out, K2.out, Z3.out⟩
  case round =>
    obtain ⟨j, hj, rfl, hib, hbel, hbz⟩ := hrel
    have Hbel := Lib.hid hbel; have Hib := Lib.hid hib; have Hbz := Lib.hid hbz
    have Hbw : Hid (Below w.heap.size w wr) := Lib.hid (HB1.out.trans (hbel.mono (by have := Hbb.out; have := HZ1.out; omega)))
    clear hib hbz hbel
    by_cases hlt : j < cs.length
    · exact absurd hlt (by have := HLN.out.2.2.2; omega)
    · obtain rfl : j = cs.length := by omega
      obtain ⟨-, -, q2, q3⟩ := HL.out _ Hbel.out
      have GC : Hid (Below wr.heap.size wr (wr.alloc (.cells #[.slice A2 ds.length c2, .slice A1 ks.length c1] 47))) := Lib.hid ((Below.refl _ _).alloc (Nat.le_refl _) _)
      have RC : Hid ((wr.alloc (.cells #[.slice A2 ds.length c2, .slice A1 ks.length c1] 47)).heap[wr.heap.size]? = some (.cells #[.slice A2 ds.length c2, .slice A1 ks.length c1] 47 (0, 0))) := Lib.hid (heap_alloc_new wr _)
      have BC : Hid (Below bb w1 (wr.alloc (.cells #[.slice A2 ds.length c2, .slice A1 ks.length c1] 47))) := Lib.hid (Hbel.out.trans (GC.out.mono (by have := Hbz.out; omega)))
      have ZC : Hid (bb < (wr.alloc (.cells #[.slice A2 ds.length c2, .slice A1 ks.length c1] 47)).heap.size) := Lib.hid (by have := GC.out.size; have := Hbz.out; omega)
      have BW : Hid (Below w.heap.size w (wr.alloc (.cells #[.slice A2 ds.length c2, .slice A1 ks.length c1] 47))) := Lib.hid (Hbw.out.trans (GC.out.mono Hbw.out.size))
      have IC : Hid (IsB bb bb (bsOf (ndI EH (ds ++ ks) 0)) (wr.alloc (.cells #[.slice A2 ds.length c2, .slice A1 ks.length c1] 47))) := Lib.hid (by
        have h := Hib.out.bel GC.out
        rw [show cs.length = 0 from HLN.out.2.2.2] at h
        exact h)
      have HCC := Lib.hid (concat_any RC.out (H2.out.at hB BW.out) (H1.out.at hB BW.out) (by have := HLN.out; omega) (by have := HLN.out; omega) (by have := HLN.out; omega) (by have := HLN.out; omega))
      clear RC GC
      go_wp2_with fail
      clear q2 q3
      refine HCC.out.mono ?_
      rintro e x1 ⟨v, rfl, hr, g⟩
      generalize (wr.alloc (.cells #[.slice A2 ds.length c2, .slice A1 ks.length c1] 47)) = w4 at *
      have IX : Hid (IsB bb bb (bsOf (ndI EH (ds ++ ks) 0)) x1) := Lib.hid (IC.out.bel g)
      have BX : Hid (Below bb w1 x1) := Lib.hid (BC.out.trans (g.mono (by have := ZC.out; omega)))
      have ZX : Hid (w4.heap.size ≤ x1.heap.size) := Lib.hid g.size
      have hLX : (ds ++ ks).length = ds.length + ks.length := by simp
      have HLX := Lib.hid hLX; have HLS := Lib.hid HLN.out
      have HXO := Lib.hid hr
      clear hLX hr g HCC IC BC BW
      have HSX := Lib.hid (HSI.out (ds ++ ks)); have HAX := Lib.hid (HAI.out (ds ++ ks))
      generalize ds ++ ks = xs at *
      have hpos : 0 < xs.length := by have := HLX.out; have := HLS.out; omega
      rcases HXO.out.slice with ⟨h9, h8⟩ | ⟨gx, cx, rfl, glo, ghi, hlx, hmx⟩
      · rw [h8] at hpos; simp at hpos
      unfold maxLen at hmx
      clear ghi hpos
      go_wp2_with fail
      go_loopw [58] (fun i wr => ∃ j : Nat, j ≤ xs.length ∧ i = .int .i64 (j : Int) ∧ IsB bb bb (bsOf (ndI EH xs j)) wr ∧ Below bb w1 wr ∧ w4.heap.size ≤ wr.heap.size ∧ OI wr w4.heap.size (.slice (some ⟨gx, 0, none⟩) xs.length cx) xs) (fun i _ => xs.length - (intOf i).toNat)
      case atStart => exact ⟨0, Nat.zero_le _, rfl, IX.out, BX.out, ZX.out, HXO.out⟩
      case round =>
        obtain ⟨j, hj, rfl, hib, hbel, hbz, hox⟩ := hrel
        have Yb := Lib.hid hbel; have Yi := Lib.hid hib; have Yz := Lib.hid hbz; have Yo := Lib.hid hox
        clear hib hbz hbel hox
        by_cases hlt : j < xs.length
        · have g1 := Yo.out.cell j hlt
          have HS := Lib.hid (HAX.out j hlt)
          have hz := HSX.out j
          have hbj := HBD.out j hlt
          have hl7 : xs.length ≤ 15 := by have := HLX.out; have := HLS.out; omega
          generalize xs[j] = n0 at *
          generalize hN : ndI EH xs (j + 1) = S1 at *
          have HN := Lib.hid hN; clear hN
          generalize ndI EH xs j = S0 at *
          have G1 := Lib.hid (put2 hbj.1 hbj.2 wr)
          have z1 := leS_one n0 2
          generalize leS n0 2 = b1 at *
          have Hz4 : Hid (S0.size + b1.size ≤ 1000) := Lib.hid (by omega)
          clear z1 hz hbj
          go_wp2_with fail
          clear g1
          refine G1.out.mono ?_
          rintro e y1 ⟨rfl, k1⟩
          have HW := Lib.hid (wrS (B := bb) (a := S0) (c := S1) HS.out.symm (Yi.out.bel k1) (by have := Hz4.out; omega) (by have := k1.size; have := Yz.out; have := ZC.out; omega))
          have O1 := Lib.hid (own_bel Yo.out k1)
          have K1 := Lib.hid k1
          clear k1 G1
          go_wp2_with fail
          refine HW.out.mono ?_
          rintro e y2 ⟨rfl, i2, k2, kp2⟩
          have I5 := Lib.hid i2
          have O5 : Hid (OI y2 w4.heap.size (.slice (some ⟨gx, 0, none⟩) xs.length cx) xs) := Lib.hid (OI.kp O1.out ZC.out kp2)
          have B5 : Hid (Below bb w1 y2) := Lib.hid ((Yb.out.trans (K1.out.mono (by have := Yz.out; have := ZC.out; omega))).trans k2)
          have Z5 : Hid (w4.heap.size ≤ y2.heap.size) := Lib.hid (by have := K1.out.size; have := k2.size; have := Yz.out; omega)
          clear i2 k2 kp2 HW K1
          go_wp2_with fail
          go_roundw
          case rel => exact ⟨j + 1, by omega, by go_num, by rw [HN.out]; exact I5.out, B5.out, Z5.out, O5.out⟩
          case measure => simp [intOf]; omega
        · obtain rfl : j = xs.length := by omega
          have HRd := Lib.hid (rdBld Yi.out (by have := Yz.out; have := ZC.out; omega))
          have hf2 := Hf.out
          rw [← HLX.out] at hf2
          have Hf2 := Lib.hid hf2
          clear hf2 Hf
          have HSZ : Hid ((ndI EH xs xs.length).size ≤ 40) := Lib.hid (by have := HSX.out xs.length; have := HLX.out; have := HLS.out; omega)
          generalize ndI EH xs xs.length = S0 at *
          have HPd := Lib.hid (fun W => implPad_any S0 64 (by omega) (by have := HSZ.out; omega) W)
          rw [padV_yes (by have := HSZ.out; omega)] at HPd
          go_wp2_with fail
          refine HRd.out.mono ?_
          rintro e w9 ⟨rfl, g9⟩
          have Hb9 : Hid (Below w.heap.size w w9) := Lib.hid (HB1.out.trans ((Yb.out.trans g9).mono (by have := Hbb.out; have := HZ1.out; omega)))
          clear g9 HRd
          go_wp2_with fail
          refine (HPd.out _).mono ?_
          rintro e w10 ⟨rfl, g10⟩
          have Hb10 := Lib.hid (Hb9.out.trans (g10.mono Hb9.out.size))
          clear g10 HPd
          go_wp2_with fail
          go_ret
          exact ⟨by rw [Hf2.out]; rfl, Hb10.out⟩
theorem implEncodeNode_any {B : Nat} {w : World} {v0 v1 v2 : Value} {cs : List EC} {ks ds : List Int} {lf : Bool} (h0 : RiC B w v0 cs) (h1 : Ri B w v1 ks) (h2 : Ri B w v2 ds) (hB : B ≤ w.heap.size) (hs : cs.length ≤ 1048576) :
    Calls Try.prog 41 #[.agg #[.bool lf, v0, v1, v2]] w (GivesB (.string (ndV lf cs ks ds)) w) := by
  cases lf
  · exact implEncI_any h0 h1 h2 hB hs
  · exact implEncL_any h0 h1 h2 hB hs
end Go.Proofs.Ytabnglimchjgpaa
