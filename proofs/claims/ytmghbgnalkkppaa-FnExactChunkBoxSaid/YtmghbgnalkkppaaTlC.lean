/- Chunks: the program's tilingOf. No statement is proved here. -/
import Derived.Test.YtmghbgnalkkppaaTlB
namespace Go.Proofs.Ytmghbgnalkkppaa
open Go.RowKit
set_option linter.unusedVariables false
set_option maxHeartbeats 4000000 in
set_option maxRecDepth 100000 in
theorem til_f {B : Nat} {w : World} {v u : Value} {ds cs : List Int} (h : Ri B w v ds) (h2 : Ri B w u cs) (hB : B ≤ w.heap.size) (hd1 : dimsOk ds = true) (hd2 : dimsOk cs = true) (hlen : cs.length = ds.length) (hq : 1 ≤ prodL cs ∧ prodL cs ≤ 64) : Calls Try.prog 35 #[v, u] w (TilA ds cs v u w) := by
  have H := Lib.hid h; have H2 := Lib.hid h2
  obtain ⟨A1, c1, rfl, hl1, hm1, hx1⟩ := h
  obtain ⟨A2, c2, rfl, hl2, hm2, hx2⟩ := h2
  have Hx1 := Lib.hid hx1; have Hx2 := Lib.hid hx2
  clear hx1 hx2 hl1 hl2 hm1 hm2
  have HB0 : Hid (Below w.heap.size w (w.alloc (.cells #[.slice none 0 0, .slice none 0 0, .slice none 0 0] 43))) := Lib.hid ((Below.refl _ w).alloc (Nat.le_refl _) _)
  have R0 : Hid ((w.alloc (.cells #[.slice none 0 0, .slice none 0 0, .slice none 0 0] 43)).heap[w.heap.size]? = some (.cells #[.slice none 0 0, .slice none 0 0, .slice none 0 0] 43 (0, 0))) := Lib.hid (heap_alloc_new w _)
  have Hs0 : Hid ((w.alloc (.cells #[.slice none 0 0, .slice none 0 0, .slice none 0 0] 43)).heap.size = w.heap.size + 1) := Lib.hid (by simp)
  have Hi9 : Hid ((Try.prog.info? 43).map (·.size) = some (#[.slice none 0 0, .slice none 0 0, .slice none 0 0] : Array Value).size) := Lib.hid (by kernel_rfl)
  have H19 : Hid ((#[.slice none 0 0, .slice none 0 0, .slice none 0 0] : Array Value).all (·.oneCell') = true) := Lib.hid (by simp [Value.oneCell'])
  have V1 := Lib.hid (fun (W : World) (hW : Below w.heap.size w W) => valid_any (H.out.at hB hW))
  have V2 := Lib.hid (fun (W : World) (hW : Below w.heap.size w W) => valid_any (H2.out.at hB hW))
  rw [hd1] at V1
  rw [hd2] at V2
  have Hd2 := Lib.hid (dimsOk_iff hd2)
  have PR := Lib.hid (fun (W : World) (hW : Below w.heap.size w W) => product_any (H2.out.at hB hW) ⟨Hd2.out.1, Hd2.out.2.1⟩)
  have hlen' : (ds.length : Int) = (cs.length : Int) := by rw [hlen]
  have HC := Lib.hid (inC_of hd2 (by omega : 1 ≤ prodL cs))
  have Hd1 := Lib.hid (dimsOk_iff hd1)
  have HCK := Lib.hid (fun (h6 : allTo (inG (grds ds cs)) ds.length = true) (h7 : prodL (grds ds cs) ≤ 256) => ck_mk hd1 hd2 hlen hq.1 hq.2 h6 h7)
  have Hlen := Lib.hid hlen
  have hq1 : ¬ (prodL cs < 1) := by omega
  have hq2 : ¬ (64 < prodL cs) := by omega
  obtain ⟨C, hC, hmk⟩ := make_all (P := Try.prog) 41 2 ds.length 1 8 Try.underlying41 Try.infoI (by have := Hd1.out.1; omega) (by have := Hd1.out.1; omega)
  rw [Nat.mul_one] at hC
  have HC0 := Lib.hid hC
  clear hd1 hd2 hlen hq hC
  generalize prodL cs = q at *
  go_enter Try.func35, Try.ntmps35
  go_wp2_with fail
  generalize (w.alloc (.cells #[.slice none 0 0, .slice none 0 0, .slice none 0 0] 43)) = w0 at *
  refine (V1.out _ HB0.out).mono ?_
  rintro e w1 ⟨rfl, rfl⟩
  go_wp2_with fail
  refine (V2.out _ HB0.out).mono ?_
  rintro e w1 ⟨rfl, rfl⟩
  go_wp2_with fail
  refine (PR.out _ HB0.out).mono ?_
  rintro e w1 ⟨rfl, rfl⟩
  clear hlen'
  have R3 : Hid (((w0.alloc (.cells C 2)).alloc (.cells #[.slice none 0 0, .slice none 0 0, .slice none 0 0] 43)).heap[w0.heap.size + 1]? = some (.cells #[.slice none 0 0, .slice none 0 0, .slice none 0 0] 43 (0, 0))) := Lib.hid (by
    have := heap_alloc_new (w0.alloc (.cells C 2)) (.cells #[.slice none 0 0, .slice none 0 0, .slice none 0 0] 43)
    rwa [show (w0.alloc (.cells C 2)).heap.size = w0.heap.size + 1 by simp] at this)
  have HiT : Hid ((Try.prog.info? 43).map (·.size) = some (#[.slice A1 ds.length c1, .slice A2 cs.length c2, .slice (some ⟨w0.heap.size, 0, none⟩) ds.length ds.length] : Array Value).size) := Lib.hid (by kernel_rfl)
  have H1T : Hid ((#[.slice A1 ds.length c1, .slice A2 cs.length c2, .slice (some ⟨w0.heap.size, 0, none⟩) ds.length ds.length] : Array Value).all (·.oneCell') = true) := Lib.hid (by simp [Value.oneCell'])
  go_wp2_with (refine wpList_store_row rfl 43 (.tmp 7) (.tmp 40) rfl (w0.heap.size + 1) #[.slice A1 ds.length c1, .slice A2 cs.length c2, .slice (some ⟨w0.heap.size, 0, none⟩) ds.length ds.length] (by simp) rfl 43 _ R3.out HiT.out rfl H1T.out ?_)
  have HBl : Hid (Below w0.heap.size w0 ((w0.alloc (.cells C 2)).alloc (.cells #[.slice A1 ds.length c1, .slice A2 cs.length c2, .slice (some ⟨w0.heap.size, 0, none⟩) ds.length ds.length] 43))) := Lib.hid (((Below.refl _ w0).alloc (Nat.le_refl _) _).alloc (by simp) _)
  have RT0 : Hid (((w0.alloc (.cells C 2)).alloc (.cells #[.slice A1 ds.length c1, .slice A2 cs.length c2, .slice (some ⟨w0.heap.size, 0, none⟩) ds.length ds.length] 43)).heap[w0.heap.size + 1]? = some (.cells #[.slice A1 ds.length c1, .slice A2 cs.length c2, .slice (some ⟨w0.heap.size, 0, none⟩) ds.length ds.length] 43 (0, 0))) := Lib.hid (by
    have := heap_alloc_new (w0.alloc (.cells C 2)) (.cells #[.slice A1 ds.length c1, .slice A2 cs.length c2, .slice (some ⟨w0.heap.size, 0, none⟩) ds.length ds.length] 43)
    rwa [show (w0.alloc (.cells C 2)).heap.size = w0.heap.size + 1 by simp] at this)
  have HF0 : Hid (Fill ((w0.alloc (.cells C 2)).alloc (.cells #[.slice A1 ds.length c1, .slice A2 cs.length c2, .slice (some ⟨w0.heap.size, 0, none⟩) ds.length ds.length] 43)) w0.heap.size ds.length 0 (grd ds cs) C) := Lib.hid ⟨by
    exact (((Below.refl (w0.alloc (.cells C 2)).heap.size (w0.alloc (.cells C 2))).alloc (Nat.le_refl _) _).block w0.heap.size (by simp)).trans (heap_alloc_new w0 _), HC0.out, fun k hk => absurd hk (by omega)⟩
  generalize ((w0.alloc (.cells C 2)).alloc (.cells #[.slice A1 ds.length c1, .slice A2 cs.length c2, .slice (some ⟨w0.heap.size, 0, none⟩) ds.length ds.length] 43)) = w3 at *
  generalize hg0 : w0.heap.size = g0 at *
  obtain ⟨tv, htv⟩ : ∃ tv : Array Value, #[.slice A1 ds.length c1, .slice A2 cs.length c2, .slice (some ⟨g0, 0, none⟩) ds.length ds.length] = tv := ⟨_, rfl⟩
  rw [htv] at RT0
  have Htv := Lib.hid htv
  clear htv
  clear R3 hmk
  go_loopw [43] (fun i wr => ∃ (k : Nat) (D : Array Value), k ≤ ds.length ∧ i = .int .i64 (k : Int) ∧ Fill wr g0 ds.length k (grd ds cs) D ∧ wr.heap[g0 + 1]? = some (.cells tv 43 (0, 0)) ∧ Below g0 w0 wr ∧ allTo (inG (grds ds cs)) k = true) (fun i _ => ds.length - (intOf i).toNat)
  case atStart => exact ⟨0, C, Nat.zero_le _, rfl, HF0.out, RT0.out, HBl.out, allTo_zero _⟩
  case round =>
    obtain ⟨k, D, hk, rfl, hfl, hrt, hbl, hall⟩ := hrel
    have HF := Lib.hid hfl; have RT := Lib.hid hrt; have HBw := Lib.hid hbl; have HAll := Lib.hid hall
    clear hfl hrt hbl hall HF0 RT0 HBl
    have HBW : Hid (Below w.heap.size w wr) := Lib.hid (HB0.out.trans (HBw.out.mono (by have := Hs0.out; omega)))
    have Hr0 : Hid (wr.heap[w.heap.size]? = some (.cells #[.slice none 0 0, .slice none 0 0, .slice none 0 0] 43 (0, 0))) := Lib.hid ((HBw.out.block _ (by have := Hs0.out; omega)).trans R0.out)
    have Hlt : Hid (w.heap.size < g0 ∧ g0 + 1 < wr.heap.size) := Lib.hid ⟨by have := Hs0.out; omega, (Array.getElem?_eq_some_iff.1 RT.out).1⟩
    by_cases hlt : k < ds.length
    · have hlt2 : k < cs.length := by have := Hlen.out; omega
      obtain ⟨b1, o1, rfl, hb1, hc1, hI1⟩ := Hx1.out k hlt
      obtain ⟨b2, o2, rfl, hb2, hc2, hI2⟩ := Hx2.out k hlt2
      have q1 : wr.cell? ⟨b1, o1 + k, none⟩ = some (.int .i64 ds[k]) := (HBW.out.cell (p := ⟨b1, o1 + k, none⟩) (by show b1 < w.heap.size; omega)).trans hc1
      have q2 : wr.cell? ⟨b2, o2 + k, none⟩ = some (.int .i64 cs[k]) := (HBW.out.cell (p := ⟨b2, o2 + k, none⟩) (by show b2 < w.heap.size; omega)).trans hc2
      have a1 := allTo_at Hd1.out.2.1 hlt
      have a2 := allTo_at HC.out hlt2
      rw [inD_at _ _ hlt, inB_iff] at a1
      rw [inC_at _ _ hlt2, inB_iff] at a2
      have hgn := grd_num a1 a2
      have Hgk := Lib.hid (grd_at ds cs k hlt hlt2)
      obtain ⟨⟨u, q3, -⟩, f3⟩ := HF.out.cell k hlt
      have q4 : wr.cell? ⟨g0 + 1, 2, none⟩ = some (.slice (some ⟨g0, 0, none⟩) ds.length ds.length) := by rw [cell_of_row _ _ _ _ _ _ RT.out, ← Htv.out]; rfl
      have Hset := Lib.hid (HF.out.set hlt)
      have HsetR : Hid ((wr.setCell ⟨g0, k, none⟩ (.int .i64 (grd ds cs k))).drew.heap[g0 + 1]? = some (.cells tv 43 (0, 0))) := Lib.hid ((heap_setCell_other wr ⟨g0, k, none⟩ _ _ (show g0 + 1 ≠ g0 by omega)).trans RT.out)
      have HsetB : Hid (Below g0 w0 (wr.setCell ⟨g0, k, none⟩ (.int .i64 (grd ds cs k))).drew) := Lib.hid ((HBw.out.setCell (p := ⟨g0, k, none⟩) (Nat.le_refl _) _).drew)
      have Hset0 : Hid ((wr.setCell ⟨g0, k, none⟩ (.int .i64 (grd ds cs k))).drew.heap[w.heap.size]? = some (.cells #[.slice none 0 0, .slice none 0 0, .slice none 0 0] 43 (0, 0))) := Lib.hid ((heap_setCell_other wr ⟨g0, k, none⟩ _ _ (show w.heap.size ≠ g0 by have := Hlt.out.1; omega)).trans Hr0.out)
      have HIg : Hid (inG (grds ds cs) k = decide (grd ds cs k ≤ 16)) := Lib.hid (by unfold inG; rw [grds_getD _ _ _ hlt])
      have q5 : (wr.setCell ⟨g0, k, none⟩ (.int .i64 (grd ds cs k))).drew.cell? ⟨g0, k, none⟩ = some (.int .i64 (grd ds cs k)) := by
        have h5 := (Hset.out.cell k hlt).1
        obtain ⟨u5, e5, e6⟩ := h5
        rw [e6 (by omega)] at e5
        exact e5
      have q6 : (wr.setCell ⟨g0, k, none⟩ (.int .i64 (grd ds cs k))).drew.cell? ⟨g0 + 1, 2, none⟩ = some (.slice (some ⟨g0, 0, none⟩) ds.length ds.length) := by rw [cell_of_row _ _ _ _ _ _ HsetR.out, ← Htv.out]; rfl
      generalize grd ds cs k = gk at *
      generalize ds[k] = x at *
      generalize cs[k] = y at *
      have Hgk2 := Lib.hid Hgk.out.symm
      have w1 : IntKind.i64.wrap (x + y) = x + y := IntWalk.i64_in _ (by omega)
      have w2 : IntKind.i64.wrap (x + y - 1) = x + y - 1 := IntWalk.i64_in _ (by omega)
      have ed : (x + y - 1).tdiv y = gk := Hgk.out.symm
      have w4 : IntKind.i64.wrap gk = gk := IntWalk.i64_in _ (by rw [← ed]; omega)
      have hy0 : ¬ (y = 0) := by omega
      have HKl := Lib.hid hlt
      have hk3 : ds.length ≤ 3 := Hd1.out.1
      have Hb1 := Lib.hid hb1; have Hb2 := Lib.hid hb2
      clear hgn a1 a2 hg0 hq1 hq2 hc1 hc2 hI1 hI2 hb1 hb2 Hgk2
      by_cases hgt : 16 < gk
      · have Hf : Hid (ckOk ds cs = false) := Lib.hid (ck_bad hlt (by rw [HIg.out]; exact decide_eq_false (by omega)))
        have dg : decide (gk ≤ 16) = false := decide_eq_false (by omega)
        go_wp2
        go_region
        all_goals go_wp2_with (refine wpList_store_row rfl 43 (.tmp 4) (.tmp 70) rfl w.heap.size #[.slice none 0 0, .slice none 0 0, .slice none 0 0] rfl rfl 43 _ Hset0.out Hi9.out rfl H19.out ?_)
        all_goals refine bodyPost_ret (v := .tuple #[.agg #[.slice none 0 0, .slice none 0 0, .slice none 0 0], .bool false]) ?_ ?_ ?_
        · exact results_cell_row2 rfl _ _ w.heap.size 43 _ (0, 0) _ _ rfl rfl (setRow_heap _ _ _ _ _ _ Hset0.out) Try.underlying43 rfl (by kernel_rfl)
        · rfl
        · exact til_no Hf.out Sl3.nil (below_setRow (HB0.out.trans (HsetB.out.mono (by have := Hlt.out.1; omega))) (Nat.le_refl _) _)
      · have Hn : Hid (allTo (inG (grds ds cs)) (k + 1) = true) := Lib.hid (by rw [allTo_succ, HAll.out, HIg.out, decide_eq_true (by omega)]; rfl)
        go_wp2
        go_region
        all_goals go_wp2
        all_goals go_roundw
        case rel => exact ⟨k + 1, _, HKl.out, by go_num, Hset.out, HsetR.out, HsetB.out, Hn.out⟩
        case measure => have := HKl.out; simp [intOf]; omega
    · obtain rfl : k = ds.length := by omega
      have Htv2 : Hid (tv.all (·.oneCell') = true ∧ (Try.prog.info? 43).map (·.size) = some tv.size ∧ 3 = tv.size) := Lib.hid (by rw [← Htv.out]; exact ⟨by simp [Value.oneCell'], by kernel_rfl, rfl⟩)
      have HO : Hid (OI wr w.heap.size (.slice (some ⟨g0, 0, none⟩) ds.length ds.length) (grds ds cs)) := Lib.hid (by
        have hr : Row wr g0 (grds ds cs) := HF.out.row
        have := OI.of_row hr (show w.heap.size ≤ g0 by have := Hlt.out.1; omega) (by rw [grds_length]; have := Hd1.out.1; unfold maxLen; omega)
        rwa [grds_length] at this)
      have HGD := Lib.hid (grds_inD ds cs Hd1.out.2.1 Hlen.out HC.out)
      have HGI : Hid (∀ x ∈ grds ds cs, InI x) := Lib.hid (fun x hx => by
        obtain ⟨j, hj, rfl⟩ := List.mem_iff_getElem.1 hx
        have hb := allTo_at HGD.out hj
        rw [inD_at _ _ hj, inB_iff] at hb
        unfold InI
        omega)
      have PG : Hid (Calls Try.prog 38 #[.slice (some ⟨g0, 0, none⟩) ds.length ds.length] wr.drew (Quiet (.int .i64 (prodL (grds ds cs))) wr.drew)) := Lib.hid (product_any ((HO.out.bel (Below.refl _ _).drew).ri HGI.out) ⟨by rw [grds_length]; exact Hd1.out.1, HGD.out⟩)
      have q4 : wr.cell? ⟨g0 + 1, 2, none⟩ = some (.slice (some ⟨g0, 0, none⟩) ds.length ds.length) := by rw [cell_of_row _ _ _ _ _ _ RT.out, ← Htv.out]; rfl
      have Hld : Hid ((loadVar 43 ⟨g0 + 1, 0, none⟩).run Try.prog wr.drew = .ok (.agg tv) wr.drew) := Lib.hid (run_loadVar_row (P := Try.prog) wr.drew (g0 + 1) 43 43 tv (0, 0) _ RT.out Try.underlying43 rfl Htv2.out.2.1)
      have HCK2 : Hid (ckOk ds cs = decide (prodL (grds ds cs) ≤ 256)) := Lib.hid (by
        by_cases h7 : prodL (grds ds cs) ≤ 256
        · rw [decide_eq_true h7]; exact HCK.out HAll.out h7
        · rw [decide_eq_false h7]; exact ck_not (.inr (.inr (.inr (.inr (.inr (.inr (by omega)))))))
        )
      have HtvS : Hid (Sl3 tv) := Lib.hid (by rw [← Htv.out]; exact ⟨_, _, _, _, _, _, _, _, _, rfl⟩)
      generalize prodL (grds ds cs) = pg at *
      clear hg0 hq1 hq2
      go_wp2
      have z0 : wr.cell? ⟨w.heap.size, 0, none⟩ = some (.slice none 0 0) := by rw [cell_of_row _ _ _ _ _ _ Hr0.out]; rfl
      have z1 : wr.cell? ⟨w.heap.size, 1, none⟩ = some (.slice none 0 0) := by rw [cell_of_row _ _ _ _ _ _ Hr0.out]; rfl
      have z2 : wr.cell? ⟨w.heap.size, 2, none⟩ = some (.slice none 0 0) := by rw [cell_of_row _ _ _ _ _ _ Hr0.out]; rfl
      have f0 : wr.frozen? ⟨w.heap.size, 0, none⟩ = false := frozen_of_row _ _ _ _ _ Hr0.out
      have f1 : wr.frozen? ⟨w.heap.size, 1, none⟩ = false := frozen_of_row _ _ _ _ _ Hr0.out
      have f2 : wr.frozen? ⟨w.heap.size, 2, none⟩ = false := frozen_of_row _ _ _ _ _ Hr0.out
      have HCE : Hid (∀ W : World, W.heap[g0 + 1]? = some (.cells tv 43 (0, 0)) → W.cell? ⟨g0 + 1, 0, none⟩ = some (.slice A1 ds.length c1) ∧ W.cell? ⟨g0 + 1, 1, none⟩ = some (.slice A2 cs.length c2) ∧ W.cell? ⟨g0 + 1, 2, none⟩ = some (.slice (some ⟨g0, 0, none⟩) ds.length ds.length)) := Lib.hid (fun W hW => by
        refine ⟨?_, ?_, ?_⟩ <;> (rw [cell_of_row _ _ _ _ _ _ hW, ← Htv.out]; rfl))
      have RV : Hid ((((wr.setCell ⟨w.heap.size, 0, none⟩ (.slice A1 ds.length c1)).setCell ⟨w.heap.size, 1, none⟩ (.slice A2 cs.length c2)).setCell ⟨w.heap.size, 2, none⟩ (.slice (some ⟨g0, 0, none⟩) ds.length ds.length)).drew.heap[g0 + 1]? = some (.cells tv 43 (0, 0))) := Lib.hid (by
        have n1 : g0 + 1 ≠ w.heap.size := by have := Hlt.out.1; omega
        show (((wr.setCell _ _).setCell _ _).setCell _ _).heap[g0 + 1]? = _
        rw [heap_setCell_other _ ⟨w.heap.size, 2, none⟩ _ _ n1, heap_setCell_other _ ⟨w.heap.size, 1, none⟩ _ _ n1, heap_setCell_other _ ⟨w.heap.size, 0, none⟩ _ _ n1]
        exact RT.out)
      have RR : Hid ((((wr.setCell ⟨w.heap.size, 0, none⟩ (.slice A1 ds.length c1)).setCell ⟨w.heap.size, 1, none⟩ (.slice A2 cs.length c2)).setCell ⟨w.heap.size, 2, none⟩ (.slice (some ⟨g0, 0, none⟩) ds.length ds.length)).drew.heap[w.heap.size]? = some (.cells tv 43 (0, 0))) := Lib.hid (by
        have h := heap_setCell_same _ _ 2 _ _ (.slice (some ⟨g0, 0, none⟩) ds.length ds.length) (heap_setCell_same _ _ 1 _ _ (.slice A2 cs.length c2) (heap_setCell_same _ _ 0 _ _ (.slice A1 ds.length c1) Hr0.out))
        rw [← Htv.out]
        exact h)
      have HBV : Hid (Below w.heap.size w (((wr.setCell ⟨w.heap.size, 0, none⟩ (.slice A1 ds.length c1)).setCell ⟨w.heap.size, 1, none⟩ (.slice A2 cs.length c2)).setCell ⟨w.heap.size, 2, none⟩ (.slice (some ⟨g0, 0, none⟩) ds.length ds.length)).drew) := Lib.hid ((((HBW.out.setCell (p := ⟨w.heap.size, 0, none⟩) (Nat.le_refl _) _).setCell (p := ⟨w.heap.size, 1, none⟩) (Nat.le_refl _) _).setCell (p := ⟨w.heap.size, 2, none⟩) (Nat.le_refl _) _).drew)
      have HOV : Hid (OI (((wr.setCell ⟨w.heap.size, 0, none⟩ (.slice A1 ds.length c1)).setCell ⟨w.heap.size, 1, none⟩ (.slice A2 cs.length c2)).setCell ⟨w.heap.size, 2, none⟩ (.slice (some ⟨g0, 0, none⟩) ds.length ds.length)).drew w.heap.size (.slice (some ⟨g0, 0, none⟩) ds.length ds.length) (grds ds cs)) := Lib.hid (HO.out.same (fun g hg => by
        obtain rfl : g0 = g := by simpa [Value.ownBlock] using hg
        have n1 : g0 ≠ w.heap.size := by have := Hlt.out.1; omega
        show (((wr.setCell _ _).setCell _ _).setCell _ _).heap[g0]? = _
        rw [heap_setCell_other _ ⟨w.heap.size, 2, none⟩ _ _ n1, heap_setCell_other _ ⟨w.heap.size, 1, none⟩ _ _ n1, heap_setCell_other _ ⟨w.heap.size, 0, none⟩ _ _ n1]))
      clear q4
      have Etv := Htv.out
      subst Etv
      go_region_held3 (fun W => W.cell? ⟨g0 + 1, 0, none⟩ = some (.slice A1 ds.length c1) ∧ W.cell? ⟨g0 + 1, 1, none⟩ = some (.slice A2 cs.length c2) ∧ W.cell? ⟨g0 + 1, 2, none⟩ = some (.slice (some ⟨g0, 0, none⟩) ds.length ds.length)) (exact HCE.out _ (by first | exact RT.out | exact RV.out)) ((first | (go_at_call 38; refine PG.out.mono ?_; rintro e w' ⟨rfl, rfl⟩)))
      all_goals try simp only [Exit.then]
      all_goals go_wp2
      all_goals generalize (((wr.setCell ⟨w.heap.size, 0, none⟩ (.slice A1 ds.length c1)).setCell ⟨w.heap.size, 1, none⟩ (.slice A2 cs.length c2)).setCell ⟨w.heap.size, 2, none⟩ (.slice (some ⟨g0, 0, none⟩) ds.length ds.length)).drew = wv at *
      all_goals refine bodyPost_ret (v := .tuple #[.agg #[.slice A1 ds.length c1, .slice A2 cs.length c2, .slice (some ⟨g0, 0, none⟩) ds.length ds.length], .bool (decide (pg ≤ 256))]) ?_ ?_ ?_
      · exact results_cell_row2 rfl _ _ w.heap.size 43 _ (0, 0) _ _ rfl rfl RR.out Try.underlying43 rfl Htv2.out.2.1
      · rfl
      · exact ⟨_, by rw [HCK2.out], HtvS.out, HBV.out, fun _ => ⟨_, rfl, HOV.out⟩⟩
theorem tilingOf_any {B : Nat} {w : World} {v u : Value} {ds cs : List Int} (h : Ri B w v ds) (h2 : Ri B w u cs) (hB : B ≤ w.heap.size) : Calls Try.prog 35 #[v, u] w (TilA ds cs v u w) := by
  by_cases hd1 : dimsOk ds = true
  · by_cases hd2 : dimsOk cs = true
    · by_cases hlen : cs.length = ds.length
      · by_cases h1 : prodL cs < 1
        · exact til_d h h2 hB hd1 hd2 hlen h1
        · by_cases h3 : 64 < prodL cs
          · exact til_e h h2 hB hd1 hd2 hlen h3
          · exact til_f h h2 hB hd1 hd2 hlen ⟨by omega, by omega⟩
      · exact til_c h h2 hB hd1 hd2 hlen
    · exact til_b h h2 hB hd1 (by simpa using hd2)
  · exact til_a h h2 hB (by simpa using hd1)
end Go.Proofs.Ytmghbgnalkkppaa
