/- Chunks: the program's find. No statement is proved here. -/
import Derived.Test.YtmghbgnalkkppaaPlA
import Derived.Test.YtmghbgnalkkppaaHeld
import Derived.Test.YtmghbgnalkkppaaCoo
namespace Go.Proofs.Ytmghbgnalkkppaa
open Go.RowKit
set_option linter.unusedVariables false
/-- A place and a number. -/
theorem zrow {W : World} {g : Nat} (h : W.heap[g]? = some (.cells #[.int .i64 0, .int .i64 0, .int .i64 0] 55 (0, 0))) : (W.cell? ⟨g, 0, none⟩ = some (.int .i64 0) ∧ W.cell? ⟨g, 1, none⟩ = some (.int .i64 0) ∧ W.cell? ⟨g, 2, none⟩ = some (.int .i64 0)) ∧ W.frozen? ⟨g, 0, none⟩ = false ∧ W.frozen? ⟨g, 1, none⟩ = false ∧ W.frozen? ⟨g, 2, none⟩ = false := by
  refine ⟨⟨?_, ?_, ?_⟩, ?_, ?_, ?_⟩
  all_goals first | (rw [cell_of_row _ _ _ _ _ _ h]; rfl) | exact frozen_of_row _ _ _ _ _ h
theorem pad3_three {xs : List Int} (h : xs.length ≤ 3) : ∃ a b c, pad3 xs = [a, b, c] := by
  have := pad3_len h
  rcases hp : pad3 xs with _ | ⟨a, _ | ⟨b, _ | ⟨c, _ | ⟨d, t⟩⟩⟩⟩ <;> simp [hp] at this
  exact ⟨a, b, c, rfl⟩
set_option maxHeartbeats 4000000 in
set_option maxRecDepth 100000 in
theorem find_any {B : Nat} {w : World} {v u z y : Value} {cs ys : List Int} (hv : ∃ A l c, v = .slice A l c) (hz : ∃ A l c, z = .slice A l c) (h : Ri B w u cs) (h2 : Ri B w y ys) (hB : B ≤ w.heap.size) (hd : Dv cs ys) :
    Calls Try.prog 45 #[.agg #[v, u, z], y] w (GivesB (.tuple #[aggI (pad3 (plcs cs ys)), .int .i64 (idxL cs (inss cs ys))]) w) := by
  have H := Lib.hid h; have H2 := Lib.hid h2; have HD := Lib.hid hd
  obtain ⟨A1, l1, d1, rfl⟩ := hv
  obtain ⟨A3, l3, d3, rfl⟩ := hz
  obtain ⟨A2, c2, rfl, hl2, hm2, hx2⟩ := h
  obtain ⟨A4, c4, rfl, hl4, hm4, hx4⟩ := h2
  have Hx2 := Lib.hid hx2; have Hx4 := Lib.hid hx4
  clear hx2 hx4 hl2 hm2 hl4 hm4
  have hlen := hd.2.2.1
  have hc3 := hd.1
  obtain ⟨C, hC, hmk⟩ := make_all (P := Try.prog) 22 2 ys.length 1 8 Try.underlying22 Try.infoI (by omega) (by omega)
  rw [Nat.mul_one] at hC
  obtain ⟨WA, hWA⟩ : ∃ WA, WA = (((w.alloc (.cells #[.slice A1 l1 d1, .slice A2 cs.length c2, .slice A3 l3 d3] 43)).alloc (.cells #[.int .i64 0, .int .i64 0, .int .i64 0] 55)).alloc (.cells C 2)).alloc (.cells C 2) := ⟨_, rfl⟩
  have HA := alloc4 w (.cells #[.slice A1 l1 d1, .slice A2 cs.length c2, .slice A3 l3 d3] 43) (.cells #[.int .i64 0, .int .i64 0, .int .i64 0] 55) (.cells C 2) (.cells C 2)
  rw [← hWA] at HA
  obtain ⟨a0, a1, a2, a3, a4, a5⟩ := HA
  have R0 := Lib.hid a0; have R1 := Lib.hid a1; have Hz := Lib.hid a4; have HB0 := Lib.hid a5
  have HF0 : Hid (Fill WA (w.heap.size + 1 + 1) ys.length 0 (plc cs ys) C) := Lib.hid ⟨a2, hC, fun k hk => absurd hk (by omega)⟩
  have HG0 : Hid (Fill WA (w.heap.size + 1 + 1 + 1) ys.length 0 (ins cs ys) C) := Lib.hid ⟨a3, hC, fun k hk => absurd hk (by omega)⟩
  have Hlen := Lib.hid hlen
  have hWA2 := hWA.symm
  clear a0 a1 a2 a3 a4 a5 hC hlen hWA hd
  have HCt : Hid (∀ W : World, W.heap[w.heap.size]? = some (.cells #[.slice A1 l1 d1, .slice A2 cs.length c2, .slice A3 l3 d3] 43 (0, 0)) → W.cell? ⟨w.heap.size, 1, none⟩ = some (.slice A2 cs.length c2)) := Lib.hid (fun W hW => by rw [cell_of_row _ _ _ _ _ _ hW]; rfl)
  have q0 := HCt.out _ R0.out
  go_enter Try.func45, Try.ntmps45
  go_wp2
  clear hmk hWA2 q0
  obtain ⟨tv, htv⟩ : ∃ tv : Array Value, #[.slice A1 l1 d1, .slice A2 cs.length c2, .slice A3 l3 d3] = tv := ⟨_, rfl⟩
  rw [htv] at R0 HCt
  clear htv
  generalize hg1 : w.heap.size + 1 = g1 at *
  generalize hg2 : g1 + 1 = g2 at *
  generalize hg3 : g2 + 1 = g3 at *
  have Hg := Lib.hid (show w.heap.size + 1 = g1 ∧ g1 + 1 = g2 ∧ g2 + 1 = g3 from ⟨hg1, hg2, hg3⟩)
  clear hg1 hg2 hg3
  go_loopw [19] (fun i wr => ∃ (k : Nat) (C1 C2 : Array Value), k ≤ cs.length ∧ i = .int .i64 (k : Int) ∧ Fill wr g2 ys.length k (plc cs ys) C1 ∧ Fill wr g3 ys.length k (ins cs ys) C2 ∧ wr.heap[w.heap.size]? = some (.cells tv 43 (0, 0)) ∧ wr.heap[g1]? = some (.cells #[.int .i64 0, .int .i64 0, .int .i64 0] 55 (0, 0)) ∧ Below w.heap.size w wr) (fun i _ => cs.length - (intOf i).toNat)
  case atStart => exact ⟨0, C, C, Nat.zero_le _, rfl, HF0.out, HG0.out, R0.out, R1.out, HB0.out⟩
  case round =>
    obtain ⟨k, C1, C2, hk, rfl, hf1, hf2, hr0, hr1, hbl⟩ := hrel
    have HF := Lib.hid hf1; have HG := Lib.hid hf2; have RW := Lib.hid hr0; have RZ := Lib.hid hr1; have HBW := Lib.hid hbl
    clear hf1 hf2 hr0 hr1 hbl HF0 HG0 R0 R1
    by_cases hlt : k < cs.length
    · have hlt2 : k < ys.length := by have := Hlen.out; omega
      obtain ⟨b1, o1, rfl, hb1, hc1, -⟩ := Hx2.out k hlt
      obtain ⟨b2, o2, rfl, hb2, hc2, -⟩ := Hx4.out k hlt2
      have hab := HD.out.at k hlt2 hlt
      have q1 : wr.cell? ⟨b1, o1 + k, none⟩ = some (.int .i64 cs[k]) := (HBW.out.cell (p := ⟨b1, o1 + k, none⟩) (by show b1 < w.heap.size; omega)).trans hc1
      have q2 : wr.cell? ⟨b2, o2 + k, none⟩ = some (.int .i64 ys[k]) := (HBW.out.cell (p := ⟨b2, o2 + k, none⟩) (by show b2 < w.heap.size; omega)).trans hc2
      obtain ⟨⟨u1, q3, -⟩, f3⟩ := HF.out.cell k hlt2
      obtain ⟨⟨u2, q4, -⟩, f4⟩ := HG.out.cell k hlt2
      have hpl : plc cs ys k = ys[k].tdiv cs[k] := by rw [plc, getD_at _ _ hlt2, getD_at _ _ hlt]
      have hin : ins cs ys k = ys[k].tmod cs[k] := by rw [ins, getD_at _ _ hlt2, getD_at _ _ hlt]
      have hnum := dv_num ⟨hab.1, hab.2.1⟩ ⟨hab.2.2.1, hab.2.2.2⟩
      have hG2 : Fill ((wr.setCell ⟨g2, k, none⟩ (.int .i64 (plc cs ys k)))) g3 ys.length k (ins cs ys) C2 := ⟨(heap_setCell_other wr ⟨g2, k, none⟩ _ _ (show g3 ≠ g2 by have := Hg.out; omega)).trans HG.out.1, HG.out.2⟩
      have Hs1 : Hid (Fill ((wr.setCell ⟨g2, k, none⟩ (.int .i64 (plc cs ys k))).setCell ⟨g3, k, none⟩ (.int .i64 (ins cs ys k))) g3 ys.length (k + 1) (ins cs ys) (C2.setIfInBounds k (.int .i64 (ins cs ys k)))) := Lib.hid (hG2.set hlt2)
      have hF2 := HF.out.set hlt2
      have Hs2 : Hid (Fill ((wr.setCell ⟨g2, k, none⟩ (.int .i64 (plc cs ys k))).setCell ⟨g3, k, none⟩ (.int .i64 (ins cs ys k))) g2 ys.length (k + 1) (plc cs ys) (C1.setIfInBounds k (.int .i64 (plc cs ys k)))) := Lib.hid ⟨(heap_setCell_other _ ⟨g3, k, none⟩ _ _ (show g2 ≠ g3 by have := Hg.out; omega)).trans hF2.1, hF2.2⟩
      have Hs3 : Hid (((wr.setCell ⟨g2, k, none⟩ (.int .i64 (plc cs ys k))).setCell ⟨g3, k, none⟩ (.int .i64 (ins cs ys k))).heap[w.heap.size]? = some (.cells tv 43 (0, 0))) := Lib.hid (by
        have := Hg.out
        rw [heap_setCell_other _ ⟨g3, k, none⟩ _ _ (show w.heap.size ≠ g3 by omega), heap_setCell_other _ ⟨g2, k, none⟩ _ _ (show w.heap.size ≠ g2 by omega)]; exact RW.out)
      have Hs4 : Hid (((wr.setCell ⟨g2, k, none⟩ (.int .i64 (plc cs ys k))).setCell ⟨g3, k, none⟩ (.int .i64 (ins cs ys k))).heap[g1]? = some (.cells #[.int .i64 0, .int .i64 0, .int .i64 0] 55 (0, 0))) := Lib.hid (by
        have := Hg.out
        rw [heap_setCell_other _ ⟨g3, k, none⟩ _ _ (show g1 ≠ g3 by omega), heap_setCell_other _ ⟨g2, k, none⟩ _ _ (show g1 ≠ g2 by omega)]; exact RZ.out)
      have Hs5 : Hid (Below w.heap.size w ((wr.setCell ⟨g2, k, none⟩ (.int .i64 (plc cs ys k))).setCell ⟨g3, k, none⟩ (.int .i64 (ins cs ys k)))) := Lib.hid ((HBW.out.setCell (p := ⟨g2, k, none⟩) (by have := Hg.out; show w.heap.size ≤ g2; omega) _).setCell (p := ⟨g3, k, none⟩) (by have := Hg.out; show w.heap.size ≤ g3; omega) _)
      have hne : ¬ (g2 = g3) := by have := Hg.out; omega
      have q4' : (wr.setCell ⟨g2, k, none⟩ (.int .i64 (plc cs ys k))).cell? ⟨g3, k, none⟩ = some u2 := (cell_same (heap_setCell_other wr ⟨g2, k, none⟩ _ _ (show g3 ≠ g2 by have := Hg.out; omega))).trans q4
      have q2' : (wr.setCell ⟨g2, k, none⟩ (.int .i64 (plc cs ys k))).cell? ⟨b2, o2 + k, none⟩ = some (.int .i64 ys[k]) := (cell_same (heap_setCell_other wr ⟨g2, k, none⟩ _ _ (show b2 ≠ g2 by have := Hg.out; omega))).trans q2
      have f4' : (wr.setCell ⟨g2, k, none⟩ (.int .i64 (plc cs ys k))).frozen? ⟨g3, k, none⟩ = false := (hG2.cell k hlt2).2
      have Hb1 := Lib.hid hb1; have Hb2 := Lib.hid hb2; have HKl := Lib.hid hlt
      clear hG2 hF2 hc1 hc2 hb1 hb2
      generalize plc cs ys k = pk at *
      generalize ins cs ys k = ik at *
      generalize cs[k] = x at *
      generalize ys[k] = t at *
      subst hpl hin
      have w1 : IntKind.i64.wrap (t.tdiv x) = t.tdiv x := IntWalk.i64_in _ (by omega)
      have hx0 : ¬ (x = 0) := by omega
      clear hab hnum
      go_wp2
      go_roundw
      case rel => exact ⟨k + 1, _, _, HKl.out, by go_num, Hs2.out, Hs1.out, Hs3.out, Hs4.out, Hs5.out⟩
      case measure => have := HKl.out; simp [intOf]; omega
    · obtain rfl : k = cs.length := by omega
      have HR1 : Hid (Row wr g2 (plcs cs ys)) := Lib.hid (by have h := HF.out; rw [← Hlen.out] at h; exact h.row)
      have HR2 : Hid (Row wr g3 (inss cs ys)) := Lib.hid (by have h := HG.out; rw [← Hlen.out] at h; exact h.row)
      have HPI := Lib.hid (plcs_inD HD.out)
      have HFI := Lib.hid (inss_fit HD.out)
      have e1 : (plcs cs ys).length = ys.length := by simp [plcs]
      have e2 : (inss cs ys).length = ys.length := by simp [inss]
      have HPn : Hid (∀ x ∈ plcs cs ys, InI x) := Lib.hid (fun x hx => by
        obtain ⟨j, hj, rfl⟩ := List.mem_iff_getElem.1 hx
        have hb := allTo_at HPI.out hj
        rw [inD_at _ _ hj, inB_iff] at hb
        unfold InI
        omega)
      have HO1 : Hid (OI wr w.heap.size (.slice (some ⟨g2, 0, none⟩) ys.length ys.length) (plcs cs ys)) := Lib.hid (by
        have := OI.of_row HR1.out (show w.heap.size ≤ g2 by have := Hg.out; omega) (by rw [e1]; have := Hlen.out; unfold maxLen; omega)
        rwa [e1] at this)
      have HO2 : Hid (OI wr w.heap.size (.slice (some ⟨g3, 0, none⟩) ys.length ys.length) (inss cs ys)) := Lib.hid (by
        have := OI.of_row HR2.out (show w.heap.size ≤ g3 by have := Hg.out; omega) (by rw [e2]; have := Hlen.out; unfold maxLen; omega)
        rwa [e2] at this)
      have CP := Lib.hid (fun (W : World) (hW : Below wr.heap.size wr W) => placeAt_any ((HO1.out.bel hW).ri HPn.out) (Nat.le_refl _) (by rw [e1]; have := Hlen.out; omega))
      have CI := Lib.hid (fun (W : World) (hW : Below wr.heap.size wr W) => indexOf_any ((H.out.up (Nat.le_refl _) ((HBW.out.trans (hW.mono HBW.out.size)).mono hB)).up (Nat.le_trans hB (Nat.le_trans HBW.out.size hW.size)) (Below.refl _ _)) ((HO2.out.bel hW).ri HFI.out.2) (Nat.le_refl _) HFI.out.1)
      have HCW : Hid (∀ W, Below wr.heap.size wr W → W.cell? ⟨w.heap.size, 1, none⟩ = some (.slice A2 cs.length c2)) := Lib.hid (fun W hW => HCt.out W ((hW.block _ (Array.getElem?_eq_some_iff.1 RW.out).1).trans RW.out))
      have HZW : Hid (∀ W, Below wr.heap.size wr W → W.heap[g1]? = some (.cells #[.int .i64 0, .int .i64 0, .int .i64 0] 55 (0, 0))) := Lib.hid (fun W hW => (hW.block _ (Array.getElem?_eq_some_iff.1 RZ.out).1).trans RZ.out)
      have HDr : Hid (Below wr.heap.size wr wr.drew) := Lib.hid (Below.refl _ _).drew
      obtain ⟨pa, pb, pc, hp3⟩ := pad3_three (xs := plcs cs ys) (by rw [e1]; have := Hlen.out; omega)
      have HP3 : Hid (aggI (pad3 (plcs cs ys)) = .agg #[.int .i64 pa, .int .i64 pb, .int .i64 pc]) := Lib.hid (by rw [hp3]; rfl)
      rw [hp3] at CP
      have hag : aggI [pa, pb, pc] = .agg #[.int .i64 pa, .int .i64 pb, .int .i64 pc] := rfl
      rw [hag] at CP
      generalize idxL cs (inss cs ys) = ix at *
      clear hp3 hag e1 e2
      have HV1 : Hid (∀ v : World, Below wr.heap.size wr v → (((v.setCell ⟨g1, 0, none⟩ (.int .i64 pa)).setCell ⟨g1, 1, none⟩ (.int .i64 pb)).setCell ⟨g1, 2, none⟩ (.int .i64 pc)).heap[w.heap.size]? = wr.heap[w.heap.size]?) := Lib.hid (fun v hv => by
        have n1 : w.heap.size ≠ g1 := by have := Hg.out; omega
        rw [heap_setCell_other _ ⟨g1, 2, none⟩ _ _ n1, heap_setCell_other _ ⟨g1, 1, none⟩ _ _ n1, heap_setCell_other _ ⟨g1, 0, none⟩ _ _ n1]
        exact hv.block _ (Array.getElem?_eq_some_iff.1 RW.out).1)
      have HV2 : Hid (∀ v : World, Below wr.heap.size wr v → (((v.setCell ⟨g1, 0, none⟩ (.int .i64 pa)).setCell ⟨g1, 1, none⟩ (.int .i64 pb)).setCell ⟨g1, 2, none⟩ (.int .i64 pc)).heap[g1]? = some (.cells #[.int .i64 pa, .int .i64 pb, .int .i64 pc] 55 (0, 0))) := Lib.hid (fun v hv => by
        have h := heap_setCell_same _ _ 2 _ _ (.int .i64 pc) (heap_setCell_same _ _ 1 _ _ (.int .i64 pb) (heap_setCell_same _ _ 0 _ _ (.int .i64 pa) (HZW.out v hv)))
        exact h)
      have HV3 : Hid (∀ v : World, Below wr.heap.size wr v → Below w.heap.size w (((v.setCell ⟨g1, 0, none⟩ (.int .i64 pa)).setCell ⟨g1, 1, none⟩ (.int .i64 pb)).setCell ⟨g1, 2, none⟩ (.int .i64 pc))) := Lib.hid (fun v hv => by
        have h1 : w.heap.size ≤ g1 := by have := Hg.out; omega
        exact (((HBW.out.trans (hv.mono HBW.out.size)).setCell (p := ⟨g1, 0, none⟩) h1 _).setCell (p := ⟨g1, 1, none⟩) h1 _).setCell (p := ⟨g1, 2, none⟩) h1 _)
      have q0 := HCW.out _ (Below.refl _ _)
      go_wp2
      go_region_held3 (fun W => W.cell? ⟨w.heap.size, 1, none⟩ = some (.slice A2 cs.length c2)) (first | exact HCW.out _ HDr.out | exact HCW.out _ kb1 | exact HCt.out _ ((HV1.out _ kb1).trans RW.out))
        ((first | (go_at_call 64; go_fit (CP.out _ HDr.out); rintro e v1 ⟨rfl, ga⟩; have kb1 : Below wr.heap.size wr v1 := HDr.out.trans (ga.mono HDr.out.size); obtain ⟨⟨z0, z1, z2⟩, f0, f1, f2⟩ := zrow (HZW.out _ kb1)) | (go_at_call 66; go_fit (CI.out _ kb1); rintro e v2 ⟨rfl, rfl⟩) | (go_at_call 66; go_fit (CI.out _ HDr.out); rintro e v2 ⟨rfl, rfl⟩)))
      all_goals have HKb := Lib.hid kb1
      all_goals have E1 := Lib.hid (HV2.out _ kb1)
      all_goals have E2 := Lib.hid (HV3.out _ kb1)
      all_goals clear kb1 ga z0 z1 z2 f0 f1 f2
      all_goals try simp only [Exit.then]
      all_goals generalize (((v1.setCell ⟨g1, 0, none⟩ (.int .i64 pa)).setCell ⟨g1, 1, none⟩ (.int .i64 pb)).setCell ⟨g1, 2, none⟩ (.int .i64 pc)) = wv at *
      all_goals go_wp2
      all_goals refine bodyPost_ret (v := .tuple #[.agg #[.int .i64 pa, .int .i64 pb, .int .i64 pc], .int .i64 ix]) ?_ rfl ?_
      all_goals first | exact results_cell_row2 rfl _ _ g1 55 _ (0, 0) _ _ rfl rfl E1.out Try.underlying55 rfl (by kernel_rfl) | exact ⟨by rw [HP3.out], E2.out⟩
end Go.Proofs.Ytmghbgnalkkppaa
