/- Contract of the program's function that bounds boxes. No statement is proved here. -/
import Derived.Test.YtbghekgghiamcaaBnd
import Derived.Test.YtbghekgghiamcaaLstI
import Derived.StillTailTactics
namespace Go.Proofs.Ytbghekgghiamcaa
open Go.RowKit
set_option linter.unusedVariables false
theorem validBoxes_is {B : Nat} {w : World} {v : Value} {bs : List Bx} {r : Bool} (hr : boxesOk bs = r) (h : RiB B w v bs) (hB : B ≤ w.heap.size) : Calls Try.prog 55 #[v] w (GivesB (.bool r) w) := by subst hr; exact validBoxes_any h hB
set_option maxHeartbeats 4000000 in
set_option maxRecDepth 100000 in
theorem implBounds_any {B : Nat} {w : World} {v : Value} {bs : List Bx} (h : RiB B w v bs) (hB : B ≤ w.heap.size) :
    Calls Try.prog 23 #[v] w (BdAns bs w) := by
  have H := Lib.hid h
  obtain ⟨A, cap, rfl, hl, hc, hx⟩ := h
  have Hx := Lib.hid hx; clear hx
  unfold maxLen at hc

  have HB0 : Hid (Below w.heap.size w (w.alloc (.cells #[.slice none 0 0, .slice none 0 0] 43))) := Lib.hid ((Below.refl _ w).alloc (Nat.le_refl _) _)
  have Hz0 : Hid ((w.alloc (.cells #[.slice none 0 0, .slice none 0 0] 43)).heap.size = w.heap.size + 1) := Lib.hid (by simp)
  have Hr0 : Hid ((w.alloc (.cells #[.slice none 0 0, .slice none 0 0] 43)).heap[w.heap.size]? = some (.cells #[.slice none 0 0, .slice none 0 0] 43 (0, 0))) := Lib.hid (heap_alloc_new w _)
  have Hi9 : Hid ((Try.prog.info? 43).map (·.size) = some (#[.slice none 0 0, .slice none 0 0] : Array Value).size) := Lib.hid (by kernel_rfl)
  have H19 : Hid ((#[.slice none 0 0, .slice none 0 0] : Array Value).all (·.oneCell') = true) := Lib.hid (by simp [Value.oneCell'])
  by_cases h0 : bs.length = 0
  · have Hf : Hid (bdOk bs = false) := Lib.hid (by simp [bdOk, h0])
    obtain rfl : bs = [] := List.eq_nil_of_length_eq_zero h0
    clear h0
    go_enter Try.func23, Try.ntmps23
    go_wp2_with (refine wpList_store_row rfl 43 (.tmp 2) (.tmp 16) rfl w.heap.size #[.slice none 0 0, .slice none 0 0] rfl rfl 43 _ Hr0.out Hi9.out rfl H19.out ?_)
    refine bodyPost_ret (v := .tuple #[.agg #[.slice none 0 0, .slice none 0 0], .bool false]) ?_ ?_ ?_
    · exact results_cell_row2 rfl _ _ w.heap.size 43 _ (0, 0) _ _ rfl rfl (setRow_heap _ _ _ _ _ _ Hr0.out) Try.underlying43 rfl (by kernel_rfl)
    · rfl
    · exact bd_no Hf.out (below_setRow HB0.out (Nat.le_refl _) _)
  have h1 : 0 < bs.length := by omega
  have q : ((bs.length : Int) == 0) = false := beq_eq_false_iff_ne.2 (by omega)
  have q2 : ¬ (bs.length : Int) = 0 := by omega
  cases ha : boxesOk bs
  · have Hf : Hid (bdOk bs = false) := Lib.hid (by simp [bdOk, ha])
    have Ha := Lib.hid ha; clear ha
    go_enter Try.func23, Try.ntmps23
    go_wp2_with fail
    generalize (w.alloc (.cells #[.slice none 0 0, .slice none 0 0] 43)) = W0 at *
    refine (validBoxes_is Ha.out (H.out.at hB HB0.out) (Nat.le_refl _)).mono ?_
    rintro e W1 ⟨rfl, g⟩
    have HB1 : Hid (Below w.heap.size w W1) := Lib.hid (HB0.out.trans (g.mono HB0.out.size))
    have Hr1 : Hid (W1.heap[w.heap.size]? = some (.cells #[.slice none 0 0, .slice none 0 0] 43 (0, 0))) := Lib.hid ((g.block _ (by have := Hz0.out; omega)).trans Hr0.out)
    have Hz1 : Hid (w.heap.size < W1.heap.size) := Lib.hid (by have := g.size; have := Hz0.out; omega)
    clear g
    go_wp2_with (refine wpList_store_row rfl 43 (.tmp 2) (.tmp 16) rfl w.heap.size #[.slice none 0 0, .slice none 0 0] rfl rfl 43 _ Hr1.out Hi9.out rfl H19.out ?_)
    refine bodyPost_ret (v := .tuple #[.agg #[.slice none 0 0, .slice none 0 0], .bool false]) ?_ ?_ ?_
    · exact results_cell_row2 rfl _ _ w.heap.size 43 _ (0, 0) _ _ rfl rfl (setRow_heap _ _ _ _ _ _ Hr1.out) Try.underlying43 rfl (by kernel_rfl)
    · rfl
    · exact bd_no Hf.out (below_setRow HB1.out (Nat.le_refl _) _)
  have Ha := Lib.hid ha; clear ha
  go_enter Try.func23, Try.ntmps23
  go_wp2_with fail
  generalize (w.alloc (.cells #[.slice none 0 0, .slice none 0 0] 43)) = W0 at *
  refine (validBoxes_is Ha.out (H.out.at hB HB0.out) (Nat.le_refl _)).mono ?_
  rintro e W1 ⟨rfl, g⟩
  have HB1 : Hid (Below w.heap.size w W1) := Lib.hid (HB0.out.trans (g.mono HB0.out.size))
  have Hr1 : Hid (W1.heap[w.heap.size]? = some (.cells #[.slice none 0 0, .slice none 0 0] 43 (0, 0))) := Lib.hid ((g.block _ (by have := Hz0.out; omega)).trans Hr0.out)
  have Hz1 : Hid (w.heap.size < W1.heap.size) := Lib.hid (by have := g.size; have := Hz0.out; omega)
  clear g
  obtain ⟨b0, o0, u1, u2, rfl, hb0, hq1, hq2, hr1, hr2⟩ := Hx.out 0 h1
  have R1 := Lib.hid (hr1.at hB HB1.out); have R2 := Lib.hid (hr2.at hB HB1.out)
  obtain ⟨E1, e1, rfl, -, -, -⟩ := hr1
  obtain ⟨E2, e2, rfl, -, -, -⟩ := hr2
  have Hlen := Lib.hid (box_lens Ha.out 0 h1)
  have Hbn := Lib.hid (bnd_lens Ha.out)
  have Hbl := Lib.hid (box_lens Ha.out)
  have Hbx : Hid (bxAt bs 0 = bs[0]) := Lib.hid (bxAt_at bs 0 h1)
  have L1 : Hid (bs[0].1.length ≤ 1048576) := Lib.hid (by have := Hlen.out; rw [Hbx.out] at this; omega)
  have L2 : Hid (bs[0].2.length ≤ 1048576) := Lib.hid (by have := Hlen.out; rw [Hbx.out] at this; omega)
  have HS : Hid (∀ W, Below W1.heap.size W1 W → W.cell? ⟨b0, o0, none⟩ = some (.slice E1 bs[0].1.length e1) ∧ W.cell? ⟨b0, o0 + 1, none⟩ = some (.slice E2 bs[0].2.length e2)) := Lib.hid (fun W hW => by
    have hbb : b0 < W1.heap.size := by have := Hz1.out; omega
    have e : ∀ jj : Nat, W.cell? ⟨b0, jj, none⟩ = w.cell? ⟨b0, jj, none⟩ := fun jj => (hW.cell (p := ⟨b0, jj, none⟩) hbb).trans (HB1.out.cell (p := ⟨b0, jj, none⟩) (by simp only; omega))
    rw [e, e]
    exact ⟨by simpa using hq1, by simpa using hq2⟩)
  have Hn0 : Hid (bs[0].1.length = (bxAt bs 0).1.length ∧ bs[0].2.length = (bxAt bs 0).1.length) := Lib.hid (by have := Hlen.out; rw [Hbx.out] at this ⊢; exact ⟨rfl, this.2.1⟩)
  have HL0 : Hid (bndL bs 0 = bs[0].1) := Lib.hid (by rw [bndL, Hbx.out])
  have HH0 : Hid (bndH bs 0 = bs[0].2) := Lib.hid (by rw [bndH, Hbx.out])
  clear hq1 hq2 Hlen Hbx
  generalize bs[0].1 = xl0 at *
  generalize bs[0].2 = xh0 at *
  go_wp2
  have HD : Hid (Below W1.heap.size W1 W1.drew) := Lib.hid (Below.refl _ _).drew
  have HA : Hid (Below W1.heap.size W1 (W1.alloc (.cells #[.slice none 0 0, .slice none 0 0] 43)).drew) := Lib.hid ((Below.refl _ _).alloc (Nat.le_refl _) _).drew
  go_region_held3 (fun W => W.cell? ⟨b0, o0, none⟩ = some (.slice E1 xl0.length e1) ∧ W.cell? ⟨b0, o0 + 1, none⟩ = some (.slice E2 xh0.length e2)) (exact HS.out _ (by first | exact kb2 | exact kb1 | exact HD.out | exact HA.out | exact kb1.alloc kb1.size _ | exact kb2.alloc kb2.size _ | exact (kb2.setCell (by first | exact Nat.le_refl _ | exact kb1.size) _).setCell (by first | exact Nat.le_refl _ | exact kb1.size) _))
    ((first | (go_at_call 37; go_fit (pCl_any (R1.out.at (Nat.le_refl _) HD.out) (Nat.le_refl _) L1.out); rintro e u1 ⟨Aa, ca, rfl, oa, ga⟩; have Oa := Lib.hid oa; clear oa; have kb1 : Below W1.heap.size W1 u1 := HD.out.trans (ga.mono HD.out.size)) | (go_at_call 37; go_fit (pCl_any (R2.out.at (Nat.le_refl _) kb1) (Nat.le_refl _) L2.out); rintro e u2 ⟨Ab, cb, rfl, ob, gb⟩; have Ob := Lib.hid ob; clear ob; have kb2 : Below W1.heap.size W1 u2 := kb1.trans (gb.mono kb1.size); try (have ry := rz.keep gb; have y0 := ry.c0; have y1 := ry.c1; have y2 := ry.f0; have y3 := ry.f1)) | (go_at_call 37; go_fit (pCl_any (R2.out.at (Nat.le_refl _) (kb1.alloc kb1.size _)) (Nat.le_refl _) L2.out); rintro e u2 ⟨Ab, cb, rfl, ob, gb⟩; have Ob := Lib.hid ob; clear ob; have kb2 : Below W1.heap.size W1 u2 := (kb1.alloc kb1.size _).trans (gb.mono (by simp; exact Nat.le_succ_of_le kb1.size)); have ry := newrow gb; have y0 := ry.c0; have y1 := ry.c1; have y2 := ry.f0; have y3 := ry.f1) | (go_at_call 37; go_fit (pCl_any (R1.out.at (Nat.le_refl _) HA.out) (Nat.le_refl _) L1.out); rintro e u1 ⟨Aa, ca, rfl, oa, ga⟩; have Oa := Lib.hid oa; clear oa; have kb1 : Below W1.heap.size W1 u1 := HA.out.trans (ga.mono HA.out.size); have rz := newrowd ga; have z0 := rz.c0; have z1 := rz.c1)))
  all_goals
    first | (have F2 := Lib.hid (bndA kb1 kb2 Oa.out gb Ob.out ry rz); generalize ((u2.setCell ⟨W1.heap.size, 0, none⟩ (.slice Aa xl0.length ca)).setCell ⟨W1.heap.size, 1, none⟩ (.slice Ab xh0.length cb)) = V0 at F2 ⊢; generalize W1.heap.size = g6 at F2 ⊢) | (have F2 := Lib.hid (bndB kb1 kb2 Oa.out gb Ob.out (Nat.le_refl _) ry); generalize ((u2.setCell ⟨u1.heap.size, 0, none⟩ (.slice Aa xl0.length ca)).setCell ⟨u1.heap.size, 1, none⟩ (.slice Ab xh0.length cb)) = V0 at F2 ⊢; generalize u1.heap.size = g6 at F2 ⊢) | (have F2 := Lib.hid (bndC kb1 Oa.out gb Ob.out (Nat.le_refl _)); generalize (u2.alloc (.cells #[.slice Aa xl0.length ca, .slice Ab xh0.length cb] 43)) = V0 at F2 ⊢; generalize u2.heap.size = g6 at F2 ⊢)
    clear kb1 kb2 gb ga
    try clear y0 y1 y2 y3
    try clear z0 z1
    try clear ry
    try clear rz
    try simp only [Exit.then]
    clear Oa Ob
    have HV : Hid (Two V0 W1.heap.size g6 (.slice Aa xl0.length ca) (.slice Ab xh0.length cb) (bndL bs 0) (bndH bs 0)) := Lib.hid (by rw [HL0.out, HH0.out]; exact F2.out.1)
    have HBV := Lib.hid F2.out.2
    clear F2
    go_wp2
    go_loopw [30] (fun i wr => ∃ k : Nat, k ≤ bs.length ∧ i = .int .i64 k ∧ Two wr W1.heap.size g6 (.slice Aa xl0.length ca) (.slice Ab xh0.length cb) (bndL bs k) (bndH bs k) ∧ Below W1.heap.size W1 wr) (fun i _ => bs.length - (intOf i).toNat)
    case atStart => exact ⟨0, Nat.zero_le _, rfl, HV.out, HBV.out⟩
    case round =>
      obtain ⟨k, hk, rfl, htwo, hbel⟩ := hrel
      have HOo : Hid (∀ W, Below W1.heap.size W1 W → ∀ (b j : Nat), b < B → W.cell? ⟨b, j, none⟩ = w.cell? ⟨b, j, none⟩) := Lib.hid (fun W hW b j hb => (hW.cell (p := ⟨b, j, none⟩) (by have := Hz1.out; simp only; omega)).trans (HB1.out.cell (p := ⟨b, j, none⟩) (by simp only; omega)))
      have Htwo := Lib.hid htwo; have Hbel := Lib.hid hbel
      by_cases hlt : k < bs.length
      · obtain ⟨b', o', p1, p2, hA, hb', hq3, hq4, hr3, hr4⟩ := Hx.out k hlt
        have e0 : b0 = b' ∧ o0 = o' := by injection hA with h1; injection h1 with h2 h3; exact ⟨h2, h3⟩
        obtain ⟨rfl, rfl⟩ := e0
        clear hA hb'
        obtain ⟨E3, e3, rfl, -, -, hx3⟩ := hr3
        obtain ⟨E4, e4, rfl, -, -, hx4⟩ := hr4
        have Hx3 := Lib.hid hx3; have Hx4 := Lib.hid hx4
        have Hq3 := Lib.hid hq3; have Hq4 := Lib.hid hq4
        have Hbk : Hid (bs[k].1.length = xl0.length ∧ bs[k].2.length = xl0.length ∧ xh0.length = xl0.length ∧ xl0.length ≤ 3) := Lib.hid (by have h2 := Hbl.out k hlt; have h3 := Hn0.out; have h4 := bxAt_at bs k hlt; rw [h4] at h2; omega)
        have Hck : Hid ((bndL bs k).length = xl0.length ∧ (bndH bs k).length = xl0.length) := Lib.hid (by have h2 := Hbn.out k (by omega) h1; have h3 := Hn0.out; omega)
        have HsL : Hid (bndL bs (k + 1) = List.zipWith min (bndL bs k) bs[k].1) := Lib.hid (by rw [bndL, bxAt_at bs k hlt])
        have HsH : Hid (bndH bs (k + 1) = List.zipWith max (bndH bs k) bs[k].2) := Lib.hid (by rw [bndH, bxAt_at bs k hlt])
        have g1 := (HOo.out wr hbel b0 (o0 + k * 2) hb0).trans hq3
        have g2 := (HOo.out wr hbel b0 (o0 + k * 2 + 1) hb0).trans hq4
        have HrG : Hid ((wr.alloc (.cells #[.slice E3 bs[k].1.length e3, .slice E4 bs[k].2.length e4] 43)).heap[wr.heap.size]? = some (.cells #[.slice E3 bs[k].1.length e3, .slice E4 bs[k].2.length e4] 43 (0, 0))) := Lib.hid (heap_alloc_new wr _)
        have HbG : Hid (Below wr.heap.size wr (wr.alloc (.cells #[.slice E3 bs[k].1.length e3, .slice E4 bs[k].2.length e4] 43))) := Lib.hid ((Below.refl _ wr).alloc (Nat.le_refl _) _)
        have HtG := Lib.hid (htwo.keep HbG.out)
        have HBG : Hid (Below W1.heap.size W1 (wr.alloc (.cells #[.slice E3 bs[k].1.length e3, .slice E4 bs[k].2.length e4] 43))) := Lib.hid (hbel.trans (HbG.out.mono hbel.size))
        have HW1 : Hid (∀ g, (Value.slice Aa xl0.length ca).ownBlock = some g → g < wr.heap.size) := Lib.hid (fun g hg => (htwo.2.1.wi g hg).2)
        have HW2 : Hid (∀ g, (Value.slice Ab xh0.length cb).ownBlock = some g → g < wr.heap.size) := Lib.hid (fun g hg => (htwo.2.2.1.wi g hg).2)
        clear hx3 hx4 hq3 hq4
        generalize bs[k].1 = xl at *
        generalize bs[k].2 = xh at *
        generalize bndL bs k = cl at *
        generalize bndH bs k = ch at *
        clear htwo hbel
        go_wp2
        clear g1 g2
        generalize (wr.alloc (.cells #[.slice E3 xl.length e3, .slice E4 xh.length e4] 43)) = V1 at *
        generalize wr.heap.size = gb at *
        go_loopw [37] (fun j wq => ∃ m : Nat, m ≤ xl0.length ∧ j = .int .i64 m ∧ Two wq W1.heap.size g6 (.slice Aa xl0.length ca) (.slice Ab xh0.length cb) (zwK min cl xl m) (zwK max ch xh m) ∧ Below W1.heap.size W1 wq ∧ wq.heap[gb]? = some (.cells #[.slice E3 xl.length e3, .slice E4 xh.length e4] 43 (0, 0))) (fun j _ => xl0.length - (intOf j).toNat)
        case atStart => exact ⟨0, Nat.zero_le _, rfl, by rw [zwK_zero, zwK_zero]; exact HtG.out, HBG.out, HrG.out⟩
        case round =>
          obtain ⟨m, hm, rfl, htw, hbe, hrg⟩ := hrel
          have Htw := Lib.hid htw; have Hbe := Lib.hid hbe; have Hrg := Lib.hid hrg
          have hm6 : xl0.length ≤ 3 := Hbk.out.2.2.2
          by_cases hml : m < xl0.length
          · have hm1 : m < xl.length := by have := Hbk.out; omega
            have hm2 : m < xh.length := by have := Hbk.out; omega
            have hm3 : m < cl.length := by have := Hck.out; omega
            have hm4 : m < ch.length := by have := Hck.out; omega
            have hm5 : m < xh0.length := by have := Hbk.out; omega
            have hz1 : (zwK min cl xl m).length = cl.length := zwK_len (by have := Hbk.out; have := Hck.out; omega) m (by omega)
            have hz2 : (zwK max ch xh m).length = ch.length := zwK_len (by have := Hbk.out; have := Hck.out; omega) m (by omega)
            obtain ⟨b3, o3, rfl, hb3, hx3, -⟩ := Hx3.out m hm1
            obtain ⟨b4, o4, rfl, hb4, hx4, -⟩ := Hx4.out m hm2
            obtain ⟨a1, rfl, ha1, hlt1, -, hc1, hf1⟩ := oi_at htw.2.1 (k := m) (by omega)
            obtain ⟨a2, rfl, ha2, hlt2, -, hc2, hf2⟩ := oi_at htw.2.2.1 (k := m) (by omega)
            have hne1 : gb ≠ a1 := fun e => by have := HW1.out a1 rfl; omega
            have hne2 : gb ≠ a2 := fun e => by have := HW2.out a2 rfl; omega
            have Hne1 := Lib.hid hne1; have Hne2 := Lib.hid hne2
            rw [zwK_at (by have := Hbk.out; have := Hck.out; omega) m hm3] at hc1
            rw [zwK_at (by have := Hbk.out; have := Hck.out; omega) m hm4] at hc2
            have q5 := htw.c0
            have q6 : wr.cell? ⟨gb, 0, none⟩ = some (.slice (some ⟨b3, o3, none⟩) xl.length e3) := by rw [cell_of_row _ _ _ _ _ _ hrg]; rfl
            have q7 := (HOo.out wr hbe b3 (o3 + m) hb3).trans hx3
            have HS1 := Lib.hid (htw.drew.set0 (k := m) (by omega) (min cl[m] xl[m]))
            have HT1 : Hid ((zwK min cl xl m).set m (min cl[m] xl[m]) = zwK min cl xl (m + 1)) := Lib.hid (zwK_set (by have := Hbk.out; have := Hck.out; omega) m hm3 hm1)
            have HT2 : Hid ((zwK max ch xh m).set m (max ch[m] xh[m]) = zwK max ch xh (m + 1)) := Lib.hid (zwK_set (by have := Hbk.out; have := Hck.out; omega) m hm4 hm2)
            have Hx4m := Lib.hid hx4
            have HX2 : Hid (∀ hh : m < (zwK max ch xh m).length, (zwK max ch xh m)[m]'hh = ch[m]) := Lib.hid (fun hh => zwK_at (by have := Hbk.out; have := Hck.out; omega) m hm4 hh)
            have Hz2 := Lib.hid hz2
            clear htw hbe hrg hc2 hf2 hz1 hz2 hx3 hx4 hne1 hne2
            generalize hL : min cl[m] xl[m] = lo at *
            generalize hH : max ch[m] xh[m] = hi at *
            have mn1 : (if xl[m] < cl[m] then xl[m] else cl[m]) = lo := by rw [← hL]; split <;> omega
            have mx1 : (if ch[m] < xh[m] then xh[m] else ch[m]) = hi := by rw [← hH]; split <;> omega
            have mx2 : (if xh[m] > ch[m] then xh[m] else ch[m]) = hi := by rw [← hH]; split <;> omega
            have HLo := Lib.hid hL; have HHi := Lib.hid hH; clear hL hH
            generalize cl[m] = x1 at *
            generalize xl[m] = y1 at *
            generalize ch[m] = x2 at *
            generalize xh[m] = y2 at *
            go_wp2
            refine wp_region_still_tail 15 (by kernel_rfl) (by kernel_rfl) ?_
            simp only [List.take_succ_cons, List.take_zero, List.drop_succ_cons, List.drop_zero]
            repeat still_step
            refine wpStill_nil ?_
            clear q6 q7 q5
            have HBe2 : Hid (Below W1.heap.size W1 (wr.drew.setCell ⟨a1, m, none⟩ (.int .i64 lo))) := Lib.hid (Hbe.out.drew.trans HS1.out.2)
            have Hrg2 : Hid ((wr.drew.setCell ⟨a1, m, none⟩ (.int .i64 lo)).heap[gb]? = some (.cells #[.slice (some ⟨b3, o3, none⟩) xl.length e3, .slice (some ⟨b4, o4, none⟩) xh.length e4] 43 (0, 0))) := Lib.hid ((heap_setCell_other _ ⟨a1, m, none⟩ gb _ Hne1.out).trans Hrg.out)
            have hc1d : wr.drew.cell? ⟨a1, m, none⟩ = some (.int .i64 x1) := hc1
            have hf1d : wr.drew.frozen? ⟨a1, m, none⟩ = false := hf1
            clear hc1 hf1
            change wpList _ _ _ _ _ wr.drew
            generalize wr.drew = wd at *
            go_wp2
            clear hc1d hf1d
            generalize (wd.setCell ⟨a1, m, none⟩ (.int .i64 lo)) = W2 at *
            have q5 := HS1.out.1.c1
            have q6 : W2.cell? ⟨gb, 1, none⟩ = some (.slice (some ⟨b4, o4, none⟩) xh.length e4) := by rw [cell_of_row _ _ _ _ _ _ Hrg2.out]; rfl
            have q7 := (HOo.out W2 HBe2.out b4 (o4 + m) hb4).trans Hx4m.out
            obtain ⟨a3, e5, -, -, -, hc2z, hf2⟩ := oi_at HS1.out.1.2.2.1 (k := m) (by rw [Hz2.out]; exact hm4)
            obtain rfl : a2 = a3 := by injection e5 with h; injection h
            have hc2 : W2.cell? ⟨a2, m, none⟩ = some (.int .i64 x2) := by rw [hc2z]; exact congrArg (fun z => some (Value.int .i64 z)) (HX2.out _)
            have HS2 := Lib.hid (HS1.out.1.drew.set1 (k := m) (by rw [Hz2.out]; exact hm4) hi)
            have HBe3 : Hid (Below W1.heap.size W1 (W2.drew.setCell ⟨a2, m, none⟩ (.int .i64 hi))) := Lib.hid (HBe2.out.drew.trans HS2.out.2)
            have Hrg3 : Hid ((W2.drew.setCell ⟨a2, m, none⟩ (.int .i64 hi)).heap[gb]? = some (.cells #[.slice (some ⟨b3, o3, none⟩) xl.length e3, .slice (some ⟨b4, o4, none⟩) xh.length e4] 43 (0, 0))) := Lib.hid ((heap_setCell_other _ ⟨a2, m, none⟩ gb _ Hne2.out).trans Hrg2.out)
            clear e5 hc2z
            refine wp_region_still_tail 15 (by kernel_rfl) (by kernel_rfl) ?_
            simp only [List.take_succ_cons, List.take_zero, List.drop_succ_cons, List.drop_zero]
            repeat still_step
            refine wpStill_nil ?_
            clear q5 q6 q7
            have hc2d : W2.drew.cell? ⟨a2, m, none⟩ = some (.int .i64 x2) := hc2
            have hf2d : W2.drew.frozen? ⟨a2, m, none⟩ = false := hf2
            clear hc2 hf2
            change wpList _ _ _ _ _ W2.drew
            generalize W2.drew = we at *
            go_wp2
            clear hc2d hf2d
            generalize (we.setCell ⟨a2, m, none⟩ (.int .i64 hi)) = W3 at *
            go_roundw
            case rel => exact ⟨m + 1, by omega, by go_num, HT1.out ▸ HT2.out ▸ HS2.out.1, HBe3.out, Hrg3.out⟩
            case measure => simp [intOf]; omega
          · obtain rfl : m = xl0.length := by omega
            have hne : ¬ xl0.length < xl.length := by have := Hbk.out; omega
            have HE : Hid (Two wr W1.heap.size g6 (.slice Aa xl0.length ca) (.slice Ab xh0.length cb) (bndL bs (k + 1)) (bndH bs (k + 1))) := Lib.hid (by
              have z1 := zwK_end (f := min) (xs := cl) (ys := xl) (by have := Hbk.out; have := Hck.out; omega)
              have z2 := zwK_end (f := max) (xs := ch) (ys := xh) (by have := Hbk.out; have := Hck.out; omega)
              rw [Hck.out.1] at z1
              rw [Hck.out.2] at z2
              rw [HsL.out, HsH.out, ← z1, ← z2]
              exact Htw.out)
            clear htw hbe hrg
            go_wp2
            go_roundw
            case rel => exact ⟨k + 1, by omega, by go_num, HE.out, Hbe.out⟩
            case measure => simp [intOf]; omega

      · obtain rfl : k = bs.length := by omega
        have HrW : Hid (wr.heap[w.heap.size]? = some (.cells #[.slice none 0 0, .slice none 0 0] 43 (0, 0))) := Lib.hid ((hbel.block _ Hz1.out).trans Hr1.out)
        have HBW : Hid (Below w.heap.size w wr) := Lib.hid (HB1.out.trans (hbel.mono HB1.out.size))
        have Hf : Hid (bdOk bs = true) := Lib.hid (by simp [bdOk, Ha.out]; omega)
        have H29 : Hid ((#[.slice Aa xl0.length ca, .slice Ab xh0.length cb] : Array Value).all (·.oneCell') = true) := Lib.hid (by simp [Value.oneCell'])
        clear htwo hbel
        go_wp2_with (first | (refine wpList_load_row rfl 43 (.tmp 4) rfl _ rfl 43 _ (0, 0) _ Htwo.out.1 Try.underlying43 rfl (by kernel_rfl) ?_) | (refine wpList_store_row rfl 43 (.tmp 2) (.tmp 72) rfl w.heap.size #[.slice Aa xl0.length ca, .slice Ab xh0.length cb] rfl rfl 43 _ HrW.out (by kernel_rfl) rfl H29.out ?_))
        refine bodyPost_ret (v := .tuple #[.agg #[.slice Aa xl0.length ca, .slice Ab xh0.length cb], .bool true]) ?_ ?_ ?_
        · exact results_cell_row2 rfl _ _ w.heap.size 43 _ (0, 0) _ _ rfl rfl (setRow_heap _ _ _ _ _ _ HrW.out) Try.underlying43 rfl (by kernel_rfl)
        · rfl
        · exact bd_yes Hf.out Htwo.out Hz1.out (Nat.le_refl _) HBW.out

end Go.Proofs.Ytbghekgghiamcaa
