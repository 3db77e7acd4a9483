/- Contract of the model's function that cuts two boxes. No statement is proved here. -/
import Derived.Test.YtaokifppaagalaaCut
namespace Go.Proofs.Ytaokifppaagalaa
open Go.RowKit
set_option linter.unusedVariables false
set_option maxHeartbeats 4000000 in
set_option maxRecDepth 100000 in
theorem specCut_go {B : Nat} {w : World} {v1 v2 v3 v4 : Value} {xs ms ys ns : List Int} (h1 : Ri B w v1 xs) (h2 : Ri B w v2 ms) (h3 : Ri B w v3 ys) (h4 : Ri B w v4 ns) (hB : B ≤ w.heap.size) (ha : boxOk xs ms = true) (hb : boxOk ys ns = true) (hn : xs.length = ys.length) :
    Calls Try.prog 51 #[.agg #[v1, v2], .agg #[v3, v4]] w (AnsAt (cutLo xs ms ys ns) (cutHi xs ms ys ns) (.bool (cutOk xs ms ys ns)) w) := by
  have H1 := Lib.hid h1; have H2 := Lib.hid h2; have H3 := Lib.hid h3; have H4 := Lib.hid h4
  obtain ⟨A1, c1, rfl, hl1, hm1, hx1⟩ := h1
  obtain ⟨A2, c2, rfl, hl2, hm2, hx2⟩ := h2
  obtain ⟨A3, c3, rfl, hl3, hm3, hx3⟩ := h3
  obtain ⟨A4, c4, rfl, hl4, hm4, hx4⟩ := h4
  have Hx1 := Lib.hid hx1; have Hx2 := Lib.hid hx2; have Hx3 := Lib.hid hx3; have Hx4 := Lib.hid hx4; clear hx1 hx2 hx3 hx4
  unfold maxLen at hm1 hm2 hm3 hm4
  generalize hr : cutOk xs ms ys ns = r
  have HL : Hid (cutLo xs ms ys ns = if r then cutL xs ys else []) := Lib.hid (by unfold cutLo; rw [hr])
  have HM : Hid (cutHi xs ms ys ns = if r then cutM ms ns else []) := Lib.hid (by unfold cutHi; rw [hr])
  generalize cutLo xs ms ys ns = Lo at *
  generalize cutHi xs ms ys ns = Hi at *
  have Hr := Lib.hid hr; clear hr
  have HB0 : Hid (Below w.heap.size w (((w.alloc (.cells #[.slice A1 xs.length c1, .slice A2 ms.length c2] 55)).alloc (.cells #[.slice A3 ys.length c3, .slice A4 ns.length c4] 55)).alloc (.cells #[.slice none 0 0, .slice none 0 0] 55))) := Lib.hid ((((Below.refl _ w).alloc (Nat.le_refl _) _).alloc (by simp) _).alloc (by simp; omega) _)
  have Hz0 : Hid ((((w.alloc (.cells #[.slice A1 xs.length c1, .slice A2 ms.length c2] 55)).alloc (.cells #[.slice A3 ys.length c3, .slice A4 ns.length c4] 55)).alloc (.cells #[.slice none 0 0, .slice none 0 0] 55)).heap.size = w.heap.size + 3) := Lib.hid (by simp)
  have Hr0 : Hid ((((w.alloc (.cells #[.slice A1 xs.length c1, .slice A2 ms.length c2] 55)).alloc (.cells #[.slice A3 ys.length c3, .slice A4 ns.length c4] 55)).alloc (.cells #[.slice none 0 0, .slice none 0 0] 55)).heap[w.heap.size + 2]? = some (.cells #[.slice none 0 0, .slice none 0 0] 55 (0, 0))) := Lib.hid (Tri.start w 55 55 #[.slice A1 xs.length c1, .slice A2 ms.length c2] #[.slice A3 ys.length c3, .slice A4 ns.length c4] #[.slice none 0 0, .slice none 0 0]).2.2.1
  have Ha0 : Hid ((((w.alloc (.cells #[.slice A1 xs.length c1, .slice A2 ms.length c2] 55)).alloc (.cells #[.slice A3 ys.length c3, .slice A4 ns.length c4] 55)).alloc (.cells #[.slice none 0 0, .slice none 0 0] 55)).heap[w.heap.size]? = some (.cells #[.slice A1 xs.length c1, .slice A2 ms.length c2] 55 (0, 0))) := Lib.hid (Tri.start w 55 55 #[.slice A1 xs.length c1, .slice A2 ms.length c2] #[.slice A3 ys.length c3, .slice A4 ns.length c4] #[.slice none 0 0, .slice none 0 0]).1
  have Hb0 : Hid ((((w.alloc (.cells #[.slice A1 xs.length c1, .slice A2 ms.length c2] 55)).alloc (.cells #[.slice A3 ys.length c3, .slice A4 ns.length c4] 55)).alloc (.cells #[.slice none 0 0, .slice none 0 0] 55)).heap[w.heap.size + 1]? = some (.cells #[.slice A3 ys.length c3, .slice A4 ns.length c4] 55 (0, 0))) := Lib.hid (Tri.start w 55 55 #[.slice A1 xs.length c1, .slice A2 ms.length c2] #[.slice A3 ys.length c3, .slice A4 ns.length c4] #[.slice none 0 0, .slice none 0 0]).2.1
  have Hi9 : Hid ((Try.prog.info? 55).map (·.size) = some (#[.slice none 0 0, .slice none 0 0] : Array Value).size) := Lib.hid (by kernel_rfl)
  have H19 : Hid ((#[.slice none 0 0, .slice none 0 0] : Array Value).all (·.oneCell') = true) := Lib.hid (by simp [Value.oneCell'])
  have Ho1 := Lib.hid ha; clear ha
  have Ho2 := Lib.hid hb; clear hb
  have hn' : (xs.length : Int) = (ys.length : Int) := by omega
  have Hn := Lib.hid hn; clear hn
  go_enter Try.func51, Try.ntmps51
  go_wp2_with fail
  generalize (((w.alloc (.cells #[.slice A1 xs.length c1, .slice A2 ms.length c2] 55)).alloc (.cells #[.slice A3 ys.length c3, .slice A4 ns.length c4] 55)).alloc (.cells #[.slice none 0 0, .slice none 0 0] 55)) = W0 at *
  refine (l07Box_is Ho1.out (H1.out.at hB HB0.out) (H2.out.at hB HB0.out) (Nat.le_refl _)).mono ?_
  rintro e W1 ⟨rfl, g⟩
  have HB1 : Hid (Below w.heap.size w W1) := Lib.hid (HB0.out.trans (g.mono HB0.out.size))
  have Hz1 : Hid (w.heap.size + 3 ≤ W1.heap.size) := Lib.hid (by have := Hz0.out; have := g.size; omega)
  have Hr1 : Hid (W1.heap[w.heap.size + 2]? = some (.cells #[.slice none 0 0, .slice none 0 0] 55 (0, 0))) := Lib.hid ((g.block _ (by have := Hz0.out; omega)).trans Hr0.out)
  have Ha1 : Hid (W1.heap[w.heap.size]? = some (.cells #[.slice A1 xs.length c1, .slice A2 ms.length c2] 55 (0, 0))) := Lib.hid ((g.block _ (by have := Hz0.out; omega)).trans Ha0.out)
  have Hb1 : Hid (W1.heap[w.heap.size + 1]? = some (.cells #[.slice A3 ys.length c3, .slice A4 ns.length c4] 55 (0, 0))) := Lib.hid ((g.block _ (by have := Hz0.out; omega)).trans Hb0.out)
  clear g
  have q0 : W1.cell? ⟨w.heap.size, 0, none⟩ = some (.slice A1 xs.length c1) := by rw [cell_of_row _ _ _ _ _ _ Ha1.out]; rfl
  have q1 : W1.cell? ⟨w.heap.size, 1, none⟩ = some (.slice A2 ms.length c2) := by rw [cell_of_row _ _ _ _ _ _ Ha1.out]; rfl
  have q2 : W1.cell? ⟨w.heap.size + 1, 0, none⟩ = some (.slice A3 ys.length c3) := by rw [cell_of_row _ _ _ _ _ _ Hb1.out]; rfl
  have q3 : W1.cell? ⟨w.heap.size + 1, 1, none⟩ = some (.slice A4 ns.length c4) := by rw [cell_of_row _ _ _ _ _ _ Hb1.out]; rfl
  go_wp2_with fail
  clear q0 q1 q2 q3
  refine (l07Box_is Ho2.out (H3.out.at hB HB1.out) (H4.out.at hB HB1.out) (Nat.le_refl _)).mono ?_
  rintro e W2 ⟨rfl, g⟩
  have HB2 : Hid (Below w.heap.size w W2) := Lib.hid (HB1.out.trans (g.mono HB1.out.size))
  have Hz2 : Hid (w.heap.size + 3 ≤ W2.heap.size) := Lib.hid (by have := Hz1.out; have := g.size; omega)
  have Hr2 : Hid (W2.heap[w.heap.size + 2]? = some (.cells #[.slice none 0 0, .slice none 0 0] 55 (0, 0))) := Lib.hid ((g.block _ (by have := Hz1.out; omega)).trans Hr1.out)
  have Ha2 : Hid (W2.heap[w.heap.size]? = some (.cells #[.slice A1 xs.length c1, .slice A2 ms.length c2] 55 (0, 0))) := Lib.hid ((g.block _ (by have := Hz1.out; omega)).trans Ha1.out)
  have Hb2 : Hid (W2.heap[w.heap.size + 1]? = some (.cells #[.slice A3 ys.length c3, .slice A4 ns.length c4] 55 (0, 0))) := Lib.hid ((g.block _ (by have := Hz1.out; omega)).trans Hb1.out)
  clear g
  have q0 : W2.cell? ⟨w.heap.size, 0, none⟩ = some (.slice A1 xs.length c1) := by rw [cell_of_row _ _ _ _ _ _ Ha2.out]; rfl
  have q1 : W2.cell? ⟨w.heap.size, 1, none⟩ = some (.slice A2 ms.length c2) := by rw [cell_of_row _ _ _ _ _ _ Ha2.out]; rfl
  have q2 : W2.cell? ⟨w.heap.size + 1, 0, none⟩ = some (.slice A3 ys.length c3) := by rw [cell_of_row _ _ _ _ _ _ Hb2.out]; rfl
  have q3 : W2.cell? ⟨w.heap.size + 1, 1, none⟩ = some (.slice A4 ns.length c4) := by rw [cell_of_row _ _ _ _ _ _ Hb2.out]; rfl
  go_wp2_with fail
  clear q0 q1 q2 q3 hn'
  have HG : Hid (∀ b o : Nat, b < w.heap.size → W2.cell? ⟨b, o, none⟩ = w.cell? ⟨b, o, none⟩) := Lib.hid (fun b o h => HB2.out.cell (p := ⟨b, o, none⟩) h)
  have HA0 : Hid (Acc (W2.alloc (.cells #[.slice none 0 0, .slice none 0 0] 55)) W2.heap.size 55 (.slice none 0 0) (.slice none 0 0) ((cutL xs ys).take 0) ((cutM ms ns).take 0)) := Lib.hid (Acc.start W2 55)
  have HB3 : Hid (Below W2.heap.size W2 (W2.alloc (.cells #[.slice none 0 0, .slice none 0 0] 55))) := Lib.hid ((Below.refl _ _).alloc (Nat.le_refl _) _)
  have HlL := Lib.hid (cutL_len Hn.out)
  have Hn2 : Hid (ms.length = ns.length) := Lib.hid (by have h1 := (boxOk_iff Ho1.out).2.1; have h2 := (boxOk_iff Ho2.out).2.1; have := Hn.out; omega)
  have HlM := Lib.hid (cutM_len Hn2.out)
  have Hle3 : Hid (xs.length ≤ 3 ∧ ms.length = xs.length) := Lib.hid ⟨(boxOk_iff Ho1.out).1, (boxOk_iff Ho1.out).2.1⟩
  go_loopw [7] (fun i wr => ∃ (k : Nat) (u1 u2 : Value), k ≤ xs.length ∧ i = .int .i64 k ∧ Acc wr W2.heap.size 55 u1 u2 ((cutL xs ys).take k) ((cutM ms ns).take k) ∧ Below W2.heap.size W2 wr ∧ allTo (cutP xs ms ys ns) k = true) (fun i _ => xs.length - (intOf i).toNat)
  case atStart => exact ⟨0, _, _, Nat.zero_le _, rfl, HA0.out, HB3.out, allTo_zero _⟩
  case round =>
    obtain ⟨k, u1, u2, hk, rfl, hacc, hbel, hall⟩ := hrel
    have Hall := Lib.hid hall; have Hbel := Lib.hid hbel; have Hacc := Lib.hid hacc
    have ez : ∀ (b j : Nat) (v : Value), W2.cell? ⟨b, j, none⟩ = some v → wr.cell? ⟨b, j, none⟩ = some v := fun b j v h => (hbel.cell (p := ⟨b, j, none⟩) (World.block_lt_of_cell? W2 _ h)).trans h
    have q0 : wr.cell? ⟨w.heap.size, 0, none⟩ = some (.slice A1 xs.length c1) := ez _ _ _ (by rw [cell_of_row _ _ _ _ _ _ Ha2.out]; rfl)
    have q1 : wr.cell? ⟨w.heap.size, 1, none⟩ = some (.slice A2 ms.length c2) := ez _ _ _ (by rw [cell_of_row _ _ _ _ _ _ Ha2.out]; rfl)
    have q2 : wr.cell? ⟨w.heap.size + 1, 0, none⟩ = some (.slice A3 ys.length c3) := ez _ _ _ (by rw [cell_of_row _ _ _ _ _ _ Hb2.out]; rfl)
    have q3 : wr.cell? ⟨w.heap.size + 1, 1, none⟩ = some (.slice A4 ns.length c4) := ez _ _ _ (by rw [cell_of_row _ _ _ _ _ _ Hb2.out]; rfl)
    have q5 := hacc.c0
    have q6 := hacc.c1
    have Hsz : Hid (W2.heap.size < wr.heap.size) := Lib.hid hacc.lt
    have HrW : Hid (wr.heap[w.heap.size + 2]? = some (.cells #[.slice none 0 0, .slice none 0 0] 55 (0, 0))) := Lib.hid ((hbel.block _ (by have := Hz2.out; omega)).trans Hr2.out)
    have HBW : Hid (Below w.heap.size w wr) := Lib.hid (HB2.out.trans (hbel.mono HB2.out.size))
    by_cases hlt : k < xs.length
    · have hlt2 : k < ms.length := by have := Hle3.out; omega
      have hlt3 : k < ys.length := by have := Hn.out; omega
      have hlt4 : k < ns.length := by have := Hn2.out; omega
      obtain ⟨b1, o1, rfl, hb1, hx1, hI1⟩ := Hx1.out k hlt
      obtain ⟨b2, o2, rfl, hb2, hx2, hI2⟩ := Hx2.out k hlt2
      obtain ⟨b3, o3, rfl, hb3, hx3, hI3⟩ := Hx3.out k hlt3
      obtain ⟨b4, o4, rfl, hb4, hx4, hI4⟩ := Hx4.out k hlt4
      have g1 := ez _ _ _ ((HG.out b1 (o1 + k) (by omega)).trans hx1)
      have g2 := ez _ _ _ ((HG.out b2 (o2 + k) (by omega)).trans hx2)
      have g3 := ez _ _ _ ((HG.out b3 (o3 + k) (by omega)).trans hx3)
      have g4 := ez _ _ _ ((HG.out b4 (o4 + k) (by omega)).trans hx4)
      have hkL : k < (cutL xs ys).length := by rw [HlL.out]; exact hlt
      have hkM : k < (cutM ms ns).length := by rw [HlM.out]; exact hlt2
      have HeL := Lib.hid (cutL_at xs ys k hkL hlt hlt3)
      have HeM := Lib.hid (cutM_at ms ns k hkM hlt2 hlt4)
      have HtL := Lib.hid (take_push (cutL xs ys) k hkL)
      have HtM := Lib.hid (take_push (cutM ms ns) k hkM)
      have Hnl : Hid (((cutL xs ys).take k).length = k) := Lib.hid (by rw [List.length_take]; omega)
      have Hnm : Hid (((cutM ms ns).take k).length = k) := Lib.hid (by rw [List.length_take]; omega)
      have Hp := Lib.hid (cutP_at (xs := xs) (ms := ms) (ys := ys) (ns := ns) k hkL hkM)
      have Hk2 := Lib.hid (allTo_succ (cutP xs ms ys ns) k)
      have Hbad : Hid (cutP xs ms ys ns k = false → r = false) := Lib.hid (fun h => by rw [← Hr.out]; exact cutOk_bad hlt h)
      clear hx1 hx2 hx3 hx4 hI1 hI2 hI3 hI4 hbel hacc ez hb1 hb2 hb3 hb4
      generalize (cutL xs ys)[k] = lo at *
      generalize (cutM ms ns)[k] = hi at *
      generalize xs[k] = x at *
      generalize ms[k] = m at *
      generalize ys[k] = y at *
      generalize ns[k] = n at *
      generalize hLk : (cutL xs ys).take k = Lk at *
      generalize hMk : (cutM ms ns).take k = Mk at *
      have HLk := Lib.hid hLk; have HMk := Lib.hid hMk; clear hLk hMk
      by_cases hlh : hi ≤ lo
      · have Hf := Lib.hid (Hbad.out (by rw [Hp.out]; simpa using hlh))
        clear Hbad hkL hkM
        go_wp2
        go_quiet ((go_at_call 99; exact Quiet.qs (l00Max_is HeL.out.symm _)))
        go_wp2
        go_quiet ((go_at_call 100; exact Quiet.qs2 (l00Min_is HeM.out.symm _)))
        go_wp2_with (refine wpList_store_row rfl 55 (.tmp 4) (.tmp 61) rfl (w.heap.size + 2) #[.slice none 0 0, .slice none 0 0] rfl rfl 55 _ HrW.out Hi9.out rfl H19.out ?_)
        refine bodyPost_ret (v := .tuple #[.agg #[.slice none 0 0, .slice none 0 0], .bool false]) ?_ ?_ ?_
        · exact results_cell_row2 rfl _ _ (w.heap.size + 2) 55 _ (0, 0) _ _ rfl rfl (setRow_heap _ _ _ _ _ _ HrW.out) Try.underlying55 rfl (by kernel_rfl)
        · rfl
        · rw [HL.out, HM.out, Hf.out]; exact ans_nil _ (below_setRow (below_draws HBW.out _) (by omega) _)
      · have Hall2 : Hid (allTo (cutP xs ms ys ns) (k + 1) = true) := Lib.hid (by rw [Hk2.out, Hall.out, Hp.out]; simp; omega)
        have q4 := hlh
        clear Hbad hkL hkM
        go_wp2
        go_quiet ((go_at_call 99; exact Quiet.qs (l00Max_is HeL.out.symm _)))
        go_wp2
        go_quiet ((go_at_call 100; exact Quiet.qs2 (l00Min_is HeM.out.symm _)))
        go_wp2_with (first | (at_builtin; refine wpList_push rfl (.tmp 63) (.tmp 65) rfl rfl rfl rfl Hacc.out.drewN.2.1 Hsz.out (by have := Hnl.out; have := Hle3.out.1; omega) ?_; intro h1 cap1 w1 ow1 gr1 at1 lt1; obtain ⟨m1, m2⟩ := (Hacc.out.drewN).mid0 gr1; have HP1 := Lib.hid ((Hacc.out.drewN).push0 ow1 gr1 at1); have m3 := HP1.out.1.c1; have HZ1 := Lib.hid HP1.out.1.lt; clear ow1 gr1 at1) | (at_builtin; refine wpList_push rfl (.tmp 69) (.tmp 71) rfl rfl rfl (by first | rfl | simp [World.setCell]) HP1.out.1.2.2.1 HZ1.out (by have := Hnm.out; have := Hle3.out.1; omega) ?_; intro h2 cap2 w2 ow2 gr2 at2 lt2; clear m1 m2 m3; obtain ⟨m4, m5⟩ := HP1.out.1.mid1 gr2; have HP2 := Lib.hid (HP1.out.1.push1 ow2 gr2 at2); clear ow2 gr2 at2))
        go_roundw
        case rel => exact ⟨k + 1, _, _, by omega, by go_num, HtL.out ▸ HtM.out ▸ HP2.out.1, Hbel.out.trans ((below_draws (Below.refl _ _) _).trans (HP1.out.2.trans HP2.out.2)), Hall2.out⟩
        case measure => simp [intOf]; omega
    · obtain rfl : k = xs.length := by omega
      have Hf : Hid (r = true) := Lib.hid (by rw [← Hr.out]; exact cutOk_end Ho1.out Ho2.out Hn.out Hall.out)
      have HT : Hid (Acc wr W2.heap.size 55 u1 u2 (cutL xs ys) (cutM ms ns)) := Lib.hid (by
        have h1 : (cutL xs ys).take xs.length = cutL xs ys := List.take_of_length_le (by rw [HlL.out]; exact Nat.le_refl _)
        have h2 : (cutM ms ns).take xs.length = cutM ms ns := List.take_of_length_le (by rw [HlM.out, Hle3.out.2]; exact Nat.le_refl _)
        have h3 := Hacc.out
        rw [h1, h2] at h3
        exact h3)
      have H29 : Hid ((#[u1, u2] : Array Value).all (·.oneCell') = true) := Lib.hid (by
        obtain ⟨E1, e1, h1⟩ := HT.out.2.1.sl
        obtain ⟨E2, e2, h2⟩ := HT.out.2.2.1.sl
        rw [h1, h2]; simp [Value.oneCell'])
      clear hbel hacc ez
      go_wp2_with (first | (refine wpList_load_row rfl 55 (.tmp 6) rfl _ rfl 55 _ (0, 0) _ HT.out.1 Try.underlying55 rfl (by kernel_rfl) ?_) | (refine wpList_store_row rfl 55 (.tmp 4) (.tmp 74) rfl (w.heap.size + 2) #[u1, u2] rfl rfl 55 _ HrW.out (by kernel_rfl) rfl H29.out ?_))
      refine bodyPost_ret (v := .tuple #[.agg #[u1, u2], .bool true]) ?_ ?_ ?_
      · exact results_cell_row2 rfl _ _ (w.heap.size + 2) 55 _ (0, 0) _ _ rfl rfl (setRow_heap _ _ _ _ _ _ HrW.out) Try.underlying55 rfl (by kernel_rfl)
      · rfl
      · rw [HL.out, HM.out, Hf.out]; exact HT.out.ans (Below.refl _ _) (by omega) (by have := Hz2.out; omega) HBW.out
theorem specCut_any {B : Nat} {w : World} {v1 v2 v3 v4 : Value} {xs ms ys ns : List Int} (h1 : Ri B w v1 xs) (h2 : Ri B w v2 ms) (h3 : Ri B w v3 ys) (h4 : Ri B w v4 ns) (hB : B ≤ w.heap.size) :
    Calls Try.prog 51 #[.agg #[v1, v2], .agg #[v3, v4]] w (AnsAt (cutLo xs ms ys ns) (cutHi xs ms ys ns) (.bool (cutOk xs ms ys ns)) w) := by
  by_cases hno : boxOk xs ms = false ∨ boxOk ys ns = false ∨ ¬ xs.length = ys.length
  · exact specCut_no h1 h2 h3 h4 hB hno
  · simp only [not_or, Bool.not_eq_false, Classical.not_not] at hno
    exact specCut_go h1 h2 h3 h4 hB hno.1 hno.2.1 hno.2.2
end Go.Proofs.Ytaokifppaagalaa
