/- Contract of the program's check of a selection for dimensions. No statement is proved here. -/
import Derived.Test.YtkgkhdnpgcgoeaaVaM
namespace Go.Proofs.Ytkgkhdnpgcgoeaa
open Go.RowKit
set_option linter.unusedVariables false
theorem withinAll (w : World) (u : Value) : Calls Try.prog 108 #[.agg #[], u] w (GivesB (.bool true) w) := by
  have Hb0 : Hid (Below w.heap.size w (w.alloc (.cells #[] 80))) := Lib.hid ((Below.refl _ w).alloc (Nat.le_refl _) _)
  go_enter Try.func108, Try.ntmps108
  go_wp2
  go_ret
  exact ⟨rfl, Hb0.out⟩
theorem withinNone (w : World) (u : Value) : Calls Try.prog 115 #[.agg #[], u] w (GivesB (.bool true) w) := by
  have Hb0 : Hid (Below w.heap.size w (w.alloc (.cells #[] 81))) := Lib.hid ((Below.refl _ w).alloc (Nat.le_refl _) _)
  go_enter Try.func115, Try.ntmps115
  go_wp2
  go_ret
  exact ⟨rfl, Hb0.out⟩
set_option maxHeartbeats 4000000 in
set_option maxRecDepth 100000 in
theorem slabWithin_any {B : Nat} {w : World} {u : Value} {ds S T C K : List Int} {b : Nat} (h0 : Ri B w u ds) (hB : B ≤ w.heap.size) (hs : SlabAt w b S T C K S.length) (hb : b < w.heap.size) (hok : slabOk S T C K = true) :
    Calls Try.prog 118 #[.slice (some ⟨b, 0, none⟩) S.length S.length, u] w (GivesB (.bool (slabIn ds S T C K)) w) := by
  obtain ⟨A0, c0, rfl, hl0, hm0, hx0⟩ := h0
  have Hx0 := Lib.hid hx0; have Hs := Lib.hid hs; have Hok := Lib.hid hok
  clear hx0 hs
  unfold maxLen at hm0
  obtain ⟨l1, l2, l3, l4⟩ := slab_lens hok
  have L2 := Lib.hid l2; have L3 := Lib.hid l3; have L4 := Lib.hid l4
  clear l2 l3 l4 hok
  generalize hr : slabIn ds S T C K = r
  have Hr := Lib.hid hr; clear hr
  by_cases hl : S.length = ds.length
  rotate_left
  · have Hf : Hid (r = false) := Lib.hid (by rw [← Hr.out]; exact slabIn_len hl)
    have q1 : ((S.length : Int) == (ds.length : Int)) = false := by simp; omega
    have q2 : ((S.length : Int) != (ds.length : Int)) = true := by simp; omega
    have q3 : ¬ ((S.length : Int) = (ds.length : Int)) := by omega
    clear hl
    go_enter Try.func118, Try.ntmps118
    go_wp2
    go_ret
    exact ⟨by rw [Hf.out]; rfl, Below.refl _ _⟩
  have Hl := Lib.hid hl
  have q1 : (S.length : Int) = (ds.length : Int) := by omega
  clear hl
  go_enter Try.func118, Try.ntmps118
  go_wp2
  clear q1
  go_loopw [14] (fun i wr => ∃ j : Nat, j ≤ ds.length ∧ i = .int .i64 j ∧ Below w.heap.size w wr ∧ allTo (endAt ds S T C K) j = true) (fun i _ => ds.length - (intOf i).toNat)
  case atStart => exact ⟨0, Nat.zero_le _, rfl, Below.refl _ _, allTo_zero _⟩
  case round =>
    obtain ⟨j, hj, rfl, hbel, hall⟩ := hrel
    have Hall := Lib.hid hall; have Hbel := Lib.hid hbel
    clear hall
    by_cases hlt0 : j < ds.length
    · have hlt : j < S.length := by have := Hl.out; omega
      have hlt2 : j < T.length := by have := L2.out; omega
      have hlt3 : j < C.length := by have := L3.out; omega
      have hlt4 : j < K.length := by have := L4.out; omega
      obtain ⟨b0, o0, rfl, hb0, hq0, hI0⟩ := Hx0.out j hlt0
      have g0 : wr.cell? ⟨b0, o0 + j, none⟩ = some (.int .i64 ds[j]) := by rw [hbel.cell (p := ⟨b0, o0 + j, none⟩) (show b0 < _ from by omega)]; exact hq0
      have Hp := Lib.hid (endAt_at (ds := ds) (S := S) (T := T) (C := C) (K := K) hlt0 hlt hlt2 hlt3 hlt4)
      have Hk2 := Lib.hid (allTo_succ (endAt ds S T C K) j)
      have Hbad : Hid (endAt ds S T C K j = false → r = false) := Lib.hid (fun h => by rw [← Hr.out]; exact slabIn_bad hlt0 h)
      obtain ⟨p1, p2, p3, p4, p5, p6, p7, -⟩ := axOk_iff.1 (slab_ax Hok.out hlt hlt2 hlt3 hlt4)
      have hbs := hbel.size
      have z0 : b0 < wr.heap.size := by omega
      have Hrg : Hid (wr.rangeAt b (j * 4) [.int .i64 S[j], .int .i64 T[j], .int .i64 C[j], .int .i64 K[j]]) := Lib.hid (by
        have h := (Hs.out.same (hbel.block b hb)).2 j hlt
        rwa [getD_at _ _ hlt, getD_at _ _ hlt2, getD_at _ _ hlt3, getD_at _ _ hlt4] at h)
      clear hq0 hI0 hbel
      generalize ds[j] = dj at *
      generalize S[j] = s at *
      generalize T[j] = t at *
      generalize C[j] = c at *
      generalize K[j] = x at *
      have Hld : Hid ((loadVar 92 ⟨b, j * 4, none⟩).run Try.prog wr = .ok (.agg [Value.int .i64 s, .int .i64 t, .int .i64 c, .int .i64 x].toArray) wr) := Lib.hid (run_load_cells (P := Try.prog) wr b (j * 4) 92 _ [.int .i64 s, .int .i64 t, .int .i64 c, .int .i64 x] (fun q u hq => Hrg.out q u hq) Try.underlying92 (by kernel_rfl))
      have HE : Hid (∀ W : World, Calls Try.prog 87 #[.agg #[.int .i64 s, .int .i64 t, .int .i64 c, .int .i64 x]] W (GivesB (.int .i64 (axEnd s t c x)) W)) := Lib.hid (fun W => axisEnd_any W s t c x p1 p2 p3 p4 p5 p6 p7)
      have Ha : Hid (Below wr.heap.size wr (wr.alloc (.cells #[.int .i64 s, .int .i64 t, .int .i64 c, .int .i64 x] 92))) := Lib.hid ((Below.refl _ _).alloc (Nat.le_refl _) _)
      have HSS : Hid (∀ W, Below (wr.alloc (.cells #[.int .i64 s, .int .i64 t, .int .i64 c, .int .i64 x] 92)).heap.size (wr.alloc (.cells #[.int .i64 s, .int .i64 t, .int .i64 c, .int .i64 x] 92)) W → W.cell? ⟨wr.heap.size, 0, none⟩ = some (.int .i64 s) ∧ W.cell? ⟨wr.heap.size, 1, none⟩ = some (.int .i64 t) ∧ W.cell? ⟨wr.heap.size, 2, none⟩ = some (.int .i64 c) ∧ W.cell? ⟨wr.heap.size, 3, none⟩ = some (.int .i64 x) ∧ W.cell? ⟨b0, o0 + j, none⟩ = some (.int .i64 dj)) := Lib.hid (fun W hW => by
        have e : ∀ (jj : Nat), W.cell? ⟨wr.heap.size, jj, none⟩ = (wr.alloc (.cells #[.int .i64 s, .int .i64 t, .int .i64 c, .int .i64 x] 92)).cell? ⟨wr.heap.size, jj, none⟩ := fun jj => hW.cell (p := ⟨wr.heap.size, jj, none⟩) (by simp)
        have f : ∀ (jj : Nat), (wr.alloc (.cells #[.int .i64 s, .int .i64 t, .int .i64 c, .int .i64 x] 92)).cell? ⟨wr.heap.size, jj, none⟩ = (#[.int .i64 s, .int .i64 t, .int .i64 c, .int .i64 x] : Array Value)[jj]? := fun jj => cell_of_row _ _ _ _ _ _ (heap_alloc_new wr _)
        refine ⟨by rw [e, f]; rfl, by rw [e, f]; rfl, by rw [e, f]; rfl, by rw [e, f]; rfl, ?_⟩
        rw [hW.cell (p := ⟨b0, o0 + j, none⟩) (by simp; omega), Ha.out.cell (p := ⟨b0, o0 + j, none⟩) z0]
        exact g0)
      have Hi9 : Hid ((Try.prog.info? 92).map (·.size) = some (#[.int .i64 s, .int .i64 t, .int .i64 c, .int .i64 x] : Array Value).size) := Lib.hid (by kernel_rfl)
      have H19 : Hid ((#[.int .i64 s, .int .i64 t, .int .i64 c, .int .i64 x] : Array Value).all (·.oneCell') = true) := Lib.hid (by simp [Value.oneCell'])
      generalize axEnd s t c x = ae at *
      clear p1 p2 p3 p4 p5 p6 p7
      by_cases a5 : ae ≤ dj
      · have Hall2 : Hid (allTo (endAt ds S T C K) (j + 1) = true) := Lib.hid (by rw [Hk2.out, Hall.out, Hp.out]; simpa using a5)
        have q7 : decide (dj < ae) = false := decide_eq_false (by omega)
        clear Hbad
        go_wp2_with (first | (refine wpList_load_agg rfl 92 (.tmp 17) rfl _ rfl _ Hld.out ?_) | (refine wpList_store_last rfl 92 (.tmp 6) (.tmp 18) rfl #[.int .i64 s, .int .i64 t, .int .i64 c, .int .i64 x] _ 92 rfl rfl Hi9.out rfl H19.out ?_))
        clear g0
        go_region_held3 (fun W => W.cell? ⟨wr.heap.size, 0, none⟩ = some (.int .i64 s) ∧ W.cell? ⟨wr.heap.size, 1, none⟩ = some (.int .i64 t) ∧ W.cell? ⟨wr.heap.size, 2, none⟩ = some (.int .i64 c) ∧ W.cell? ⟨wr.heap.size, 3, none⟩ = some (.int .i64 x) ∧ W.cell? ⟨b0, o0 + j, none⟩ = some (.int .i64 dj)) (exact HSS.out _ (by first | exact kb | exact (Below.refl _ _).drew))
          ((first | (go_at_call 87; go_fit (HE.out _); rintro e u1 ⟨rfl, g⟩; have kb := (Below.refl _ (wr.alloc (.cells #[.int .i64 s, .int .i64 t, .int .i64 c, .int .i64 x] 92))).drew.trans g)))
        have Kb : Hid (Below wr.heap.size wr u1) := Lib.hid (Ha.out.trans (kb.mono (by simp)))
        clear kb
        try simp only [Exit.then]
        go_wp2
        go_roundw
        case rel => exact ⟨j + 1, by omega, by go_num, Hbel.out.trans (Kb.out.mono Hbel.out.size), Hall2.out⟩
        case measure => simp [intOf]; omega
      · have Hf : Hid (r = false) := Lib.hid (Hbad.out (by rw [Hp.out]; simpa using a5))
        have q7 : decide (dj < ae) = true := decide_eq_true (by omega)
        clear Hbad
        go_wp2_with (first | (refine wpList_load_agg rfl 92 (.tmp 17) rfl _ rfl _ Hld.out ?_) | (refine wpList_store_last rfl 92 (.tmp 6) (.tmp 18) rfl #[.int .i64 s, .int .i64 t, .int .i64 c, .int .i64 x] _ 92 rfl rfl Hi9.out rfl H19.out ?_))
        clear g0
        go_region_held3 (fun W => W.cell? ⟨wr.heap.size, 0, none⟩ = some (.int .i64 s) ∧ W.cell? ⟨wr.heap.size, 1, none⟩ = some (.int .i64 t) ∧ W.cell? ⟨wr.heap.size, 2, none⟩ = some (.int .i64 c) ∧ W.cell? ⟨wr.heap.size, 3, none⟩ = some (.int .i64 x) ∧ W.cell? ⟨b0, o0 + j, none⟩ = some (.int .i64 dj)) (exact HSS.out _ (by first | exact kb | exact (Below.refl _ _).drew))
          ((first | (go_at_call 87; go_fit (HE.out _); rintro e u1 ⟨rfl, g⟩; have kb := (Below.refl _ (wr.alloc (.cells #[.int .i64 s, .int .i64 t, .int .i64 c, .int .i64 x] 92))).drew.trans g)))
        have Kb : Hid (Below wr.heap.size wr u1) := Lib.hid (Ha.out.trans (kb.mono (by simp)))
        clear kb
        try simp only [Exit.then]
        go_wp2
        go_ret
        exact ⟨by rw [Hf.out]; rfl, Hbel.out.trans (Kb.out.mono Hbel.out.size)⟩
    · have Hf : Hid (r = true) := Lib.hid (by rw [← Hr.out]; exact slabIn_end Hl.out (by rw [show ds.length = j by omega]; exact Hall.out))
      clear hbel
      go_wp2
      go_ret
      exact ⟨by rw [Hf.out]; rfl, Hbel.out⟩
end Go.Proofs.Ytkgkhdnpgcgoeaa
