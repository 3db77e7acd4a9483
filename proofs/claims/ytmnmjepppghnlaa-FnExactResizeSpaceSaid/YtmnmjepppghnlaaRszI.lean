/- Contract of the program's function that resizes a dataspace. No statement is proved here. -/
import Derived.Test.YtmnmjepppghnlaaRsz
namespace Go.Proofs.Ytmnmjepppghnlaa
open Go.RowKit
set_option linter.unusedVariables false

theorem pSpace_is {B : Nat} {w : World} {v1 v2 : Value} {xs ms : List Int} {r : Bool} (hr : spaceOk xs ms = r) (h1 : Ri B w v1 xs) (h2 : Ri B w v2 ms) (hB : B ≤ w.heap.size) :
    Calls Try.prog 27 #[.agg #[v1, v2]] w (GivesB (.bool r) w) := by subst hr; exact implValidSpace_any h1 h2 hB
theorem pDims_is {B : Nat} {w : World} {v : Value} {xs : List Int} {r : Bool} (hr : dimsOk xs = r) (h : Ri B w v xs) : Calls Try.prog 14 #[v] w (Quiet (.bool r) w) := by subst hr; exact implValidDims_any h
set_option maxHeartbeats 1000000 in
set_option maxRecDepth 100000 in
theorem pRsz_bad {B : Nat} {w : World} {A1 A2 A3 : Option Addr} {xs ms ds : List Int} (h1 : Ri B w (.slice A1 xs.length xs.length) xs) (h2 : Ri B w (.slice A2 ms.length ms.length) ms) (h3 : Ri B w (.slice A3 ds.length ds.length) ds) (hB : B ≤ w.heap.size)
    (hbad : spaceOk xs ms = false ∨ (spaceOk xs ms = true ∧ dimsOk ds = false)) :
    Calls Try.prog 38 #[.agg #[.slice A1 xs.length xs.length, .slice A2 ms.length ms.length], .slice A3 ds.length ds.length] w (RszAt [] [] 1 w) := by
  have H1 := Lib.hid h1; have H2 := Lib.hid h2; have H3 := Lib.hid h3; clear h1 h2 h3
  have Hb0 : Hid (Below w.heap.size w ((w.alloc (.cells #[.slice A1 xs.length xs.length, .slice A2 ms.length ms.length] 35)).alloc (.cells #[.slice none 0 0, .slice none 0 0] 35))) := Lib.hid (((Below.refl _ w).alloc (Nat.le_refl _) _).alloc (by simp) _)
  have Hr0 : Hid (((w.alloc (.cells #[.slice A1 xs.length xs.length, .slice A2 ms.length ms.length] 35)).alloc (.cells #[.slice none 0 0, .slice none 0 0] 35)).heap[w.heap.size + 1]? = some (.cells #[.slice none 0 0, .slice none 0 0] 35 (0, 0))) := Lib.hid (heap_alloc2_new w _ _)
  have Hi9 : Hid ((Try.prog.info? 35).map (·.size) = some (#[.slice none 0 0, .slice none 0 0] : Array Value).size) := Lib.hid (by kernel_rfl)
  have H19 : Hid ((#[.slice none 0 0, .slice none 0 0] : Array Value).all (·.oneCell') = true) := Lib.hid (by simp [Value.oneCell'])
  rcases hbad with hs | ⟨hs, hd⟩
  · have Hs := Lib.hid hs; clear hs
    go_enter Try.func38, Try.ntmps38
    go_wp2_with fail
    refine (pSpace_is Hs.out (H1.out.at hB Hb0.out) (H2.out.at hB Hb0.out) (Nat.le_refl _)).mono ?_
    rintro e w1 ⟨rfl, g1⟩
    have Hr1 : Hid (w1.heap[w.heap.size + 1]? = some (.cells #[.slice none 0 0, .slice none 0 0] 35 (0, 0))) := Lib.hid ((g1.block _ (by simp)).trans Hr0.out)
    have Hb1 : Hid (Below w.heap.size w w1) := Lib.hid (Hb0.out.trans (g1.mono (by simp; omega)))
    clear g1
    go_wp2_with (refine wpList_store_row rfl 35 (.tmp 4) (.tmp 15) rfl (w.heap.size + 1) #[.slice none 0 0, .slice none 0 0] rfl rfl 35 _ Hr1.out Hi9.out rfl H19.out ?_)
    refine bodyPost_ret (v := .tuple #[.agg #[.slice none 0 0, .slice none 0 0], .int .i64 1]) ?h1 ?h2 ?h3
    case h2 => rfl
    case h1 => exact results_cell_row2 rfl _ _ (w.heap.size + 1) 35 _ (0, 0) _ _ rfl rfl (setRow_heap _ _ _ _ _ _ Hr1.out) Try.underlying35 rfl (by kernel_rfl)
    case h3 => exact rsz_nil 1 (below_setRow Hb1.out (by omega) _)
  · have Hs := Lib.hid hs; have Hd := Lib.hid hd; clear hs hd
    go_enter Try.func38, Try.ntmps38
    go_wp2_with fail
    refine (pSpace_is Hs.out (H1.out.at hB Hb0.out) (H2.out.at hB Hb0.out) (Nat.le_refl _)).mono ?_
    rintro e w1 ⟨rfl, g1⟩
    have Hr1 : Hid (w1.heap[w.heap.size + 1]? = some (.cells #[.slice none 0 0, .slice none 0 0] 35 (0, 0))) := Lib.hid ((g1.block _ (by simp)).trans Hr0.out)
    have Hb1 : Hid (Below w.heap.size w w1) := Lib.hid (Hb0.out.trans (g1.mono (by simp; omega)))
    clear g1
    go_wp2_with fail
    refine (pDims_is Hd.out (H3.out.at hB Hb1.out)).mono ?_
    rintro e w2 ⟨rfl, rfl⟩
    go_wp2_with (refine wpList_store_row rfl 35 (.tmp 4) (.tmp 15) rfl (w.heap.size + 1) #[.slice none 0 0, .slice none 0 0] rfl rfl 35 _ Hr1.out Hi9.out rfl H19.out ?_)
    refine bodyPost_ret (v := .tuple #[.agg #[.slice none 0 0, .slice none 0 0], .int .i64 1]) ?h1 ?h2 ?h3
    case h2 => rfl
    case h1 => exact results_cell_row2 rfl _ _ (w.heap.size + 1) 35 _ (0, 0) _ _ rfl rfl (setRow_heap _ _ _ _ _ _ Hr1.out) Try.underlying35 rfl (by kernel_rfl)
    case h3 => exact rsz_nil 1 (below_setRow Hb1.out (by omega) _)

theorem pCl_any {B : Nat} {w : World} {A : Option Addr} {xs : List Int} (h : Ri B w (.slice A xs.length xs.length) xs) (hB : B ≤ w.heap.size) (hs : xs.length ≤ 1048576) :
    Calls Try.prog 61 #[.slice A xs.length xs.length] w fun e w' => ∃ A1 c1, e = .returned (.slice A1 xs.length c1) ∧ OI w' w.heap.size (.slice A1 xs.length c1) xs ∧ Below w.heap.size w w' :=
  (clone_any h hB hs).mono fun e w' ⟨v, he, ho, hb⟩ => by
    obtain ⟨A1, c1, rfl⟩ := ho.sl
    exact ⟨A1, c1, he, ho, hb⟩
set_option maxHeartbeats 1000000 in
set_option maxRecDepth 100000 in
theorem pRsz_good {B : Nat} {w : World} {A1 A2 A3 : Option Addr} {xs ms ds : List Int} (h1 : Ri B w (.slice A1 xs.length xs.length) xs) (h2 : Ri B w (.slice A2 ms.length ms.length) ms) (h3 : Ri B w (.slice A3 ds.length ds.length) ds) (hB : B ≤ w.heap.size)
    (hs : spaceOk xs ms = true) (hd : dimsOk ds = true) (hm : ms.length ≤ 1048576) (hn : ds.length ≤ 1048576) :
    Calls Try.prog 38 #[.agg #[.slice A1 xs.length xs.length, .slice A2 ms.length ms.length], .slice A3 ds.length ds.length] w fun e w' =>
      (spaceOk ds ms = true → RszAt ds ms 0 w e w') ∧ (spaceOk ds ms = false → RszAt [] [] 2 w e w') := by
  have H1 := Lib.hid h1; have H2 := Lib.hid h2; have H3 := Lib.hid h3; clear h1 h2 h3
  have Hb0 : Hid (Below w.heap.size w ((w.alloc (.cells #[.slice A1 xs.length xs.length, .slice A2 ms.length ms.length] 35)).alloc (.cells #[.slice none 0 0, .slice none 0 0] 35))) := Lib.hid (((Below.refl _ w).alloc (Nat.le_refl _) _).alloc (by simp) _)
  have Hr0 : Hid (((w.alloc (.cells #[.slice A1 xs.length xs.length, .slice A2 ms.length ms.length] 35)).alloc (.cells #[.slice none 0 0, .slice none 0 0] 35)).heap[w.heap.size + 1]? = some (.cells #[.slice none 0 0, .slice none 0 0] 35 (0, 0))) := Lib.hid (heap_alloc2_new w _ _)
  have Hc0 : Hid (((w.alloc (.cells #[.slice A1 xs.length xs.length, .slice A2 ms.length ms.length] 35)).alloc (.cells #[.slice none 0 0, .slice none 0 0] 35)).cell? ⟨w.heap.size, 1, none⟩ = some (.slice A2 ms.length ms.length)) := Lib.hid (by rw [cell_of_row _ _ _ _ _ _ (heap_alloc2_old w _ _)]; rfl)
  have Hs := Lib.hid hs; have Hd := Lib.hid hd; clear hs hd
  go_enter Try.func38, Try.ntmps38
  go_wp2_with fail
  refine (pSpace_is Hs.out (H1.out.at hB Hb0.out) (H2.out.at hB Hb0.out) (Nat.le_refl _)).mono ?_
  rintro e w1 ⟨rfl, g1⟩
  have Hr1 : Hid (w1.heap[w.heap.size + 1]? = some (.cells #[.slice none 0 0, .slice none 0 0] 35 (0, 0))) := Lib.hid ((g1.block _ (by simp)).trans Hr0.out)
  have Hc1 : Hid (w1.cell? ⟨w.heap.size, 1, none⟩ = some (.slice A2 ms.length ms.length)) := Lib.hid ((g1.cell (p := ⟨w.heap.size, 1, none⟩) (by simp; omega)).trans Hc0.out)
  have Hz1 : Hid (w.heap.size + 2 ≤ w1.heap.size) := Lib.hid (by have := g1.size; simp at this; omega)
  have Hb1 : Hid (Below w.heap.size w w1) := Lib.hid (Hb0.out.trans (g1.mono (by simp; omega)))
  clear g1
  go_wp2_with fail
  refine (pDims_is Hd.out (H3.out.at hB Hb1.out)).mono ?_
  rintro e w2 ⟨rfl, rfl⟩
  have HS : Hid (∀ W, Below w1.heap.size w1 W → W.cell? ⟨w.heap.size, 1, none⟩ = some (.slice A2 ms.length ms.length)) := Lib.hid (fun W g => (g.cell (p := ⟨w.heap.size, 1, none⟩) (show w.heap.size < _ by have := Hz1.out; omega)).trans Hc1.out)
  have q1 := Hc1.out
  go_wp2
  clear q1
  have HD : Hid (Below w1.heap.size w1 w1.drew) := Lib.hid (Below.refl _ _).drew
  have HA : Hid (Below w1.heap.size w1 (w1.alloc (.cells #[.slice none 0 0, .slice none 0 0] 35)).drew) := Lib.hid ((Below.refl _ _).alloc (Nat.le_refl _) _).drew
  go_region_held3 (fun W => W.cell? ⟨w.heap.size, 1, none⟩ = some (.slice A2 ms.length ms.length)) (exact HS.out _ (by first | exact kb2 | exact kb1 | exact HD.out | exact HA.out | exact kb1.alloc kb1.size _ | exact kb2.alloc kb2.size _ | exact (kb2.setCell (by first | exact Nat.le_refl _ | exact kb1.size) _).setCell (by first | exact Nat.le_refl _ | exact kb1.size) _))
    ((first | (go_at_call 61; go_fit (pCl_any (H3.out.at hB (Hb1.out.trans (HD.out.mono Hb1.out.size))) (Nat.le_refl _) hn); rintro e u1 ⟨Aa, ca, rfl, oa, ga⟩; have Oa := Lib.hid oa; clear oa; have kb1 : Below w1.heap.size w1 u1 := HD.out.trans (ga.mono HD.out.size)) | (go_at_call 61; go_fit (pCl_any (H2.out.at hB (Hb1.out.trans (kb1.mono Hb1.out.size))) (Nat.le_refl _) hm); rintro e u2 ⟨Ab, cb, rfl, ob, gb⟩; have Ob := Lib.hid ob; clear ob; have kb2 : Below w1.heap.size w1 u2 := kb1.trans (gb.mono kb1.size); try (have ry := rz.keep gb; have y0 := ry.c0; have y1 := ry.c1; have y2 := ry.f0; have y3 := ry.f1)) | (go_at_call 61; go_fit (pCl_any (H2.out.at hB (Hb1.out.trans ((kb1.alloc kb1.size _).mono Hb1.out.size))) (Nat.le_refl _) hm); rintro e u2 ⟨Ab, cb, rfl, ob, gb⟩; have Ob := Lib.hid ob; clear ob; have kb2 : Below w1.heap.size w1 u2 := (kb1.alloc kb1.size _).trans (gb.mono (by simp; exact Nat.le_succ_of_le kb1.size)); have ry := newrow gb; have y0 := ry.c0; have y1 := ry.c1; have y2 := ry.f0; have y3 := ry.f1) | (go_at_call 61; go_fit (pCl_any (H3.out.at hB (Hb1.out.trans (HA.out.mono Hb1.out.size))) (Nat.le_refl _) hn); rintro e u1 ⟨Aa, ca, rfl, oa, ga⟩; have Oa := Lib.hid oa; clear oa; have kb1 : Below w1.heap.size w1 u1 := HA.out.trans (ga.mono HA.out.size); have rz := newrowd ga; have z0 := rz.c0; have z1 := rz.c1)))
  all_goals
    first | (have F2 := Lib.hid (rszA kb1 kb2 Oa.out gb Ob.out ry rz); generalize ((u2.setCell ⟨w1.heap.size, 0, none⟩ (.slice Aa ds.length ca)).setCell ⟨w1.heap.size, 1, none⟩ (.slice Ab ms.length cb)) = W at F2 ⊢; generalize w1.heap.size = g6 at F2 ⊢) | (have F2 := Lib.hid (rszB kb1 kb2 Oa.out gb Ob.out (Nat.le_refl _) ry); generalize ((u2.setCell ⟨u1.heap.size, 0, none⟩ (.slice Aa ds.length ca)).setCell ⟨u1.heap.size, 1, none⟩ (.slice Ab ms.length cb)) = W at F2 ⊢; generalize u1.heap.size = g6 at F2 ⊢) | (have F2 := Lib.hid (rszC kb1 Oa.out gb Ob.out (Nat.le_refl _)); generalize (u2.alloc (.cells #[.slice Aa ds.length ca, .slice Ab ms.length cb] 35)) = W at F2 ⊢; generalize u2.heap.size = g6 at F2 ⊢)
    have HrW : Hid (W.heap[w.heap.size + 1]? = some (.cells #[.slice none 0 0, .slice none 0 0] 35 (0, 0))) := Lib.hid ((F2.out.2.2.2.2.1.block _ (by have := Hz1.out; omega)).trans Hr1.out)
    have HbW : Hid (Below w.heap.size w W) := Lib.hid (Hb1.out.trans (F2.out.2.2.2.2.1.mono Hb1.out.size))
    have HzW : Hid (w.heap.size + 2 ≤ W.heap.size) := Lib.hid (Nat.le_trans Hz1.out F2.out.2.2.2.2.1.size)
    have RA := Lib.hid (F2.out.2.1.ri H3.out.inI)
    have RB := Lib.hid (F2.out.2.2.1.ri H2.out.inI)
    have c60 := F2.out.1.c0; have c61 := F2.out.1.c1
    clear kb1 kb2 gb ga
    try clear y0 y1 y2 y3
    try clear z0 z1
    try clear ry
    try clear rz
    try simp only [Exit.then]
    cases hsp : spaceOk ds ms
    · have Hsp := Lib.hid hsp; clear hsp
      have Hi9 : Hid ((Try.prog.info? 35).map (·.size) = some (#[.slice none 0 0, .slice none 0 0] : Array Value).size) := Lib.hid (by kernel_rfl)
      have H19 : Hid ((#[.slice none 0 0, .slice none 0 0] : Array Value).all (·.oneCell') = true) := Lib.hid (by simp [Value.oneCell'])
      go_wp2_with fail
      refine (pSpace_is Hsp.out RA.out RB.out (Nat.le_refl _)).mono ?_
      rintro e w4 ⟨rfl, g4⟩
      have Hr4 : Hid (w4.heap[w.heap.size + 1]? = some (.cells #[.slice none 0 0, .slice none 0 0] 35 (0, 0))) := Lib.hid ((g4.block _ (by have := HzW.out; omega)).trans HrW.out)
      have Hb4 : Hid (Below w.heap.size w w4) := Lib.hid (HbW.out.trans (g4.mono HbW.out.size))
      clear g4 c60 c61
      go_wp2_with (refine wpList_store_row rfl 35 (.tmp 4) (.tmp 25) rfl (w.heap.size + 1) #[.slice none 0 0, .slice none 0 0] rfl rfl 35 _ Hr4.out Hi9.out rfl H19.out ?_)
      refine bodyPost_ret (v := .tuple #[.agg #[.slice none 0 0, .slice none 0 0], .int .i64 2]) ?h1 ?h2 ?h3
      case h2 => rfl
      case h1 => exact results_cell_row2 rfl _ _ (w.heap.size + 1) 35 _ (0, 0) _ _ rfl rfl (setRow_heap _ _ _ _ _ _ Hr4.out) Try.underlying35 rfl (by kernel_rfl)
      case h3 => exact ⟨fun h => absurd (Hsp.out.symm.trans h) (by decide), fun _ => rsz_nil 2 (below_setRow Hb4.out (by omega) _)⟩
    · have Hsp := Lib.hid hsp; clear hsp
      have Hi9 : Hid ((Try.prog.info? 35).map (·.size) = some (#[.slice Aa ds.length ca, .slice Ab ms.length cb] : Array Value).size) := Lib.hid (by kernel_rfl)
      have H19 : Hid ((#[.slice Aa ds.length ca, .slice Ab ms.length cb] : Array Value).all (·.oneCell') = true) := Lib.hid (by simp [Value.oneCell'])
      go_wp2_with fail
      refine (pSpace_is Hsp.out RA.out RB.out (Nat.le_refl _)).mono ?_
      rintro e w4 ⟨rfl, g4⟩
      have Hr4 : Hid (w4.heap[w.heap.size + 1]? = some (.cells #[.slice none 0 0, .slice none 0 0] 35 (0, 0))) := Lib.hid ((g4.block _ (by have := HzW.out; omega)).trans HrW.out)
      have G4 := Lib.hid g4
      have d60 := oldcell g4 c60; have d61 := oldcell g4 c61
      clear g4 c60 c61
      go_wp2_with (refine wpList_store_row rfl 35 (.tmp 4) (.tmp 26) rfl (w.heap.size + 1) #[.slice Aa ds.length ca, .slice Ab ms.length cb] rfl rfl 35 _ Hr4.out Hi9.out rfl H19.out ?_)
      refine bodyPost_ret (v := .tuple #[.agg #[.slice Aa ds.length ca, .slice Ab ms.length cb], .int .i64 0]) ?h1 ?h2 ?h3
      case h2 => rfl
      case h1 => exact results_cell_row2 rfl _ _ (w.heap.size + 1) 35 _ (0, 0) _ _ rfl rfl (setRow_heap _ _ _ _ _ _ Hr4.out) Try.underlying35 rfl (by kernel_rfl)
      case h3 => exact ⟨fun _ => rsz_yes F2.out Hb1.out Hz1.out G4.out, fun h => absurd (Hsp.out.symm.trans h) (by decide)⟩

theorem pResize_any {B : Nat} {w : World} {A1 A2 A3 : Option Addr} {xs ms ds : List Int} (h1 : Ri B w (.slice A1 xs.length xs.length) xs) (h2 : Ri B w (.slice A2 ms.length ms.length) ms) (h3 : Ri B w (.slice A3 ds.length ds.length) ds) (hB : B ≤ w.heap.size)
    (hm : ms.length ≤ 1048576) (hn : ds.length ≤ 1048576) :
    Calls Try.prog 38 #[.agg #[.slice A1 xs.length xs.length, .slice A2 ms.length ms.length], .slice A3 ds.length ds.length] w (RszAt (rszD xs ms ds) (rszM xs ms ds) (rszE xs ms ds) w) := by
  cases hs : spaceOk xs ms
  · exact (pRsz_bad h1 h2 h3 hB (.inl hs)).mono fun e w' h => by simpa [rszD, rszM, rszE, hs] using h
  cases hd : dimsOk ds
  · exact (pRsz_bad h1 h2 h3 hB (.inr ⟨hs, hd⟩)).mono fun e w' h => by simpa [rszD, rszM, rszE, hs, hd] using h
  refine (pRsz_good h1 h2 h3 hB hs hd hm hn).mono fun e w' h => ?_
  cases hr : spaceOk ds ms
  · simpa [rszD, rszM, rszE, hs, hd, hr] using h.2 hr
  · simpa [rszD, rszM, rszE, hs, hd, hr] using h.1 hr
end Go.Proofs.Ytmnmjepppghnlaa
