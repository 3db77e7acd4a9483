/- The binary form of a pipeline: the model's side. No statement is proved here. -/
import Derived.Test.YtmddgncidgdglaaPlV
import Derived.Test.YtmddgncidgdglaaEnb
import Derived.Test.YtmddgncidgdglaaNuS
import Derived.Deep.RegionHeld3
namespace Go.Proofs.Ytmddgncidgdglaa
open Go.RowKit
set_option linter.unusedVariables false
def flg (b : Bool) : Int := if b then 1 else 0
def fB (p : EFI) : ByteArray := leS p.1 1 ++ leS p.2.1 1 ++ leS (flg p.2.2) 1
/-- The head and the first filters. -/
def plT (h : ByteArray) (ps : List EFI) : Nat → ByteArray
  | 0 => h
  | j + 1 => plT h ps j ++ fB (ps.getD j (0, 0, false))
def plH (ps : List EFI) : ByteArray := leS (ps.length : Int) 1
def plF (ps : List EFI) : ByteArray := plT (plH ps) ps ps.length
def plA (ps : List EFI) : ByteArray := if plOk ps then plF ps else ⟨#[]⟩
theorem fB_size (p : EFI) : (fB p).size = 3 := by simp only [fB, ByteArray.size_append, leS_one]
theorem plT_size (h : ByteArray) (ps : List EFI) : ∀ j, (plT h ps j).size = h.size + 3 * j
  | 0 => rfl
  | j + 1 => by rw [plT, ByteArray.size_append, plT_size h ps j, fB_size]; omega
theorem plT_at {h : ByteArray} {ps : List EFI} {j : Nat} (hj : j < ps.length) : plT h ps (j + 1) = plT h ps j ++ (leS ps[j].1 1 ++ leS ps[j].2.1 1 ++ leS (flg ps[j].2.2) 1) := by
  rw [plT, List.getD_eq_getElem?_getD, List.getElem?_eq_getElem hj]
  rfl
theorem isSz_b {z : Int} (h : isSz z = true) : 1 ≤ z ∧ z ≤ 24 := by simpa [isSz] using h
theorem wdOk_b {z : Int} (h : wdOk z = true) : 1 ≤ z ∧ z ≤ 4 := by simp [wdOk] at h; omega
theorem filOk_b {k p : Int} {b : Bool} (h : filOk k p b = true) : 1 ≤ k ∧ k ≤ 5 ∧ 0 ≤ p ∧ p ≤ 24 := by
  unfold filOk at h
  split at h
  · rw [Bool.and_eq_true] at h; have := isSz_b h.1; omega
  · split at h
    · rw [Bool.and_eq_true] at h; have := wdOk_b h.1; omega
    · split at h
      · have := of_decide_eq_true h; omega
      · split at h
        · have := of_decide_eq_true h; omega
        · split at h
          · rw [Bool.and_eq_true] at h; have := of_decide_eq_true h.1; omega
          · cases h
theorem put1_any (n : Int) (h0 : 0 ≤ n) (h : n < 256) (w : World) : Calls Try.prog 79 #[.int .i64 n, .int .i64 1] w (GivesB (.string (leS n 1)) w) := by
  have h1 := l01PutUint_any n 1 (by omega) w
  have h2 : putU n (1 : Int) = leS n 1 := putU_leS (s := 1) (by omega) (by omega) h0 (by simpa using h)
  rw [h2] at h1
  exact h1
theorem l19Flag_any (b : Bool) (w : World) : Calls Try.prog 80 #[.bool b] w (GivesB (.int .i64 (flg b)) w) := by
  cases b
  · go_enter Try.func80, Try.ntmps80
    go_wp2_with fail
    go_ret
    exact ⟨rfl, Below.refl _ _⟩
  · go_enter Try.func80, Try.ntmps80
    go_wp2_with fail
    go_ret
    exact ⟨rfl, Below.refl _ _⟩
set_option maxHeartbeats 4000000 in
set_option maxRecDepth 100000 in
theorem specEncodePipeline_any {B : Nat} {w : World} {v : Value} {ss : List EFI} (h : RiFI B w v ss) (hB : B ≤ w.heap.size) :
    Calls Try.prog 41 #[v] w (GivesB (.string (plA ss)) w) := by
  have HC := Lib.hid (l19Ok_any h hB)
  obtain ⟨A, cap, rfl, hl, hm, hx⟩ := h
  unfold maxLen at hm
  cases hok : plOk ss
  · have Hf : Hid (plA ss = ⟨#[]⟩) := Lib.hid (by simp [plA, hok])
    rw [hok] at HC
    clear hok hx
    go_enter Try.func41, Try.ntmps41
    go_wp2_with ((go_at_call 73; refine HC.out.mono ?_; rintro e w1 ⟨rfl, g⟩))
    go_ret
    exact ⟨by rw [Hf.out]; rfl, g⟩
  have Hx := Lib.hid hx; clear hx
  have hpb := plOk_b hok
  have hlen : ss.length ≤ 4 := hpb.1
  have HFB : Hid (∀ j (hj : j < ss.length), 1 ≤ ss[j].1 ∧ ss[j].1 ≤ 5 ∧ 0 ≤ ss[j].2.1 ∧ ss[j].2.1 ≤ 24) := Lib.hid (fun j hj => filOk_b (by rw [← flAt_at hj]; exact allTo_at hpb.2 hj))
  have Hf : Hid (plA ss = plT (plH ss) ss ss.length) := Lib.hid (by simp [plA, hok, plF])
  have F1 := Lib.hid (fun W => put1_any (ss.length : Int) (by omega) (by omega) W)
  have HH : Hid (plH ss = leS (ss.length : Int) 1) := Lib.hid rfl
  have HZ : Hid ((plH ss).size = 1) := Lib.hid (leS_one _ _)
  rw [hok] at HC
  rw [← HH.out] at F1
  clear hok hpb HH
  generalize plA ss = R at *
  generalize plH ss = EH at *
  have HT : Hid (∀ j, (plT EH ss j).size = 1 + 3 * j) := Lib.hid (fun j => by rw [plT_size, HZ.out])
  go_enter Try.func41, Try.ntmps41
  go_wp2_with (first | (go_at_call 73; refine HC.out.mono ?_; rintro e w1 ⟨rfl, g⟩; have HB1 := Lib.hid g; clear g) | (go_at_call 79; refine (F1.out _).mono ?_; rintro e w2 ⟨rfl, g⟩; have HB2 := Lib.hid (HB1.out.trans (g.mono HB1.out.size)); clear g))
  go_loopw [3, 4] (fun v i wr => ∃ j : Nat, j ≤ ss.length ∧ i = .int .i64 (j : Int) ∧ v = .string (plT EH ss j) ∧ Below w.heap.size w wr) (fun _ i _ => ss.length - (intOf i).toNat)
  case atStart => exact ⟨0, Nat.zero_le _, rfl, rfl, HB2.out⟩
  case round =>
    obtain ⟨j, hj, rfl, rfl, hbel⟩ := hrel
    have Hbel := Lib.hid hbel
    by_cases hlt : j < ss.length
    · obtain ⟨b, o, rfl, hb, hc0, hc1, hc2, -⟩ := Hx.out j hlt
      have Hld := Lib.hid (run_load_cells (P := Try.prog) wr b (o + j * 3) 25 _ [.int .i64 ss[j].1, .int .i64 ss[j].2.1, .bool ss[j].2.2] (cells_FI (by rw [hbel.cell (show b < _ from by omega)]; exact hc0) (by rw [hbel.cell (show b < _ from by omega)]; exact hc1) (by rw [hbel.cell (show b < _ from by omega)]; exact hc2)) Try.underlying25 (by kernel_rfl))
      have HS := Lib.hid (plT_at (h := EH) hlt)
      have hfb := HFB.out j hlt
      have hz := HT.out j
      clear hc0 hc1 hc2 hbel
      generalize ss[j].1 = n0 at *; generalize ss[j].2.1 = n1 at *; generalize ss[j].2.2 = n2 at *
      generalize hN : plT EH ss (j + 1) = S1 at *
      have HN := Lib.hid hN; clear hN
      generalize plT EH ss j = S0 at *
      have hf0 : 0 ≤ flg n2 ∧ flg n2 < 256 := by cases n2 <;> decide
      have G4 := Lib.hid (fun W => l19Flag_any n2 W)
      generalize flg n2 = n3 at *
      have G1 := Lib.hid (fun W => put1_any n0 (by omega) (by omega) W)
      have G2 := Lib.hid (fun W => put1_any n1 (by omega) (by omega) W)
      have G3 := Lib.hid (fun W => put1_any n3 (by omega) (by omega) W)
      have z1 := leS_one n0 1; have z2 := leS_one n1 1; have z3 := leS_one n3 1
      generalize leS n0 1 = b1 at *; generalize leS n1 1 = b2 at *; generalize leS n3 1 = b3 at *
      have a1 := fun W => addS (a := b1) (b := b2) rfl (by omega) W
      have y1 : (b1 ++ b2).size = 2 := by rw [ByteArray.size_append]; omega
      generalize b1 ++ b2 = t1 at *
      have a2 := fun W => addS (a := t1) (b := b3) rfl (by omega) W
      have y2 : (t1 ++ b3).size = 3 := by rw [ByteArray.size_append]; omega
      generalize t1 ++ b3 = t2 at *
      have a3 := fun W => addS (a := S0) (b := t2) HS.out.symm (by omega) W
      clear z1 z2 z3 y1 y2 hz HS hf0 hfb
      have Hi0 : Hid ((Try.prog.info? 25).map (·.size) = some (#[.int .i64 n0, .int .i64 n1, .bool n2] : Array Value).size) := Lib.hid (by kernel_rfl)
      have H10 : Hid ((#[.int .i64 n0, .int .i64 n1, .bool n2] : Array Value).all (·.oneCell') = true) := Lib.hid (by simp [Value.oneCell'])
      have HV1 : Hid (Below w.heap.size w (wr.alloc (.cells #[.int .i64 n0, .int .i64 n1, .bool n2] 25))) := Lib.hid (Hbel.out.trans ((Below.refl _ wr).alloc Hbel.out.size _))
      have R1 : Hid ((wr.alloc (.cells #[.int .i64 n0, .int .i64 n1, .bool n2] 25)).heap[wr.heap.size]? = some (.cells #[.int .i64 n0, .int .i64 n1, .bool n2] 25 (0, 0))) := Lib.hid (heap_alloc_new wr _)
      have Z1 : Hid (wr.heap.size < (wr.alloc (.cells #[.int .i64 n0, .int .i64 n1, .bool n2] 25)).heap.size) := Lib.hid (by simp)
      go_wp2_with (first | (refine wpList_load_agg rfl 25 (.tmp 20) rfl _ rfl _ Hld.out ?_) | (refine wpList_store_last rfl 25 (.tmp 5) (.tmp 21) rfl #[.int .i64 n0, .int .i64 n1, .bool n2] _ 25 rfl rfl Hi0.out rfl H10.out ?_))
      generalize (wr.alloc (.cells #[.int .i64 n0, .int .i64 n1, .bool n2] 25)) = V at *
      have HSm : Hid (∀ W, Below V.heap.size V W → W.cell? ⟨wr.heap.size, 0, none⟩ = some (.int .i64 n0) ∧ W.cell? ⟨wr.heap.size, 1, none⟩ = some (.int .i64 n1) ∧ W.cell? ⟨wr.heap.size, 2, none⟩ = some (.bool n2)) := Lib.hid (fun W hW => by
        have hr := (hW.block _ Z1.out).trans R1.out
        exact ⟨by rw [cell_of_row _ _ _ _ _ _ hr]; rfl, by rw [cell_of_row _ _ _ _ _ _ hr]; rfl, by rw [cell_of_row _ _ _ _ _ _ hr]; rfl⟩)
      have HDm : Hid (Below V.heap.size V V.drew) := Lib.hid (Below.refl _ _).drew
      go_region_held3 (fun W => W.cell? ⟨wr.heap.size, 0, none⟩ = some (.int .i64 n0) ∧ W.cell? ⟨wr.heap.size, 1, none⟩ = some (.int .i64 n1) ∧ W.cell? ⟨wr.heap.size, 2, none⟩ = some (.bool n2)) (exact HSm.out _ (by first | exact kb4 | exact kb3 | exact kb2 | exact kb1 | exact HDm.out))
        ((first | (go_at_call 79; go_fit (G1.out _); rintro e u1 ⟨rfl, g1⟩; have kb1 : Below V.heap.size V u1 := HDm.out.trans (g1.mono HDm.out.size)) | (go_at_call 79; go_fit (G2.out _); rintro e u2 ⟨rfl, g2⟩; have kb2 : Below V.heap.size V u2 := kb1.trans (g2.mono kb1.size)) | (go_at_call 80; go_fit (G4.out _); rintro e u3 ⟨rfl, g3⟩; have kb3 : Below V.heap.size V u3 := kb2.trans (g3.mono kb2.size)) | (go_at_call 79; go_fit (G3.out _); rintro e u4 ⟨rfl, g4⟩; have kb4 : Below V.heap.size V u4 := kb3.trans (g4.mono kb3.size))))
      try simp only [Exit.then]
      have Hk5 : Hid (Below w.heap.size w u4) := Lib.hid (HV1.out.trans (kb4.mono HV1.out.size))
      clear kb1 kb2 kb3 kb4 g1 g2 g3 g4 a1 a2 a3 G1 G2 G3 G4
      go_wp2_with fail
      go_roundw
      case rel => exact ⟨j + 1, by omega, by go_num, by rw [HN.out], Hk5.out⟩
      case measure => simp [intOf]; omega
    · obtain rfl : j = ss.length := by omega
      clear hbel
      go_wp2_with fail
      go_ret
      exact ⟨by rw [Hf.out]; rfl, Hbel.out⟩
end Go.Proofs.Ytmddgncidgdglaa
