/- The block of a node: what it is, and the model writes it. No statement is proved here. -/
import Derived.Test.YtabnglimchjgpaaChO
import Derived.Test.YtabnglimchjgpaaEnb
import Derived.Deep.RegionHeld3
namespace Go.Proofs.Ytabnglimchjgpaa
open Go.RowKit
set_option linter.unusedVariables false
def cbT (c : EC) : ByteArray := ((leS c.1 2 ++ leS c.2.1 2) ++ leS c.2.2.1 2) ++ leS c.2.2.2 1
def ndC (H : ByteArray) (cs : List EC) : Nat → ByteArray
  | 0 => H
  | j + 1 => ndC H cs j ++ cbT (cs.getD j (0, 0, 0, 0))
def ndI (H : ByteArray) (xs : List Int) : Nat → ByteArray
  | 0 => H
  | j + 1 => ndI H xs j ++ leS (xs.getD j 0) 2
def ndH (m n : Int) : ByteArray := leS m 1 ++ leS n 1
def ndF (lf : Bool) (cs : List EC) (ks ds : List Int) : ByteArray :=
  if lf then ndC (ndH 1 cs.length) cs cs.length else ndI (ndI (ndH 2 ks.length) ds ds.length) ks ks.length
def ndB (lf : Bool) (cs : List EC) (ks ds : List Int) : ByteArray := ndF lf cs ks ds ++ zeros (64 - (ndF lf cs ks ds).size)
def ndV (lf : Bool) (cs : List EC) (ks ds : List Int) : ByteArray := if nodeOk lf cs ks ds then ndB lf cs ks ds else ⟨#[]⟩
theorem cbT_size (c : EC) : (cbT c).size = 7 := by simp only [cbT, ByteArray.size_append, leS_one]
theorem ndH_size (m n : Int) : (ndH m n).size = 2 := by simp only [ndH, ByteArray.size_append, leS_one]
theorem ndC_size (H : ByteArray) (cs : List EC) : ∀ j, (ndC H cs j).size = H.size + 7 * j
  | 0 => rfl
  | j + 1 => by rw [ndC, ByteArray.size_append, cbT_size, ndC_size H cs j]; omega
theorem ndI_size (H : ByteArray) (xs : List Int) : ∀ j, (ndI H xs j).size = H.size + 2 * j
  | 0 => rfl
  | j + 1 => by rw [ndI, ByteArray.size_append, leS_one, ndI_size H xs j]; omega
theorem ndC_at (H : ByteArray) {cs : List EC} {j : Nat} (h : j < cs.length) : ndC H cs (j + 1) = ndC H cs j ++ (((leS cs[j].1 2 ++ leS cs[j].2.1 2) ++ leS cs[j].2.2.1 2) ++ leS cs[j].2.2.2 1) := by rw [ndC, getD_in h]; rfl
theorem ndI_at (H : ByteArray) {xs : List Int} {j : Nat} (h : j < xs.length) : ndI H xs (j + 1) = ndI H xs j ++ leS xs[j] 2 := by rw [ndI, getD_in h]
theorem nodeL_len {cs : List EC} {ks ds : List Int} (h : nodeOk true cs ks ds = true) : cs.length ≤ 8 ∧ ks.length = 0 ∧ ds.length = 0 := by
  simp only [nodeOk, if_true, Bool.and_eq_true, decide_eq_true_eq] at h
  exact ⟨h.1.1, h.1.2.1, h.1.2.2⟩
theorem nodeI_len {cs : List EC} {ks ds : List Int} (h : nodeOk false cs ks ds = true) : ks.length ≤ 7 ∧ 1 ≤ ks.length ∧ ds.length = ks.length + 1 ∧ cs.length = 0 := by
  simp only [nodeOk, Bool.false_eq_true, if_false, inB, Bool.and_eq_true, decide_eq_true_eq] at h
  obtain ⟨⟨⟨⟨h1, h2⟩, h3⟩, h4⟩, -⟩ := h
  exact ⟨by omega, by omega, h3, h4⟩
set_option maxHeartbeats 4000000 in
set_option maxRecDepth 100000 in
theorem l15EncL_any {B : Nat} {w : World} {v0 v1 v2 : Value} {cs : List EC} {ks ds : List Int} (h0 : RiC B w v0 cs) (h1 : Ri B w v1 ks) (h2 : Ri B w v2 ds) (hB : B ≤ w.heap.size) (hc8 : cs.length ≤ 8) :
    Calls Try.prog 88 #[.agg #[.bool true, v0, v1, v2]] w (GivesB (.string (ndB true cs ks ds)) w) := by
  obtain ⟨A0, c0, rfl, hl0, hm0, hx0⟩ := h0
  obtain ⟨A1, c1, rfl, -⟩ := h1
  obtain ⟨A2, c2, rfl, -⟩ := h2
  have Hx0 := Lib.hid hx0; clear hx0
  unfold maxLen at hm0
  have HF : Hid (ndB true cs ks ds = ndC (ndH 1 cs.length) cs cs.length ++ zeros (64 - (ndC (ndH 1 cs.length) cs cs.length).size)) := Lib.hid rfl
  generalize ndB true cs ks ds = EF at *
  have HSZ : Hid (∀ j, (ndC (ndH 1 cs.length) cs j).size = 2 + 7 * j) := Lib.hid (fun j => by rw [ndC_size, ndH_size])
  have HAT := Lib.hid (fun j (h : j < cs.length) => ndC_at (ndH 1 cs.length) h)
  have HB0 : Hid (Below w.heap.size w (w.alloc (.cells #[.bool true, .slice A0 cs.length c0, .slice A1 ks.length c1, .slice A2 ds.length c2] 54))) := Lib.hid ((Below.refl _ w).alloc (Nat.le_refl _) _)
  have HR0 : Hid ((w.alloc (.cells #[.bool true, .slice A0 cs.length c0, .slice A1 ks.length c1, .slice A2 ds.length c2] 54)).heap[w.heap.size]? = some (.cells #[.bool true, .slice A0 cs.length c0, .slice A1 ks.length c1, .slice A2 ds.length c2] 54 (0, 0))) := Lib.hid (heap_alloc_new w _)
  have HZ0 : Hid (w.heap.size < (w.alloc (.cells #[.bool true, .slice A0 cs.length c0, .slice A1 ks.length c1, .slice A2 ds.length c2] 54)).heap.size) := Lib.hid (by simp)
  have q0 : (w.alloc (.cells #[.bool true, .slice A0 cs.length c0, .slice A1 ks.length c1, .slice A2 ds.length c2] 54)).cell? ⟨w.heap.size, 0, none⟩ = some (.bool true) := by rw [cell_of_row _ _ _ _ _ _ HR0.out]; rfl
  have F1 := Lib.hid (fun W => l01Bytes_any 1 1 (by omega) (by omega) W)
  have F2 := Lib.hid (fun W => l01Bytes_any (cs.length : Int) 1 (by omega) (by omega) W)
  have HH : Hid (ndH 1 cs.length = leS 1 1 ++ leS (cs.length : Int) 1) := Lib.hid rfl
  have z1 := leS_one 1 1
  have z2 := leS_one (cs.length : Int) 1
  generalize ndH 1 cs.length = EH at *
  simp only [Int.toNat_one] at F1 F2
  generalize leS 1 1 = b1 at *
  generalize leS (cs.length : Int) 1 = b2 at *
  have a1 := fun W => addS (a := b1) (b := b2) HH.out.symm (by omega) W
  clear z1 z2
  go_enter Try.func88, Try.ntmps88
  go_wp2_with fail
  clear q0
  generalize (w.alloc (.cells #[.bool true, .slice A0 cs.length c0, .slice A1 ks.length c1, .slice A2 ds.length c2] 54)) = w0 at *
  have HSt : Hid (∀ W, Below w0.heap.size w0 W → W.cell? ⟨w.heap.size, 1, none⟩ = some (.slice A0 cs.length c0)) := Lib.hid (fun W hW => by
    rw [cell_of_row _ _ _ _ _ _ ((hW.block _ HZ0.out).trans HR0.out)]; rfl)
  have HD : Hid (Below w0.heap.size w0 w0.drew) := Lib.hid (Below.refl _ _).drew
  go_region_held3 (fun W => W.cell? ⟨w.heap.size, 1, none⟩ = some (.slice A0 cs.length c0)) (exact HSt.out _ (by first | exact kb2 | exact kb1 | exact HD.out))
    ((first | (go_at_call 112; go_fit (F1.out _); rintro e u1 ⟨rfl, g1⟩; have kb1 : Below w0.heap.size w0 u1 := HD.out.trans (g1.mono HD.out.size)) | (go_at_call 112; go_fit (F2.out _); rintro e u2 ⟨rfl, g2⟩; have kb2 : Below w0.heap.size w0 u2 := kb1.trans (g2.mono kb1.size))))
  try simp only [Exit.then]
  have HB2 := Lib.hid kb2
  clear kb1 kb2 g1 g2
  go_wp2_with fail
  clear a1
  go_loopw [3, 4] (fun v i wr => ∃ j : Nat, j ≤ cs.length ∧ i = .int .i64 (j : Int) ∧ v = .string (ndC EH cs j) ∧ Below w0.heap.size w0 wr) (fun _ i _ => cs.length - (intOf i).toNat)
  case atStart => exact ⟨0, Nat.zero_le _, rfl, rfl, HB2.out⟩
  case round =>
    obtain ⟨j, hj, rfl, rfl, hbel⟩ := hrel
    have Hbel := Lib.hid hbel
    have q1 := HSt.out wr hbel
    have Hbw : Hid (Below w.heap.size w wr) := Lib.hid (HB0.out.trans (hbel.mono HB0.out.size))
    have hz := HSZ.out j
    by_cases hlt : j < cs.length
    · obtain ⟨b, o, rfl, hb, hc0, hc1, hc2, hc3, -⟩ := Hx0.out j hlt
      have Hld := Lib.hid (run_load_cells (P := Try.prog) wr b (o + j * 4) 106 _ [.int .i64 cs[j].1, .int .i64 cs[j].2.1, .int .i64 cs[j].2.2.1, .int .i64 cs[j].2.2.2] (cells_C (by rw [Hbw.out.cell (show b < _ from by omega)]; exact hc0) (by rw [Hbw.out.cell (show b < _ from by omega)]; exact hc1) (by rw [Hbw.out.cell (show b < _ from by omega)]; exact hc2) (by rw [Hbw.out.cell (show b < _ from by omega)]; exact hc3)) Try.underlying106 (by kernel_rfl))
      have HS := Lib.hid (HAT.out j hlt)
      clear hc0 hc1 hc2 hc3 hbel
      generalize cs[j].1 = n0 at *; generalize cs[j].2.1 = n1 at *; generalize cs[j].2.2.1 = n2 at *; generalize cs[j].2.2.2 = n3 at *
      generalize hN : ndC EH cs (j + 1) = S1 at *
      have HN := Lib.hid hN; clear hN
      generalize ndC EH cs j = S0 at *
      have G1 := Lib.hid (fun W => l01Bytes_any n0 2 (by omega) (by omega) W)
      have G2 := Lib.hid (fun W => l01Bytes_any n1 2 (by omega) (by omega) W)
      have G3 := Lib.hid (fun W => l01Bytes_any n2 2 (by omega) (by omega) W)
      have G4 := Lib.hid (fun W => l01Bytes_any n3 1 (by omega) (by omega) W)
      simp only [Int.toNat_one, show (2 : Int).toNat = 2 from rfl] at G1 G2 G3 G4
      have z1 := leS_one n0 2; have z2 := leS_one n1 2; have z3 := leS_one n2 2; have z4 := leS_one n3 1
      generalize leS n0 2 = b1 at *; generalize leS n1 2 = b2 at *; generalize leS n2 2 = b3 at *; generalize leS n3 1 = b4 at *
      have a1 := fun W => addS (a := b1) (b := b2) rfl (by omega) W
      have y1 : (b1 ++ b2).size = 4 := by rw [ByteArray.size_append]; omega
      generalize b1 ++ b2 = t1 at *
      have a2 := fun W => addS (a := t1) (b := b3) rfl (by omega) W
      have y2 : (t1 ++ b3).size = 6 := by rw [ByteArray.size_append]; omega
      generalize t1 ++ b3 = t2 at *
      have a3 := fun W => addS (a := t2) (b := b4) rfl (by omega) W
      have y3 : (t2 ++ b4).size = 7 := by rw [ByteArray.size_append]; omega
      generalize t2 ++ b4 = t3 at *
      have a4 := fun W => addS (a := S0) (b := t3) HS.out.symm (by omega) W
      clear z1 z2 z3 z4 y1 y2 y3 hz HS
      have Hi0 : Hid ((Try.prog.info? 106).map (·.size) = some (#[.int .i64 n0, .int .i64 n1, .int .i64 n2, .int .i64 n3] : Array Value).size) := Lib.hid (by kernel_rfl)
      have H10 : Hid ((#[.int .i64 n0, .int .i64 n1, .int .i64 n2, .int .i64 n3] : Array Value).all (·.oneCell') = true) := Lib.hid (by simp [Value.oneCell'])
      have HB1 : Hid (Below w0.heap.size w0 (wr.alloc (.cells #[.int .i64 n0, .int .i64 n1, .int .i64 n2, .int .i64 n3] 106))) := Lib.hid (Hbel.out.trans ((Below.refl _ wr).alloc Hbel.out.size _))
      have R1 : Hid ((wr.alloc (.cells #[.int .i64 n0, .int .i64 n1, .int .i64 n2, .int .i64 n3] 106)).heap[wr.heap.size]? = some (.cells #[.int .i64 n0, .int .i64 n1, .int .i64 n2, .int .i64 n3] 106 (0, 0))) := Lib.hid (heap_alloc_new wr _)
      have Z1 : Hid (wr.heap.size < (wr.alloc (.cells #[.int .i64 n0, .int .i64 n1, .int .i64 n2, .int .i64 n3] 106)).heap.size) := Lib.hid (by simp)
      go_wp2_with (first | (refine wpList_load_agg rfl 106 (.tmp 26) rfl _ rfl _ Hld.out ?_) | (refine wpList_store_last rfl 106 (.tmp 5) (.tmp 27) rfl #[.int .i64 n0, .int .i64 n1, .int .i64 n2, .int .i64 n3] _ 106 rfl rfl Hi0.out rfl H10.out ?_))
      clear q1
      generalize (wr.alloc (.cells #[.int .i64 n0, .int .i64 n1, .int .i64 n2, .int .i64 n3] 106)) = V at *
      have HSm : Hid (∀ W, Below V.heap.size V W → W.cell? ⟨wr.heap.size, 0, none⟩ = some (.int .i64 n0) ∧ W.cell? ⟨wr.heap.size, 1, none⟩ = some (.int .i64 n1) ∧ W.cell? ⟨wr.heap.size, 2, none⟩ = some (.int .i64 n2) ∧ W.cell? ⟨wr.heap.size, 3, none⟩ = some (.int .i64 n3)) := Lib.hid (fun W hW => by
        have hr := (hW.block _ Z1.out).trans R1.out
        exact ⟨by rw [cell_of_row _ _ _ _ _ _ hr]; rfl, by rw [cell_of_row _ _ _ _ _ _ hr]; rfl, by rw [cell_of_row _ _ _ _ _ _ hr]; rfl, by rw [cell_of_row _ _ _ _ _ _ hr]; rfl⟩)
      have HDm : Hid (Below V.heap.size V V.drew) := Lib.hid (Below.refl _ _).drew
      go_region_held3 (fun W => W.cell? ⟨wr.heap.size, 0, none⟩ = some (.int .i64 n0) ∧ W.cell? ⟨wr.heap.size, 1, none⟩ = some (.int .i64 n1) ∧ W.cell? ⟨wr.heap.size, 2, none⟩ = some (.int .i64 n2) ∧ W.cell? ⟨wr.heap.size, 3, none⟩ = some (.int .i64 n3)) (exact HSm.out _ (by first | exact kb4 | exact kb3 | exact kb2 | exact kb1 | exact HDm.out))
        ((first | (go_at_call 112; go_fit (G1.out _); rintro e u1 ⟨rfl, g1⟩; have kb1 : Below V.heap.size V u1 := HDm.out.trans (g1.mono HDm.out.size)) | (go_at_call 112; go_fit (G2.out _); rintro e u2 ⟨rfl, g2⟩; have kb2 : Below V.heap.size V u2 := kb1.trans (g2.mono kb1.size)) | (go_at_call 112; go_fit (G3.out _); rintro e u3 ⟨rfl, g3⟩; have kb3 : Below V.heap.size V u3 := kb2.trans (g3.mono kb2.size)) | (go_at_call 112; go_fit (G4.out _); rintro e u4 ⟨rfl, g4⟩; have kb4 : Below V.heap.size V u4 := kb3.trans (g4.mono kb3.size))))
      try simp only [Exit.then]
      have Hk5 : Hid (Below w0.heap.size w0 u4) := Lib.hid (HB1.out.trans (kb4.mono HB1.out.size))
      clear kb1 kb2 kb3 kb4 g1 g2 g3 g4 a1 a2 a3 a4 G1 G2 G3 G4
      go_wp2_with fail
      go_roundw
      case rel => exact ⟨j + 1, by omega, by go_num, by rw [HN.out], Hk5.out⟩
      case measure => simp [intOf]; omega
    · obtain rfl : j = cs.length := by omega
      have hp : ∀ W, Calls Try.prog 113 #[.string (ndC EH cs cs.length), .int .i64 64] W fun e w' => e = .returned (.string EF) ∧ Below W.heap.size W w' := fun W => by
        have := l01Pad_any (ndC EH cs cs.length) 64 (by omega) (by omega) W
        rw [HF.out]
        exact this
      have HPd := Lib.hid hp
      clear hbel hp hz
      generalize ndC EH cs cs.length = S0 at *
      go_wp2_with fail
      refine (HPd.out _).mono ?_
      rintro e u6 ⟨rfl, g6⟩
      have Hg6 := Lib.hid (Hbw.out.trans (g6.mono Hbw.out.size))
      clear g6 HPd
      go_wp2_with fail
      go_ret
      exact ⟨rfl, Hg6.out⟩
set_option maxHeartbeats 4000000 in
set_option maxRecDepth 100000 in
theorem l15EncI_any {B : Nat} {w : World} {v0 v1 v2 : Value} {cs : List EC} {ks ds : List Int} (h0 : RiC B w v0 cs) (h1 : Ri B w v1 ks) (h2 : Ri B w v2 ds) (hB : B ≤ w.heap.size) (hk8 : ks.length ≤ 7) (hd8 : ds.length = ks.length + 1) :
    Calls Try.prog 88 #[.agg #[.bool false, v0, v1, v2]] w (GivesB (.string (ndB false cs ks ds)) w) := by
  obtain ⟨A0, c0, rfl, -⟩ := h0
  obtain ⟨A1, c1, rfl, hl1, hm1, hx1⟩ := h1
  obtain ⟨A2, c2, rfl, hl2, hm2, hx2⟩ := h2
  have Hx1 := Lib.hid hx1; have Hx2 := Lib.hid hx2; clear hx1 hx2
  unfold maxLen at hm1 hm2
  have HF : Hid (ndB false cs ks ds = ndI (ndI (ndH 2 ks.length) ds ds.length) ks ks.length ++ zeros (64 - (ndI (ndI (ndH 2 ks.length) ds ds.length) ks ks.length).size)) := Lib.hid rfl
  generalize ndB false cs ks ds = EF at *
  have HSZ : Hid (∀ j, (ndI (ndH 2 ks.length) ds j).size = 2 + 2 * j) := Lib.hid (fun j => by rw [ndI_size, ndH_size])
  have HAT := Lib.hid (fun j (h : j < ds.length) => ndI_at (ndH 2 ks.length) h)
  have HSZ2 : Hid (∀ j, (ndI (ndI (ndH 2 ks.length) ds ds.length) ks j).size = 2 + 2 * ds.length + 2 * j) := Lib.hid (fun j => by rw [ndI_size, ndI_size, ndH_size])
  have HAT2 := Lib.hid (fun j (h : j < ks.length) => ndI_at (ndI (ndH 2 ks.length) ds ds.length) h)
  have HB0 : Hid (Below w.heap.size w (w.alloc (.cells #[.bool false, .slice A0 cs.length c0, .slice A1 ks.length c1, .slice A2 ds.length c2] 54))) := Lib.hid ((Below.refl _ w).alloc (Nat.le_refl _) _)
  have HR0 : Hid ((w.alloc (.cells #[.bool false, .slice A0 cs.length c0, .slice A1 ks.length c1, .slice A2 ds.length c2] 54)).heap[w.heap.size]? = some (.cells #[.bool false, .slice A0 cs.length c0, .slice A1 ks.length c1, .slice A2 ds.length c2] 54 (0, 0))) := Lib.hid (heap_alloc_new w _)
  have HZ0 : Hid (w.heap.size < (w.alloc (.cells #[.bool false, .slice A0 cs.length c0, .slice A1 ks.length c1, .slice A2 ds.length c2] 54)).heap.size) := Lib.hid (by simp)
  have q0 : (w.alloc (.cells #[.bool false, .slice A0 cs.length c0, .slice A1 ks.length c1, .slice A2 ds.length c2] 54)).cell? ⟨w.heap.size, 0, none⟩ = some (.bool false) := by rw [cell_of_row _ _ _ _ _ _ HR0.out]; rfl
  have F1 := Lib.hid (fun W => l01Bytes_any 2 1 (by omega) (by omega) W)
  have F2 := Lib.hid (fun W => l01Bytes_any (ks.length : Int) 1 (by omega) (by omega) W)
  have HH : Hid (ndH 2 ks.length = leS 2 1 ++ leS (ks.length : Int) 1) := Lib.hid rfl
  have z1 := leS_one 2 1
  have z2 := leS_one (ks.length : Int) 1
  generalize hM : ndI (ndH 2 ks.length) ds ds.length = EM at *
  have HM := Lib.hid hM; clear hM
  generalize ndH 2 ks.length = EH at *
  simp only [Int.toNat_one] at F1 F2
  generalize leS 2 1 = b1 at *
  generalize leS (ks.length : Int) 1 = b2 at *
  have a1 := fun W => addS (a := b1) (b := b2) HH.out.symm (by omega) W
  have HKL := Lib.hid hk8; have HDL := Lib.hid hd8
  clear z1 z2 hd8
  go_enter Try.func88, Try.ntmps88
  go_wp2_with fail
  clear q0
  generalize (w.alloc (.cells #[.bool false, .slice A0 cs.length c0, .slice A1 ks.length c1, .slice A2 ds.length c2] 54)) = w0 at *
  have HSt : Hid (∀ W, Below w0.heap.size w0 W → W.cell? ⟨w.heap.size, 2, none⟩ = some (.slice A1 ks.length c1) ∧ W.cell? ⟨w.heap.size, 3, none⟩ = some (.slice A2 ds.length c2)) := Lib.hid (fun W hW => by
    have hr := (hW.block _ HZ0.out).trans HR0.out
    exact ⟨by rw [cell_of_row _ _ _ _ _ _ hr]; rfl, by rw [cell_of_row _ _ _ _ _ _ hr]; rfl⟩)
  have HD : Hid (Below w0.heap.size w0 w0.drew) := Lib.hid (Below.refl _ _).drew
  go_region_held3 (fun W => W.cell? ⟨w.heap.size, 2, none⟩ = some (.slice A1 ks.length c1) ∧ W.cell? ⟨w.heap.size, 3, none⟩ = some (.slice A2 ds.length c2)) (exact HSt.out _ (by first | exact kb2 | exact kb1 | exact HD.out))
    ((first | (go_at_call 112; go_fit (F1.out _); rintro e u1 ⟨rfl, g1⟩; have kb1 : Below w0.heap.size w0 u1 := HD.out.trans (g1.mono HD.out.size)) | (go_at_call 112; go_fit (F2.out _); rintro e u2 ⟨rfl, g2⟩; have kb2 : Below w0.heap.size w0 u2 := kb1.trans (g2.mono kb1.size))))
  try simp only [Exit.then]
  have HB2 := Lib.hid kb2
  clear kb1 kb2 g1 g2
  go_wp2_with fail
  clear a1
  go_loopw [3, 6] (fun v i wr => ∃ j : Nat, j ≤ ds.length ∧ i = .int .i64 (j : Int) ∧ v = .string (ndI EH ds j) ∧ Below w0.heap.size w0 wr) (fun _ i _ => ds.length - (intOf i).toNat)
  case atStart => exact ⟨0, Nat.zero_le _, rfl, rfl, HB2.out⟩
  case round =>
    obtain ⟨j, hj, rfl, rfl, hbel⟩ := hrel
    have Hbel := Lib.hid hbel
    have q1 := (HSt.out wr hbel).2
    have Hbw : Hid (Below w.heap.size w wr) := Lib.hid (HB0.out.trans (hbel.mono HB0.out.size))
    have hz := HSZ.out j
    by_cases hlt : j < ds.length
    · obtain ⟨b, o, rfl, hb, hc0, -⟩ := Hx2.out j hlt
      have Hg1 := Lib.hid ((Hbw.out.cell (p := ⟨b, o + j, none⟩) (show b < _ by omega)).trans hc0)
      have HS := Lib.hid (HAT.out j hlt)
      clear hc0 hbel
      generalize ds[j] = n0 at *
      generalize hN : ndI EH ds (j + 1) = S1 at *
      have HN := Lib.hid hN; clear hN
      generalize ndI EH ds j = S0 at *
      have G1 := Lib.hid (fun W => l01Bytes_any n0 2 (by omega) (by omega) W)
      simp only [show (2 : Int).toNat = 2 from rfl] at G1
      have z1 := leS_one n0 2
      generalize leS n0 2 = b1 at *
      have a4 := fun W => addS (a := S0) (b := b1) HS.out.symm (by have := HKL.out; have := HDL.out; omega) W
      clear z1 hz HS
      have HSm : Hid (∀ W, Below wr.heap.size wr W → W.cell? ⟨w.heap.size, 3, none⟩ = some (.slice (some ⟨b, o, none⟩) ds.length c2) ∧ W.cell? ⟨b, o + j, none⟩ = some (.int .i64 n0)) := Lib.hid (fun W hW => ⟨(hW.cell (p := ⟨w.heap.size, 3, none⟩) (show w.heap.size < _ by have := HZ0.out; have := Hbel.out.size; omega)).trans q1, (hW.cell (p := ⟨b, o + j, none⟩) (show b < _ by have := Hbw.out.size; omega)).trans Hg1.out⟩)
      have HDm : Hid (Below wr.heap.size wr wr.drew) := Lib.hid (Below.refl _ _).drew
      have g0 := Hg1.out
      go_wp2_with (go_at_call 112; refine (G1.out _).mono ?_; rintro e u1 ⟨rfl, g1⟩; have kb1 := g1)
      have Hk5 : Hid (Below w0.heap.size w0 u1) := Lib.hid (Hbel.out.trans (kb1.mono Hbel.out.size))
      clear kb1 g1 a4 G1
      go_wp2_with fail
      go_roundw
      case rel => exact ⟨j + 1, by omega, by go_num, by rw [HN.out], Hk5.out⟩
      case measure => simp [intOf]; omega
    · obtain rfl : j = ds.length := by omega
      clear hz
      have HB2 := Lib.hid hbel
      clear hbel Hbel Hbw
      rw [HM.out]
      go_wp2_with fail
      clear q1
      go_loopw [3, 7] (fun v i wr => ∃ j : Nat, j ≤ ks.length ∧ i = .int .i64 (j : Int) ∧ v = .string (ndI EM ks j) ∧ Below w0.heap.size w0 wr) (fun _ i _ => ks.length - (intOf i).toNat)
      case atStart => exact ⟨0, Nat.zero_le _, rfl, rfl, HB2.out⟩
      case round =>
        obtain ⟨j, hj, rfl, rfl, hbel⟩ := hrel
        have Hbel := Lib.hid hbel
        have q1 := (HSt.out wr hbel).1
        have Hbw : Hid (Below w.heap.size w wr) := Lib.hid (HB0.out.trans (hbel.mono HB0.out.size))
        have hz := HSZ2.out j
        by_cases hlt : j < ks.length
        · obtain ⟨b, o, rfl, hb, hc0, -⟩ := Hx1.out j hlt
          have Hg1 := Lib.hid ((Hbw.out.cell (p := ⟨b, o + j, none⟩) (show b < _ by omega)).trans hc0)
          have HS := Lib.hid (HAT2.out j hlt)
          clear hc0 hbel
          generalize ks[j] = n0 at *
          generalize hN : ndI EM ks (j + 1) = S1 at *
          have HN := Lib.hid hN; clear hN
          generalize ndI EM ks j = S0 at *
          have G1 := Lib.hid (fun W => l01Bytes_any n0 2 (by omega) (by omega) W)
          simp only [show (2 : Int).toNat = 2 from rfl] at G1
          have z1 := leS_one n0 2
          generalize leS n0 2 = b1 at *
          have a4 := fun W => addS (a := S0) (b := b1) HS.out.symm (by have := HKL.out; have := HDL.out; omega) W
          clear z1 hz HS
          have HSm : Hid (∀ W, Below wr.heap.size wr W → W.cell? ⟨w.heap.size, 2, none⟩ = some (.slice (some ⟨b, o, none⟩) ks.length c1) ∧ W.cell? ⟨b, o + j, none⟩ = some (.int .i64 n0)) := Lib.hid (fun W hW => ⟨(hW.cell (p := ⟨w.heap.size, 2, none⟩) (show w.heap.size < _ by have := HZ0.out; have := Hbel.out.size; omega)).trans q1, (hW.cell (p := ⟨b, o + j, none⟩) (show b < _ by have := Hbw.out.size; omega)).trans Hg1.out⟩)
          have HDm : Hid (Below wr.heap.size wr wr.drew) := Lib.hid (Below.refl _ _).drew
          have g0 := Hg1.out
          go_wp2_with (go_at_call 112; refine (G1.out _).mono ?_; rintro e u1 ⟨rfl, g1⟩; have kb1 := g1)
          have Hk5 : Hid (Below w0.heap.size w0 u1) := Lib.hid (Hbel.out.trans (kb1.mono Hbel.out.size))
          clear kb1 g1 a4 G1
          go_wp2_with fail
          go_roundw
          case rel => exact ⟨j + 1, by omega, by go_num, by rw [HN.out], Hk5.out⟩
          case measure => simp [intOf]; omega
        · obtain rfl : j = ks.length := by omega
          have hp : ∀ W, Calls Try.prog 113 #[.string (ndI EM ks ks.length), .int .i64 64] W fun e w' => e = .returned (.string EF) ∧ Below W.heap.size W w' := fun W => by
            have hk := HKL.out; have hd := HDL.out
            have := l01Pad_any (ndI EM ks ks.length) 64 (by omega) (by omega) W
            rw [HF.out]
            exact this
          have HPd := Lib.hid hp
          clear hbel hp hz
          generalize ndI EM ks ks.length = S0 at *
          go_wp2_with fail
          refine (HPd.out _).mono ?_
          rintro e u6 ⟨rfl, g6⟩
          have Hg6 := Lib.hid (Hbw.out.trans (g6.mono Hbw.out.size))
          clear g6 HPd
          go_wp2_with fail
          go_ret
          exact ⟨rfl, Hg6.out⟩
theorem l15Enc_any {B : Nat} {w : World} {v0 v1 v2 : Value} {cs : List EC} {ks ds : List Int} (lf : Bool) (h0 : RiC B w v0 cs) (h1 : Ri B w v1 ks) (h2 : Ri B w v2 ds) (hB : B ≤ w.heap.size) (hok : nodeOk lf cs ks ds = true) :
    Calls Try.prog 88 #[.agg #[.bool lf, v0, v1, v2]] w (GivesB (.string (ndB lf cs ks ds)) w) := by
  cases lf
  · have h := nodeI_len hok
    exact l15EncI_any h0 h1 h2 hB h.1 h.2.2.1
  · exact l15EncL_any h0 h1 h2 hB (nodeL_len hok).1
theorem ndV_no {lf : Bool} {cs : List EC} {ks ds : List Int} (h : nodeOk lf cs ks ds = false) : ndV lf cs ks ds = ⟨#[]⟩ := by simp [ndV, h]
theorem ndV_y {lf : Bool} {cs : List EC} {ks ds : List Int} (h : nodeOk lf cs ks ds = true) : ndV lf cs ks ds = ndB lf cs ks ds := by simp [ndV, h]
set_option maxHeartbeats 2000000 in
set_option maxRecDepth 100000 in
theorem specEncodeNode_any {B : Nat} {w : World} {v0 v1 v2 : Value} {cs : List EC} {ks ds : List Int} {lf : Bool} (h0 : RiC B w v0 cs) (h1 : Ri B w v1 ks) (h2 : Ri B w v2 ds) (hB : B ≤ w.heap.size) :
    Calls Try.prog 40 #[.agg #[.bool lf, v0, v1, v2]] w (GivesB (.string (ndV lf cs ks ds)) w) := by
  have H0 := Lib.hid h0; have H1 := Lib.hid h1; have H2 := Lib.hid h2
  obtain ⟨A0, c0, rfl, -⟩ := h0
  obtain ⟨A1, c1, rfl, -⟩ := h1
  obtain ⟨A2, c2, rfl, -⟩ := h2
  have HB0 : Hid (Below w.heap.size w (w.alloc (.cells #[.bool lf, .slice A0 cs.length c0, .slice A1 ks.length c1, .slice A2 ds.length c2] 54))) := Lib.hid ((Below.refl _ w).alloc (Nat.le_refl _) _)
  have R0 : Hid ((w.alloc (.cells #[.bool lf, .slice A0 cs.length c0, .slice A1 ks.length c1, .slice A2 ds.length c2] 54)).heap[w.heap.size]? = some (.cells #[.bool lf, .slice A0 cs.length c0, .slice A1 ks.length c1, .slice A2 ds.length c2] 54 (0, 0))) := Lib.hid (heap_alloc_new w _)
  have HZ0 : Hid (w.heap.size < (w.alloc (.cells #[.bool lf, .slice A0 cs.length c0, .slice A1 ks.length c1, .slice A2 ds.length c2] 54)).heap.size) := Lib.hid (by simp)
  have HC := Lib.hid (l15Node_any lf (H0.out.at hB HB0.out) (H1.out.at hB HB0.out) (H2.out.at hB HB0.out) (Nat.le_refl _))
  have HD := Lib.hid (fun W (hW : Below w.heap.size w W) (ho : nodeOk lf cs ks ds = true) => l15Enc_any lf (H0.out.at hB hW) (H1.out.at hB hW) (H2.out.at hB hW) (Nat.le_refl _) ho)
  have HI : Hid (nodeOk lf cs ks ds = false → ndV lf cs ks ds = ⟨#[]⟩) := Lib.hid ndV_no
  have HY : Hid (nodeOk lf cs ks ds = true → ndV lf cs ks ds = ndB lf cs ks ds) := Lib.hid ndV_y
  generalize ndV lf cs ks ds = r at *
  generalize ndB lf cs ks ds = i at *
  generalize nodeOk lf cs ks ds = ok at *
  go_enter Try.func40, Try.ntmps40
  go_wp2_with (refine wpList_load_row rfl 54 (.tmp 1) rfl _ rfl 54 _ (0, 0) _ R0.out Try.underlying54 rfl (by kernel_rfl) ?_)
  generalize (w.alloc (.cells #[.bool lf, .slice A0 cs.length c0, .slice A1 ks.length c1, .slice A2 ds.length c2] 54)) = w0 at *
  refine HC.out.mono ?_
  rintro e w1 ⟨rfl, g⟩
  have HB1 := Lib.hid (HB0.out.trans (g.mono HB0.out.size))
  have R1 := Lib.hid ((g.block _ HZ0.out).trans R0.out)
  have HE := Lib.hid (HD.out w1 HB1.out)
  clear g HC HD
  cases ok
  · have Hf := Lib.hid (HI.out rfl)
    go_wp2_with fail
    go_ret
    exact ⟨by rw [Hf.out]; rfl, HB1.out⟩
  have Hf := Lib.hid (HY.out rfl)
  have HG := Lib.hid (HE.out rfl)
  go_wp2_with (refine wpList_load_row rfl 54 (.tmp 1) rfl _ rfl 54 _ (0, 0) _ R1.out Try.underlying54 rfl (by kernel_rfl) ?_)
  refine HG.out.mono ?_
  rintro e w2 ⟨rfl, g⟩
  have HB2 := Lib.hid (HB1.out.trans (g.mono HB1.out.size))
  clear g
  go_wp2_with fail
  go_ret
  exact ⟨by rw [Hf.out]; rfl, HB2.out⟩
end Go.Proofs.Ytabnglimchjgpaa
