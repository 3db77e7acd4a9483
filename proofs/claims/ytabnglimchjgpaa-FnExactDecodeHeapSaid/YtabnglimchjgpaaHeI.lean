/- The binary form of a heap of names: both sides write it. No statement is proved here. -/
import Derived.Test.YtabnglimchjgpaaHeP
import Derived.Test.YtabnglimchjgpaaHpM
import Derived.Test.YtabnglimchjgpaaBl2
import Derived.Deep.RegionHeld3
namespace Go.Proofs.Ytabnglimchjgpaa
open Go.RowKit
set_option linter.unusedVariables false
theorem heV_no {ss : List ByteArray} (h : hpOk ss = false) : heV ss = ⟨#[]⟩ := by simp [heV, h]
theorem heV_y {ss : List ByteArray} (h : hpOk ss = true) : heV ss = heF ss := by simp [heV, h]
theorem inI_len (s : ByteArray) (h : s.size ≤ 1048576) : InI (s.size : Int) := by unfold InI; omega
set_option maxHeartbeats 4000000 in
set_option maxRecDepth 100000 in
theorem l16Encode_any {B : Nat} {w : World} {v : Value} {ss : List ByteArray} (h : RiT B w v ss) (hB : B ≤ w.heap.size) (hok : hpOk ss = true) :
    Calls Try.prog 67 #[.agg #[v]] w (GivesB (.string (heF ss)) w) := by
  obtain ⟨A, cap, rfl, hl, hcc, hx⟩ := h
  have Hx := Lib.hid hx; clear hx
  unfold maxLen at hcc
  have hlen := (hpOk_iff.1 hok).1
  have H12 := Lib.hid (hp_le12 hok)
  have HSZ := Lib.hid (fun j hj => heT_size hok j hj)
  have Hb0 : Hid (Below w.heap.size w (w.alloc (.cells #[.slice A ss.length cap] 27))) := Lib.hid ((Below.refl _ w).alloc (Nat.le_refl _) _)
  have HZ0 : Hid (w.heap.size < (w.alloc (.cells #[.slice A ss.length cap] 27)).heap.size) := Lib.hid (by simp)
  have HQ0 := Lib.hid (row1 w (.slice A ss.length cap) 27)
  have F1 := Lib.hid (fun W => l02Byte_any (ss.length : Int) W)
  have HF : Hid (heF ss = heT (heH ss) ss ss.length) := Lib.hid rfl
  have HH : Hid (heH ss = leS (ss.length : Int) 1) := Lib.hid rfl
  rw [← HH.out] at F1
  clear HH
  generalize heF ss = EF at *
  generalize heH ss = EH at *
  clear hok
  have q0 := HQ0.out
  go_enter Try.func67, Try.ntmps67
  go_wp2_with fail
  clear q0
  generalize (w.alloc (.cells #[.slice A ss.length cap] 27)) = w0 at *
  refine (F1.out _).mono ?_
  rintro e w1 ⟨rfl, g⟩
  have HB1 := Lib.hid g
  clear g
  go_wp2_with fail
  go_loopw [3, 4] (fun v i wr => ∃ j : Nat, j ≤ ss.length ∧ i = .int .i64 (j : Int) ∧ v = .string (heT EH ss j) ∧ Below w0.heap.size w0 wr) (fun _ i _ => ss.length - (intOf i).toNat)
  case atStart => exact ⟨0, Nat.zero_le _, rfl, rfl, HB1.out⟩
  case round =>
    obtain ⟨j, hj, rfl, rfl, hbel⟩ := hrel
    have Hbel := Lib.hid hbel
    have q0 : wr.cell? ⟨w.heap.size, 0, none⟩ = some (.slice A ss.length cap) := (hbel.cell (p := ⟨w.heap.size, 0, none⟩) HZ0.out).trans HQ0.out
    have Hbw : Hid (Below w.heap.size w wr) := Lib.hid (Hb0.out.trans (hbel.mono Hb0.out.size))
    by_cases hlt : j < ss.length
    · obtain ⟨b, o, rfl, hb, hc, -⟩ := Hx.out j hlt
      have Hg1 := Lib.hid ((Hbw.out.cell (p := ⟨b, o + j, none⟩) (show b < _ by omega)).trans hc)
      have hd := H12.out j hlt
      rw [hpN_at hlt] at hd
      have hS := HSZ.out j hj
      have HS : Hid (heT EH ss (j + 1) = heT EH ss j ++ (leS ss[j].size 1 ++ ss[j])) := Lib.hid (heT_succ EH ss j hlt)
      have hsz := hbel.size
      clear hc hbel
      generalize ss[j] = s at *
      generalize hN : heT EH ss (j + 1) = S1 at *
      have HN := Lib.hid hN; clear hN
      generalize heT EH ss j = S0 at *
      have F2 := Lib.hid (fun W => l02Byte_any (s.size : Int) W)
      have z1 := leS_one (s.size : Int) 1
      generalize leS (s.size : Int) 1 = b1 at *
      have a1 := fun W => addS (a := b1) (b := s) rfl (by omega) W
      have a2 := fun W => addS (a := S0) (b := b1 ++ s) HS.out.symm (by rw [ByteArray.size_append]; omega) W
      clear HS
      generalize b1 ++ s = t2 at *
      have HSm : Hid (∀ W, Below wr.heap.size wr W → W.cell? ⟨w.heap.size, 0, none⟩ = some (.slice (some ⟨b, o, none⟩) ss.length cap) ∧ W.cell? ⟨b, o + j, none⟩ = some (.string s)) := Lib.hid (fun W hW => ⟨(hW.cell (p := ⟨w.heap.size, 0, none⟩) (show w.heap.size < _ by have := HZ0.out; have := Hbel.out.size; omega)).trans q0, (hW.cell (p := ⟨b, o + j, none⟩) (show b < _ by have := Hbw.out.size; omega)).trans Hg1.out⟩)
      have HDm : Hid (Below wr.heap.size wr wr.drew) := Lib.hid (Below.refl _ _).drew
      clear z1 hd hS
      go_wp2_with fail
      clear q0
      go_region_held3 (fun W => W.cell? ⟨w.heap.size, 0, none⟩ = some (.slice (some ⟨b, o, none⟩) ss.length cap) ∧ W.cell? ⟨b, o + j, none⟩ = some (.string s)) (exact HSm.out _ (by first | exact kb1 | exact HDm.out))
        ((first | (go_at_call 103; go_fit (F2.out _); rintro e u1 ⟨rfl, g1⟩; have kb1 : Below wr.heap.size wr u1 := HDm.out.trans (g1.mono HDm.out.size))))
      try simp only [Exit.then]
      have Hk5 : Hid (Below w0.heap.size w0 u1) := Lib.hid (Hbel.out.trans (kb1.mono Hbel.out.size))
      clear kb1 g1 a1 a2 F2
      go_wp2_with fail
      go_roundw
      case rel => exact ⟨j + 1, by omega, by go_num, by rw [HN.out], Hk5.out⟩
      case measure => simp [intOf]; omega
    · obtain rfl : j = ss.length := by omega
      clear hbel
      go_wp2_with fail
      go_ret
      exact ⟨by rw [HF.out]; rfl, Hbw.out⟩
set_option maxHeartbeats 2000000 in
set_option maxRecDepth 100000 in
theorem specEncodeHeap_any {B : Nat} {w : World} {v : Value} {ss : List ByteArray} (h : RiT B w v ss) (hB : B ≤ w.heap.size) (hs : SmT ss) :
    Calls Try.prog 31 #[.agg #[v]] w (GivesB (.string (heV ss)) w) := by
  have H := Lib.hid h
  obtain ⟨A, cap, rfl, hl, hm, -⟩ := h
  have HB0 : Hid (Below w.heap.size w (w.alloc (.cells #[.slice A ss.length cap] 27))) := Lib.hid ((Below.refl _ w).alloc (Nat.le_refl _) _)
  have R0 : Hid ((w.alloc (.cells #[.slice A ss.length cap] 27)).heap[w.heap.size]? = some (.cells #[.slice A ss.length cap] 27 (0, 0))) := Lib.hid (heap_alloc_new w _)
  have HZ0 : Hid (w.heap.size < (w.alloc (.cells #[.slice A ss.length cap] 27)).heap.size) := Lib.hid (by simp)
  have HC := Lib.hid (l16Ok_any (H.out.at hB HB0.out) (Nat.le_refl _) hs)
  have HD := Lib.hid (fun W (hW : Below w.heap.size w W) (ho : hpOk ss = true) => l16Encode_any (H.out.at hB hW) (Nat.le_refl _) ho)
  clear hs
  have HI : Hid (hpOk ss = false → heV ss = ⟨#[]⟩) := Lib.hid heV_no
  have HY : Hid (hpOk ss = true → heV ss = heF ss) := Lib.hid heV_y
  generalize heV ss = r at *
  generalize heF ss = i at *
  go_enter Try.func31, Try.ntmps31
  go_wp2_with (refine wpList_load_row rfl 27 (.tmp 1) rfl _ rfl 27 _ (0, 0) _ R0.out Try.underlying27 rfl (by kernel_rfl) ?_)
  generalize (w.alloc (.cells #[.slice A ss.length cap] 27)) = w0 at *
  refine HC.out.mono ?_
  rintro e w1 ⟨rfl, g⟩
  have HB1 := Lib.hid (HB0.out.trans (g.mono HB0.out.size))
  have R1 := Lib.hid ((g.block _ HZ0.out).trans R0.out)
  have HE := Lib.hid (HD.out w1 HB1.out)
  clear g HC HD
  cases hok : hpOk ss
  · have Hf := Lib.hid (HI.out hok)
    clear hok
    go_wp2_with fail
    go_ret
    exact ⟨by rw [Hf.out]; rfl, HB1.out⟩
  have Hf := Lib.hid (HY.out hok)
  have HG := Lib.hid (HE.out hok)
  clear hok
  go_wp2_with (refine wpList_load_row rfl 27 (.tmp 1) rfl _ rfl 27 _ (0, 0) _ R1.out Try.underlying27 rfl (by kernel_rfl) ?_)
  refine HG.out.mono ?_
  rintro e w2 ⟨rfl, g⟩
  have HB2 := Lib.hid (HB1.out.trans (g.mono HB1.out.size))
  clear g
  go_wp2_with fail
  go_ret
  exact ⟨by rw [Hf.out]; rfl, HB2.out⟩
set_option maxHeartbeats 4000000 in
set_option maxRecDepth 100000 in
theorem implEncodeHeap_any {B : Nat} {w : World} {v : Value} {ss : List ByteArray} (h : RiT B w v ss) (hB : B ≤ w.heap.size) (hs : SmT ss) :
    Calls Try.prog 32 #[.agg #[v]] w (GivesB (.string (heV ss)) w) := by
  have H := Lib.hid h
  obtain ⟨A, cap, rfl, hl, hcc, hx⟩ := h
  have Hx := Lib.hid hx; clear hx
  unfold maxLen at hcc
  have HB0 : Hid (Below w.heap.size w (w.alloc (.cells #[.slice A ss.length cap] 27))) := Lib.hid ((Below.refl _ w).alloc (Nat.le_refl _) _)
  have R0 : Hid ((w.alloc (.cells #[.slice A ss.length cap] 27)).heap[w.heap.size]? = some (.cells #[.slice A ss.length cap] 27 (0, 0))) := Lib.hid (heap_alloc_new w _)
  have HZ0 : Hid (w.heap.size < (w.alloc (.cells #[.slice A ss.length cap] 27)).heap.size) := Lib.hid (by simp)
  have HC := Lib.hid (implValidHeap_any (H.out.at hB HB0.out) (Nat.le_refl _) hs)
  clear hs
  have HI : Hid (hpOk ss = false → heV ss = ⟨#[]⟩) := Lib.hid heV_no
  have HY : Hid (hpOk ss = true → heV ss = heT (heH ss) ss ss.length) := Lib.hid heV_y
  have HK : Hid (hpOk ss = true → ss.length ≤ 30 ∧ (∀ i, i < ss.length → (hpN ss i).size ≤ 12) ∧ ∀ j, j ≤ ss.length → (heT (heH ss) ss j).size ≤ 1 + 13 * j) := Lib.hid (fun hok => ⟨(hpOk_iff.1 hok).1, hp_le12 hok, fun j hj => heT_size hok j hj⟩)
  generalize heV ss = r at *
  go_enter Try.func32, Try.ntmps32
  go_wp2_with (refine wpList_load_row rfl 27 (.tmp 1) rfl _ rfl 27 _ (0, 0) _ R0.out Try.underlying27 rfl (by kernel_rfl) ?_)
  generalize (w.alloc (.cells #[.slice A ss.length cap] 27)) = w0 at *
  refine HC.out.mono ?_
  rintro e w1 ⟨rfl, g⟩
  have HB1 := Lib.hid (HB0.out.trans (g.mono HB0.out.size))
  have R1 := Lib.hid ((g.block _ HZ0.out).trans R0.out)
  have HZ1 : Hid (w.heap.size < w1.heap.size) := Lib.hid (by have := HZ0.out; have := g.size; omega)
  clear g HC
  cases hok : hpOk ss
  · have Hf := Lib.hid (HI.out hok)
    clear hok
    go_wp2_with fail
    go_ret
    exact ⟨by rw [Hf.out]; rfl, HB1.out⟩
  have Hf := Lib.hid (HY.out hok)
  obtain ⟨hlen, h12, hsz0⟩ := HK.out hok
  have H12 := Lib.hid h12; have HSZ := Lib.hid hsz0
  clear hok h12 hsz0 HK HY HI
  have HHs : Hid ((heH ss).size = 1) := Lib.hid (leS_one _ _)
  have HH : Hid (leS (ss.length : Int) 1 = heH ss) := Lib.hid rfl
  have I2 : Hid (IsB w1.heap.size w1.heap.size (bsOf ⟨#[]⟩) (w1.alloc (.cells #[.pointer none, .slice none 0 0] 83))) := Lib.hid (IsB.new w1)
  have Hb2 : Hid (Below w1.heap.size w1 (w1.alloc (.cells #[.pointer none, .slice none 0 0] 83))) := Lib.hid ((Below.refl _ _).alloc (Nat.le_refl _) _)
  have Z2 : Hid (w1.heap.size < (w1.alloc (.cells #[.pointer none, .slice none 0 0] 83)).heap.size) := Lib.hid (by simp)
  have q2 : (w1.alloc (.cells #[.pointer none, .slice none 0 0] 83)).cell? ⟨w.heap.size, 0, none⟩ = some (.slice A ss.length cap) := (Hb2.out.cell (p := ⟨w.heap.size, 0, none⟩) HZ1.out).trans (by rw [cell_of_row _ _ _ _ _ _ R1.out]; rfl)
  have HL : Hid (∀ W, Below w1.heap.size w1 W → W.cell? ⟨w.heap.size, 0, none⟩ = some (.slice A ss.length cap)) := Lib.hid (fun W hW => (hW.cell (p := ⟨w.heap.size, 0, none⟩) HZ1.out).trans (by rw [cell_of_row _ _ _ _ _ _ R1.out]; rfl))
  have HO := Lib.hid (oct1_any (w1.alloc (.cells #[.pointer none, .slice none 0 0] 83)) (ss.length : Int) (by unfold InI; omega))
  rw [HH.out] at HO
  have hsz2 : (w1.alloc (.cells #[.pointer none, .slice none 0 0] 83)).heap.size = w1.heap.size + 1 := by simp
  have HO1 := HO.out
  rw [hsz2] at HO1
  have HO2 := Lib.hid HO1
  clear HO1 hsz2 HO
  go_wp2_with fail
  clear q2
  refine HO2.out.mono ?_
  rintro e u1 ⟨rfl, g1⟩
  generalize (w1.alloc (.cells #[.pointer none, .slice none 0 0] 83)) = w2 at *
  have K1 : Hid (Below w2.heap.size w2 u1) := Lib.hid (((Below.refl _ w2).alloc (Nat.le_refl _) _).trans (g1.mono (by simp)))
  clear g1 HO2
  generalize hbb : w1.heap.size = bb at *
  have Hbb := Lib.hid hbb; clear hbb
  have HW1 := Lib.hid (wrS (B := bb) (a := ⟨#[]⟩) (c := heH ss) (nilB_app (heH ss)) (I2.out.bel K1.out) (by have := HHs.out; have : ByteArray.size ⟨#[]⟩ = 0 := rfl; omega) (by have := K1.out.size; have := Z2.out; omega))
  generalize heH ss = EH at *
  go_wp2_with fail
  refine HW1.out.mono ?_
  rintro e u2 ⟨rfl, i2, g2, kp2⟩
  have I3 := Lib.hid i2
  have K2 : Hid (Below bb w1 u2) := Lib.hid ((Hb2.out.trans (K1.out.mono (by have := Z2.out; omega))).trans g2)
  have Z3 : Hid (bb < u2.heap.size) := Lib.hid (by have := K1.out.size; have := Z2.out; have := g2.size; omega)
  have q2 := HL.out _ K2.out
  clear i2 g2 kp2 HW1 K1
  go_wp2_with fail
  clear q2
  go_loopw [5, 18] (fun _ i wr => ∃ j : Nat, j ≤ ss.length ∧ i = .int .i64 (j : Int) ∧ IsB bb bb (bsOf (heT EH ss j)) wr ∧ Below bb w1 wr ∧ bb < wr.heap.size) (fun _ i _ => ss.length - (intOf i).toNat)
  case atStart => exact ⟨0, Nat.zero_le _, rfl, I3.out, K2.out, Z3.out⟩
  case round =>
    obtain ⟨j, hj, rfl, hib, hbel, hbz⟩ := hrel
    have Hbel := Lib.hid hbel; have Hib := Lib.hid hib; have Hbz := Lib.hid hbz
    have Hbw : Hid (Below w.heap.size w wr) := Lib.hid (HB1.out.trans (hbel.mono (by have := Hbb.out; have := HZ1.out; omega)))
    clear hib hbz hbel
    by_cases hlt : j < ss.length
    · obtain ⟨b, o, rfl, hb, hc, -⟩ := Hx.out j hlt
      have g1 := (Hbw.out.cell (p := ⟨b, o + j, none⟩) (show b < _ by omega)).trans hc
      have hd := H12.out j hlt
      rw [hpN_at hlt] at hd
      have hS := HSZ.out j hj
      have HS : Hid (heT EH ss (j + 1) = heT EH ss j ++ (leS ss[j].size 1 ++ ss[j])) := Lib.hid (heT_succ EH ss j hlt)
      clear hc
      generalize ss[j] = s at *
      generalize hN : heT EH ss (j + 1) = S1 at *
      have HN := Lib.hid hN; clear hN
      generalize heT EH ss j = S0 at *
      have HO := Lib.hid (oct1_any wr (s.size : Int) (inI_len s (by omega)))
      have z1 := leS_one (s.size : Int) 1
      generalize leS (s.size : Int) 1 = b1 at *
      have a1 := fun W => addS (a := b1) (b := s) rfl (by omega) W
      have hz4 : (b1 ++ s).size ≤ 13 := by rw [ByteArray.size_append]; omega
      generalize b1 ++ s = t2 at *
      have Hz4 := Lib.hid hz4; have HS0 := Lib.hid hS
      clear z1 hz4 hS hd
      go_wp2_with fail
      clear g1
      refine HO.out.mono ?_
      rintro e v1 ⟨rfl, g1⟩
      have K1 : Hid (Below wr.heap.size wr v1) := Lib.hid (((Below.refl _ wr).alloc (Nat.le_refl _) _).trans (g1.mono (by simp)))
      clear g1 HO
      have HW1 := Lib.hid (wrS (B := bb) (a := S0) (c := S1) HS.out.symm (Hib.out.bel K1.out) (by have := Hz4.out; have := HS0.out; omega) (by have := K1.out.size; have := Hbz.out; omega))
      go_wp2_with fail
      refine HW1.out.mono ?_
      rintro e v2 ⟨rfl, i2, g2, kp2⟩
      have I5 := Lib.hid i2
      have K5 : Hid (Below bb w1 v2) := Lib.hid ((Hbel.out.trans (K1.out.mono (by have := Hbz.out; omega))).trans g2)
      have Z5 : Hid (bb < v2.heap.size) := Lib.hid (by have := K1.out.size; have := Hbz.out; have := g2.size; omega)
      clear i2 g2 kp2 HW1 K1 a1
      go_wp2_with fail
      go_roundw
      case rel => exact ⟨j + 1, by omega, by go_num, by rw [HN.out]; exact I5.out, K5.out, Z5.out⟩
      case measure => simp [intOf]; omega
    · obtain rfl : j = ss.length := by omega
      have HRd := Lib.hid (rdBld Hib.out (by have := Hbz.out; omega))
      generalize heT EH ss ss.length = S0 at *
      go_wp2_with fail
      refine HRd.out.mono ?_
      rintro e w9 ⟨rfl, g9⟩
      have Hb9 : Hid (Below w.heap.size w w9) := Lib.hid (HB1.out.trans ((Hbel.out.trans g9).mono (by have := Hbb.out; have := HZ1.out; omega)))
      clear g9
      go_wp2_with fail
      go_ret
      exact ⟨by rw [Hf.out]; rfl, Hb9.out⟩
end Go.Proofs.Ytabnglimchjgpaa
