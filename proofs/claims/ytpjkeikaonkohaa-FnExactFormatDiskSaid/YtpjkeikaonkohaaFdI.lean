/- The program's FormatDisk. No statement is proved here. -/
import Derived.Test.YtpjkeikaonkohaaFdP
import Derived.Test.YtpjkeikaonkohaaWsI
import Derived.Test.YtpjkeikaonkohaaBrm
import Derived.Test.YtpjkeikaonkohaaNdI
import Derived.Deep.DeepFit
namespace Go.Proofs.Ytpjkeikaonkohaa
open Go.RowKit
set_option linter.unusedVariables false
set_option maxHeartbeats 4000000 in
set_option maxRecDepth 100000 in
theorem implFormatDisk_any (n l : Int) (w : World) (hn : InI n) (hl : InI l) : Calls Try.prog 60 #[.int .i64 n, .int .i64 l] w (AnsDC (fdS n l) [] (fdF n l) false (fdC n l) w) := by
  have HB := Lib.hid (boxes2 w #[.slice none 0 0, .slice none 0 0, .int .i64 0, .bool false] #[.int .i64 n, .int .i64 l, .int .i64 0, .int .i64 0] 30 55)
  go_enter Try.func60, Try.ntmps60
  go_wp2_with fail
  generalize ((w.alloc (.cells #[.slice none 0 0, .slice none 0 0, .int .i64 0, .bool false] 30)).alloc (.cells #[.int .i64 n, .int .i64 l, .int .i64 0, .int .i64 0] 55)) = w0 at *
  refine (implValidSuper_any n l 0 0 w0 hn hl).mono ?_
  rintro e w1 ⟨rfl, g⟩
  have RD : Hid (w1.heap[w.heap.size]? = some (.cells #[.slice none 0 0, .slice none 0 0, .int .i64 0, .bool false] 30 (0, 0))) := Lib.hid ((g.block _ (by have := HB.out.2.2.1; omega)).trans HB.out.1)
  have RS : Hid (w1.heap[w.heap.size + 1]? = some (.cells #[.int .i64 n, .int .i64 l, .int .i64 0, .int .i64 0] 55 (0, 0))) := Lib.hid ((g.block _ (by have := HB.out.2.2.1; omega)).trans HB.out.2.1)
  have B1 : Hid (Below w.heap.size w w1) := Lib.hid (HB.out.2.2.2.trans (g.mono HB.out.2.2.2.size))
  have Z1 : Hid (w.heap.size + 2 ≤ w1.heap.size) := Lib.hid (by have := HB.out.2.2.1; have := g.size; omega)
  clear g
  cases hs : supOk n l 0 0
  · have e1 : fdS n l = [] := by simp [fdS, hs]
    have e2 : fdF n l = 0 := by simp [fdF, hs]
    have e3 : fdC n l = 2 := by simp [fdC, hs]
    have E := Lib.hid (And.intro e1 (And.intro e2 e3))
    clear e1 e2 e3 hs
    go_wp2_with (refine wpList_store_row rfl 30 (.tmp 4) (.tmp 15) rfl w.heap.size #[.slice none 0 0, .slice none 0 0, .int .i64 0, .bool false] rfl rfl 30 _ RD.out (infoD4 _ _ _ _) rfl oneD4 ?_)
    refine bodyPost_ret (v := .tuple #[.agg #[.slice none 0 0, .slice none 0 0, .int .i64 0, .bool false], .int .i64 2]) ?_ rfl ?_
    · exact results_cell_row2 rfl _ _ w.heap.size 30 _ (0, 0) _ _ rfl rfl (setRow_heap _ _ _ _ _ _ RD.out) Try.underlying30 rfl (by kernel_rfl)
    · rw [E.out.1, E.out.2.1, E.out.2.2]; exact DskO.ans (DskO.nil _ _) (below_setRow B1.out (Nat.le_refl _) _)
  have e1 : fdS n l = (zs n.toNat).set 0 (supB n l 0 0) := by simp [fdS, hs]
  have e2 : fdF n l = -1 := by simp [fdF, hs]
  have e3 : fdC n l = 0 := by simp [fdC, hs]
  have HN := Lib.hid (supOk_n hs)
  have HWS := Lib.hid (fd_ws hs)
  have E := Lib.hid (And.intro e1 (And.intro e2 e3))
  clear e1 e2 e3 hs
  have r0 : w1.cell? ⟨w.heap.size + 1, 0, none⟩ = some (.int .i64 n) := by rw [cell_of_row _ _ _ _ _ _ RS.out]; rfl
  have r1 : w1.cell? ⟨w.heap.size + 1, 1, none⟩ = some (.int .i64 l) := by rw [cell_of_row _ _ _ _ _ _ RS.out]; rfl
  have r2 : w1.cell? ⟨w.heap.size + 1, 2, none⟩ = some (.int .i64 0) := by rw [cell_of_row _ _ _ _ _ _ RS.out]; rfl
  have r3 : w1.cell? ⟨w.heap.size + 1, 3, none⟩ = some (.int .i64 0) := by rw [cell_of_row _ _ _ _ _ _ RS.out]; rfl
  go_wp2_with fail
  clear r0 r1 r2 r3
  have e1 : ndS n = zs n.toNat := by simp [ndS, inB_iff.2 HN.out]
  have e2 : ndF n = -1 := by simp [ndF, inB_iff.2 HN.out]
  have e3 : ndC n = 0 := by simp [ndC, inB_iff.2 HN.out]
  have hnd := implNewDisk_any n w1 hn
  rw [e1, e2, e3] at hnd
  clear e1 e2 e3
  refine hnd.mono ?_
  clear hnd
  rintro e w2 ⟨v1, v2, rfl, hd, g⟩
  obtain ⟨E1, d1, rfl⟩ := hd.1.ex
  obtain ⟨E2, d2, h2'⟩ := hd.2.1.ex
  obtain rfl : v2 = .slice E2 0 d2 := h2'
  have HD := Lib.hid hd; clear hd
  have RD2 : Hid (w2.heap[w.heap.size]? = some (.cells #[.slice none 0 0, .slice none 0 0, .int .i64 0, .bool false] 30 (0, 0))) := Lib.hid ((g.block _ (by have := Z1.out; omega)).trans RD.out)
  have RS2 : Hid (w2.heap[w.heap.size + 1]? = some (.cells #[.int .i64 n, .int .i64 l, .int .i64 0, .int .i64 0] 55 (0, 0))) := Lib.hid ((g.block _ (by have := Z1.out; omega)).trans RS.out)
  have B2 : Hid (Below w.heap.size w w2) := Lib.hid (B1.out.trans (g.mono B1.out.size))
  have Z2 : Hid (w.heap.size + 2 ≤ w2.heap.size) := Lib.hid (by have := Z1.out; have := g.size; omega)
  clear g
  have hx := supB_size n l 0 0
  have HBA := Lib.hid (fd_ba (m := n.toNat) (by have := HN.out; omega) (by have := HN.out; omega) hx)
  have HX : Hid ((supB n l 0 0).size ≤ maxLen) := Lib.hid (by rw [hx]; decide)
  have HZ : Hid (∀ x ∈ zs n.toNat, x.size ≤ maxLen) := Lib.hid (fun x hx => by rw [List.eq_of_mem_replicate hx]; decide)
  have HWC := Lib.hid (fun (B : Nat) (W : World) (v1 v2 : Value) (h1 : RiT B W v1 (zs n.toNat)) (h2 : RiU B W v2 []) (hB : B ≤ W.heap.size) => by
    have h := implWriteSuper_gen (fz := -1) (off := false) (n0 := n) (n1 := l) (n2 := 0) (n3 := 0) h1 h2 hB hn hl
    obtain ⟨a1, a2, a3, a4, a5⟩ := HWS.out
    rw [a1, a2, a3, a4, a5] at h
    exact h)
  have HBC := Lib.hid (fun (B : Nat) (W : World) (v1 v2 : Value) (h1 : RiT B W v1 (zs n.toNat)) (h2 : RiU B W v2 [(0, supB n l 0 0)]) (hB : B ≤ W.heap.size) => by
    have h := implBarrier_gen (fz := -1) (off := false) h1 h2 hB
    obtain ⟨a1, a2, a3, a4, a5⟩ := HBA.out
    rw [a1, a2, a3, a4, a5] at h
    exact h)
  clear hx HBA HWS
  have GA : Hid (Below w2.heap.size w2 (w2.alloc (.cells #[.slice E1 (zs n.toNat).length d1, .slice E2 0 d2, .int .i64 (-1), .bool false] 30))) := Lib.hid ((Below.refl _ _).alloc (Nat.le_refl _) _)
  have RB : Hid (DB (w2.alloc (.cells #[.slice E1 (zs n.toNat).length d1, .slice E2 0 d2, .int .i64 (-1), .bool false] 30)) w2.heap.size (.slice E1 (zs n.toNat).length d1) (.slice E2 0 d2) (-1) false) := Lib.hid (heap_alloc_new w2 _)
  generalize (zs n.toNat).set 0 (supB n l 0 0) = D at *
  generalize zs n.toNat = ss at *
  generalize supB n l 0 0 = SB at *
  have WZ : Hid (w2.heap.size < (w2.alloc (.cells #[.slice E1 ss.length d1, .slice E2 0 d2, .int .i64 (-1), .bool false] 30)).heap.size) := Lib.hid (by simp)
  have q0 := RB.out.c0; have q1 := RB.out.c1; have q2 := RB.out.c2; have q3 := RB.out.c3
  have RS3 : Hid ((w2.alloc (.cells #[.slice E1 ss.length d1, .slice E2 0 d2, .int .i64 (-1), .bool false] 30)).heap[w.heap.size + 1]? = some (.cells #[.int .i64 n, .int .i64 l, .int .i64 0, .int .i64 0] 55 (0, 0))) := Lib.hid ((GA.out.block _ (by have := Z2.out; omega)).trans RS2.out)
  have RD3 : Hid ((w2.alloc (.cells #[.slice E1 ss.length d1, .slice E2 0 d2, .int .i64 (-1), .bool false] 30)).heap[w.heap.size]? = some (.cells #[.slice none 0 0, .slice none 0 0, .int .i64 0, .bool false] 30 (0, 0))) := Lib.hid ((GA.out.block _ (by have := Z2.out; omega)).trans RD2.out)
  have D3 : Hid (DskO (w2.alloc (.cells #[.slice E1 ss.length d1, .slice E2 0 d2, .int .i64 (-1), .bool false] 30)) w1.heap.size (.slice E1 ss.length d1) (.slice E2 0 d2) ss []) := Lib.hid (HD.out.bel GA.out)
  have B3 : Hid (Below w.heap.size w (w2.alloc (.cells #[.slice E1 ss.length d1, .slice E2 0 d2, .int .i64 (-1), .bool false] 30))) := Lib.hid (B2.out.trans (GA.out.mono B2.out.size))
  have r0 : (w2.alloc (.cells #[.slice E1 ss.length d1, .slice E2 0 d2, .int .i64 (-1), .bool false] 30)).cell? ⟨w.heap.size + 1, 0, none⟩ = some (.int .i64 n) := by rw [cell_of_row _ _ _ _ _ _ RS3.out]; rfl
  have r1 : (w2.alloc (.cells #[.slice E1 ss.length d1, .slice E2 0 d2, .int .i64 (-1), .bool false] 30)).cell? ⟨w.heap.size + 1, 1, none⟩ = some (.int .i64 l) := by rw [cell_of_row _ _ _ _ _ _ RS3.out]; rfl
  have r2 : (w2.alloc (.cells #[.slice E1 ss.length d1, .slice E2 0 d2, .int .i64 (-1), .bool false] 30)).cell? ⟨w.heap.size + 1, 2, none⟩ = some (.int .i64 0) := by rw [cell_of_row _ _ _ _ _ _ RS3.out]; rfl
  have r3 : (w2.alloc (.cells #[.slice E1 ss.length d1, .slice E2 0 d2, .int .i64 (-1), .bool false] 30)).cell? ⟨w.heap.size + 1, 3, none⟩ = some (.int .i64 0) := by rw [cell_of_row _ _ _ _ _ _ RS3.out]; rfl
  go_wp2_with fail
  clear q0 q1 q2 q3 r0 r1 r2 r3
  generalize (w2.alloc (.cells #[.slice E1 ss.length d1, .slice E2 0 d2, .int .i64 (-1), .bool false] 30)) = w3 at *
  generalize hb : w2.heap.size = b at *
  refine (HWC.out _ _ _ _ (D3.out.1.rit HZ.out) (D3.out.2.1.riu (fun p hp => by cases hp)) (Nat.le_refl _)).mono ?_
  rintro e w4 ⟨v3, v4, rfl, hd, g⟩
  obtain ⟨E3, d3, rfl⟩ := hd.1.ex
  obtain ⟨E4, d4, h4'⟩ := hd.2.1.ex
  obtain rfl : v4 = .slice E4 1 d4 := h4'
  have HD4 := Lib.hid hd; clear hd
  have R4 : Hid (DB w4 b (.slice E1 ss.length d1) (.slice E2 0 d2) (-1) false) := Lib.hid ((g.block _ WZ.out).trans RB.out)
  have RD4 : Hid (w4.heap[w.heap.size]? = some (.cells #[.slice none 0 0, .slice none 0 0, .int .i64 0, .bool false] 30 (0, 0))) := Lib.hid ((g.block _ (by have := WZ.out; have := Z2.out; omega)).trans RD3.out)
  have B4 : Hid (Below w.heap.size w w4) := Lib.hid (B3.out.trans (g.mono B3.out.size))
  have R5 : Hid (DB (w4.setRow b #[.slice E3 ss.length d3, .slice E4 1 d4, .int .i64 (-1), .bool false]) b (.slice E3 ss.length d3) (.slice E4 1 d4) (-1) false) := Lib.hid (setRow_heap _ _ _ _ _ _ R4.out)
  have RD5 : Hid ((w4.setRow b #[.slice E3 ss.length d3, .slice E4 1 d4, .int .i64 (-1), .bool false]).heap[w.heap.size]? = some (.cells #[.slice none 0 0, .slice none 0 0, .int .i64 0, .bool false] 30 (0, 0))) := Lib.hid ((setRow_other _ _ _ _ (by have := Z2.out; omega)).trans RD4.out)
  have D5 : Hid (DskO (w4.setRow b #[.slice E3 ss.length d3, .slice E4 1 d4, .int .i64 (-1), .bool false]) w3.heap.size (.slice E3 ss.length d3) (.slice E4 1 d4) ss [(0, SB)]) := Lib.hid (HD4.out.same (r := b) WZ.out (fun k hk => setRow_other _ _ k _ hk))
  have B5 : Hid (Below w.heap.size w (w4.setRow b #[.slice E3 ss.length d3, .slice E4 1 d4, .int .i64 (-1), .bool false])) := Lib.hid (below_setRow B4.out (by have := Z2.out; omega) _)
  have Z5 : Hid (b < (w4.setRow b #[.slice E3 ss.length d3, .slice E4 1 d4, .int .i64 (-1), .bool false]).heap.size) := Lib.hid R5.out.lt
  have q0 := R5.out.c0; have q1 := R5.out.c1; have q2 := R5.out.c2; have q3 := R5.out.c3
  clear g
  go_wp2_with (refine wpList_store_row rfl 30 (.tmp 7) (.tmp 25) rfl b #[.slice E3 ss.length d3, .slice E4 1 d4, .int .i64 (-1), .bool false] rfl rfl 30 _ R4.out (infoD4 _ _ _ _) rfl oneD4 ?_)
  clear q0 q1 q2 q3
  generalize (w4.setRow b #[.slice E3 ss.length d3, .slice E4 1 d4, .int .i64 (-1), .bool false]) = w5 at *
  refine (HBC.out _ _ _ _ (D5.out.1.rit HZ.out) (D5.out.2.1.riu (fun p hp => by
    obtain rfl := List.mem_singleton.1 hp
    exact ⟨by unfold InI; omega, HX.out⟩)) (Nat.le_refl _)).mono ?_
  rintro e w6 ⟨v5, v6, rfl, hd, g⟩
  obtain ⟨E5, d5, rfl⟩ := hd.1.ex
  obtain ⟨E6, d6, h6'⟩ := hd.2.1.ex
  obtain rfl : v6 = .slice E6 0 d6 := h6'
  have HD6 := Lib.hid hd; clear hd
  have RD6 : Hid (w6.heap[w.heap.size]? = some (.cells #[.slice none 0 0, .slice none 0 0, .int .i64 0, .bool false] 30 (0, 0))) := Lib.hid ((g.block _ (by have := Z5.out; have := Z2.out; omega)).trans RD5.out)
  have B6 : Hid (Below w.heap.size w w6) := Lib.hid (B5.out.trans (g.mono B5.out.size))
  clear g
  go_wp2_with (refine wpList_store_row rfl 30 (.tmp 4) (.tmp 29) rfl w.heap.size #[.slice E5 D.length d5, .slice E6 0 d6, .int .i64 (-1), .bool false] rfl rfl 30 _ RD6.out (infoD4 _ _ _ _) rfl oneD4 ?_)
  refine bodyPost_ret (v := .tuple #[.agg #[.slice E5 D.length d5, .slice E6 0 d6, .int .i64 (-1), .bool false], .int .i64 0]) ?_ rfl ?_
  · exact results_cell_row2 rfl _ _ w.heap.size 30 _ (0, 0) _ _ rfl rfl (setRow_heap _ _ _ _ _ _ RD6.out) Try.underlying30 rfl (by kernel_rfl)
  · rw [E.out.1, E.out.2.1, E.out.2.2]; exact DskO.ans (DskO.lo (HD6.out.same (r := w.heap.size) (by have := Z5.out; have := Z2.out; omega) (fun k hk => setRow_other _ _ k _ hk)) (by have := Z5.out; have := Z2.out; omega)) (below_setRow B6.out (Nat.le_refl _) _)
end Go.Proofs.Ytpjkeikaonkohaa
