/- The model's FormatDisk. No statement is proved here. -/
import Derived.Test.YtpjkeikaonkohaaFdP
import Derived.Test.YtpjkeikaonkohaaEnS
import Derived.Test.YtpjkeikaonkohaaSfI
import Derived.Deep.DeepFit
import Derived.Deep.RegionHeld3
namespace Go.Proofs.Ytpjkeikaonkohaa
open Go.RowKit
set_option linter.unusedVariables false
set_option maxHeartbeats 4000000 in
set_option maxRecDepth 100000 in
theorem l10Format_any (n0 n1 n2 n3 : Int) (w : World) (h0 : inB n0 16 256 = true) :
    Calls Try.prog 99 #[.agg #[.int .i64 n0, .int .i64 n1, .int .i64 n2, .int .i64 n3]] w (AnsD ((zs n0.toNat).set 0 (supB n0 n1 n2 n3)) [] (-1) false w) := by
  have HB := Lib.hid (boxes2 w #[.int .i64 n0, .int .i64 n1, .int .i64 n2, .int .i64 n3] #[.slice none 0 0, .slice none 0 0, .int .i64 0, .bool false] 55 30)
  have hlen : 0 < (zs n0.toNat).length := by rw [zs_len]; have := inB_iff.1 h0; omega
  have HL := Lib.hid hlen; clear hlen
  have r0 : ((w.alloc (.cells #[.int .i64 n0, .int .i64 n1, .int .i64 n2, .int .i64 n3] 55)).alloc (.cells #[.slice none 0 0, .slice none 0 0, .int .i64 0, .bool false] 30)).cell? ⟨w.heap.size, 0, none⟩ = some (.int .i64 n0) := by rw [cell_of_row _ _ _ _ _ _ HB.out.1]; rfl
  go_enter Try.func99, Try.ntmps99
  go_wp2_with fail
  clear r0
  generalize ((w.alloc (.cells #[.int .i64 n0, .int .i64 n1, .int .i64 n2, .int .i64 n3] 55)).alloc (.cells #[.slice none 0 0, .slice none 0 0, .int .i64 0, .bool false] 30)) = w0 at *
  refine (l09New_any n0 w0 h0).mono ?_
  rintro e w1 ⟨v1, v2, rfl, hd, g⟩
  have HD := Lib.hid hd; have G := Lib.hid g; clear hd g
  have RS : Hid (w1.heap[w.heap.size]? = some (.cells #[.int .i64 n0, .int .i64 n1, .int .i64 n2, .int .i64 n3] 55 (0, 0))) := Lib.hid ((G.out.block _ (by have := HB.out.2.2.1; omega)).trans HB.out.1)
  have RD : Hid (w1.heap[w.heap.size + 1]? = some (.cells #[.slice none 0 0, .slice none 0 0, .int .i64 0, .bool false] 30 (0, 0))) := Lib.hid ((G.out.block _ (by have := HB.out.2.2.1; omega)).trans HB.out.2.1)
  have B1 : Hid (Below w.heap.size w w1) := Lib.hid (HB.out.2.2.2.trans (G.out.mono HB.out.2.2.2.size))
  have Z1 : Hid (w.heap.size + 2 ≤ w1.heap.size) := Lib.hid (by have := HB.out.2.2.1; have := G.out.size; omega)
  generalize zs n0.toNat = ss at *
  rcases OT.sl HD.out.1 with ⟨_, e0⟩ | ⟨g1, cap1, e1, hg1, hg2, hg3, hg4⟩
  · have := HL.out; rw [e0] at this; cases this
  obtain ⟨A2, c2, e2⟩ := OU.ex HD.out.2.1
  rw [List.length_nil] at e2
  subst e1 e2
  have GA : Hid (Below w1.heap.size w1 (w1.alloc (.cells #[.slice (some ⟨g1, 0, none⟩) ss.length cap1, .slice A2 0 c2, .int .i64 (-1), .bool false] 30))) := Lib.hid ((Below.refl _ _).alloc (Nat.le_refl _) _)
  have RB : Hid (DB (w1.alloc (.cells #[.slice (some ⟨g1, 0, none⟩) ss.length cap1, .slice A2 0 c2, .int .i64 (-1), .bool false] 30)) w1.heap.size (.slice (some ⟨g1, 0, none⟩) ss.length cap1) (.slice A2 0 c2) (-1) false) := Lib.hid (heap_alloc_new w1 _)
  have WZ : Hid (w1.heap.size < (w1.alloc (.cells #[.slice (some ⟨g1, 0, none⟩) ss.length cap1, .slice A2 0 c2, .int .i64 (-1), .bool false] 30)).heap.size) := Lib.hid (by simp)
  go_wp2
  generalize (w1.alloc (.cells #[.slice (some ⟨g1, 0, none⟩) ss.length cap1, .slice A2 0 c2, .int .i64 (-1), .bool false] 30)) = w2 at *
  have D2 : Hid (DskO w2 w0.heap.size (.slice (some ⟨g1, 0, none⟩) ss.length cap1) (.slice A2 0 c2) ss []) := Lib.hid (by exact ⟨own_bel HD.out.1 GA.out, own_bel HD.out.2.1 GA.out, HD.out.2.2⟩)
  have RS2 : Hid (w2.heap[w.heap.size]? = some (.cells #[.int .i64 n0, .int .i64 n1, .int .i64 n2, .int .i64 n3] 55 (0, 0))) := Lib.hid ((GA.out.block _ (by have := Z1.out; omega)).trans RS.out)
  have RD2 : Hid (w2.heap[w.heap.size + 1]? = some (.cells #[.slice none 0 0, .slice none 0 0, .int .i64 0, .bool false] 30 (0, 0))) := Lib.hid ((GA.out.block _ (by have := Z1.out; omega)).trans RD.out)
  have B2 : Hid (Below w.heap.size w w2) := Lib.hid (B1.out.trans (GA.out.mono B1.out.size))
  generalize hb : w1.heap.size = b at *
  have HSt : Hid (∀ W, Below w2.heap.size w2 W → (W.cell? ⟨b, 0, none⟩ = some (.slice (some ⟨g1, 0, none⟩) ss.length cap1) ∧ W.cell? ⟨w.heap.size, 0, none⟩ = some (.int .i64 n0) ∧ W.cell? ⟨w.heap.size, 1, none⟩ = some (.int .i64 n1) ∧ W.cell? ⟨w.heap.size, 2, none⟩ = some (.int .i64 n2) ∧ W.cell? ⟨w.heap.size, 3, none⟩ = some (.int .i64 n3))) := Lib.hid (fun W hW => by
    have hr := (hW.block _ (by have := B2.out.size; have := Z1.out; have := WZ.out; omega)).trans RS2.out
    have hd := (hW.block _ WZ.out).trans RB.out
    exact ⟨by rw [cell_of_row _ _ _ _ _ _ hd]; rfl, by rw [cell_of_row _ _ _ _ _ _ hr]; rfl, by rw [cell_of_row _ _ _ _ _ _ hr]; rfl, by rw [cell_of_row _ _ _ _ _ _ hr]; rfl, by rw [cell_of_row _ _ _ _ _ _ hr]; rfl⟩)
  have HDr : Hid (Below w2.heap.size w2 w2.drew) := Lib.hid (Below.refl _ _).drew
  have HEn := Lib.hid (l10Encode_any n0 n1 n2 n3)
  generalize supB n0 n1 n2 n3 = SB at *
  have hi0 : (0 : Int) < (ss.length : Int) := by have := HL.out; omega
  have hi1 : (0 : Nat) < ss.length := HL.out
  have hi2 : decide ((0 : Int) < (ss.length : Int)) = true := decide_eq_true hi0
  go_region_held3 (fun W => (W.cell? ⟨b, 0, none⟩ = some (.slice (some ⟨g1, 0, none⟩) ss.length cap1) ∧ W.cell? ⟨w.heap.size, 0, none⟩ = some (.int .i64 n0) ∧ W.cell? ⟨w.heap.size, 1, none⟩ = some (.int .i64 n1) ∧ W.cell? ⟨w.heap.size, 2, none⟩ = some (.int .i64 n2) ∧ W.cell? ⟨w.heap.size, 3, none⟩ = some (.int .i64 n3))) (first | exact HSt.out _ kb1 | exact HSt.out _ HDr.out | exact HSt2.out _ (fun k hk => heap_setCell_other _ ⟨g1, 0, none⟩ k _ hk))
    ((go_at_call 91; go_fit (HEn.out _); rintro e u1 ⟨rfl, ga⟩; have kb1 : Below w2.heap.size w2 u1 := HDr.out.trans (ga.mono HDr.out.size); have O1 := Lib.hid (own_bel D2.out.1 kb1); have cj := OT.cell O1.out 0 HL.out; have fj := own_frozen O1.out 0; have HSt2 : Hid (∀ W : World, (∀ k, k ≠ g1 → W.heap[k]? = u1.heap[k]?) → (W.cell? ⟨b, 0, none⟩ = some (.slice (some ⟨g1, 0, none⟩) ss.length cap1) ∧ W.cell? ⟨w.heap.size, 0, none⟩ = some (.int .i64 n0) ∧ W.cell? ⟨w.heap.size, 1, none⟩ = some (.int .i64 n1) ∧ W.cell? ⟨w.heap.size, 2, none⟩ = some (.int .i64 n2) ∧ W.cell? ⟨w.heap.size, 3, none⟩ = some (.int .i64 n3))) := Lib.hid (fun W hW => by
      have hs := kb1.size
      have hz := Z1.out
      have hb2 := B2.out.size
      have hwz := WZ.out
      have h00 := HB.out.2.2.1
      have hr := (hW w.heap.size (by omega)).trans ((kb1.block _ (by omega)).trans RS2.out)
      have hd := (hW b (by omega)).trans ((kb1.block _ WZ.out).trans RB.out)
      exact ⟨by rw [cell_of_row _ _ _ _ _ _ hd]; rfl, by rw [cell_of_row _ _ _ _ _ _ hr]; rfl, by rw [cell_of_row _ _ _ _ _ _ hr]; rfl, by rw [cell_of_row _ _ _ _ _ _ hr]; rfl, by rw [cell_of_row _ _ _ _ _ _ hr]; rfl⟩)))
  simp only [Exit.then]
  have HSet := Lib.hid (OT.set O1.out 0 SB HL.out)
  have hoth : ∀ k, k ≠ g1 → (u1.setCell ⟨g1, 0, none⟩ (.string SB)).heap[k]? = u1.heap[k]? := fun k hk => heap_setCell_other _ ⟨g1, 0, none⟩ k _ hk
  have GS : Hid (Below w0.heap.size u1 (u1.setCell ⟨g1, 0, none⟩ (.string SB))) := Lib.hid ((Below.refl _ _).setCell (p := ⟨g1, 0, none⟩) hg1 _)
  have hsz := HB.out.2.2.1
  have RB3 : Hid (DB (u1.setCell ⟨g1, 0, none⟩ (.string SB)) b (.slice (some ⟨g1, 0, none⟩) ss.length cap1) (.slice A2 0 c2) (-1) false) := Lib.hid ((hoth b (by omega)).trans ((kb1.block _ WZ.out).trans RB.out))
  have RD3 : Hid ((u1.setCell ⟨g1, 0, none⟩ (.string SB)).heap[w.heap.size + 1]? = some (.cells #[.slice none 0 0, .slice none 0 0, .int .i64 0, .bool false] 30 (0, 0))) := Lib.hid ((hoth _ (by omega)).trans ((kb1.block _ (by have := B2.out.size; have := Z1.out; have := WZ.out; omega)).trans RD2.out))
  have OU3 : Hid (OU (u1.setCell ⟨g1, 0, none⟩ (.string SB)) w0.heap.size (.slice A2 0 c2) []) := Lib.hid (own_same (own_bel D2.out.2.1 kb1) fun k hk => hoth k (fun e => D2.out.2.2 g1 rfl (e ▸ hk)))
  have B3 : Hid (Below w.heap.size w (u1.setCell ⟨g1, 0, none⟩ (.string SB))) := Lib.hid ((B2.out.trans (kb1.mono B2.out.size)).trans (GS.out.mono (by omega)))
  clear hoth cj fj kb1 HSt2 GS hsz
  generalize (u1.setCell ⟨g1, 0, none⟩ (.string SB)) = w3 at *
  have q0 := RB3.out.c0; have q1 := RB3.out.c1; have q2 := RB3.out.c2; have q3 := RB3.out.c3
  go_wp2_with (refine wpList_store_row rfl 30 (.tmp 2) (.tmp 12) rfl (w.heap.size + 1) #[.slice (some ⟨g1, 0, none⟩) ss.length cap1, .slice A2 0 c2, .int .i64 (-1), .bool false] rfl rfl 30 _ RD3.out (infoD4 _ _ _ _) rfl oneD4 ?_)
  refine bodyPost_ret (v := .agg #[.slice (some ⟨g1, 0, none⟩) ss.length cap1, .slice A2 0 c2, .int .i64 (-1), .bool false]) ?_ rfl ?_
  · exact results_cell_row rfl _ _ (w.heap.size + 1) 30 _ (0, 0) _ rfl (setRow_heap _ _ _ _ _ _ RD3.out) Try.underlying30 rfl (by kernel_rfl)
  · have hsz := HB.out.2.2.1
    refine ⟨_, _, rfl, ?_, below_setRow B3.out (by omega) _⟩
    refine DskO.lo (DskO.same (r := w.heap.size + 1) ?_ (by omega) (fun k hk => setRow_other _ _ k _ hk)) (show w.heap.size ≤ w0.heap.size by omega)
    refine ⟨?_, OU3.out, D2.out.2.2⟩
    exact HSet.out
set_option maxHeartbeats 4000000 in
set_option maxRecDepth 100000 in
theorem specFormatDisk_any (n l : Int) (w : World) (hn : InI n) (hl : InI l) : Calls Try.prog 59 #[.int .i64 n, .int .i64 l] w (AnsDC (fdS n l) [] (fdF n l) false (fdC n l) w) := by
  have HB := Lib.hid (boxes2 w #[.slice none 0 0, .slice none 0 0, .int .i64 0, .bool false] #[.int .i64 n, .int .i64 l, .int .i64 0, .int .i64 0] 30 55)
  go_enter Try.func59, Try.ntmps59
  go_wp2_with fail
  generalize ((w.alloc (.cells #[.slice none 0 0, .slice none 0 0, .int .i64 0, .bool false] 30)).alloc (.cells #[.int .i64 n, .int .i64 l, .int .i64 0, .int .i64 0] 55)) = w0 at *
  refine (specValidSuper_any n l 0 0 w0 hn hl).mono ?_
  rintro e w1 ⟨rfl, g⟩
  have RD : Hid (w1.heap[w.heap.size]? = some (.cells #[.slice none 0 0, .slice none 0 0, .int .i64 0, .bool false] 30 (0, 0))) := Lib.hid ((g.block _ (by have := HB.out.2.2.1; omega)).trans HB.out.1)
  have RS : Hid (w1.heap[w.heap.size + 1]? = some (.cells #[.int .i64 n, .int .i64 l, .int .i64 0, .int .i64 0] 55 (0, 0))) := Lib.hid ((g.block _ (by have := HB.out.2.2.1; omega)).trans HB.out.2.1)
  have B1 : Hid (Below w.heap.size w w1) := Lib.hid (HB.out.2.2.2.trans (g.mono HB.out.2.2.2.size))
  have Z1 : Hid (w.heap.size + 2 ≤ w1.heap.size) := Lib.hid (by have := HB.out.2.2.1; have := g.size; omega)
  clear g
  cases hs : supOk n l 0 0
  · have e1 : fdS n l = [] := by simp [fdS, hs]
    have e2 : fdF n l = 0 := by simp [fdF, hs]
    have e3 : fdC n l = 2 := by simp [fdC, hs]
    have E := Lib.hid (And.intro e1 (And.intro e2 e3))
    clear e1 e2 e3 hs
    go_wp2_with (refine wpList_store_row rfl 30 (.tmp 4) (.tmp 13) rfl w.heap.size #[.slice none 0 0, .slice none 0 0, .int .i64 0, .bool false] rfl rfl 30 _ RD.out (infoD4 _ _ _ _) rfl oneD4 ?_)
    refine bodyPost_ret (v := .tuple #[.agg #[.slice none 0 0, .slice none 0 0, .int .i64 0, .bool false], .int .i64 2]) ?_ rfl ?_
    · exact results_cell_row2 rfl _ _ w.heap.size 30 _ (0, 0) _ _ rfl rfl (setRow_heap _ _ _ _ _ _ RD.out) Try.underlying30 rfl (by kernel_rfl)
    · rw [E.out.1, E.out.2.1, E.out.2.2]; exact DskO.ans (DskO.nil _ _) (below_setRow B1.out (Nat.le_refl _) _)
  have e1 : fdS n l = (zs n.toNat).set 0 (supB n l 0 0) := by simp [fdS, hs]
  have e2 : fdF n l = -1 := by simp [fdF, hs]
  have e3 : fdC n l = 0 := by simp [fdC, hs]
  have HN := Lib.hid (supOk_n hs)
  have HWS := Lib.hid (fd_ws hs)
  have E := Lib.hid (And.intro e1 (And.intro e2 e3))
  clear e1 e2 e3 hs
  have r0 : w1.cell? ⟨w.heap.size + 1, 0, none⟩ = some (.int .i64 n) := by rw [cell_of_row _ _ _ _ _ _ RS.out]; rfl
  have r1 : w1.cell? ⟨w.heap.size + 1, 1, none⟩ = some (.int .i64 l) := by rw [cell_of_row _ _ _ _ _ _ RS.out]; rfl
  have r2 : w1.cell? ⟨w.heap.size + 1, 2, none⟩ = some (.int .i64 0) := by rw [cell_of_row _ _ _ _ _ _ RS.out]; rfl
  have r3 : w1.cell? ⟨w.heap.size + 1, 3, none⟩ = some (.int .i64 0) := by rw [cell_of_row _ _ _ _ _ _ RS.out]; rfl
  go_wp2_with fail
  clear r0 r1 r2 r3
  refine (l10Format_any n l 0 0 w1 (inB_iff.2 HN.out)).mono ?_
  rintro e w2 ⟨v1, v2, rfl, hd, g⟩
  obtain ⟨E1, d1, rfl⟩ := hd.1.ex
  obtain ⟨E2, d2, rfl⟩ := hd.2.1.ex
  have HD := Lib.hid hd; clear hd
  have R2 : Hid (w2.heap[w.heap.size]? = some (.cells #[.slice none 0 0, .slice none 0 0, .int .i64 0, .bool false] 30 (0, 0))) := Lib.hid ((g.block _ (by have := Z1.out; omega)).trans RD.out)
  have B2 : Hid (Below w.heap.size w w2) := Lib.hid (B1.out.trans (g.mono B1.out.size))
  clear g
  generalize (zs n.toNat).set 0 (supB n l 0 0) = D at *
  go_wp2_with (refine wpList_store_row rfl 30 (.tmp 4) (.tmp 15) rfl w.heap.size #[.slice E1 D.length d1, .slice E2 ([] : List Pt).length d2, .int .i64 (-1), .bool false] rfl rfl 30 _ R2.out (infoD4 _ _ _ _) rfl oneD4 ?_)
  refine bodyPost_ret (v := .tuple #[.agg #[.slice E1 D.length d1, .slice E2 ([] : List Pt).length d2, .int .i64 (-1), .bool false], .int .i64 0]) ?_ rfl ?_
  · exact results_cell_row2 rfl _ _ w.heap.size 30 _ (0, 0) _ _ rfl rfl (setRow_heap _ _ _ _ _ _ R2.out) Try.underlying30 rfl (by kernel_rfl)
  · rw [E.out.1, E.out.2.1, E.out.2.2]; exact DskO.ans (DskO.lo (HD.out.same (r := w.heap.size) (by have := Z1.out; omega) (fun k hk => setRow_other _ _ k _ hk)) (by have := Z1.out; omega)) (below_setRow B2.out (Nat.le_refl _) _)
end Go.Proofs.Ytpjkeikaonkohaa
