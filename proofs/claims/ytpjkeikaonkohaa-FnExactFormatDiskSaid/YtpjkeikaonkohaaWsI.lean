/- The program's WriteSuper. No statement is proved here. -/
import Derived.Test.YtpjkeikaonkohaaWsS
import Derived.Test.YtpjkeikaonkohaaWbI
import Derived.Test.YtpjkeikaonkohaaHlI
namespace Go.Proofs.Ytpjkeikaonkohaa
open Go.RowKit
set_option linter.unusedVariables false
set_option maxHeartbeats 1000000 in
theorem slotBlock_any (n0 n1 n2 n3 : Int) (w : World) (h : 0 ≤ n3) :
    Calls Try.prog 97 #[.agg #[.int .i64 n0, .int .i64 n1, .int .i64 n2, .int .i64 n3]] w (GivesB (.int .i64 (n3.tmod 2)) w) := by
  have Hb0 : Hid (Below w.heap.size w (w.alloc (.cells #[.int .i64 n0, .int .i64 n1, .int .i64 n2, .int .i64 n3] 55))) := Lib.hid ((Below.refl _ w).alloc (Nat.le_refl _) _)
  have hk2 : 0 ≤ n3.tmod 2 ∧ n3.tmod 2 < 2 := ⟨Int.tmod_nonneg _ h, Int.tmod_lt_of_pos _ (by omega)⟩
  have hwk : IntKind.i64.wrap (n3.tmod 2) = n3.tmod 2 := IntWalk.i64_in _ (by omega)
  have HE : Hid (n3.tmod 2 = n3 % 2) := Lib.hid (Int.tmod_eq_emod_of_nonneg h)
  go_enter Try.func97, Try.ntmps97
  go_wp2_with fail
  go_ret
  exact ⟨by rw [HE.out]; rfl, Hb0.out⟩
/-- Where the superblock does not belong to the disk, or the disk is not valid. -/
theorem ws_bad {ss : List ByteArray} {ps : List Pt} {fz : Int} (off : Bool) {n0 n1 n2 n3 : Int} (hs : supOk n0 n1 n2 n3 = true) (hn : n0 = (ss.length : Int)) : wsS ss ps fz off n0 n1 n2 n3 = wbS ss ps fz off (wsK n3) (supB n0 n1 n2 n3) ∧ wsP ss ps fz off n0 n1 n2 n3 = wbP ss ps fz off (wsK n3) (supB n0 n1 n2 n3) ∧ wsF ss ps fz off n0 n1 n2 n3 = wbF ss ps fz off (wsK n3) (supB n0 n1 n2 n3) ∧ wsO ss ps fz off n0 n1 n2 n3 = wbO ss ps fz off (wsK n3) (supB n0 n1 n2 n3) ∧ wsC ss ps fz off n0 n1 n2 n3 = wbC ss ps fz off (wsK n3) (supB n0 n1 n2 n3) := by
  cases hok : dskOk ss ps fz
  · obtain ⟨a, b, c, d, e⟩ := ws_no (ss := ss) (ps := ps) (fz := fz) off (n0 := n0) (n1 := n1) (n2 := n2) (n3 := n3) (by simp [wsY, hok])
    rw [a, b, c, d, e]
    exact ⟨by simp [wbS, wbY, hok], by simp [wbP, wbY, hok], by simp [wbF, wbY, hok], by simp [wbO, wbY, hok], by simp [wbC, hok]⟩
  · exact ws_yes off (by rw [wsY, hok, hs, decide_eq_true hn]; rfl)
set_option maxHeartbeats 4000000 in
set_option maxRecDepth 100000 in
theorem implWriteSuper_gen {B : Nat} {w : World} {v1 v2 : Value} {ss : List ByteArray} {ps : List Pt} {fz n0 n1 n2 n3 : Int} {off : Bool} (h1 : RiT B w v1 ss) (h2 : RiU B w v2 ps) (hB : B ≤ w.heap.size) (g0 : InI n0) (g1 : InI n1) :
    Calls Try.prog 54 #[.agg #[v1, v2, .int .i64 fz, .bool off], .agg #[.int .i64 n0, .int .i64 n1, .int .i64 n2, .int .i64 n3]] w (AnsDC (wsS ss ps fz off n0 n1 n2 n3) (wsP ss ps fz off n0 n1 n2 n3) (wsF ss ps fz off n0 n1 n2 n3) (wsO ss ps fz off n0 n1 n2 n3) (wsC ss ps fz off n0 n1 n2 n3) w) := by
  have H1 := Lib.hid h1; obtain ⟨A1, c1, rfl, hl1, hm1, -⟩ := h1
  have H2 := Lib.hid h2; obtain ⟨A2, c2, rfl, -, -, -⟩ := h2
  unfold maxLen at hm1
  have HB := Lib.hid (boxes3 w #[.slice A1 ss.length c1, .slice A2 ps.length c2, .int .i64 fz, .bool off] #[.int .i64 n0, .int .i64 n1, .int .i64 n2, .int .i64 n3] #[.slice none 0 0, .slice none 0 0, .int .i64 0, .bool false] 30 55 30)
  go_enter Try.func54, Try.ntmps54
  go_wp2_with fail
  generalize (((w.alloc (.cells #[.slice A1 ss.length c1, .slice A2 ps.length c2, .int .i64 fz, .bool off] 30)).alloc (.cells #[.int .i64 n0, .int .i64 n1, .int .i64 n2, .int .i64 n3] 55)).alloc (.cells #[.slice none 0 0, .slice none 0 0, .int .i64 0, .bool false] 30)) = w0 at *
  have G0 : Hid (DB w0 w.heap.size (.slice A1 ss.length c1) (.slice A2 ps.length c2) fz off) := Lib.hid HB.out.1
  have B0 := Lib.hid HB.out.2.2.2.2
  refine (implValidSuper_any n0 n1 n2 n3 w0 g0 g1).mono ?_
  rintro e w1 ⟨rfl, g⟩
  have RD : Hid (w1.heap[w.heap.size + 1 + 1]? = some (.cells #[.slice none 0 0, .slice none 0 0, .int .i64 0, .bool false] 30 (0, 0))) := Lib.hid ((g.block _ (by have := HB.out.2.2.2.1; omega)).trans HB.out.2.2.1)
  have RS : Hid (w1.heap[w.heap.size + 1]? = some (.cells #[.int .i64 n0, .int .i64 n1, .int .i64 n2, .int .i64 n3] 55 (0, 0))) := Lib.hid ((g.block _ (by have := HB.out.2.2.2.1; omega)).trans HB.out.2.1)
  have G1 := Lib.hid (G0.out.keep g)
  have B1 : Hid (Below w.heap.size w w1) := Lib.hid (B0.out.trans (g.mono B0.out.size))
  have Z1 : Hid (w.heap.size + 3 ≤ w1.heap.size) := Lib.hid (by have := HB.out.2.2.2.1; have := g.size; omega)
  clear g
  cases hs : supOk n0 n1 n2 n3
  · have E := Lib.hid (ws_no (ss := ss) (ps := ps) (fz := fz) off (n0 := n0) (n1 := n1) (n2 := n2) (n3 := n3) (by simp [wsY, hs]))
    clear hs
    go_wp2_with (refine wpList_store_row rfl 30 (.tmp 4) (.tmp 17) rfl (w.heap.size + 1 + 1) #[.slice none 0 0, .slice none 0 0, .int .i64 0, .bool false] rfl rfl 30 _ RD.out (infoD4 _ _ _ _) rfl oneD4 ?_)
    refine bodyPost_ret (v := .tuple #[.agg #[.slice none 0 0, .slice none 0 0, .int .i64 0, .bool false], .int .i64 1]) ?_ rfl ?_
    · exact results_cell_row2 rfl _ _ (w.heap.size + 1 + 1) 30 _ (0, 0) _ _ rfl rfl (setRow_heap _ _ _ _ _ _ RD.out) Try.underlying30 rfl (by kernel_rfl)
    · rw [E.out.1, E.out.2.1, E.out.2.2.1, E.out.2.2.2.1, E.out.2.2.2.2]
      exact DskO.ans (DskO.nil _ _) (below_setRow B1.out (by omega) _)
  have r0 : w1.cell? ⟨w.heap.size + 1, 0, none⟩ = some (.int .i64 n0) := by rw [cell_of_row _ _ _ _ _ _ RS.out]; rfl
  have q0 := G1.out.c0
  by_cases hn : n0 = (ss.length : Int)
  rotate_left
  · have E := Lib.hid (ws_no (ss := ss) (ps := ps) (fz := fz) off (n0 := n0) (n1 := n1) (n2 := n2) (n3 := n3) (by simp [wsY, hn]))
    have e1 : (n0 != (ss.length : Int)) = true := by simpa using hn
    clear hs
    go_wp2_with (refine wpList_store_row rfl 30 (.tmp 4) (.tmp 17) rfl (w.heap.size + 1 + 1) #[.slice none 0 0, .slice none 0 0, .int .i64 0, .bool false] rfl rfl 30 _ RD.out (infoD4 _ _ _ _) rfl oneD4 ?_)
    refine bodyPost_ret (v := .tuple #[.agg #[.slice none 0 0, .slice none 0 0, .int .i64 0, .bool false], .int .i64 1]) ?_ rfl ?_
    · exact results_cell_row2 rfl _ _ (w.heap.size + 1 + 1) 30 _ (0, 0) _ _ rfl rfl (setRow_heap _ _ _ _ _ _ RD.out) Try.underlying30 rfl (by kernel_rfl)
    · rw [E.out.1, E.out.2.1, E.out.2.2.1, E.out.2.2.2.1, E.out.2.2.2.2]
      exact DskO.ans (DskO.nil _ _) (below_setRow B1.out (by omega) _)
  have E := Lib.hid (ws_bad (ss := ss) (ps := ps) (fz := fz) off hs hn)
  have e1 : (n0 != (ss.length : Int)) = false := by simpa using hn
  have hs1 : 0 ≤ n3 ∧ n3 ≤ 1000000000000 := by
    have h := hs
    simp only [supOk, Bool.and_eq_true, inB_iff] at h
    exact h.2.2
  have HEn : Hid (∀ W, Calls Try.prog 47 #[.agg #[.int .i64 n0, .int .i64 n1, .int .i64 n2, .int .i64 n3]] W (GivesB (.string (supB n0 n1 n2 n3)) W)) := Lib.hid (fun W => by
    have := implEncodeSuper_any n0 n1 n2 n3 W g0 g1
    rwa [show enOf n0 n1 n2 n3 = supB n0 n1 n2 n3 by simp [enOf, hs]] at this)
  have HSb := Lib.hid (fun W => slotBlock_any n0 n1 n2 n3 W hs1.1)
  clear hn hs
  go_wp2_with fail
  clear r0 q0 e1
  have Hsz : Hid ((supB n0 n1 n2 n3).size ≤ maxLen) := Lib.hid (by rw [supB, ByteArray.size_append, supP_size]; decide)
  have HK : Hid (wsK n3 = n3.tmod 2) := Lib.hid rfl
  have HSt : Hid (∀ W, Below (w.heap.size + 2) w1 W → (fun W => (W.cell? ⟨w.heap.size, 0, none⟩ = some (.slice A1 ss.length c1) ∧ W.cell? ⟨w.heap.size, 1, none⟩ = some (.slice A2 ps.length c2) ∧ W.cell? ⟨w.heap.size, 2, none⟩ = some (.int .i64 fz) ∧ W.cell? ⟨w.heap.size, 3, none⟩ = some (.bool off)) ∧ W.cell? ⟨w.heap.size + 1, 0, none⟩ = some (.int .i64 n0) ∧ W.cell? ⟨w.heap.size + 1, 1, none⟩ = some (.int .i64 n1) ∧ W.cell? ⟨w.heap.size + 1, 2, none⟩ = some (.int .i64 n2) ∧ W.cell? ⟨w.heap.size + 1, 3, none⟩ = some (.int .i64 n3)) W) := Lib.hid (fun W hW => by
    have hr := (hW.block _ (by omega)).trans RS.out
    have hd : DB W w.heap.size (.slice A1 ss.length c1) (.slice A2 ps.length c2) fz off := (hW.block _ (by omega)).trans G1.out
    exact ⟨⟨hd.c0, hd.c1, hd.c2, hd.c3⟩, by rw [cell_of_row _ _ _ _ _ _ hr]; rfl, by rw [cell_of_row _ _ _ _ _ _ hr]; rfl, by rw [cell_of_row _ _ _ _ _ _ hr]; rfl, by rw [cell_of_row _ _ _ _ _ _ hr]; rfl⟩)
  have HD : Hid (Below w1.heap.size w1 w1.drew) := Lib.hid (Below.refl _ _).drew
  have Hlo : Hid (w.heap.size + 2 ≤ w1.heap.size) := Lib.hid (by have := Z1.out; omega)
  generalize supB n0 n1 n2 n3 = SB at *
  go_region_held3 (fun W => (W.cell? ⟨w.heap.size, 0, none⟩ = some (.slice A1 ss.length c1) ∧ W.cell? ⟨w.heap.size, 1, none⟩ = some (.slice A2 ps.length c2) ∧ W.cell? ⟨w.heap.size, 2, none⟩ = some (.int .i64 fz) ∧ W.cell? ⟨w.heap.size, 3, none⟩ = some (.bool off)) ∧ W.cell? ⟨w.heap.size + 1, 0, none⟩ = some (.int .i64 n0) ∧ W.cell? ⟨w.heap.size + 1, 1, none⟩ = some (.int .i64 n1) ∧ W.cell? ⟨w.heap.size + 1, 2, none⟩ = some (.int .i64 n2) ∧ W.cell? ⟨w.heap.size + 1, 3, none⟩ = some (.int .i64 n3)) (exact HSt.out _ (by first | exact (kb2.mono Hlo.out) | exact (kb1.mono Hlo.out) | exact (kb0.mono Hlo.out) | exact (HD.out.mono Hlo.out) | exact kb3))
    ((first | (go_at_call 97; go_fit (HSb.out _); rintro e u0 ⟨rfl, gz⟩; have kb0 : Below w1.heap.size w1 u0 := HD.out.trans (gz.mono HD.out.size)) | (go_at_call 47; go_fit (HEn.out _); rintro e u1 ⟨rfl, ga⟩; have kb1 : Below w1.heap.size w1 u1 := kb0.trans (ga.mono kb0.size)) | (go_at_call 35; go_fit (implWriteBlock_gen (H1.out.at hB (B1.out.trans (kb1.mono B1.out.size))) (H2.out.at hB (B1.out.trans (kb1.mono B1.out.size))) (Nat.le_refl _) Hsz.out); rintro e u2 ⟨v1, v2, rfl, hdo, gb⟩; obtain ⟨Ao, co, rfl⟩ := OT.ex hdo.1; obtain ⟨Au, cu, rfl⟩ := OU.ex hdo.2.1; have HDO := Lib.hid hdo; clear hdo; have kb2 : Below w1.heap.size w1 u2 := kb1.trans (gb.mono kb1.size); have R2 := Lib.hid ((kb2.block _ (show w.heap.size + 1 + 1 < _ by have := Z1.out; omega)).trans RD.out); have XF := cells4 R2.out; have x0 := XF.1; have x1 := XF.2.1; have x2 := XF.2.2.1; have x3 := XF.2.2.2.1; have y0 := frozen_of_row _ _ 0 _ _ R2.out; have y1 := frozen_of_row _ _ 1 _ _ R2.out; have y2 := frozen_of_row _ _ 2 _ _ R2.out; have y3 := frozen_of_row _ _ 3 _ _ R2.out; have S4 := Lib.hid (fun a b c d => store4 (a' := a) (b' := b) (c' := c) (d' := d) (B := w.heap.size + 2) R2.out (by omega)); have kb3 := fun {a b c d} => (kb2.mono Hlo.out).trans (S4.out a b c d).2.2; clear XF gb ga gz)))
  have HF := Lib.hid (S4.out (.slice Ao (wbS ss ps fz off (n3.tmod 2) SB).length co) (.slice Au (wbP ss ps fz off (n3.tmod 2) SB).length cu) (.int .i64 (wbF ss ps fz off (n3.tmod 2) SB)) (.bool (wbO ss ps fz off (n3.tmod 2) SB)))
  have HU1 : Hid (w.heap.size + 3 ≤ u1.heap.size) := Lib.hid (by have := kb1.size; have := Z1.out; omega)
  have HB2 : Hid (Below w.heap.size w u2) := Lib.hid (B1.out.trans (kb2.mono B1.out.size))
  rw [HK.out] at E
  simp only [Exit.then]
  clear x0 x1 x2 x3 y0 y1 y2 y3 kb3 kb2 kb1 S4
  generalize ((((u2.setCell ⟨w.heap.size + 1 + 1, 0, none⟩ (.slice Ao (wbS ss ps fz off (n3.tmod 2) SB).length co)).setCell ⟨w.heap.size + 1 + 1, 1, none⟩ (.slice Au (wbP ss ps fz off (n3.tmod 2) SB).length cu)).setCell ⟨w.heap.size + 1 + 1, 2, none⟩ (.int .i64 (wbF ss ps fz off (n3.tmod 2) SB))).setCell ⟨w.heap.size + 1 + 1, 3, none⟩ (.bool (wbO ss ps fz off (n3.tmod 2) SB))) = w3 at *
  go_wp2_with fail
  refine bodyPost_ret (v := .tuple #[.agg #[.slice Ao (wbS ss ps fz off (n3.tmod 2) SB).length co, .slice Au (wbP ss ps fz off (n3.tmod 2) SB).length cu, .int .i64 (wbF ss ps fz off (n3.tmod 2) SB), .bool (wbO ss ps fz off (n3.tmod 2) SB)], .int .i64 (wbC ss ps fz off (n3.tmod 2) SB)]) ?_ rfl ?_
  · exact results_cell_row2 rfl _ _ (w.heap.size + 1 + 1) 30 _ (0, 0) _ _ rfl rfl HF.out.1 Try.underlying30 rfl (by kernel_rfl)
  · rw [E.out.1, E.out.2.1, E.out.2.2.1, E.out.2.2.2.1, E.out.2.2.2.2]
    exact DskO.ans (DskO.lo (HDO.out.same (r := w.heap.size + 1 + 1) (by have := HU1.out; omega) HF.out.2.1) (by have := HU1.out; omega)) (HB2.out.trans (HF.out.2.2.mono (by omega)))
theorem implWriteSuper_any {w : World} {A1 A2 : Option Addr} {ss : List ByteArray} {ps : List Pt} {fz n0 n1 n2 n3 : Int} {off : Bool} (h1 : RiT w.heap.size w (.slice A1 ss.length ss.length) ss) (h2 : RiU w.heap.size w (.slice A2 ps.length ps.length) ps) (g0 : InI n0) (g1 : InI n1) :
    Calls Try.prog 54 #[.agg #[.slice A1 ss.length ss.length, .slice A2 ps.length ps.length, .int .i64 fz, .bool off], .agg #[.int .i64 n0, .int .i64 n1, .int .i64 n2, .int .i64 n3]] w (AnsDC (wsS ss ps fz off n0 n1 n2 n3) (wsP ss ps fz off n0 n1 n2 n3) (wsF ss ps fz off n0 n1 n2 n3) (wsO ss ps fz off n0 n1 n2 n3) (wsC ss ps fz off n0 n1 n2 n3) w) := implWriteSuper_gen h1 h2 (Nat.le_refl _) g0 g1
end Go.Proofs.Ytpjkeikaonkohaa
