/- The model's WriteSuper. No statement is proved here. -/
import Derived.Test.YtpjkeikaonkohaaDkX
import Derived.Test.YtpjkeikaonkohaaEnS
namespace Go.Proofs.Ytpjkeikaonkohaa
open Go.RowKit
set_option linter.unusedVariables false
/-- A superblock may be written to this disk. -/
def wsY (ss : List ByteArray) (ps : List Pt) (fz : Int) (n0 n1 n2 n3 : Int) : Bool := dskOk ss ps fz && (supOk n0 n1 n2 n3 && decide (n0 = (ss.length : Int)))
def wsK (n3 : Int) : Int := n3.tmod 2
def wsS (ss : List ByteArray) (ps : List Pt) (fz : Int) (off : Bool) (n0 n1 n2 n3 : Int) : List ByteArray := if wsY ss ps fz n0 n1 n2 n3 then wbS ss ps fz off (wsK n3) (supB n0 n1 n2 n3) else []
def wsP (ss : List ByteArray) (ps : List Pt) (fz : Int) (off : Bool) (n0 n1 n2 n3 : Int) : List Pt := if wsY ss ps fz n0 n1 n2 n3 then wbP ss ps fz off (wsK n3) (supB n0 n1 n2 n3) else []
def wsF (ss : List ByteArray) (ps : List Pt) (fz : Int) (off : Bool) (n0 n1 n2 n3 : Int) : Int := if wsY ss ps fz n0 n1 n2 n3 then wbF ss ps fz off (wsK n3) (supB n0 n1 n2 n3) else 0
def wsO (ss : List ByteArray) (ps : List Pt) (fz : Int) (off : Bool) (n0 n1 n2 n3 : Int) : Bool := if wsY ss ps fz n0 n1 n2 n3 then wbO ss ps fz off (wsK n3) (supB n0 n1 n2 n3) else false
def wsC (ss : List ByteArray) (ps : List Pt) (fz : Int) (off : Bool) (n0 n1 n2 n3 : Int) : Int := if wsY ss ps fz n0 n1 n2 n3 then wbC ss ps fz off (wsK n3) (supB n0 n1 n2 n3) else 1
theorem ws_no {ss : List ByteArray} {ps : List Pt} {fz : Int} (off : Bool) {n0 n1 n2 n3 : Int} (h : wsY ss ps fz n0 n1 n2 n3 = false) : wsS ss ps fz off n0 n1 n2 n3 = [] ∧ wsP ss ps fz off n0 n1 n2 n3 = [] ∧ wsF ss ps fz off n0 n1 n2 n3 = 0 ∧ wsO ss ps fz off n0 n1 n2 n3 = false ∧ wsC ss ps fz off n0 n1 n2 n3 = 1 := ⟨by simp [wsS, h], by simp [wsP, h], by simp [wsF, h], by simp [wsO, h], by simp [wsC, h]⟩
theorem ws_yes {ss : List ByteArray} {ps : List Pt} {fz : Int} (off : Bool) {n0 n1 n2 n3 : Int} (h : wsY ss ps fz n0 n1 n2 n3 = true) : wsS ss ps fz off n0 n1 n2 n3 = wbS ss ps fz off (wsK n3) (supB n0 n1 n2 n3) ∧ wsP ss ps fz off n0 n1 n2 n3 = wbP ss ps fz off (wsK n3) (supB n0 n1 n2 n3) ∧ wsF ss ps fz off n0 n1 n2 n3 = wbF ss ps fz off (wsK n3) (supB n0 n1 n2 n3) ∧ wsO ss ps fz off n0 n1 n2 n3 = wbO ss ps fz off (wsK n3) (supB n0 n1 n2 n3) ∧ wsC ss ps fz off n0 n1 n2 n3 = wbC ss ps fz off (wsK n3) (supB n0 n1 n2 n3) := ⟨by simp [wsS, h], by simp [wsP, h], by simp [wsF, h], by simp [wsO, h], by simp [wsC, h]⟩
theorem boxes3 (w : World) (a b c : Array Value) (s t u : TypeId) : (((w.alloc (.cells a s)).alloc (.cells b t)).alloc (.cells c u)).heap[w.heap.size]? = some (.cells a s (0, 0)) ∧ (((w.alloc (.cells a s)).alloc (.cells b t)).alloc (.cells c u)).heap[w.heap.size + 1]? = some (.cells b t (0, 0)) ∧ (((w.alloc (.cells a s)).alloc (.cells b t)).alloc (.cells c u)).heap[w.heap.size + 1 + 1]? = some (.cells c u (0, 0)) ∧
    (((w.alloc (.cells a s)).alloc (.cells b t)).alloc (.cells c u)).heap.size = w.heap.size + 3 ∧ Below w.heap.size w (((w.alloc (.cells a s)).alloc (.cells b t)).alloc (.cells c u)) := by
  have hb := ((Below.refl _ (w.alloc (.cells a s))).alloc (Nat.le_refl _) (.cells b t)).alloc (by simp) (.cells c u)
  have h2 := heap_alloc2_new (w.alloc (.cells a s)) (.cells b t) (.cells c u)
  have h1 := heap_alloc2_old (w.alloc (.cells a s)) (.cells b t) (.cells c u)
  have z : (w.alloc (.cells a s)).heap.size = w.heap.size + 1 := by simp
  rw [z] at h1 h2
  exact ⟨(hb.block _ (by rw [z]; omega)).trans (heap_alloc_new w _), h1, h2, by simp, (((Below.refl _ w).alloc (Nat.le_refl _) _).alloc (by simp) _).alloc (by simp; omega) _⟩
/-- Four cells of a block written. -/
theorem store4 {W : World} {R B : Nat} {a b c d a' b' c' d' : Value} {T : TypeId} (h : W.heap[R]? = some (.cells #[a, b, c, d] T (0, 0))) (hB : B ≤ R) :
    ((((W.setCell ⟨R, 0, none⟩ a').setCell ⟨R, 1, none⟩ b').setCell ⟨R, 2, none⟩ c').setCell ⟨R, 3, none⟩ d').heap[R]? = some (.cells #[a', b', c', d'] T (0, 0)) ∧
    (∀ g, g ≠ R → ((((W.setCell ⟨R, 0, none⟩ a').setCell ⟨R, 1, none⟩ b').setCell ⟨R, 2, none⟩ c').setCell ⟨R, 3, none⟩ d').heap[g]? = W.heap[g]?) ∧
    Below B W ((((W.setCell ⟨R, 0, none⟩ a').setCell ⟨R, 1, none⟩ b').setCell ⟨R, 2, none⟩ c').setCell ⟨R, 3, none⟩ d') := by
  refine ⟨?_, fun g hg => ?_, ((((Below.refl B W).setCell (p := ⟨R, 0, none⟩) hB _).setCell (p := ⟨R, 1, none⟩) hB _).setCell (p := ⟨R, 2, none⟩) hB _).setCell (p := ⟨R, 3, none⟩) hB _⟩
  · have h1 := heap_setCell_same _ _ 0 _ _ a' h
    have h2 := heap_setCell_same _ _ 1 _ _ b' h1
    have h3 := heap_setCell_same _ _ 2 _ _ c' h2
    exact heap_setCell_same _ _ 3 _ _ d' h3
  · rw [heap_setCell_other _ ⟨R, 3, none⟩ _ _ hg, heap_setCell_other _ ⟨R, 2, none⟩ _ _ hg, heap_setCell_other _ ⟨R, 1, none⟩ _ _ hg, heap_setCell_other _ ⟨R, 0, none⟩ _ _ hg]
theorem cells4 {W : World} {R : Nat} {a b c d : Value} {T : TypeId} (h : W.heap[R]? = some (.cells #[a, b, c, d] T (0, 0))) : W.cell? ⟨R, 0, none⟩ = some a ∧ W.cell? ⟨R, 1, none⟩ = some b ∧ W.cell? ⟨R, 2, none⟩ = some c ∧ W.cell? ⟨R, 3, none⟩ = some d ∧ True :=
  ⟨by rw [cell_of_row _ _ _ _ _ _ h]; rfl, by rw [cell_of_row _ _ _ _ _ _ h]; rfl, by rw [cell_of_row _ _ _ _ _ _ h]; rfl, by rw [cell_of_row _ _ _ _ _ _ h]; rfl, trivial⟩
set_option maxHeartbeats 4000000 in
set_option maxRecDepth 100000 in
theorem specWriteSuper_any {w : World} {A1 A2 : Option Addr} {ss : List ByteArray} {ps : List Pt} {fz n0 n1 n2 n3 : Int} {off : Bool} (h1 : RiT w.heap.size w (.slice A1 ss.length ss.length) ss) (h2 : RiU w.heap.size w (.slice A2 ps.length ps.length) ps) (g0 : InI n0) (g1 : InI n1) :
    Calls Try.prog 53 #[.agg #[.slice A1 ss.length ss.length, .slice A2 ps.length ps.length, .int .i64 fz, .bool off], .agg #[.int .i64 n0, .int .i64 n1, .int .i64 n2, .int .i64 n3]] w (AnsDC (wsS ss ps fz off n0 n1 n2 n3) (wsP ss ps fz off n0 n1 n2 n3) (wsF ss ps fz off n0 n1 n2 n3) (wsO ss ps fz off n0 n1 n2 n3) (wsC ss ps fz off n0 n1 n2 n3) w) := by
  have H1 := Lib.hid h1; have H2 := Lib.hid h2
  clear h1 h2
  have HB := Lib.hid (boxes3 w #[.slice A1 ss.length ss.length, .slice A2 ps.length ps.length, .int .i64 fz, .bool off] #[.int .i64 n0, .int .i64 n1, .int .i64 n2, .int .i64 n3] #[.slice none 0 0, .slice none 0 0, .int .i64 0, .bool false] 30 55 30)
  go_enter Try.func53, Try.ntmps53
  go_wp2_with fail
  generalize (((w.alloc (.cells #[.slice A1 ss.length ss.length, .slice A2 ps.length ps.length, .int .i64 fz, .bool off] 30)).alloc (.cells #[.int .i64 n0, .int .i64 n1, .int .i64 n2, .int .i64 n3] 55)).alloc (.cells #[.slice none 0 0, .slice none 0 0, .int .i64 0, .bool false] 30)) = w0 at *
  have G0 : Hid (DB w0 w.heap.size (.slice A1 ss.length ss.length) (.slice A2 ps.length ps.length) fz off) := Lib.hid HB.out.1
  have B0 := Lib.hid HB.out.2.2.2.2
  cases hok : dskOk ss ps fz
  · have E := Lib.hid (ws_no (ss := ss) (ps := ps) (fz := fz) off (n0 := n0) (n1 := n1) (n2 := n2) (n3 := n3) (by simp [wsY, hok]))
    refine (l09Ok_any hok G0.out (H1.out.at (Nat.le_refl _) B0.out) (H2.out.at (Nat.le_refl _) B0.out)).mono ?_
    rintro e w1 ⟨rfl, rfl⟩
    clear hok
    go_wp2_with (refine wpList_store_row rfl 30 (.tmp 4) (.tmp 21) rfl (w.heap.size + 1 + 1) #[.slice none 0 0, .slice none 0 0, .int .i64 0, .bool false] rfl rfl 30 _ HB.out.2.2.1 (infoD4 _ _ _ _) rfl oneD4 ?_)
    refine bodyPost_ret (v := .tuple #[.agg #[.slice none 0 0, .slice none 0 0, .int .i64 0, .bool false], .int .i64 1]) ?_ rfl ?_
    · exact results_cell_row2 rfl _ _ (w.heap.size + 1 + 1) 30 _ (0, 0) _ _ rfl rfl (setRow_heap _ _ _ _ _ _ HB.out.2.2.1) Try.underlying30 rfl (by kernel_rfl)
    · rw [E.out.1, E.out.2.1, E.out.2.2.1, E.out.2.2.2.1, E.out.2.2.2.2]
      exact DskO.ans (DskO.nil _ _) (below_setRow B0.out (by omega) _)
  refine (l09Ok_any hok G0.out (H1.out.at (Nat.le_refl _) B0.out) (H2.out.at (Nat.le_refl _) B0.out)).mono ?_
  rintro e w1 ⟨rfl, rfl⟩
  have r0 : w0.cell? ⟨w.heap.size + 1, 0, none⟩ = some (.int .i64 n0) := by rw [cell_of_row _ _ _ _ _ _ HB.out.2.1]; rfl
  have r1 : w0.cell? ⟨w.heap.size + 1, 1, none⟩ = some (.int .i64 n1) := by rw [cell_of_row _ _ _ _ _ _ HB.out.2.1]; rfl
  have r2 : w0.cell? ⟨w.heap.size + 1, 2, none⟩ = some (.int .i64 n2) := by rw [cell_of_row _ _ _ _ _ _ HB.out.2.1]; rfl
  have r3 : w0.cell? ⟨w.heap.size + 1, 3, none⟩ = some (.int .i64 n3) := by rw [cell_of_row _ _ _ _ _ _ HB.out.2.1]; rfl
  go_wp2_with fail
  clear r0 r1 r2 r3
  refine (specValidSuper_any n0 n1 n2 n3 w0 g0 g1).mono ?_
  rintro e w1 ⟨rfl, g⟩
  have RD : Hid (w1.heap[w.heap.size + 1 + 1]? = some (.cells #[.slice none 0 0, .slice none 0 0, .int .i64 0, .bool false] 30 (0, 0))) := Lib.hid ((g.block _ (by have := HB.out.2.2.2.1; omega)).trans HB.out.2.2.1)
  have RS : Hid (w1.heap[w.heap.size + 1]? = some (.cells #[.int .i64 n0, .int .i64 n1, .int .i64 n2, .int .i64 n3] 55 (0, 0))) := Lib.hid ((g.block _ (by have := HB.out.2.2.2.1; omega)).trans HB.out.2.1)
  have G1 := Lib.hid (G0.out.keep g)
  have B1 : Hid (Below w.heap.size w w1) := Lib.hid (B0.out.trans (g.mono B0.out.size))
  have Z1 : Hid (w.heap.size + 3 ≤ w1.heap.size) := Lib.hid (by have := HB.out.2.2.2.1; have := g.size; omega)
  clear g
  have hbad : ∀ (hy : wsY ss ps fz n0 n1 n2 n3 = false), True := fun _ => trivial
  clear hbad
  cases hs : supOk n0 n1 n2 n3
  · have E := Lib.hid (ws_no (ss := ss) (ps := ps) (fz := fz) off (n0 := n0) (n1 := n1) (n2 := n2) (n3 := n3) (by simp [wsY, hs]))
    clear hs hok
    go_wp2_with (refine wpList_store_row rfl 30 (.tmp 4) (.tmp 21) rfl (w.heap.size + 1 + 1) #[.slice none 0 0, .slice none 0 0, .int .i64 0, .bool false] rfl rfl 30 _ RD.out (infoD4 _ _ _ _) rfl oneD4 ?_)
    refine bodyPost_ret (v := .tuple #[.agg #[.slice none 0 0, .slice none 0 0, .int .i64 0, .bool false], .int .i64 1]) ?_ rfl ?_
    · exact results_cell_row2 rfl _ _ (w.heap.size + 1 + 1) 30 _ (0, 0) _ _ rfl rfl (setRow_heap _ _ _ _ _ _ RD.out) Try.underlying30 rfl (by kernel_rfl)
    · rw [E.out.1, E.out.2.1, E.out.2.2.1, E.out.2.2.2.1, E.out.2.2.2.2]
      exact DskO.ans (DskO.nil _ _) (below_setRow B1.out (by omega) _)
  have r0 : w1.cell? ⟨w.heap.size + 1, 0, none⟩ = some (.int .i64 n0) := by rw [cell_of_row _ _ _ _ _ _ RS.out]; rfl
  have q0 := G1.out.c0
  by_cases hn : n0 = (ss.length : Int)
  rotate_left
  · have E := Lib.hid (ws_no (ss := ss) (ps := ps) (fz := fz) off (n0 := n0) (n1 := n1) (n2 := n2) (n3 := n3) (by simp [wsY, hn]))
    have e1 : (n0 != (ss.length : Int)) = true := by simpa using hn
    clear hs hok
    go_wp2_with (refine wpList_store_row rfl 30 (.tmp 4) (.tmp 21) rfl (w.heap.size + 1 + 1) #[.slice none 0 0, .slice none 0 0, .int .i64 0, .bool false] rfl rfl 30 _ RD.out (infoD4 _ _ _ _) rfl oneD4 ?_)
    refine bodyPost_ret (v := .tuple #[.agg #[.slice none 0 0, .slice none 0 0, .int .i64 0, .bool false], .int .i64 1]) ?_ rfl ?_
    · exact results_cell_row2 rfl _ _ (w.heap.size + 1 + 1) 30 _ (0, 0) _ _ rfl rfl (setRow_heap _ _ _ _ _ _ RD.out) Try.underlying30 rfl (by kernel_rfl)
    · rw [E.out.1, E.out.2.1, E.out.2.2.1, E.out.2.2.2.1, E.out.2.2.2.2]
      exact DskO.ans (DskO.nil _ _) (below_setRow B1.out (by omega) _)
  have E := Lib.hid (ws_yes (ss := ss) (ps := ps) (fz := fz) off (n0 := n0) (n1 := n1) (n2 := n2) (n3 := n3) (by rw [wsY, hok, hs, decide_eq_true hn]; rfl))
  have e1 : (n0 != (ss.length : Int)) = false := by simpa using hn
  have e2 : ¬ ((n0 != (ss.length : Int)) = true) := by simp [e1]
  have Hn := Lib.hid hn
  have hs1 : 0 ≤ n3 ∧ n3 ≤ 1000000000000 := by
    have h := hs
    simp only [supOk, Bool.and_eq_true, inB_iff] at h
    exact h.2.2
  clear hn hs hok
  go_wp2_with fail
  clear r0 q0 e1 e2
  have hk2 : 0 ≤ n3.tmod 2 ∧ n3.tmod 2 < 2 := ⟨Int.tmod_nonneg _ hs1.1, Int.tmod_lt_of_pos _ (by omega)⟩
  have hwk : IntKind.i64.wrap (n3.tmod 2) = n3.tmod 2 := IntWalk.i64_in _ (by omega)
  have Hwf : Hid ((Lit.int .i64 (n3.tmod 2)).wf = true) := Lib.hid (by simp [Lit.wf, IntKind.min, IntKind.max, IntKind.signed, IntKind.bits]; omega)
  have Hsz : Hid ((supB n0 n1 n2 n3).size ≤ maxLen) := Lib.hid (by rw [supB, ByteArray.size_append, supP_size]; decide)
  have HK : Hid (wsK n3 = n3.tmod 2) := Lib.hid rfl
  have HSt : Hid (∀ W, Below (w.heap.size + 2) w1 W → (fun W => (W.cell? ⟨w.heap.size, 0, none⟩ = some (.slice A1 ss.length ss.length) ∧ W.cell? ⟨w.heap.size, 1, none⟩ = some (.slice A2 ps.length ps.length) ∧ W.cell? ⟨w.heap.size, 2, none⟩ = some (.int .i64 fz) ∧ W.cell? ⟨w.heap.size, 3, none⟩ = some (.bool off)) ∧ W.cell? ⟨w.heap.size + 1, 0, none⟩ = some (.int .i64 n0) ∧ W.cell? ⟨w.heap.size + 1, 1, none⟩ = some (.int .i64 n1) ∧ W.cell? ⟨w.heap.size + 1, 2, none⟩ = some (.int .i64 n2) ∧ W.cell? ⟨w.heap.size + 1, 3, none⟩ = some (.int .i64 n3)) W) := Lib.hid (fun W hW => by
    have hr := (hW.block _ (by omega)).trans RS.out
    have hd : DB W w.heap.size (.slice A1 ss.length ss.length) (.slice A2 ps.length ps.length) fz off := (hW.block _ (by omega)).trans G1.out
    exact ⟨⟨hd.c0, hd.c1, hd.c2, hd.c3⟩, by rw [cell_of_row _ _ _ _ _ _ hr]; rfl, by rw [cell_of_row _ _ _ _ _ _ hr]; rfl, by rw [cell_of_row _ _ _ _ _ _ hr]; rfl, by rw [cell_of_row _ _ _ _ _ _ hr]; rfl⟩)
  have HD : Hid (Below w1.heap.size w1 w1.drew) := Lib.hid (Below.refl _ _).drew
  have Hlo : Hid (w.heap.size + 2 ≤ w1.heap.size) := Lib.hid (by have := Z1.out; omega)
  have HEn := Lib.hid (l10Encode_any n0 n1 n2 n3)
  generalize supB n0 n1 n2 n3 = SB at *
  go_region_held3 (fun W => (W.cell? ⟨w.heap.size, 0, none⟩ = some (.slice A1 ss.length ss.length) ∧ W.cell? ⟨w.heap.size, 1, none⟩ = some (.slice A2 ps.length ps.length) ∧ W.cell? ⟨w.heap.size, 2, none⟩ = some (.int .i64 fz) ∧ W.cell? ⟨w.heap.size, 3, none⟩ = some (.bool off)) ∧ W.cell? ⟨w.heap.size + 1, 0, none⟩ = some (.int .i64 n0) ∧ W.cell? ⟨w.heap.size + 1, 1, none⟩ = some (.int .i64 n1) ∧ W.cell? ⟨w.heap.size + 1, 2, none⟩ = some (.int .i64 n2) ∧ W.cell? ⟨w.heap.size + 1, 3, none⟩ = some (.int .i64 n3)) (exact HSt.out _ (by first | exact (kb2.mono Hlo.out) | exact (kb1.mono Hlo.out) | exact (HD.out.mono Hlo.out) | exact kb3))
    ((first | (go_at_call 91; go_fit (HEn.out _); rintro e u1 ⟨rfl, ga⟩; have kb1 : Below w1.heap.size w1 u1 := HD.out.trans (ga.mono HD.out.size)) | (go_at_call 34; go_fit (specWriteBlock_any (H1.out.at (Nat.le_refl _) (B1.out.trans (kb1.mono B1.out.size))) (H2.out.at (Nat.le_refl _) (B1.out.trans (kb1.mono B1.out.size))) Hwf.out Hsz.out); rintro e u2 ⟨v1, v2, rfl, hdo, gb⟩; obtain ⟨Ao, co, rfl⟩ := OT.ex hdo.1; obtain ⟨Au, cu, rfl⟩ := OU.ex hdo.2.1; have HDO := Lib.hid hdo; clear hdo; have kb2 : Below w1.heap.size w1 u2 := kb1.trans (gb.mono kb1.size); have R2 := Lib.hid ((kb2.block _ (show w.heap.size + 1 + 1 < _ by have := Z1.out; omega)).trans RD.out); have XF := cells4 R2.out; have x0 := XF.1; have x1 := XF.2.1; have x2 := XF.2.2.1; have x3 := XF.2.2.2.1; have y0 := frozen_of_row _ _ 0 _ _ R2.out; have y1 := frozen_of_row _ _ 1 _ _ R2.out; have y2 := frozen_of_row _ _ 2 _ _ R2.out; have y3 := frozen_of_row _ _ 3 _ _ R2.out; have S4 := Lib.hid (fun a b c d => store4 (a' := a) (b' := b) (c' := c) (d' := d) (B := w.heap.size + 2) R2.out (by omega)); have kb3 := fun {a b c d} => (kb2.mono Hlo.out).trans (S4.out a b c d).2.2; clear XF gb ga)))
  have HF := Lib.hid (S4.out (.slice Ao (wbS ss ps fz off (n3.tmod 2) SB).length co) (.slice Au (wbP ss ps fz off (n3.tmod 2) SB).length cu) (.int .i64 (wbF ss ps fz off (n3.tmod 2) SB)) (.bool (wbO ss ps fz off (n3.tmod 2) SB)))
  have HU1 : Hid (w.heap.size + 3 ≤ u1.heap.size) := Lib.hid (by have := kb1.size; have := Z1.out; omega)
  have HB2 : Hid (Below w.heap.size w u2) := Lib.hid (B1.out.trans (kb2.mono B1.out.size))
  rw [HK.out] at E
  simp only [Exit.then]
  clear x0 x1 x2 x3 y0 y1 y2 y3 kb3 kb2 kb1 S4
  generalize ((((u2.setCell ⟨w.heap.size + 1 + 1, 0, none⟩ (.slice Ao (wbS ss ps fz off (n3.tmod 2) SB).length co)).setCell ⟨w.heap.size + 1 + 1, 1, none⟩ (.slice Au (wbP ss ps fz off (n3.tmod 2) SB).length cu)).setCell ⟨w.heap.size + 1 + 1, 2, none⟩ (.int .i64 (wbF ss ps fz off (n3.tmod 2) SB))).setCell ⟨w.heap.size + 1 + 1, 3, none⟩ (.bool (wbO ss ps fz off (n3.tmod 2) SB))) = w3 at *
  go_wp2_with fail
  refine bodyPost_ret (v := .tuple #[.agg #[.slice Ao (wbS ss ps fz off (n3.tmod 2) SB).length co, .slice Au (wbP ss ps fz off (n3.tmod 2) SB).length cu, .int .i64 (wbF ss ps fz off (n3.tmod 2) SB), .bool (wbO ss ps fz off (n3.tmod 2) SB)], .int .i64 (wbC ss ps fz off (n3.tmod 2) SB)]) ?_ rfl ?_
  · exact results_cell_row2 rfl _ _ (w.heap.size + 1 + 1) 30 _ (0, 0) _ _ rfl rfl HF.out.1 Try.underlying30 rfl (by kernel_rfl)
  · rw [E.out.1, E.out.2.1, E.out.2.2.1, E.out.2.2.2.1, E.out.2.2.2.2]
    exact DskO.ans (DskO.lo (HDO.out.same (r := w.heap.size + 1 + 1) (by have := HU1.out; omega) HF.out.2.1) (by have := HU1.out; omega)) (HB2.out.trans (HF.out.2.2.mono (by omega)))
end Go.Proofs.Ytpjkeikaonkohaa
