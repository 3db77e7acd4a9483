/- The contract of the program's SetFuse. No statement is proved here. -/
import Derived.Test.YtpjkeikaonkohaaDvO
import Derived.Test.YtpjkeikaonkohaaDkF
namespace Go.Proofs.Ytpjkeikaonkohaa
open Go.RowKit
set_option linter.unusedVariables false
theorem Drv.neSD {w : World} {lo D S : Nat} {v2 : Value} {ss : List ByteArray} {ps : List Pt} {fz : Int} {off : Bool} (h : Drv w lo D S v2 ss ps fz off) : S ≠ D := by
  rintro rfl
  obtain ⟨C, hC, -⟩ := h.sec
  have hb := h.box
  unfold VB at hb
  rw [hC] at hb
  cases hb
theorem Drv.neD {w : World} {lo D S : Nat} {v2 : Value} {ss : List ByteArray} {ps : List Pt} {fz : Int} {off : Bool} (h : Drv w lo D S v2 ss ps fz off) (q : Nat) (hq : v2.ownBlock = some q) : q ≠ D := by
  rintro rfl
  have hb := h.box
  rcases h.pend.2 with ⟨e1, _⟩ | ⟨g, cap, cur, rfl, _, hg, _⟩
  · rw [e1] at hq; simp [Value.ownBlock] at hq
  · simp only [Value.ownBlock, Option.some.injEq] at hq
    subst hq
    unfold VB at hb
    rw [hg] at hb
    cases hb
theorem Drv.neS {w : World} {lo D S : Nat} {v2 : Value} {ss : List ByteArray} {ps : List Pt} {fz : Int} {off : Bool} (h : Drv w lo D S v2 ss ps fz off) (q : Nat) (hq : v2.ownBlock = some q) : q ≠ S := by
  rintro rfl
  obtain ⟨C, hC, -⟩ := h.sec
  rcases h.pend.2 with ⟨e1, _⟩ | ⟨g, cap, cur, rfl, _, hg, _⟩
  · rw [e1] at hq; simp [Value.ownBlock] at hq
  · simp only [Value.ownBlock, Option.some.injEq] at hq
    subst hq
    rw [hg] at hC
    cases hC
/-- A store into the drive's own block. -/
theorem Drv.fuse {w : World} {lo D S : Nat} {v2 : Value} {ss : List ByteArray} {ps : List Pt} {fz : Int} {off : Bool} (h : Drv w lo D S v2 ss ps fz off) (f : Int) : Drv (w.setCell ⟨D, 2, none⟩ (.int .i64 f)) lo D S v2 ss ps f off :=
  ⟨heap_setCell_same _ _ _ _ _ _ h.box, h.sec.same (heap_setCell_other _ ⟨D, 2, none⟩ _ _ h.neSD), own_same h.pend fun q hq => heap_setCell_other _ ⟨D, 2, none⟩ _ _ (h.neD q hq), h.loD, h.loS, h.hn⟩
theorem Drv.power {w : World} {lo D S : Nat} {v2 : Value} {ss : List ByteArray} {ps : List Pt} {fz : Int} {off : Bool} (h : Drv w lo D S v2 ss ps fz off) (o : Bool) : Drv (w.setCell ⟨D, 3, none⟩ (.bool o)) lo D S v2 ss ps fz o :=
  ⟨heap_setCell_same _ _ _ _ _ _ h.box, h.sec.same (heap_setCell_other _ ⟨D, 3, none⟩ _ _ h.neSD), own_same h.pend fun q hq => heap_setCell_other _ ⟨D, 3, none⟩ _ _ (h.neD q hq), h.loD, h.loS, h.hn⟩
theorem Drv.ltD {w : World} {lo D S : Nat} {v2 : Value} {ss : List ByteArray} {ps : List Pt} {fz : Int} {off : Bool} (h : Drv w lo D S v2 ss ps fz off) : D < w.heap.size := h.box.lt
/-- Two boxes: the argument's and the answer's. -/
theorem boxes2 (w : World) (a b : Array Value) (s t : TypeId) : ((w.alloc (.cells a s)).alloc (.cells b t)).heap[w.heap.size]? = some (.cells a s (0, 0)) ∧ ((w.alloc (.cells a s)).alloc (.cells b t)).heap[w.heap.size + 1]? = some (.cells b t (0, 0)) ∧ ((w.alloc (.cells a s)).alloc (.cells b t)).heap.size = w.heap.size + 2 ∧ Below w.heap.size w ((w.alloc (.cells a s)).alloc (.cells b t)) :=
  ⟨heap_alloc2_old w _ _, heap_alloc2_new w _ _, by simp, ((Below.refl _ w).alloc (Nat.le_refl _) _).alloc (by simp) _⟩
set_option maxHeartbeats 2000000 in
set_option maxRecDepth 100000 in
theorem implSetFuse_any {w : World} {A1 A2 : Option Addr} {ss : List ByteArray} {ps : List Pt} {fz f : Int} {off : Bool} (h1 : RiT w.heap.size w (.slice A1 ss.length ss.length) ss) (h2 : RiU w.heap.size w (.slice A2 ps.length ps.length) ps) (hf : (Lit.int .i64 f).wf = true) :
    Calls Try.prog 31 #[.agg #[.slice A1 ss.length ss.length, .slice A2 ps.length ps.length, .int .i64 fz, .bool off], .int .i64 f] w (AnsDC (sfS ss ps fz f) (sfP ss ps fz f) (sfF ss ps fz f) (sfO ss ps fz f off) (sfC ss ps fz f) w) := by
  have H1 := Lib.hid h1; have H2 := Lib.hid h2
  clear h1 h2
  have HB := Lib.hid (boxes2 w #[.slice A1 ss.length ss.length, .slice A2 ps.length ps.length, .int .i64 fz, .bool off] #[.slice none 0 0, .slice none 0 0, .int .i64 0, .bool false] 30 30)
  go_enter Try.func31, Try.ntmps31
  go_wp2_with fail
  generalize ((w.alloc (.cells #[.slice A1 ss.length ss.length, .slice A2 ps.length ps.length, .int .i64 fz, .bool off] 30)).alloc (.cells #[.slice none 0 0, .slice none 0 0, .int .i64 0, .bool false] 30)) = w0 at *
  refine (driveOf_any (H1.out.at (Nat.le_refl _) HB.out.2.2.2) (H2.out.at (Nat.le_refl _) HB.out.2.2.2) (Nat.le_refl _)).mono ?_
  rintro e w1 (⟨hok, rfl, g⟩ | ⟨hok, D, S, A, m, c, rfl, hd, g⟩)
  · have e1 : sfS ss ps fz f = [] := by simp [sfS, sfY, hok]
    have e2 : sfP ss ps fz f = [] := by simp [sfP, sfY, hok]
    have e3 : sfF ss ps fz f = 0 := by simp [sfF, sfY, hok]
    have e4 : sfO ss ps fz f off = false := by simp [sfO, sfY, hok]
    have e5 : sfC ss ps fz f = 1 := by simp [sfC, hok]
    have E := Lib.hid (And.intro e1 (And.intro e2 (And.intro e3 (And.intro e4 e5))))
    clear e1 e2 e3 e4 e5 hok
    have R1 : Hid (w1.heap[w.heap.size + 1]? = some (.cells #[.slice none 0 0, .slice none 0 0, .int .i64 0, .bool false] 30 (0, 0))) := Lib.hid ((g.block _ (by have := HB.out.2.2.1; omega)).trans HB.out.2.1)
    have B1 : Hid (Below w.heap.size w w1) := Lib.hid (HB.out.2.2.2.trans (g.mono HB.out.2.2.2.size))
    clear g
    go_wp2_with (refine wpList_store_row rfl 30 (.tmp 4) (.tmp 15) rfl (w.heap.size + 1) #[.slice none 0 0, .slice none 0 0, .int .i64 0, .bool false] rfl rfl 30 _ R1.out (infoD4 _ _ _ _) rfl oneD4 ?_)
    refine bodyPost_ret (v := .tuple #[.agg #[.slice none 0 0, .slice none 0 0, .int .i64 0, .bool false], .int .i64 1]) ?_ rfl ?_
    · exact results_cell_row2 rfl _ _ (w.heap.size + 1) 30 _ (0, 0) _ _ rfl rfl (setRow_heap _ _ _ _ _ _ R1.out) Try.underlying30 rfl (by kernel_rfl)
    · rw [E.out.1, E.out.2.1, E.out.2.2.1, E.out.2.2.2.1, E.out.2.2.2.2]
      exact DskO.ans (DskO.nil _ _) (below_setRow B1.out (Nat.le_succ _) _)
  have R1 : Hid (w1.heap[w.heap.size + 1]? = some (.cells #[.slice none 0 0, .slice none 0 0, .int .i64 0, .bool false] 30 (0, 0))) := Lib.hid ((g.block _ (by have := HB.out.2.2.1; omega)).trans HB.out.2.1)
  have B1 : Hid (Below w.heap.size w w1) := Lib.hid (HB.out.2.2.2.trans (g.mono HB.out.2.2.2.size))
  have Hd := Lib.hid hd
  have Hlo : Hid (w.heap.size + 2 ≤ D ∧ w.heap.size + 2 ≤ S ∧ w0.heap.size = w.heap.size + 2) := Lib.hid ⟨by have := hd.loD; have := HB.out.2.2.1; omega, by have := hd.loS; have := HB.out.2.2.1; omega, HB.out.2.2.1⟩
  clear g hd
  cases hi : inB f (-1) 100000
  · have e1 : sfS ss ps fz f = [] := by simp [sfS, sfY, hi]
    have e2 : sfP ss ps fz f = [] := by simp [sfP, sfY, hi]
    have e3 : sfF ss ps fz f = 0 := by simp [sfF, sfY, hi]
    have e4 : sfO ss ps fz f off = false := by simp [sfO, sfY, hi]
    have e5 : sfC ss ps fz f = 2 := by simp [sfC, hok, hi]
    have E := Lib.hid (And.intro e1 (And.intro e2 (And.intro e3 (And.intro e4 e5))))
    have Hi := Lib.hid hi
    clear e1 e2 e3 e4 e5 hi hok
    go_wp2_with (first | (go_at_call 66; refine (isFuse_no _ _ Hi.out).mono ?_; rintro e w' ⟨rfl, rfl⟩) | (refine wpList_store_row rfl 30 (.tmp 4) (.tmp 19) rfl (w.heap.size + 1) #[.slice none 0 0, .slice none 0 0, .int .i64 0, .bool false] rfl rfl 30 _ R1.out (infoD4 _ _ _ _) rfl oneD4 ?_))
    refine bodyPost_ret (v := .tuple #[.agg #[.slice none 0 0, .slice none 0 0, .int .i64 0, .bool false], .int .i64 2]) ?_ rfl ?_
    · exact results_cell_row2 rfl _ _ (w.heap.size + 1) 30 _ (0, 0) _ _ rfl rfl (setRow_heap _ _ _ _ _ _ R1.out) Try.underlying30 rfl (by kernel_rfl)
    · rw [E.out.1, E.out.2.1, E.out.2.2.1, E.out.2.2.2.1, E.out.2.2.2.2]
      exact DskO.ans (DskO.nil _ _) (below_setRow B1.out (Nat.le_succ _) _)
  have e1 : sfS ss ps fz f = ss := by simp [sfS, sfY, hok, hi]
  have e2 : sfP ss ps fz f = ps := by simp [sfP, sfY, hok, hi]
  have e3 : sfF ss ps fz f = f := by simp [sfF, sfY, hok, hi]
  have e4 : sfO ss ps fz f off = off := by simp [sfO, sfY, hok, hi]
  have e5 : sfC ss ps fz f = 0 := by simp [sfC, hok, hi]
  have E := Lib.hid (And.intro e1 (And.intro e2 (And.intro e3 (And.intro e4 e5))))
  have Hi := Lib.hid hi
  clear e1 e2 e3 e4 e5 hi hok
  have q2 := Hd.out.box.c2
  have f2 := Hd.out.box.f 2
  go_wp2_with ((go_at_call 66; refine (isFuse_yes _ _ Hi.out).mono ?_; rintro e w' ⟨rfl, rfl⟩))
  clear q2 f2
  have Hd2 := Lib.hid (Hd.out.fuse f)
  have B2 : Hid (Below w.heap.size w (w1.setCell ⟨D, 2, none⟩ (.int .i64 f))) := Lib.hid (B1.out.setCell (p := ⟨D, 2, none⟩) (by have := Hlo.out; show w.heap.size ≤ D; omega) _)
  have R2 : Hid ((w1.setCell ⟨D, 2, none⟩ (.int .i64 f)).heap[w.heap.size + 1]? = some (.cells #[.slice none 0 0, .slice none 0 0, .int .i64 0, .bool false] 30 (0, 0))) := Lib.hid ((heap_setCell_other _ ⟨D, 2, none⟩ _ _ (show w.heap.size + 1 ≠ D by have := Hlo.out; omega)).trans R1.out)
  have Z2 : Hid (w.heap.size + 2 ≤ (w1.setCell ⟨D, 2, none⟩ (.int .i64 f)).heap.size) := Lib.hid (by have := Hd2.out.ltD; have := Hlo.out; omega)
  generalize (w1.setCell ⟨D, 2, none⟩ (.int .i64 f)) = w2 at *
  refine (disk_any Hd2.out).mono ?_
  rintro e w3 ⟨v1, rfl, ho, hg⟩
  have HO := Lib.hid ho; have G := Lib.hid hg
  have R3 : Hid (w3.heap[w.heap.size + 1]? = some (.cells #[.slice none 0 0, .slice none 0 0, .int .i64 0, .bool false] 30 (0, 0))) := Lib.hid ((hg.block _ (by have := Z2.out; omega)).trans R2.out)
  have HU : Hid (OU w3 (w.heap.size + 2) (.slice A m c) ps) := Lib.hid (own_lo (own_bel Hd2.out.pend hg) (by have := Hlo.out; omega))
  have B3 : Hid (Below w.heap.size w w3) := Lib.hid (B2.out.trans (hg.mono B2.out.size))
  obtain ⟨Ao, mo, co, rfl⟩ := OT.slv ho
  clear ho hg
  go_wp2_with (refine wpList_store_row rfl 30 (.tmp 4) (.tmp 25) rfl (w.heap.size + 1) #[.slice Ao mo co, .slice A m c, .int .i64 f, .bool off] rfl rfl 30 _ R3.out (infoD4 _ _ _ _) rfl oneD4 ?_)
  refine bodyPost_ret (v := .tuple #[.agg #[.slice Ao mo co, .slice A m c, .int .i64 f, .bool off], .int .i64 0]) ?_ rfl ?_
  · exact results_cell_row2 rfl _ _ (w.heap.size + 1) 30 _ (0, 0) _ _ rfl rfl (setRow_heap _ _ _ _ _ _ R3.out) Try.underlying30 rfl (by kernel_rfl)
  · rw [E.out.1, E.out.2.1, E.out.2.2.1, E.out.2.2.2.1, E.out.2.2.2.2]
    refine DskO.ans ⟨own_lo (own_same HO.out fun q hq => setRow_other _ _ q _ (by have := (own_wi HO.out q hq).1; have := Z2.out; omega)) (by have := Z2.out; omega), own_lo (own_same HU.out fun q hq => setRow_other _ _ q _ (by have := (own_wi HU.out q hq).1; omega)) (by omega), ?_⟩ (below_setRow B3.out (Nat.le_succ _) _)
    exact OT.ap (own_lo HO.out (Nat.zero_le _)) (own_lo HU.out (Nat.zero_le _))
end Go.Proofs.Ytpjkeikaonkohaa
