/- Several texts in one: StS, StI. No statement is proved here. -/
import Derived.Test.YtplfnlalmcpcaaaGreatPgw
import Derived.Test.YtplfnlalmcpcaaaGreatPgk
import Derived.Test.YtplfnlalmcpcaaaGreatGpS
import Derived.Test.YtplfnlalmcpcaaaGreatAcc
import Derived.Test.YtplfnlalmcpcaaaGreatPgV
namespace Go.Proofs.YtplfnlalmcpcaaaGreat
open Go.RowKit Go.Maps
set_option linter.unusedVariables false
/-- What SetPage answers: whether a Pager, and the code. -/
def stO (ss : List ByteArray) (ps : List Pt) (fz : Int) (off : Bool) (b l q t sq at_ : Int) (lg dt : List Pt) (k : Int) (x : ByteArray) : Bool := pgrOk ss ps fz off b l q t sq at_ lg dt && (decide (x.size = 64) && (inB k (2 + l) (b - 1) && ftOk l ((mg dt [(k, x)]).length : Int)))
def stC (ss : List ByteArray) (ps : List Pt) (fz : Int) (off : Bool) (b l q t sq at_ : Int) (lg dt : List Pt) (k : Int) (x : ByteArray) : Int := if pgrOk ss ps fz off b l q t sq at_ lg dt && decide (x.size = 64) then (if inB k (2 + l) (b - 1) then (if ftOk l ((mg dt [(k, x)]).length : Int) then 0 else 5) else 2) else 1
theorem pgrOk_l {ss : List ByteArray} {ps lg dt : List Pt} {fz b l q t sq at_ : Int} {off : Bool} (h : pgrOk ss ps fz off b l q t sq at_ lg dt = true) : lg.length ≤ 256 ∧ dt.length ≤ 256 ∧ pgOk dt = true ∧ pgOk lg = true := by
  simp only [pgrOk, Bool.and_eq_true] at h
  exact ⟨(pgOk_iff.1 h.2.2.1.1).1, (pgOk_iff.1 h.2.2.1.2).1, h.2.2.1.2, h.2.2.1.1⟩
/-- A Pager of its own in a box, in which the transaction is exchanged. -/
theorem pgo_box {w3 w4 w5 : World} {lo : Nat} {v0 v1 v10 v11 u : Value} {ss : List ByteArray} {ps lg dt dt' : List Pt} (h : PgO w4 lo v0 v1 v10 v11 ss ps lg dt) (h3 : PgO w3 lo v0 v1 v10 v11 ss ps lg dt) (hg : w4.grownBy w5 (some w3.heap.size)) (hu : OG w5 w4.heap.size u dt') : PgO w5 lo v0 v1 v10 u ss ps lg dt' := by
  have k0 := own_wi h3.1; have k1 := own_wi h3.2.1; have k2 := own_wi h3.2.2.1
  obtain ⟨a0, a1, a2, a3, p1, p2, hi, i0, i1, i2, i3, r1, r2, r3, r4⟩ := h
  exact ⟨own_grown a0 hg (fun g hv e => by cases e; have := k0 _ hv; omega), own_grown a1 hg (fun g hv e => by cases e; have := k1 _ hv; omega), own_grown a2 hg (fun g hv e => by cases e; have := k2 _ hv; omega), own_lo hu (by omega), p1, p2, w5.heap.size, i0, i1, i2, (own_wi hu).wider (by omega) (Nat.le_refl _), r1, r2, by have := hg.size; omega, Nat.le_refl _⟩
set_option maxHeartbeats 4000000 in
set_option maxRecDepth 100000 in
theorem specSetPage_any {w : World} {A0 A1 A10 A11 : Option Addr} {ss : List ByteArray} {ps lg dt : List Pt} {fz b l q t sq at_ : Int} {off : Bool} {k : Int} {x : ByteArray} (h0 : RiT w.heap.size w (.slice A0 ss.length ss.length) ss) (h1 : RiU w.heap.size w (.slice A1 ps.length ps.length) ps) (h10 : RiU w.heap.size w (.slice A10 lg.length lg.length) lg) (h11 : RiU w.heap.size w (.slice A11 dt.length dt.length) dt) (z0 : ss.length ≤ 1048576) (z1 : ps.length ≤ 1048576) (i4 : InI b) (i5 : InI l) (hk : (Lit.int .i64 k).wf = true) (hx : x.size ≤ maxLen) :
    Calls Tryz.prog 11 #[.agg #[.slice A0 ss.length ss.length, .slice A1 ps.length ps.length, .int .i64 fz, .bool off, .int .i64 b, .int .i64 l, .int .i64 q, .int .i64 t, .int .i64 sq, .int .i64 at_, .slice A10 lg.length lg.length, .slice A11 dt.length dt.length], .int .i64 k, .string x] w (AnsP (mkC (stC ss ps fz off b l q t sq at_ lg dt k x)) (sT (stO ss ps fz off b l q t sq at_ lg dt k x) ss) (sT (stO ss ps fz off b l q t sq at_ lg dt k x) ps) (sI (stO ss ps fz off b l q t sq at_ lg dt k x) fz) (sB (stO ss ps fz off b l q t sq at_ lg dt k x) off) (sI (stO ss ps fz off b l q t sq at_ lg dt k x) b) (sI (stO ss ps fz off b l q t sq at_ lg dt k x) l) (sI (stO ss ps fz off b l q t sq at_ lg dt k x) q) (sI (stO ss ps fz off b l q t sq at_ lg dt k x) t) (sI (stO ss ps fz off b l q t sq at_ lg dt k x) sq) (sI (stO ss ps fz off b l q t sq at_ lg dt k x) at_) (sT (stO ss ps fz off b l q t sq at_ lg dt k x) lg) (sT (stO ss ps fz off b l q t sq at_ lg dt k x) (mg dt [(k, x)])) w) := by
  have ik : InI k := by unfold InI; simp [Lit.wf, IntKind.min, IntKind.max, IntKind.signed, IntKind.bits] at hk; omega
  have Ik := Lib.hid ik
  have HO : Hid ((stO ss ps fz off b l q t sq at_ lg dt k x) = (pgrOk ss ps fz off b l q t sq at_ lg dt && (decide (x.size = 64) && (inB k (2 + l) (b - 1) && ftOk l ((mg dt [(k, x)]).length : Int))))) := Lib.hid rfl
  have HC : Hid ((stC ss ps fz off b l q t sq at_ lg dt k x) = if pgrOk ss ps fz off b l q t sq at_ lg dt && decide (x.size = 64) then (if inB k (2 + l) (b - 1) then (if ftOk l ((mg dt [(k, x)]).length : Int) then 0 else 5) else 2) else 1) := Lib.hid rfl
  generalize (stO ss ps fz off b l q t sq at_ lg dt k x) = O at *
  generalize (stC ss ps fz off b l q t sq at_ lg dt k x) = C at *
  have Hok := Lib.hid (pgrOk_t (ss := ss) (ps := ps) (fz := fz) (off := off) (b := b) (l := l) (q := q) (t := t) (sq := sq) (at_ := at_) (lg := lg) (dt := dt))
  have Hpl := Lib.hid (pgrOk_l (ss := ss) (ps := ps) (fz := fz) (off := off) (b := b) (l := l) (q := q) (t := t) (sq := sq) (at_ := at_) (lg := lg) (dt := dt))
  have H0 := Lib.hid h0; have H1 := Lib.hid h1; have H10 := Lib.hid h10; have H11 := Lib.hid h11
  clear h0 h1 h10 h11
  have B0 : Hid (Below w.heap.size w ((w.alloc (.cells #[.slice A0 ss.length ss.length, .slice A1 ps.length ps.length, .int .i64 fz, .bool off, .int .i64 b, .int .i64 l, .int .i64 q, .int .i64 t, .int .i64 sq, .int .i64 at_, .slice A10 lg.length lg.length, .slice A11 dt.length dt.length] 38)).alloc (.cells #[.slice none 0 0, .slice none 0 0, .int .i64 0, .bool false, .int .i64 0, .int .i64 0, .int .i64 0, .int .i64 0, .int .i64 0, .int .i64 0, .slice none 0 0, .slice none 0 0] 38))) := Lib.hid (((Below.refl _ w).alloc (Nat.le_refl _) _).alloc (by simp) _)
  have R0 : Hid (((w.alloc (.cells #[.slice A0 ss.length ss.length, .slice A1 ps.length ps.length, .int .i64 fz, .bool off, .int .i64 b, .int .i64 l, .int .i64 q, .int .i64 t, .int .i64 sq, .int .i64 at_, .slice A10 lg.length lg.length, .slice A11 dt.length dt.length] 38)).alloc (.cells #[.slice none 0 0, .slice none 0 0, .int .i64 0, .bool false, .int .i64 0, .int .i64 0, .int .i64 0, .int .i64 0, .int .i64 0, .int .i64 0, .slice none 0 0, .slice none 0 0] 38)).heap[w.heap.size]? = some (.cells #[.slice A0 ss.length ss.length, .slice A1 ps.length ps.length, .int .i64 fz, .bool off, .int .i64 b, .int .i64 l, .int .i64 q, .int .i64 t, .int .i64 sq, .int .i64 at_, .slice A10 lg.length lg.length, .slice A11 dt.length dt.length] 38 (0, 0))) := Lib.hid (heap_alloc2_old w _ _)
  have Q0 : Hid (((w.alloc (.cells #[.slice A0 ss.length ss.length, .slice A1 ps.length ps.length, .int .i64 fz, .bool off, .int .i64 b, .int .i64 l, .int .i64 q, .int .i64 t, .int .i64 sq, .int .i64 at_, .slice A10 lg.length lg.length, .slice A11 dt.length dt.length] 38)).alloc (.cells #[.slice none 0 0, .slice none 0 0, .int .i64 0, .bool false, .int .i64 0, .int .i64 0, .int .i64 0, .int .i64 0, .int .i64 0, .int .i64 0, .slice none 0 0, .slice none 0 0] 38)).heap[w.heap.size + 1]? = some (.cells #[.slice none 0 0, .slice none 0 0, .int .i64 0, .bool false, .int .i64 0, .int .i64 0, .int .i64 0, .int .i64 0, .int .i64 0, .int .i64 0, .slice none 0 0, .slice none 0 0] 38 (0, 0))) := Lib.hid (heap_alloc2_new w _ _)
  have Z0 : Hid (w.heap.size + 2 ≤ ((w.alloc (.cells #[.slice A0 ss.length ss.length, .slice A1 ps.length ps.length, .int .i64 fz, .bool off, .int .i64 b, .int .i64 l, .int .i64 q, .int .i64 t, .int .i64 sq, .int .i64 at_, .slice A10 lg.length lg.length, .slice A11 dt.length dt.length] 38)).alloc (.cells #[.slice none 0 0, .slice none 0 0, .int .i64 0, .bool false, .int .i64 0, .int .i64 0, .int .i64 0, .int .i64 0, .int .i64 0, .int .i64 0, .slice none 0 0, .slice none 0 0] 38)).heap.size) := Lib.hid (by simp)
  have C1 := Lib.hid (l12Ok_any R0.out (H0.out.at (Nat.le_refl _) B0.out) (H1.out.at (Nat.le_refl _) B0.out) (H10.out.at (Nat.le_refl _) B0.out) (H11.out.at (Nat.le_refl _) B0.out) (Nat.le_refl _) i4 i5)
  generalize pgrOk ss ps fz off b l q t sq at_ lg dt = z at *
  go_enter Tryz.func11, Tryz.ntmps11
  go_wp2_with fail
  generalize ((w.alloc (.cells #[.slice A0 ss.length ss.length, .slice A1 ps.length ps.length, .int .i64 fz, .bool off, .int .i64 b, .int .i64 l, .int .i64 q, .int .i64 t, .int .i64 sq, .int .i64 at_, .slice A10 lg.length lg.length, .slice A11 dt.length dt.length] 38)).alloc (.cells #[.slice none 0 0, .slice none 0 0, .int .i64 0, .bool false, .int .i64 0, .int .i64 0, .int .i64 0, .int .i64 0, .int .i64 0, .int .i64 0, .slice none 0 0, .slice none 0 0] 38)) = w0 at *
  refine C1.out.mono ?_
  rintro e w1 ⟨rfl, g⟩
  have B1 := Lib.hid (B0.out.trans (g.mono B0.out.size))
  have R1 := Lib.hid ((g.block _ (by have := Z0.out; omega)).trans R0.out)
  have Q1 := Lib.hid ((g.block _ (by have := Z0.out; omega)).trans Q0.out)
  have Z1 : Hid (w.heap.size + 2 ≤ w1.heap.size) := Lib.hid (by have := Z0.out; have := g.size; omega)
  clear g
  have dz : ((x.size : Int) == 64) = decide (x.size = 64) := by by_cases h : x.size = 64 <;> simp [h] <;> omega
  cases z
  · skip
    go_wp2_with (refine wpList_store_row rfl 38 (.tmp 6) (.tmp 16) rfl (w.heap.size + 1) #[.slice none 0 0, .slice none 0 0, .int .i64 0, .bool false, .int .i64 0, .int .i64 0, .int .i64 0, .int .i64 0, .int .i64 0, .int .i64 0, .slice none 0 0, .slice none 0 0] rfl rfl 38 _ Q1.out infoP rfl (onePv ..) ?_)
    refine bodyPost_ret (v := .tuple #[.agg #[.slice none 0 0, .slice none 0 0, .int .i64 0, .bool false, .int .i64 0, .int .i64 0, .int .i64 0, .int .i64 0, .int .i64 0, .int .i64 0, .slice none 0 0, .slice none 0 0], .int .i64 1]) ?_ rfl ?_
    · exact results_cell_row2 rfl _ _ (w.heap.size + 1) 38 _ (0, 0) _ _ rfl rfl (setRow_heap _ _ _ _ _ _ Q1.out) Tryz.underlying38 rfl (by kernel_rfl)
    · rw [HC.out]; exact AnsP.zero (mk := mkC 1) (by rw [HO.out]; rfl) (by omega) (by have := Z1.out; omega) B1.out
  have HQ := Lib.hid (Hok.out rfl); have HP := Lib.hid (Hpl.out rfl); clear Hok Hpl
  generalize decide (x.size = 64) = y at *
  cases y
  · skip
    go_wp2_with (refine wpList_store_row rfl 38 (.tmp 6) (.tmp 16) rfl (w.heap.size + 1) #[.slice none 0 0, .slice none 0 0, .int .i64 0, .bool false, .int .i64 0, .int .i64 0, .int .i64 0, .int .i64 0, .int .i64 0, .int .i64 0, .slice none 0 0, .slice none 0 0] rfl rfl 38 _ Q1.out infoP rfl (onePv ..) ?_)
    refine bodyPost_ret (v := .tuple #[.agg #[.slice none 0 0, .slice none 0 0, .int .i64 0, .bool false, .int .i64 0, .int .i64 0, .int .i64 0, .int .i64 0, .int .i64 0, .int .i64 0, .slice none 0 0, .slice none 0 0], .int .i64 1]) ?_ rfl ?_
    · exact results_cell_row2 rfl _ _ (w.heap.size + 1) 38 _ (0, 0) _ _ rfl rfl (setRow_heap _ _ _ _ _ _ Q1.out) Tryz.underlying38 rfl (by kernel_rfl)
    · rw [HC.out]; exact AnsP.zero (mk := mkC 1) (by rw [HO.out]; rfl) (by omega) (by have := Z1.out; omega) B1.out
  go_wp2_with fail
  have C2 := Lib.hid (l12Page_any k R1.out HQ.out.1)
  have hkk := @inB_iff k (2 + l) (b - 1)
  generalize inB k (2 + l) (b - 1) = y at *
  refine C2.out.mono ?_
  rintro e w2 ⟨rfl, g⟩
  have B2 := Lib.hid (B1.out.trans (g.mono B1.out.size))
  have R2 := Lib.hid ((g.block _ (by have := Z1.out; omega)).trans R1.out)
  have Q2 := Lib.hid ((g.block _ (by have := Z1.out; omega)).trans Q1.out)
  have Z2 : Hid (w.heap.size + 2 ≤ w2.heap.size) := Lib.hid (by have := Z1.out; have := g.size; omega)
  clear g
  cases y
  · skip
    go_wp2_with (refine wpList_store_row rfl 38 (.tmp 6) (.tmp 20) rfl (w.heap.size + 1) #[.slice none 0 0, .slice none 0 0, .int .i64 0, .bool false, .int .i64 0, .int .i64 0, .int .i64 0, .int .i64 0, .int .i64 0, .int .i64 0, .slice none 0 0, .slice none 0 0] rfl rfl 38 _ Q2.out infoP rfl (onePv ..) ?_)
    refine bodyPost_ret (v := .tuple #[.agg #[.slice none 0 0, .slice none 0 0, .int .i64 0, .bool false, .int .i64 0, .int .i64 0, .int .i64 0, .int .i64 0, .int .i64 0, .int .i64 0, .slice none 0 0, .slice none 0 0], .int .i64 2]) ?_ rfl ?_
    · exact results_cell_row2 rfl _ _ (w.heap.size + 1) 38 _ (0, 0) _ _ rfl rfl (setRow_heap _ _ _ _ _ _ Q2.out) Tryz.underlying38 rfl (by kernel_rfl)
    · rw [HC.out]; exact AnsP.zero (mk := mkC 2) (by rw [HO.out]; rfl) (by omega) (by have := Z2.out; omega) B2.out
  clear hkk
  go_wp2_with fail
  refine (l12Own_any R2.out (H0.out.at (Nat.le_refl _) B2.out) (H1.out.at (Nat.le_refl _) B2.out) (H10.out.at (Nat.le_refl _) B2.out) (H11.out.at (Nat.le_refl _) B2.out) z0 z1 (by have := HP.out.1; omega) (by have := HP.out.2.1; omega)).mono ?_
  rintro e w3 ⟨X0, X1, X10, X11, x0, x1, x10, x11, rfl, pg, g⟩
  have Pg := Lib.hid pg; clear pg
  have B3 := Lib.hid (B2.out.trans (g.mono B2.out.size))
  have R3 := Lib.hid ((g.block _ (by have := Z2.out; omega)).trans R2.out)
  have Q3 := Lib.hid ((g.block _ (by have := Z2.out; omega)).trans Q2.out)
  have Z3 : Hid (w.heap.size + 2 ≤ w3.heap.size) := Lib.hid (by have := Z2.out; have := g.size; omega)
  clear g
  have Zl : Hid (w2.heap.size ≤ w3.heap.size) := Lib.hid (by have := B3.out.size; obtain ⟨-, -, -, -, p1, p2, hi, -, -, -, -, r1, r2, r3, r4⟩ := Pg.out; omega)
  have E : (w3.alloc (.cells #[.slice X0 ss.length x0, .slice X1 ps.length x1, .int .i64 fz, .bool off, .int .i64 b, .int .i64 l, .int .i64 q, .int .i64 t, .int .i64 sq, .int .i64 at_, .slice X10 lg.length x10, .slice X11 dt.length x11] 38)).heap.size = w3.heap.size + 1 := by simp
  have Rb : Hid ((w3.alloc (.cells #[.slice X0 ss.length x0, .slice X1 ps.length x1, .int .i64 fz, .bool off, .int .i64 b, .int .i64 l, .int .i64 q, .int .i64 t, .int .i64 sq, .int .i64 at_, .slice X10 lg.length x10, .slice X11 dt.length x11] 38)).heap[w3.heap.size]? = some (.cells #[.slice X0 ss.length x0, .slice X1 ps.length x1, .int .i64 fz, .bool off, .int .i64 b, .int .i64 l, .int .i64 q, .int .i64 t, .int .i64 sq, .int .i64 at_, .slice X10 lg.length x10, .slice X11 dt.length x11] 38 (0, 0))) := Lib.hid (heap_alloc_new w3 _)
  have Bb : Hid (Below w3.heap.size w3 (w3.alloc (.cells #[.slice X0 ss.length x0, .slice X1 ps.length x1, .int .i64 fz, .bool off, .int .i64 b, .int .i64 l, .int .i64 q, .int .i64 t, .int .i64 sq, .int .i64 at_, .slice X10 lg.length x10, .slice X11 dt.length x11] 38))) := Lib.hid ((Below.refl _ _).alloc (Nat.le_refl _) _)
  have Pb := Lib.hid (Pg.out.bel Bb.out)
  have Q4 := Lib.hid ((Bb.out.block _ (by have := Z3.out; omega)).trans Q3.out)
  have B4 := Lib.hid (B3.out.trans (Bb.out.mono B3.out.size))
  go_wp2_with fail
  generalize (w3.alloc (.cells #[.slice X0 ss.length x0, .slice X1 ps.length x1, .int .i64 fz, .bool off, .int .i64 b, .int .i64 l, .int .i64 q, .int .i64 t, .int .i64 sq, .int .i64 at_, .slice X10 lg.length x10, .slice X11 dt.length x11] 38)) = w4 at *
  have C3 := Lib.hid (l12Set_any (k := k) (s := x) Rb.out ((Pb.out.2.2.2.1).riu H11.out.wf) (Nat.le_refl _) HP.out.2.1 Ik.out hx)
  generalize mg dt [(k, x)] = M at *
  generalize ftOk l (M.length : Int) = r at *
  refine C3.out.mono ?_
  rintro e w5 ⟨rfl, g5, fin⟩
  have Q5 := Lib.hid (grown_blk g5 (by have := Z3.out; omega) (by have := Z3.out; omega) Q4.out)
  have B5 : Hid (Below w.heap.size w w5) := Lib.hid (B4.out.grown g5 B4.out.size (fun j hj => by cases hj; have := Z3.out; omega))
  have Z5 : Hid (w.heap.size + 2 ≤ w5.heap.size) := Lib.hid (by have := Z3.out; have := g5.size; omega)
  cases r
  · skip
    go_wp2_with (refine wpList_store_row rfl 38 (.tmp 6) (.tmp 26) rfl (w.heap.size + 1) #[.slice none 0 0, .slice none 0 0, .int .i64 0, .bool false, .int .i64 0, .int .i64 0, .int .i64 0, .int .i64 0, .int .i64 0, .int .i64 0, .slice none 0 0, .slice none 0 0] rfl rfl 38 _ Q5.out infoP rfl (onePv ..) ?_)
    refine bodyPost_ret (v := .tuple #[.agg #[.slice none 0 0, .slice none 0 0, .int .i64 0, .bool false, .int .i64 0, .int .i64 0, .int .i64 0, .int .i64 0, .int .i64 0, .int .i64 0, .slice none 0 0, .slice none 0 0], .int .i64 5]) ?_ rfl ?_
    · exact results_cell_row2 rfl _ _ (w.heap.size + 1) 38 _ (0, 0) _ _ rfl rfl (setRow_heap _ _ _ _ _ _ Q5.out) Tryz.underlying38 rfl (by kernel_rfl)
    · rw [HC.out]; exact AnsP.zero (mk := mkC 5) (by rw [HO.out]; rfl) (by omega) (by have := Z5.out; omega) B5.out
  obtain ⟨Y, y, hrow, ho⟩ := fin (by first | rfl | trivial)
  have Hr := Lib.hid hrow
  have Pf : Hid (PgO w5 w2.heap.size (.slice X0 ss.length x0) (.slice X1 ps.length x1) (.slice X10 lg.length x10) (.slice Y M.length y) ss ps lg M) := Lib.hid (pgo_box Pb.out Pg.out g5 ho)
  clear hrow ho g5 fin
  go_wp2_with (first | (refine wpList_load_row rfl 38 (.tmp 8) rfl _ rfl 38 _ (0, 0) _ Hr.out Tryz.underlying38 rfl (by kernel_rfl) ?_) | (refine wpList_store_row rfl 38 (.tmp 6) (.tmp 27) rfl (w.heap.size + 1) #[.slice X0 ss.length x0, .slice X1 ps.length x1, .int .i64 fz, .bool off, .int .i64 b, .int .i64 l, .int .i64 q, .int .i64 t, .int .i64 sq, .int .i64 at_, .slice X10 lg.length x10, .slice Y M.length y] rfl rfl 38 _ Q5.out infoP rfl (onePv ..) ?_))
  refine bodyPost_ret (v := .tuple #[.agg #[.slice X0 ss.length x0, .slice X1 ps.length x1, .int .i64 fz, .bool off, .int .i64 b, .int .i64 l, .int .i64 q, .int .i64 t, .int .i64 sq, .int .i64 at_, .slice X10 lg.length x10, .slice Y M.length y], .int .i64 0]) ?_ rfl ?_
  · exact results_cell_row2 rfl _ _ (w.heap.size + 1) 38 _ (0, 0) _ _ rfl rfl (setRow_heap _ _ _ _ _ _ Q5.out) Tryz.underlying38 rfl (by kernel_rfl)
  · rw [HC.out]; exact AnsP.full (by rw [HO.out]; rfl) (AnsP.end (mk := mkC 0) (lo := w2.heap.size) Pf.out (by have := Z2.out; omega) (by omega) B5.out)
end Go.Proofs.YtplfnlalmcpcaaaGreat
namespace Go.Proofs.YtplfnlalmcpcaaaGreat
open Go.RowKit Go.Maps
set_option linter.unusedVariables false
theorem onePage (w : World) {k : Int} {x : ByteArray} (hk : InI k) (hx : x.size ≤ maxLen) : RiU (w.alloc (.cells #[.int .i64 k, .string x] 77)).heap.size (w.alloc (.cells #[.int .i64 k, .string x] 77)) (.slice (some ⟨w.heap.size, 0, none⟩) 1 1) [(k, x)] :=
  ⟨_, 1, rfl, Nat.le_refl _, by decide, fun i hi => by
    obtain rfl : i = 0 := by simpa using hi
    refine ⟨w.heap.size, 0, rfl, by simp, ?_, ?_, hk, hx⟩
    · rw [cell_of_row _ _ _ _ _ _ (heap_alloc_new w _)]; rfl
    · rw [cell_of_row _ _ _ _ _ _ (heap_alloc_new w _)]; rfl⟩
set_option maxHeartbeats 4000000 in
set_option maxRecDepth 100000 in
theorem implSetPage_any {w : World} {A0 A1 A10 A11 : Option Addr} {ss : List ByteArray} {ps lg dt : List Pt} {fz b l q t sq at_ : Int} {off : Bool} {k : Int} {x : ByteArray} (h0 : RiT w.heap.size w (.slice A0 ss.length ss.length) ss) (h1 : RiU w.heap.size w (.slice A1 ps.length ps.length) ps) (h10 : RiU w.heap.size w (.slice A10 lg.length lg.length) lg) (h11 : RiU w.heap.size w (.slice A11 dt.length dt.length) dt) (z0 : ss.length ≤ 1048576) (z1 : ps.length ≤ 1048576) (i4 : InI b) (i5 : InI l) (hk : (Lit.int .i64 k).wf = true) (hx : x.size ≤ maxLen) :
    Calls Tryz.prog 13 #[.agg #[.slice A0 ss.length ss.length, .slice A1 ps.length ps.length, .int .i64 fz, .bool off, .int .i64 b, .int .i64 l, .int .i64 q, .int .i64 t, .int .i64 sq, .int .i64 at_, .slice A10 lg.length lg.length, .slice A11 dt.length dt.length], .int .i64 k, .string x] w (AnsP (mkC (stC ss ps fz off b l q t sq at_ lg dt k x)) (sT (stO ss ps fz off b l q t sq at_ lg dt k x) ss) (sT (stO ss ps fz off b l q t sq at_ lg dt k x) ps) (sI (stO ss ps fz off b l q t sq at_ lg dt k x) fz) (sB (stO ss ps fz off b l q t sq at_ lg dt k x) off) (sI (stO ss ps fz off b l q t sq at_ lg dt k x) b) (sI (stO ss ps fz off b l q t sq at_ lg dt k x) l) (sI (stO ss ps fz off b l q t sq at_ lg dt k x) q) (sI (stO ss ps fz off b l q t sq at_ lg dt k x) t) (sI (stO ss ps fz off b l q t sq at_ lg dt k x) sq) (sI (stO ss ps fz off b l q t sq at_ lg dt k x) at_) (sT (stO ss ps fz off b l q t sq at_ lg dt k x) lg) (sT (stO ss ps fz off b l q t sq at_ lg dt k x) (mg dt [(k, x)])) w) := by
  have ik : InI k := by unfold InI; simp [Lit.wf, IntKind.min, IntKind.max, IntKind.signed, IntKind.bits] at hk; omega
  have Ik := Lib.hid ik
  have HO : Hid ((stO ss ps fz off b l q t sq at_ lg dt k x) = (pgrOk ss ps fz off b l q t sq at_ lg dt && (decide (x.size = 64) && (inB k (2 + l) (b - 1) && ftOk l ((mg dt [(k, x)]).length : Int))))) := Lib.hid rfl
  have HC : Hid ((stC ss ps fz off b l q t sq at_ lg dt k x) = if pgrOk ss ps fz off b l q t sq at_ lg dt && decide (x.size = 64) then (if inB k (2 + l) (b - 1) then (if ftOk l ((mg dt [(k, x)]).length : Int) then 0 else 5) else 2) else 1) := Lib.hid rfl
  generalize (stO ss ps fz off b l q t sq at_ lg dt k x) = O at *
  generalize (stC ss ps fz off b l q t sq at_ lg dt k x) = C at *
  have Hok := Lib.hid (pgrOk_t (ss := ss) (ps := ps) (fz := fz) (off := off) (b := b) (l := l) (q := q) (t := t) (sq := sq) (at_ := at_) (lg := lg) (dt := dt))
  have Hpl := Lib.hid (pgrOk_l (ss := ss) (ps := ps) (fz := fz) (off := off) (b := b) (l := l) (q := q) (t := t) (sq := sq) (at_ := at_) (lg := lg) (dt := dt))
  have H0 := Lib.hid h0; have H1 := Lib.hid h1; have H10 := Lib.hid h10; have H11 := Lib.hid h11
  clear h0 h1 h10 h11
  have B0 : Hid (Below w.heap.size w ((w.alloc (.cells #[.slice A0 ss.length ss.length, .slice A1 ps.length ps.length, .int .i64 fz, .bool off, .int .i64 b, .int .i64 l, .int .i64 q, .int .i64 t, .int .i64 sq, .int .i64 at_, .slice A10 lg.length lg.length, .slice A11 dt.length dt.length] 38)).alloc (.cells #[.slice none 0 0, .slice none 0 0, .int .i64 0, .bool false, .int .i64 0, .int .i64 0, .int .i64 0, .int .i64 0, .int .i64 0, .int .i64 0, .slice none 0 0, .slice none 0 0] 38))) := Lib.hid (((Below.refl _ w).alloc (Nat.le_refl _) _).alloc (by simp) _)
  have R0 : Hid (((w.alloc (.cells #[.slice A0 ss.length ss.length, .slice A1 ps.length ps.length, .int .i64 fz, .bool off, .int .i64 b, .int .i64 l, .int .i64 q, .int .i64 t, .int .i64 sq, .int .i64 at_, .slice A10 lg.length lg.length, .slice A11 dt.length dt.length] 38)).alloc (.cells #[.slice none 0 0, .slice none 0 0, .int .i64 0, .bool false, .int .i64 0, .int .i64 0, .int .i64 0, .int .i64 0, .int .i64 0, .int .i64 0, .slice none 0 0, .slice none 0 0] 38)).heap[w.heap.size]? = some (.cells #[.slice A0 ss.length ss.length, .slice A1 ps.length ps.length, .int .i64 fz, .bool off, .int .i64 b, .int .i64 l, .int .i64 q, .int .i64 t, .int .i64 sq, .int .i64 at_, .slice A10 lg.length lg.length, .slice A11 dt.length dt.length] 38 (0, 0))) := Lib.hid (heap_alloc2_old w _ _)
  have Q0 : Hid (((w.alloc (.cells #[.slice A0 ss.length ss.length, .slice A1 ps.length ps.length, .int .i64 fz, .bool off, .int .i64 b, .int .i64 l, .int .i64 q, .int .i64 t, .int .i64 sq, .int .i64 at_, .slice A10 lg.length lg.length, .slice A11 dt.length dt.length] 38)).alloc (.cells #[.slice none 0 0, .slice none 0 0, .int .i64 0, .bool false, .int .i64 0, .int .i64 0, .int .i64 0, .int .i64 0, .int .i64 0, .int .i64 0, .slice none 0 0, .slice none 0 0] 38)).heap[w.heap.size + 1]? = some (.cells #[.slice none 0 0, .slice none 0 0, .int .i64 0, .bool false, .int .i64 0, .int .i64 0, .int .i64 0, .int .i64 0, .int .i64 0, .int .i64 0, .slice none 0 0, .slice none 0 0] 38 (0, 0))) := Lib.hid (heap_alloc2_new w _ _)
  have Z0 : Hid (w.heap.size + 2 ≤ ((w.alloc (.cells #[.slice A0 ss.length ss.length, .slice A1 ps.length ps.length, .int .i64 fz, .bool off, .int .i64 b, .int .i64 l, .int .i64 q, .int .i64 t, .int .i64 sq, .int .i64 at_, .slice A10 lg.length lg.length, .slice A11 dt.length dt.length] 38)).alloc (.cells #[.slice none 0 0, .slice none 0 0, .int .i64 0, .bool false, .int .i64 0, .int .i64 0, .int .i64 0, .int .i64 0, .int .i64 0, .int .i64 0, .slice none 0 0, .slice none 0 0] 38)).heap.size) := Lib.hid (by simp)
  have C1 := Lib.hid (implValidPager_any (fz := fz) (off := off) (b := b) (l := l) (q := q) (t := t) (sq := sq) (at_ := at_) (H0.out.at (Nat.le_refl _) B0.out) (H1.out.at (Nat.le_refl _) B0.out) (H10.out.at (Nat.le_refl _) B0.out) (H11.out.at (Nat.le_refl _) B0.out) (Nat.le_refl _) i4 i5)
  generalize pgrOk ss ps fz off b l q t sq at_ lg dt = z at *
  go_enter Tryz.func13, Tryz.ntmps13
  go_wp2_with (refine wpList_load_row rfl 38 (.tmp 3) rfl _ rfl 38 _ (0, 0) _ R0.out Tryz.underlying38 rfl (by kernel_rfl) ?_)
  generalize ((w.alloc (.cells #[.slice A0 ss.length ss.length, .slice A1 ps.length ps.length, .int .i64 fz, .bool off, .int .i64 b, .int .i64 l, .int .i64 q, .int .i64 t, .int .i64 sq, .int .i64 at_, .slice A10 lg.length lg.length, .slice A11 dt.length dt.length] 38)).alloc (.cells #[.slice none 0 0, .slice none 0 0, .int .i64 0, .bool false, .int .i64 0, .int .i64 0, .int .i64 0, .int .i64 0, .int .i64 0, .int .i64 0, .slice none 0 0, .slice none 0 0] 38)) = w0 at *
  refine C1.out.mono ?_
  rintro e w1 ⟨rfl, g⟩
  have B1 := Lib.hid (B0.out.trans (g.mono B0.out.size))
  have R1 := Lib.hid ((g.block _ (by have := Z0.out; omega)).trans R0.out)
  have Q1 := Lib.hid ((g.block _ (by have := Z0.out; omega)).trans Q0.out)
  have Z1 : Hid (w.heap.size + 2 ≤ w1.heap.size) := Lib.hid (by have := Z0.out; have := g.size; omega)
  clear g
  have dz : ((x.size : Int) == 64) = decide (x.size = 64) := by by_cases h : x.size = 64 <;> simp [h] <;> omega
  cases z
  · skip
    go_wp2_with (refine wpList_store_row rfl 38 (.tmp 6) (.tmp 16) rfl (w.heap.size + 1) #[.slice none 0 0, .slice none 0 0, .int .i64 0, .bool false, .int .i64 0, .int .i64 0, .int .i64 0, .int .i64 0, .int .i64 0, .int .i64 0, .slice none 0 0, .slice none 0 0] rfl rfl 38 _ Q1.out infoP rfl (onePv ..) ?_)
    refine bodyPost_ret (v := .tuple #[.agg #[.slice none 0 0, .slice none 0 0, .int .i64 0, .bool false, .int .i64 0, .int .i64 0, .int .i64 0, .int .i64 0, .int .i64 0, .int .i64 0, .slice none 0 0, .slice none 0 0], .int .i64 1]) ?_ rfl ?_
    · exact results_cell_row2 rfl _ _ (w.heap.size + 1) 38 _ (0, 0) _ _ rfl rfl (setRow_heap _ _ _ _ _ _ Q1.out) Tryz.underlying38 rfl (by kernel_rfl)
    · rw [HC.out]; exact AnsP.zero (mk := mkC 1) (by rw [HO.out]; rfl) (by omega) (by have := Z1.out; omega) B1.out
  have HQ := Lib.hid (Hok.out rfl); have HP := Lib.hid (Hpl.out rfl); clear Hok Hpl
  generalize decide (x.size = 64) = y at *
  cases y
  · skip
    go_wp2_with (refine wpList_store_row rfl 38 (.tmp 6) (.tmp 16) rfl (w.heap.size + 1) #[.slice none 0 0, .slice none 0 0, .int .i64 0, .bool false, .int .i64 0, .int .i64 0, .int .i64 0, .int .i64 0, .int .i64 0, .int .i64 0, .slice none 0 0, .slice none 0 0] rfl rfl 38 _ Q1.out infoP rfl (onePv ..) ?_)
    refine bodyPost_ret (v := .tuple #[.agg #[.slice none 0 0, .slice none 0 0, .int .i64 0, .bool false, .int .i64 0, .int .i64 0, .int .i64 0, .int .i64 0, .int .i64 0, .int .i64 0, .slice none 0 0, .slice none 0 0], .int .i64 1]) ?_ rfl ?_
    · exact results_cell_row2 rfl _ _ (w.heap.size + 1) 38 _ (0, 0) _ _ rfl rfl (setRow_heap _ _ _ _ _ _ Q1.out) Tryz.underlying38 rfl (by kernel_rfl)
    · rw [HC.out]; exact AnsP.zero (mk := mkC 1) (by rw [HO.out]; rfl) (by omega) (by have := Z1.out; omega) B1.out
  have Hld := Lib.hid (run_load_cells (P := Tryz.prog) w1 w.heap.size 4 35 _ [.int .i64 b, .int .i64 l, .int .i64 q, .int .i64 t] (row_part R1.out (by intro j u hj; rcases j with _ | _ | _ | _ | j; all_goals first | exact hj | simp at hj)) Tryz.underlying35 rfl)
  go_wp2_with (refine wpList_load_agg rfl 35 (.tmp 17) rfl _ rfl _ Hld.out ?_)
  clear Hld
  have C2 := Lib.hid (hasPage_any (b := b) (l := l) (q := q) (t := t) k w1 HQ.out.1)
  have hkk := @inB_iff k (2 + l) (b - 1)
  generalize inB k (2 + l) (b - 1) = y at *
  refine C2.out.mono ?_
  rintro e w2 ⟨rfl, g⟩
  have B2 := Lib.hid (B1.out.trans (g.mono B1.out.size))
  have R2 := Lib.hid ((g.block _ (by have := Z1.out; omega)).trans R1.out)
  have Q2 := Lib.hid ((g.block _ (by have := Z1.out; omega)).trans Q1.out)
  have Z2 : Hid (w.heap.size + 2 ≤ w2.heap.size) := Lib.hid (by have := Z1.out; have := g.size; omega)
  clear g
  cases y
  · skip
    go_wp2_with (refine wpList_store_row rfl 38 (.tmp 6) (.tmp 22) rfl (w.heap.size + 1) #[.slice none 0 0, .slice none 0 0, .int .i64 0, .bool false, .int .i64 0, .int .i64 0, .int .i64 0, .int .i64 0, .int .i64 0, .int .i64 0, .slice none 0 0, .slice none 0 0] rfl rfl 38 _ Q2.out infoP rfl (onePv ..) ?_)
    refine bodyPost_ret (v := .tuple #[.agg #[.slice none 0 0, .slice none 0 0, .int .i64 0, .bool false, .int .i64 0, .int .i64 0, .int .i64 0, .int .i64 0, .int .i64 0, .int .i64 0, .slice none 0 0, .slice none 0 0], .int .i64 2]) ?_ rfl ?_
    · exact results_cell_row2 rfl _ _ (w.heap.size + 1) 38 _ (0, 0) _ _ rfl rfl (setRow_heap _ _ _ _ _ _ Q2.out) Tryz.underlying38 rfl (by kernel_rfl)
    · rw [HC.out]; exact AnsP.zero (mk := mkC 2) (by rw [HO.out]; rfl) (by omega) (by have := Z2.out; omega) B2.out
  clear hkk
  have l8 := (sup_b HQ.out.1).2.2.1
  have B2p : Hid (Below w.heap.size w (w2.alloc (.cells #[.int .i64 k, .string x] 77))) := Lib.hid (B2.out.alloc B2.out.size _)
  have Bp : Hid (Below w2.heap.size w2 (w2.alloc (.cells #[.int .i64 k, .string x] 77))) := Lib.hid ((Below.refl _ _).alloc (Nat.le_refl _) _)
  have Rp : Hid (RiU (w2.alloc (.cells #[.int .i64 k, .string x] 77)).heap.size (w2.alloc (.cells #[.int .i64 k, .string x] 77)) (.slice (some ⟨w2.heap.size, 0, none⟩) 1 1) [(k, x)]) := Lib.hid (onePage w2 Ik.out hx)
  have Q3 := Lib.hid ((Bp.out.block _ (by have := Z2.out; omega)).trans Q2.out)
  have Z3 : Hid (w.heap.size + 2 ≤ (w2.alloc (.cells #[.int .i64 k, .string x] 77)).heap.size) := Lib.hid (by have := Z2.out; have := Bp.out.size; omega)
  have C3 := Lib.hid (changed_any (fz := fz) (off := off) (b := b) (l := l) (q := q) (t := t) (sq := sq) (at_ := at_) (H0.out.at (Nat.le_refl _) B2p.out) (H1.out.at (Nat.le_refl _) B2p.out) (H10.out.at (Nat.le_refl _) B2p.out) (H11.out.at (Nat.le_refl _) B2p.out) Rp.out (Nat.le_refl _) z0 z1 (by have := HP.out.1; omega) (by have := HP.out.2.1; omega) (by simp) (srt_of_pg HP.out.2.2.1) l8)
  rw [mgs_one] at C3
  generalize ftOk l ((mg dt [(k, x)]).length : Int) = r at *
  have eO : O = r := by rw [HO.out]; rfl
  have eC : C = if r then 0 else 5 := by rw [HC.out]; rfl
  have EO := Lib.hid eO; have EC := Lib.hid eC
  clear HO HC eO eC
  generalize (if r = true then (0 : Int) else 5) = c at *
  go_wp2_with (refine wpList_load_row rfl 38 (.tmp 3) rfl _ rfl 38 _ (0, 0) _ R2.out Tryz.underlying38 rfl (by kernel_rfl) ?_)
  generalize (w2.alloc (.cells #[.int .i64 k, .string x] 77)) = w3 at *
  refine C3.out.mono ?_
  rintro e w4 ⟨X0, X1, X10, X11, x0, x1, x10, x11, rfl, pg, g⟩
  simp only [mkC]
  have Pg := Lib.hid pg
  have B4 := Lib.hid (B2p.out.trans (g.mono B2p.out.size))
  have Q4 := Lib.hid ((g.block _ (by have := Z3.out; omega)).trans Q3.out)
  clear pg g
  go_wp2_with (refine wpList_store_row rfl 38 (.tmp 6) (.tmp 29) rfl (w.heap.size + 1) #[.slice X0 (sT r ss).length x0, .slice X1 (sT r ps).length x1, .int .i64 (sI r fz), .bool (sB r off), .int .i64 (sI r b), .int .i64 (sI r l), .int .i64 (sI r q), .int .i64 (sI r t), .int .i64 (sI r sq), .int .i64 (sI r at_), .slice X10 (sT r lg).length x10, .slice X11 (sT r (mg dt [(k, x)])).length x11] rfl rfl 38 _ Q4.out infoP rfl (onePv ..) ?_)
  refine bodyPost_ret (v := .tuple #[.agg #[.slice X0 (sT r ss).length x0, .slice X1 (sT r ps).length x1, .int .i64 (sI r fz), .bool (sB r off), .int .i64 (sI r b), .int .i64 (sI r l), .int .i64 (sI r q), .int .i64 (sI r t), .int .i64 (sI r sq), .int .i64 (sI r at_), .slice X10 (sT r lg).length x10, .slice X11 (sT r (mg dt [(k, x)])).length x11], .int .i64 c]) ?_ rfl ?_
  · exact results_cell_row2 rfl _ _ (w.heap.size + 1) 38 _ (0, 0) _ _ rfl rfl (setRow_heap _ _ _ _ _ _ Q4.out) Tryz.underlying38 rfl (by kernel_rfl)
  · rw [EO.out, EC.out]; exact AnsP.end (mk := mkC c) (lo := w3.heap.size) Pg.out (by have := Z3.out; omega) (by omega) B4.out
end Go.Proofs.YtplfnlalmcpcaaaGreat
