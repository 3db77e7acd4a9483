/- Discard: the model and the program. No statement is proved here. -/
import Derived.Test.YtplfnlalmcpcaaaPgw
import Derived.Test.YtplfnlalmcpcaaaPgk
import Derived.Test.YtplfnlalmcpcaaaGpS
import Derived.Test.YtplfnlalmcpcaaaAcc
import Derived.Test.YtplfnlalmcpcaaaPgV
namespace Go.Proofs.Ytplfnlalmcpcaaa
open Go.RowKit Go.Maps
set_option linter.unusedVariables false
theorem pgrOk_l {ss : List ByteArray} {ps lg dt : List Pt} {fz b l q t sq at_ : Int} {off : Bool} (h : pgrOk ss ps fz off b l q t sq at_ lg dt = true) : lg.length ≤ 256 ∧ dt.length ≤ 256 ∧ pgOk dt = true ∧ pgOk lg = true := by
  simp only [pgrOk, Bool.and_eq_true] at h
  exact ⟨(pgOk_iff.1 h.2.2.1.1).1, (pgOk_iff.1 h.2.2.1.2).1, h.2.2.1.2, h.2.2.1.1⟩
set_option maxHeartbeats 4000000 in
set_option maxRecDepth 100000 in
theorem specDiscard_any {w : World} {A0 A1 A10 A11 : Option Addr} {ss : List ByteArray} {ps lg dt : List Pt} {fz b l q t sq at_ : Int} {off : Bool} (h0 : RiT w.heap.size w (.slice A0 ss.length ss.length) ss) (h1 : RiU w.heap.size w (.slice A1 ps.length ps.length) ps) (h10 : RiU w.heap.size w (.slice A10 lg.length lg.length) lg) (h11 : RiU w.heap.size w (.slice A11 dt.length dt.length) dt) (z0 : ss.length ≤ 1048576) (z1 : ps.length ≤ 1048576) (i4 : InI b) (i5 : InI l) :
    Calls Try.prog 9 #[.agg #[.slice A0 ss.length ss.length, .slice A1 ps.length ps.length, .int .i64 fz, .bool off, .int .i64 b, .int .i64 l, .int .i64 q, .int .i64 t, .int .i64 sq, .int .i64 at_, .slice A10 lg.length lg.length, .slice A11 dt.length dt.length]] w (AnsP (mkC (if pgrOk ss ps fz off b l q t sq at_ lg dt then 0 else 1)) (sT (pgrOk ss ps fz off b l q t sq at_ lg dt) ss) (sT (pgrOk ss ps fz off b l q t sq at_ lg dt) ps) (sI (pgrOk ss ps fz off b l q t sq at_ lg dt) fz) (sB (pgrOk ss ps fz off b l q t sq at_ lg dt) off) (sI (pgrOk ss ps fz off b l q t sq at_ lg dt) b) (sI (pgrOk ss ps fz off b l q t sq at_ lg dt) l) (sI (pgrOk ss ps fz off b l q t sq at_ lg dt) q) (sI (pgrOk ss ps fz off b l q t sq at_ lg dt) t) (sI (pgrOk ss ps fz off b l q t sq at_ lg dt) sq) (sI (pgrOk ss ps fz off b l q t sq at_ lg dt) at_) (sT (pgrOk ss ps fz off b l q t sq at_ lg dt) lg) (sT (pgrOk ss ps fz off b l q t sq at_ lg dt) []) w) := by
  have Hpl := Lib.hid (pgrOk_l (ss := ss) (ps := ps) (fz := fz) (off := off) (b := b) (l := l) (q := q) (t := t) (sq := sq) (at_ := at_) (lg := lg) (dt := dt))
  have HO : Hid (True) := Lib.hid trivial
  have H0 := Lib.hid h0; have H1 := Lib.hid h1; have H10 := Lib.hid h10; have H11 := Lib.hid h11
  clear h0 h1 h10 h11
  have B0 : Hid (Below w.heap.size w ((w.alloc (.cells #[.slice A0 ss.length ss.length, .slice A1 ps.length ps.length, .int .i64 fz, .bool off, .int .i64 b, .int .i64 l, .int .i64 q, .int .i64 t, .int .i64 sq, .int .i64 at_, .slice A10 lg.length lg.length, .slice A11 dt.length dt.length] 38)).alloc (.cells #[.slice none 0 0, .slice none 0 0, .int .i64 0, .bool false, .int .i64 0, .int .i64 0, .int .i64 0, .int .i64 0, .int .i64 0, .int .i64 0, .slice none 0 0, .slice none 0 0] 38))) := Lib.hid (((Below.refl _ w).alloc (Nat.le_refl _) _).alloc (by simp) _)
  have R0 : Hid (((w.alloc (.cells #[.slice A0 ss.length ss.length, .slice A1 ps.length ps.length, .int .i64 fz, .bool off, .int .i64 b, .int .i64 l, .int .i64 q, .int .i64 t, .int .i64 sq, .int .i64 at_, .slice A10 lg.length lg.length, .slice A11 dt.length dt.length] 38)).alloc (.cells #[.slice none 0 0, .slice none 0 0, .int .i64 0, .bool false, .int .i64 0, .int .i64 0, .int .i64 0, .int .i64 0, .int .i64 0, .int .i64 0, .slice none 0 0, .slice none 0 0] 38)).heap[w.heap.size]? = some (.cells #[.slice A0 ss.length ss.length, .slice A1 ps.length ps.length, .int .i64 fz, .bool off, .int .i64 b, .int .i64 l, .int .i64 q, .int .i64 t, .int .i64 sq, .int .i64 at_, .slice A10 lg.length lg.length, .slice A11 dt.length dt.length] 38 (0, 0))) := Lib.hid (heap_alloc2_old w _ _)
  have Q0 : Hid (((w.alloc (.cells #[.slice A0 ss.length ss.length, .slice A1 ps.length ps.length, .int .i64 fz, .bool off, .int .i64 b, .int .i64 l, .int .i64 q, .int .i64 t, .int .i64 sq, .int .i64 at_, .slice A10 lg.length lg.length, .slice A11 dt.length dt.length] 38)).alloc (.cells #[.slice none 0 0, .slice none 0 0, .int .i64 0, .bool false, .int .i64 0, .int .i64 0, .int .i64 0, .int .i64 0, .int .i64 0, .int .i64 0, .slice none 0 0, .slice none 0 0] 38)).heap[w.heap.size + 1]? = some (.cells #[.slice none 0 0, .slice none 0 0, .int .i64 0, .bool false, .int .i64 0, .int .i64 0, .int .i64 0, .int .i64 0, .int .i64 0, .int .i64 0, .slice none 0 0, .slice none 0 0] 38 (0, 0))) := Lib.hid (heap_alloc2_new w _ _)
  have Z0 : Hid (w.heap.size + 2 ≤ ((w.alloc (.cells #[.slice A0 ss.length ss.length, .slice A1 ps.length ps.length, .int .i64 fz, .bool off, .int .i64 b, .int .i64 l, .int .i64 q, .int .i64 t, .int .i64 sq, .int .i64 at_, .slice A10 lg.length lg.length, .slice A11 dt.length dt.length] 38)).alloc (.cells #[.slice none 0 0, .slice none 0 0, .int .i64 0, .bool false, .int .i64 0, .int .i64 0, .int .i64 0, .int .i64 0, .int .i64 0, .int .i64 0, .slice none 0 0, .slice none 0 0] 38)).heap.size) := Lib.hid (by simp)
  have C1 := Lib.hid (l12Ok_any R0.out (H0.out.at (Nat.le_refl _) B0.out) (H1.out.at (Nat.le_refl _) B0.out) (H10.out.at (Nat.le_refl _) B0.out) (H11.out.at (Nat.le_refl _) B0.out) (Nat.le_refl _) i4 i5)
  generalize pgrOk ss ps fz off b l q t sq at_ lg dt = z at *
  cases z
  · go_enter Try.func9, Try.ntmps9
    go_wp2_with fail
    generalize ((w.alloc (.cells #[.slice A0 ss.length ss.length, .slice A1 ps.length ps.length, .int .i64 fz, .bool off, .int .i64 b, .int .i64 l, .int .i64 q, .int .i64 t, .int .i64 sq, .int .i64 at_, .slice A10 lg.length lg.length, .slice A11 dt.length dt.length] 38)).alloc (.cells #[.slice none 0 0, .slice none 0 0, .int .i64 0, .bool false, .int .i64 0, .int .i64 0, .int .i64 0, .int .i64 0, .int .i64 0, .int .i64 0, .slice none 0 0, .slice none 0 0] 38)) = w0 at *
    refine C1.out.mono ?_
    rintro e w1 ⟨rfl, g⟩
    have B1 := Lib.hid (B0.out.trans (g.mono B0.out.size))
    have R1 := Lib.hid ((g.block _ (by have := Z0.out; omega)).trans R0.out)
    have Q1 := Lib.hid ((g.block _ (by have := Z0.out; omega)).trans Q0.out)
    have Z1 : Hid (w.heap.size + 2 ≤ w1.heap.size) := Lib.hid (by have := Z0.out; have := g.size; omega)
    clear g
    go_wp2_with (refine wpList_store_row rfl 38 (.tmp 2) (.tmp 7) rfl (w.heap.size + 1) #[.slice none 0 0, .slice none 0 0, .int .i64 0, .bool false, .int .i64 0, .int .i64 0, .int .i64 0, .int .i64 0, .int .i64 0, .int .i64 0, .slice none 0 0, .slice none 0 0] rfl rfl 38 _ Q1.out infoP rfl (onePv ..) ?_)
    refine bodyPost_ret (v := .tuple #[.agg #[.slice none 0 0, .slice none 0 0, .int .i64 0, .bool false, .int .i64 0, .int .i64 0, .int .i64 0, .int .i64 0, .int .i64 0, .int .i64 0, .slice none 0 0, .slice none 0 0], .int .i64 1]) ?_ rfl ?_
    · exact results_cell_row2 rfl _ _ (w.heap.size + 1) 38 _ (0, 0) _ _ rfl rfl (setRow_heap _ _ _ _ _ _ Q1.out) Try.underlying38 rfl (by kernel_rfl)
    · exact AnsP.zero (mk := mkC 1) rfl (by omega) (by have := Z1.out; omega) B1.out
  have HP := Lib.hid (Hpl.out rfl); clear Hpl
  go_enter Try.func9, Try.ntmps9
  go_wp2_with fail
  generalize ((w.alloc (.cells #[.slice A0 ss.length ss.length, .slice A1 ps.length ps.length, .int .i64 fz, .bool off, .int .i64 b, .int .i64 l, .int .i64 q, .int .i64 t, .int .i64 sq, .int .i64 at_, .slice A10 lg.length lg.length, .slice A11 dt.length dt.length] 38)).alloc (.cells #[.slice none 0 0, .slice none 0 0, .int .i64 0, .bool false, .int .i64 0, .int .i64 0, .int .i64 0, .int .i64 0, .int .i64 0, .int .i64 0, .slice none 0 0, .slice none 0 0] 38)) = w0 at *
  refine C1.out.mono ?_
  rintro e w1 ⟨rfl, g⟩
  have B1 := Lib.hid (B0.out.trans (g.mono B0.out.size))
  have R1 := Lib.hid ((g.block _ (by have := Z0.out; omega)).trans R0.out)
  have Q1 := Lib.hid ((g.block _ (by have := Z0.out; omega)).trans Q0.out)
  have Z1 : Hid (w.heap.size + 2 ≤ w1.heap.size) := Lib.hid (by have := Z0.out; have := g.size; omega)
  clear g
  go_wp2_with fail
  refine (l12Own_any R1.out (H0.out.at (Nat.le_refl _) B1.out) (H1.out.at (Nat.le_refl _) B1.out) (H10.out.at (Nat.le_refl _) B1.out) (H11.out.at (Nat.le_refl _) B1.out) z0 z1 (by have := HP.out.1; omega) (by have := HP.out.2.1; omega)).mono ?_
  rintro e w2 ⟨X0, X1, X10, X11, x0, x1, x10, x11, rfl, pg, g⟩
  have Pg := Lib.hid pg; clear pg
  have Zl : Hid (w1.heap.size ≤ w2.heap.size) := Lib.hid g.size
  have B2 := Lib.hid (B1.out.trans (g.mono B1.out.size))
  have R2 := Lib.hid ((g.block _ (by have := Z1.out; omega)).trans R1.out)
  have Q2 := Lib.hid ((g.block _ (by have := Z1.out; omega)).trans Q1.out)
  have Z2 : Hid (w.heap.size + 2 ≤ w2.heap.size) := Lib.hid (by have := Z1.out; have := g.size; omega)
  clear g
  have Bb : Hid (Below w2.heap.size w2 ((w2.alloc (.cells #[.slice X0 ss.length x0, .slice X1 ps.length x1, .int .i64 fz, .bool off, .int .i64 b, .int .i64 l, .int .i64 q, .int .i64 t, .int .i64 sq, .int .i64 at_, .slice X10 lg.length x10, .slice (some ⟨w2.heap.size + 1, 0, none⟩) 0 0] 38)).alloc (.cells #[] 145))) := Lib.hid (((Below.refl _ _).alloc (Nat.le_refl _) _).alloc (by simp) _)
  have E1 : (w2.alloc (.cells #[.slice X0 ss.length x0, .slice X1 ps.length x1, .int .i64 fz, .bool off, .int .i64 b, .int .i64 l, .int .i64 q, .int .i64 t, .int .i64 sq, .int .i64 at_, .slice X10 lg.length x10, .slice (some ⟨w2.heap.size + 1, 0, none⟩) 0 0] 38)).heap.size = w2.heap.size + 1 := by simp
  have Ho : Hid (OG ((w2.alloc (.cells #[.slice X0 ss.length x0, .slice X1 ps.length x1, .int .i64 fz, .bool off, .int .i64 b, .int .i64 l, .int .i64 q, .int .i64 t, .int .i64 sq, .int .i64 at_, .slice X10 lg.length x10, .slice (some ⟨w2.heap.size + 1, 0, none⟩) 0 0] 38)).alloc (.cells #[] 145)) w2.heap.size (.slice (some ⟨w2.heap.size + 1, 0, none⟩) 0 0) []) := Lib.hid (by
    have h : OG ((w2.alloc (.cells #[.slice X0 ss.length x0, .slice X1 ps.length x1, .int .i64 fz, .bool off, .int .i64 b, .int .i64 l, .int .i64 q, .int .i64 t, .int .i64 sq, .int .i64 at_, .slice X10 lg.length x10, .slice (some ⟨w2.heap.size + 1, 0, none⟩) 0 0] 38)).alloc (.cells #[] 145)) w2.heap.size (.slice (some ⟨(w2.alloc (.cells #[.slice X0 ss.length x0, .slice X1 ps.length x1, .int .i64 fz, .bool off, .int .i64 b, .int .i64 l, .int .i64 q, .int .i64 t, .int .i64 sq, .int .i64 at_, .slice X10 lg.length x10, .slice (some ⟨w2.heap.size + 1, 0, none⟩) 0 0] 38)).heap.size, 0, none⟩) 0 0) [] := World.ownsRow_made _ #[] 0 (by simp) (by decide) (by simp)
    rw [E1] at h
    exact h)
  have Pf := Lib.hid (Pg.out.dirty Bb.out Ho.out)
  have Q5 := Lib.hid ((Bb.out.block _ (by have := Z2.out; omega)).trans Q2.out)
  have B5 := Lib.hid (B2.out.trans (Bb.out.mono B2.out.size))
  clear E1
  go_wp2_with (refine wpList_store_row rfl 38 (.tmp 2) (.tmp 11) rfl (w.heap.size + 1) #[.slice X0 ss.length x0, .slice X1 ps.length x1, .int .i64 fz, .bool off, .int .i64 b, .int .i64 l, .int .i64 q, .int .i64 t, .int .i64 sq, .int .i64 at_, .slice X10 lg.length x10, .slice (some ⟨w2.heap.size + 1, 0, none⟩) 0 0] rfl rfl 38 _ Q5.out infoP rfl (onePv ..) ?_)
  refine bodyPost_ret (v := .tuple #[.agg #[.slice X0 ss.length x0, .slice X1 ps.length x1, .int .i64 fz, .bool off, .int .i64 b, .int .i64 l, .int .i64 q, .int .i64 t, .int .i64 sq, .int .i64 at_, .slice X10 lg.length x10, .slice (some ⟨w2.heap.size + 1, 0, none⟩) 0 0], .int .i64 0]) ?_ rfl ?_
  · exact results_cell_row2 rfl _ _ (w.heap.size + 1) 38 _ (0, 0) _ _ rfl rfl (setRow_heap _ _ _ _ _ _ Q5.out) Try.underlying38 rfl (by kernel_rfl)
  · exact AnsP.full rfl (AnsP.end (mk := mkC 0) (lo := w1.heap.size) Pf.out (by have := Z1.out; omega) (by omega) B5.out)
set_option maxHeartbeats 4000000 in
set_option maxRecDepth 100000 in
theorem implDiscard_any {w : World} {A0 A1 A10 A11 : Option Addr} {ss : List ByteArray} {ps lg dt : List Pt} {fz b l q t sq at_ : Int} {off : Bool} (h0 : RiT w.heap.size w (.slice A0 ss.length ss.length) ss) (h1 : RiU w.heap.size w (.slice A1 ps.length ps.length) ps) (h10 : RiU w.heap.size w (.slice A10 lg.length lg.length) lg) (h11 : RiU w.heap.size w (.slice A11 dt.length dt.length) dt) (z0 : ss.length ≤ 1048576) (z1 : ps.length ≤ 1048576) (i4 : InI b) (i5 : InI l) :
    Calls Try.prog 11 #[.agg #[.slice A0 ss.length ss.length, .slice A1 ps.length ps.length, .int .i64 fz, .bool off, .int .i64 b, .int .i64 l, .int .i64 q, .int .i64 t, .int .i64 sq, .int .i64 at_, .slice A10 lg.length lg.length, .slice A11 dt.length dt.length]] w (AnsP (mkC (if pgrOk ss ps fz off b l q t sq at_ lg dt then 0 else 1)) (sT (pgrOk ss ps fz off b l q t sq at_ lg dt) ss) (sT (pgrOk ss ps fz off b l q t sq at_ lg dt) ps) (sI (pgrOk ss ps fz off b l q t sq at_ lg dt) fz) (sB (pgrOk ss ps fz off b l q t sq at_ lg dt) off) (sI (pgrOk ss ps fz off b l q t sq at_ lg dt) b) (sI (pgrOk ss ps fz off b l q t sq at_ lg dt) l) (sI (pgrOk ss ps fz off b l q t sq at_ lg dt) q) (sI (pgrOk ss ps fz off b l q t sq at_ lg dt) t) (sI (pgrOk ss ps fz off b l q t sq at_ lg dt) sq) (sI (pgrOk ss ps fz off b l q t sq at_ lg dt) at_) (sT (pgrOk ss ps fz off b l q t sq at_ lg dt) lg) (sT (pgrOk ss ps fz off b l q t sq at_ lg dt) []) w) := by
  have Hpl := Lib.hid (pgrOk_l (ss := ss) (ps := ps) (fz := fz) (off := off) (b := b) (l := l) (q := q) (t := t) (sq := sq) (at_ := at_) (lg := lg) (dt := dt))
  have HO : Hid (True) := Lib.hid trivial
  have H0 := Lib.hid h0; have H1 := Lib.hid h1; have H10 := Lib.hid h10; have H11 := Lib.hid h11
  clear h0 h1 h10 h11
  have B0 : Hid (Below w.heap.size w ((w.alloc (.cells #[.slice A0 ss.length ss.length, .slice A1 ps.length ps.length, .int .i64 fz, .bool off, .int .i64 b, .int .i64 l, .int .i64 q, .int .i64 t, .int .i64 sq, .int .i64 at_, .slice A10 lg.length lg.length, .slice A11 dt.length dt.length] 38)).alloc (.cells #[.slice none 0 0, .slice none 0 0, .int .i64 0, .bool false, .int .i64 0, .int .i64 0, .int .i64 0, .int .i64 0, .int .i64 0, .int .i64 0, .slice none 0 0, .slice none 0 0] 38))) := Lib.hid (((Below.refl _ w).alloc (Nat.le_refl _) _).alloc (by simp) _)
  have R0 : Hid (((w.alloc (.cells #[.slice A0 ss.length ss.length, .slice A1 ps.length ps.length, .int .i64 fz, .bool off, .int .i64 b, .int .i64 l, .int .i64 q, .int .i64 t, .int .i64 sq, .int .i64 at_, .slice A10 lg.length lg.length, .slice A11 dt.length dt.length] 38)).alloc (.cells #[.slice none 0 0, .slice none 0 0, .int .i64 0, .bool false, .int .i64 0, .int .i64 0, .int .i64 0, .int .i64 0, .int .i64 0, .int .i64 0, .slice none 0 0, .slice none 0 0] 38)).heap[w.heap.size]? = some (.cells #[.slice A0 ss.length ss.length, .slice A1 ps.length ps.length, .int .i64 fz, .bool off, .int .i64 b, .int .i64 l, .int .i64 q, .int .i64 t, .int .i64 sq, .int .i64 at_, .slice A10 lg.length lg.length, .slice A11 dt.length dt.length] 38 (0, 0))) := Lib.hid (heap_alloc2_old w _ _)
  have Q0 : Hid (((w.alloc (.cells #[.slice A0 ss.length ss.length, .slice A1 ps.length ps.length, .int .i64 fz, .bool off, .int .i64 b, .int .i64 l, .int .i64 q, .int .i64 t, .int .i64 sq, .int .i64 at_, .slice A10 lg.length lg.length, .slice A11 dt.length dt.length] 38)).alloc (.cells #[.slice none 0 0, .slice none 0 0, .int .i64 0, .bool false, .int .i64 0, .int .i64 0, .int .i64 0, .int .i64 0, .int .i64 0, .int .i64 0, .slice none 0 0, .slice none 0 0] 38)).heap[w.heap.size + 1]? = some (.cells #[.slice none 0 0, .slice none 0 0, .int .i64 0, .bool false, .int .i64 0, .int .i64 0, .int .i64 0, .int .i64 0, .int .i64 0, .int .i64 0, .slice none 0 0, .slice none 0 0] 38 (0, 0))) := Lib.hid (heap_alloc2_new w _ _)
  have Z0 : Hid (w.heap.size + 2 ≤ ((w.alloc (.cells #[.slice A0 ss.length ss.length, .slice A1 ps.length ps.length, .int .i64 fz, .bool off, .int .i64 b, .int .i64 l, .int .i64 q, .int .i64 t, .int .i64 sq, .int .i64 at_, .slice A10 lg.length lg.length, .slice A11 dt.length dt.length] 38)).alloc (.cells #[.slice none 0 0, .slice none 0 0, .int .i64 0, .bool false, .int .i64 0, .int .i64 0, .int .i64 0, .int .i64 0, .int .i64 0, .int .i64 0, .slice none 0 0, .slice none 0 0] 38)).heap.size) := Lib.hid (by simp)
  have C1 := Lib.hid (implValidPager_any (fz := fz) (off := off) (b := b) (l := l) (q := q) (t := t) (sq := sq) (at_ := at_) (H0.out.at (Nat.le_refl _) B0.out) (H1.out.at (Nat.le_refl _) B0.out) (H10.out.at (Nat.le_refl _) B0.out) (H11.out.at (Nat.le_refl _) B0.out) (Nat.le_refl _) i4 i5)
  generalize pgrOk ss ps fz off b l q t sq at_ lg dt = z at *
  cases z
  · go_enter Try.func11, Try.ntmps11
    go_wp2_with (refine wpList_load_row rfl 38 (.tmp 1) rfl _ rfl 38 _ (0, 0) _ R0.out Try.underlying38 rfl (by kernel_rfl) ?_)
    generalize ((w.alloc (.cells #[.slice A0 ss.length ss.length, .slice A1 ps.length ps.length, .int .i64 fz, .bool off, .int .i64 b, .int .i64 l, .int .i64 q, .int .i64 t, .int .i64 sq, .int .i64 at_, .slice A10 lg.length lg.length, .slice A11 dt.length dt.length] 38)).alloc (.cells #[.slice none 0 0, .slice none 0 0, .int .i64 0, .bool false, .int .i64 0, .int .i64 0, .int .i64 0, .int .i64 0, .int .i64 0, .int .i64 0, .slice none 0 0, .slice none 0 0] 38)) = w0 at *
    refine C1.out.mono ?_
    rintro e w1 ⟨rfl, g⟩
    have B1 := Lib.hid (B0.out.trans (g.mono B0.out.size))
    have R1 := Lib.hid ((g.block _ (by have := Z0.out; omega)).trans R0.out)
    have Q1 := Lib.hid ((g.block _ (by have := Z0.out; omega)).trans Q0.out)
    have Z1 : Hid (w.heap.size + 2 ≤ w1.heap.size) := Lib.hid (by have := Z0.out; have := g.size; omega)
    clear g
    go_wp2_with (refine wpList_store_row rfl 38 (.tmp 2) (.tmp 8) rfl (w.heap.size + 1) #[.slice none 0 0, .slice none 0 0, .int .i64 0, .bool false, .int .i64 0, .int .i64 0, .int .i64 0, .int .i64 0, .int .i64 0, .int .i64 0, .slice none 0 0, .slice none 0 0] rfl rfl 38 _ Q1.out infoP rfl (onePv ..) ?_)
    refine bodyPost_ret (v := .tuple #[.agg #[.slice none 0 0, .slice none 0 0, .int .i64 0, .bool false, .int .i64 0, .int .i64 0, .int .i64 0, .int .i64 0, .int .i64 0, .int .i64 0, .slice none 0 0, .slice none 0 0], .int .i64 1]) ?_ rfl ?_
    · exact results_cell_row2 rfl _ _ (w.heap.size + 1) 38 _ (0, 0) _ _ rfl rfl (setRow_heap _ _ _ _ _ _ Q1.out) Try.underlying38 rfl (by kernel_rfl)
    · exact AnsP.zero (mk := mkC 1) rfl (by omega) (by have := Z1.out; omega) B1.out
  have HP := Lib.hid (Hpl.out rfl); clear Hpl
  go_enter Try.func11, Try.ntmps11
  go_wp2_with (refine wpList_load_row rfl 38 (.tmp 1) rfl _ rfl 38 _ (0, 0) _ R0.out Try.underlying38 rfl (by kernel_rfl) ?_)
  generalize ((w.alloc (.cells #[.slice A0 ss.length ss.length, .slice A1 ps.length ps.length, .int .i64 fz, .bool off, .int .i64 b, .int .i64 l, .int .i64 q, .int .i64 t, .int .i64 sq, .int .i64 at_, .slice A10 lg.length lg.length, .slice A11 dt.length dt.length] 38)).alloc (.cells #[.slice none 0 0, .slice none 0 0, .int .i64 0, .bool false, .int .i64 0, .int .i64 0, .int .i64 0, .int .i64 0, .int .i64 0, .int .i64 0, .slice none 0 0, .slice none 0 0] 38)) = w0 at *
  refine C1.out.mono ?_
  rintro e w1 ⟨rfl, g⟩
  have B1 := Lib.hid (B0.out.trans (g.mono B0.out.size))
  have R1 := Lib.hid ((g.block _ (by have := Z0.out; omega)).trans R0.out)
  have Q1 := Lib.hid ((g.block _ (by have := Z0.out; omega)).trans Q0.out)
  have Z1 : Hid (w.heap.size + 2 ≤ w1.heap.size) := Lib.hid (by have := Z0.out; have := g.size; omega)
  clear g
  go_wp2_with (refine wpList_load_row rfl 38 (.tmp 1) rfl _ rfl 38 _ (0, 0) _ R1.out Try.underlying38 rfl (by kernel_rfl) ?_)
  refine (transactionOf_any (H11.out.at (Nat.le_refl _) B1.out) (Nat.le_refl _) (srt_of_pg HP.out.2.2.1) (by have := HP.out.2.1; omega)).mono ?_
  rintro e w2 ⟨rfl, tm, g⟩
  have Htm := Lib.hid tm; clear tm
  have Hmz : Hid (w.heap.size + 2 ≤ w1.heap.size + 1) := Lib.hid (by have := Z1.out; omega)
  have B2 := Lib.hid (B1.out.trans (g.mono B1.out.size))
  have R2 := Lib.hid ((g.block _ (by have := Z1.out; omega)).trans R1.out)
  have Q2 := Lib.hid ((g.block _ (by have := Z1.out; omega)).trans Q1.out)
  have Z2 : Hid (w.heap.size + 2 ≤ w2.heap.size) := Lib.hid (by have := Z1.out; have := g.size; omega)
  clear g
  generalize w1.heap.size + 1 = m at *
  go_wp2_with (first | (refine wpList_load_row rfl 38 (.tmp 1) rfl _ rfl 38 _ (0, 0) _ R3.out Try.underlying38 rfl (by kernel_rfl) ?_) | (refine wpList_tmClear _ rfl _ rfl m dt rfl Htm.out ?_; intro w3 t3 m3; have Ht3 := Lib.hid t3; have Hg3 := Lib.hid m3.grown; clear t3 m3; have R3 := Lib.hid (grown_blk Hg3.out (by have := Z2.out; omega) (by have := Hmz.out; omega) R2.out)))
  have Q3 := Lib.hid (grown_blk Hg3.out (by have := Z2.out; omega) (by have := Hmz.out; omega) Q2.out)
  have B3 : Hid (Below w.heap.size w w3) := Lib.hid (B2.out.grown Hg3.out B2.out.size (fun k hk => by cases hk; have := Hmz.out; omega))
  have Z3 : Hid (w.heap.size + 2 ≤ w3.heap.size) := Lib.hid (by have := Z2.out; have := Hg3.out.size; omega)
  refine (copyWith_any (H0.out.at (Nat.le_refl _) B3.out) (H1.out.at (Nat.le_refl _) B3.out) (H10.out.at (Nat.le_refl _) B3.out) (H11.out.at (Nat.le_refl _) B3.out) (Nat.le_refl _) z0 z1 (by have := HP.out.1; omega) Ht3.out (by simp)).mono ?_
  rintro e w4 ⟨X0, X1, X10, X11, x0, x1, x10, x11, rfl, pg, g4⟩
  have Pg := Lib.hid pg
  have B4 : Hid (Below w.heap.size w w4) := Lib.hid (B3.out.grown g4 B3.out.size (fun k hk => by cases hk; have := Hmz.out; omega))
  have Q4 := Lib.hid (grown_blk g4 (by have := Z3.out; omega) (by have := Hmz.out; omega) Q3.out)
  clear pg g4
  go_wp2_with (refine wpList_store_row rfl 38 (.tmp 2) (.tmp 14) rfl (w.heap.size + 1) #[.slice X0 ss.length x0, .slice X1 ps.length x1, .int .i64 fz, .bool off, .int .i64 b, .int .i64 l, .int .i64 q, .int .i64 t, .int .i64 sq, .int .i64 at_, .slice X10 lg.length x10, .slice X11 ([] : List Pt).length x11] rfl rfl 38 _ Q4.out infoP rfl (onePv ..) ?_)
  refine bodyPost_ret (v := .tuple #[.agg #[.slice X0 ss.length x0, .slice X1 ps.length x1, .int .i64 fz, .bool off, .int .i64 b, .int .i64 l, .int .i64 q, .int .i64 t, .int .i64 sq, .int .i64 at_, .slice X10 lg.length x10, .slice X11 ([] : List Pt).length x11], .int .i64 0]) ?_ rfl ?_
  · exact results_cell_row2 rfl _ _ (w.heap.size + 1) 38 _ (0, 0) _ _ rfl rfl (setRow_heap _ _ _ _ _ _ Q4.out) Try.underlying38 rfl (by kernel_rfl)
  · exact AnsP.full rfl (AnsP.end (mk := mkC 0) (lo := w3.heap.size) Pg.out (by have := Z3.out; omega) (by omega) B4.out)
end Go.Proofs.Ytplfnlalmcpcaaa
