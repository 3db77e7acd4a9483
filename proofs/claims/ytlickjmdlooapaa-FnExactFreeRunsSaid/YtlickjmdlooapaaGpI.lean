/- Pages read through a pager: the program's functions. No statement is proved here. -/
import Derived.Test.YtlickjmdlooapaaGpS
import Derived.Test.YtlickjmdlooapaaCts
namespace Go.Proofs.Ytlickjmdlooapaa
open Go.RowKit
set_option linter.unusedVariables false
set_option maxHeartbeats 2000000 in
set_option maxRecDepth 100000 in
theorem committed_any {B : Nat} {w : World} {v0 v1 v10 v11 : Value} {ss : List ByteArray} {ps lg dt : List Pt} {fz b l q t sq at_ : Int} {off : Bool} {k : Int} (h0 : RiT B w v0 ss) (h1 : RiU B w v1 ps) (h10 : RiU B w v10 lg) (h11 : RiU B w v11 dt) (hB : B ≤ w.heap.size) (hk0 : 0 ≤ k) (hk : k < (ss.length : Int)) (hkw : (Lit.int .i64 k).wf = true) :
    Calls Try.prog 178 #[.agg #[v0, v1, .int .i64 fz, .bool off, .int .i64 b, .int .i64 l, .int .i64 q, .int .i64 t, .int .i64 sq, .int .i64 at_, v10, v11], .int .i64 k] w (GivesB (.string (cmS ss ps lg k)) w) := by
  have H0 := Lib.hid h0; obtain ⟨A0, c0, rfl, l0, m0, -⟩ := h0
  have H1 := Lib.hid h1; obtain ⟨A1, c1, rfl, l1, m1, -⟩ := h1
  have H10 := Lib.hid h10; obtain ⟨A10, c10, rfl, l10, m10, x10⟩ := h10
  have H11 := Lib.hid h11; obtain ⟨A11, c11, rfl, l11, m11, x11⟩ := h11
  unfold maxLen at m0 m1 m10 m11
  have X10 := Lib.hid x10; have X11 := Lib.hid x11; clear x10 x11
  obtain ⟨n, rfl⟩ : ∃ n : Nat, k = (n : Int) := ⟨k.toNat, by omega⟩
  have hn : n < ss.length := by omega
  have Hb0 : Hid (Below w.heap.size w (w.alloc (.cells #[.slice A0 ss.length c0, .slice A1 ps.length c1, .int .i64 fz, .bool off, .int .i64 b, .int .i64 l, .int .i64 q, .int .i64 t, .int .i64 sq, .int .i64 at_, .slice A10 lg.length c10, .slice A11 dt.length c11] 42))) := Lib.hid ((Below.refl _ w).alloc (Nat.le_refl _) _)
  have R0 : Hid ((w.alloc (.cells #[.slice A0 ss.length c0, .slice A1 ps.length c1, .int .i64 fz, .bool off, .int .i64 b, .int .i64 l, .int .i64 q, .int .i64 t, .int .i64 sq, .int .i64 at_, .slice A10 lg.length c10, .slice A11 dt.length c11] 42)).heap[w.heap.size]? = some (.cells #[.slice A0 ss.length c0, .slice A1 ps.length c1, .int .i64 fz, .bool off, .int .i64 b, .int .i64 l, .int .i64 q, .int .i64 t, .int .i64 sq, .int .i64 at_, .slice A10 lg.length c10, .slice A11 dt.length c11] 42 (0, 0))) := Lib.hid (heap_alloc_new w _)
  have Lt0 : Hid (w.heap.size < (w.alloc (.cells #[.slice A0 ss.length c0, .slice A1 ps.length c1, .int .i64 fz, .bool off, .int .i64 b, .int .i64 l, .int .i64 q, .int .i64 t, .int .i64 sq, .int .i64 at_, .slice A10 lg.length c10, .slice A11 dt.length c11] 42)).heap.size) := Lib.hid (by simp)
  have C1 := Lib.hid (implPageOf_any (H10.out.at hB Hb0.out) hkw (Nat.le_refl _))
  have HT : Hid (cmS ss ps lg (n : Int) = if pgY lg (n : Int) then pgX lg (n : Int) else rdB ss ps n) := Lib.hid rfl
  generalize cmS ss ps lg (n : Int) = r at *
  generalize pgY lg (n : Int) = y at *
  generalize pgX lg (n : Int) = x at *
  clear hkw
  go_enter Try.func178, Try.ntmps178
  go_wp2_with fail
  generalize (w.alloc (.cells #[.slice A0 ss.length c0, .slice A1 ps.length c1, .int .i64 fz, .bool off, .int .i64 b, .int .i64 l, .int .i64 q, .int .i64 t, .int .i64 sq, .int .i64 at_, .slice A10 lg.length c10, .slice A11 dt.length c11] 42)) = w0 at *
  refine C1.out.mono ?_
  rintro e w1 ⟨rfl, g⟩
  have Hb1 := Lib.hid (Hb0.out.trans (g.mono Hb0.out.size))
  have R1 := Lib.hid ((g.block _ Lt0.out).trans R0.out)
  clear g
  cases y
  rotate_left
  · have Hf : Hid (r = x) := Lib.hid (by rw [HT.out]; rfl)
    go_wp2_with fail
    go_ret
    exact ⟨by rw [Hf.out]; rfl, Hb1.out⟩
  have Hf : Hid (r = rdB ss ps n) := Lib.hid (by rw [HT.out]; rfl)
  have Hld := Lib.hid (run_load_cells (P := Try.prog) w1 w.heap.size 0 38 _ [.slice A0 ss.length c0, .slice A1 ps.length c1, .int .i64 fz, .bool off] (row_part R1.out (by intro j u hj; rcases j with _ | _ | _ | _ | j; all_goals first | exact hj | simp at hj)) Try.underlying38 rfl)
  have C2 := Lib.hid (contentsOf_any (fz := fz) (off := off) (H0.out.at hB Hb1.out) (H1.out.at hB Hb1.out) (Nat.le_refl _) hn)
  generalize rdB ss ps n = s at *
  go_wp2_with (refine wpList_load_agg rfl 38 (.tmp 16) rfl _ rfl _ Hld.out ?_)
  refine C2.out.mono ?_
  rintro e w2 ⟨rfl, g⟩
  have Hb2 := Lib.hid (Hb1.out.trans (g.mono Hb1.out.size))
  clear g
  go_wp2_with fail
  go_ret
  exact ⟨by rw [Hf.out]; rfl, Hb2.out⟩
set_option maxHeartbeats 2000000 in
set_option maxRecDepth 100000 in
theorem current_any {B : Nat} {w : World} {v0 v1 v10 v11 : Value} {ss : List ByteArray} {ps lg dt : List Pt} {fz b l q t sq at_ : Int} {off : Bool} {k : Int} (h0 : RiT B w v0 ss) (h1 : RiU B w v1 ps) (h10 : RiU B w v10 lg) (h11 : RiU B w v11 dt) (hB : B ≤ w.heap.size) (hk0 : 0 ≤ k) (hk : k < (ss.length : Int)) (hkw : (Lit.int .i64 k).wf = true) :
    Calls Try.prog 104 #[.agg #[v0, v1, .int .i64 fz, .bool off, .int .i64 b, .int .i64 l, .int .i64 q, .int .i64 t, .int .i64 sq, .int .i64 at_, v10, v11], .int .i64 k] w (GivesB (.string (gtS ss ps lg dt k)) w) := by
  have H0 := Lib.hid h0; obtain ⟨A0, c0, rfl, l0, m0, -⟩ := h0
  have H1 := Lib.hid h1; obtain ⟨A1, c1, rfl, l1, m1, -⟩ := h1
  have H10 := Lib.hid h10; obtain ⟨A10, c10, rfl, l10, m10, x10⟩ := h10
  have H11 := Lib.hid h11; obtain ⟨A11, c11, rfl, l11, m11, x11⟩ := h11
  unfold maxLen at m0 m1 m10 m11
  have X10 := Lib.hid x10; have X11 := Lib.hid x11; clear x10 x11
  have Hb0 : Hid (Below w.heap.size w (w.alloc (.cells #[.slice A0 ss.length c0, .slice A1 ps.length c1, .int .i64 fz, .bool off, .int .i64 b, .int .i64 l, .int .i64 q, .int .i64 t, .int .i64 sq, .int .i64 at_, .slice A10 lg.length c10, .slice A11 dt.length c11] 42))) := Lib.hid ((Below.refl _ w).alloc (Nat.le_refl _) _)
  have R0 : Hid ((w.alloc (.cells #[.slice A0 ss.length c0, .slice A1 ps.length c1, .int .i64 fz, .bool off, .int .i64 b, .int .i64 l, .int .i64 q, .int .i64 t, .int .i64 sq, .int .i64 at_, .slice A10 lg.length c10, .slice A11 dt.length c11] 42)).heap[w.heap.size]? = some (.cells #[.slice A0 ss.length c0, .slice A1 ps.length c1, .int .i64 fz, .bool off, .int .i64 b, .int .i64 l, .int .i64 q, .int .i64 t, .int .i64 sq, .int .i64 at_, .slice A10 lg.length c10, .slice A11 dt.length c11] 42 (0, 0))) := Lib.hid (heap_alloc_new w _)
  have Lt0 : Hid (w.heap.size < (w.alloc (.cells #[.slice A0 ss.length c0, .slice A1 ps.length c1, .int .i64 fz, .bool off, .int .i64 b, .int .i64 l, .int .i64 q, .int .i64 t, .int .i64 sq, .int .i64 at_, .slice A10 lg.length c10, .slice A11 dt.length c11] 42)).heap.size) := Lib.hid (by simp)
  have HG : Hid (gtS ss ps lg dt k = if pgY dt k then pgX dt k else cmS ss ps lg k) := Lib.hid rfl
  have C3 := Lib.hid (implPageOf_any (H11.out.at hB Hb0.out) hkw (Nat.le_refl _))
  have C4 : Hid (∀ W, Below _ _ W → _) := Lib.hid (fun W hW => committed_any (w := W) (k := k) (fz := fz) (off := off) (b := b) (l := l) (q := q) (t := t) (sq := sq) (at_ := at_) (H0.out.at hB (Hb0.out.trans (hW.mono Hb0.out.size))) (H1.out.at hB (Hb0.out.trans (hW.mono Hb0.out.size))) (H10.out.at hB (Hb0.out.trans (hW.mono Hb0.out.size))) (H11.out.at hB (Hb0.out.trans (hW.mono Hb0.out.size))) (Nat.le_refl _) hk0 hk hkw)
  generalize gtS ss ps lg dt k = S at *
  generalize cmS ss ps lg k = s at *
  generalize pgY dt k = y at *
  generalize pgX dt k = x at *
  clear hk0 hk hkw
  go_enter Try.func104, Try.ntmps104
  go_wp2_with fail
  generalize (w.alloc (.cells #[.slice A0 ss.length c0, .slice A1 ps.length c1, .int .i64 fz, .bool off, .int .i64 b, .int .i64 l, .int .i64 q, .int .i64 t, .int .i64 sq, .int .i64 at_, .slice A10 lg.length c10, .slice A11 dt.length c11] 42)) = w2 at *
  refine C3.out.mono ?_
  rintro e w3 ⟨rfl, g⟩
  have Hg3 := Lib.hid g
  have Hb3 := Lib.hid (Hb0.out.trans (g.mono Hb0.out.size))
  have R3 := Lib.hid ((g.block _ Lt0.out).trans R0.out)
  clear g
  cases y
  rotate_left
  · have Hf2 : Hid (S = x) := Lib.hid (by rw [HG.out]; rfl)
    go_wp2_with fail
    go_ret
    exact ⟨by rw [Hf2.out]; rfl, Hb3.out⟩
  have Hf2 : Hid (S = s) := Lib.hid (by rw [HG.out]; rfl)
  go_wp2_with (refine wpList_load_row rfl 42 (.tmp 2) rfl _ rfl 42 _ (0, 0) _ R3.out Try.underlying42 rfl (by kernel_rfl) ?_)
  refine (C4.out _ Hg3.out).mono ?_
  rintro e w4 ⟨rfl, g⟩
  have Hb4 := Lib.hid (Hb3.out.trans (g.mono Hb3.out.size))
  clear g
  go_wp2_with fail
  go_ret
  exact ⟨by rw [Hf2.out]; rfl, Hb4.out⟩
set_option maxHeartbeats 2000000 in
set_option maxRecDepth 100000 in
theorem implGetPage_any {B : Nat} {w : World} {v0 v1 v10 v11 : Value} {ss : List ByteArray} {ps lg dt : List Pt} {fz b l q t sq at_ : Int} {off : Bool} {k : Int} (h0 : RiT B w v0 ss) (h1 : RiU B w v1 ps) (h10 : RiU B w v10 lg) (h11 : RiU B w v11 dt) (hk : (Lit.int .i64 k).wf = true) (hB : B ≤ w.heap.size) (i4 : InI b) (i5 : InI l) :
    Calls Try.prog 51 #[.agg #[v0, v1, .int .i64 fz, .bool off, .int .i64 b, .int .i64 l, .int .i64 q, .int .i64 t, .int .i64 sq, .int .i64 at_, v10, v11], .int .i64 k] w (GivesB (.tuple #[.string (gpS ss ps fz off b l q t sq at_ lg dt k), .int .i64 (gpC ss ps fz off b l q t sq at_ lg dt k)]) w) := by
  have H0 := Lib.hid h0; obtain ⟨A0, c0, rfl, l0, m0, -⟩ := h0
  have H1 := Lib.hid h1; obtain ⟨A1, c1, rfl, l1, m1, -⟩ := h1
  have H10 := Lib.hid h10; obtain ⟨A10, c10, rfl, l10, m10, x10⟩ := h10
  have H11 := Lib.hid h11; obtain ⟨A11, c11, rfl, l11, m11, x11⟩ := h11
  unfold maxLen at m0 m1 m10 m11
  have X10 := Lib.hid x10; have X11 := Lib.hid x11; clear x10 x11
  have Hb0 : Hid (Below w.heap.size w (w.alloc (.cells #[.slice A0 ss.length c0, .slice A1 ps.length c1, .int .i64 fz, .bool off, .int .i64 b, .int .i64 l, .int .i64 q, .int .i64 t, .int .i64 sq, .int .i64 at_, .slice A10 lg.length c10, .slice A11 dt.length c11] 42))) := Lib.hid ((Below.refl _ w).alloc (Nat.le_refl _) _)
  have R0 : Hid ((w.alloc (.cells #[.slice A0 ss.length c0, .slice A1 ps.length c1, .int .i64 fz, .bool off, .int .i64 b, .int .i64 l, .int .i64 q, .int .i64 t, .int .i64 sq, .int .i64 at_, .slice A10 lg.length c10, .slice A11 dt.length c11] 42)).heap[w.heap.size]? = some (.cells #[.slice A0 ss.length c0, .slice A1 ps.length c1, .int .i64 fz, .bool off, .int .i64 b, .int .i64 l, .int .i64 q, .int .i64 t, .int .i64 sq, .int .i64 at_, .slice A10 lg.length c10, .slice A11 dt.length c11] 42 (0, 0))) := Lib.hid (heap_alloc_new w _)
  have Lt0 : Hid (w.heap.size < (w.alloc (.cells #[.slice A0 ss.length c0, .slice A1 ps.length c1, .int .i64 fz, .bool off, .int .i64 b, .int .i64 l, .int .i64 q, .int .i64 t, .int .i64 sq, .int .i64 at_, .slice A10 lg.length c10, .slice A11 dt.length c11] 42)).heap.size) := Lib.hid (by simp)
  have HC : Hid (gpC ss ps fz off b l q t sq at_ lg dt k = if pgrOk ss ps fz off b l q t sq at_ lg dt then (if inB k (2 + l) (b - 1) then 0 else 2) else 1) := Lib.hid rfl
  have HS : Hid (gpS ss ps fz off b l q t sq at_ lg dt k = if pgrOk ss ps fz off b l q t sq at_ lg dt then (if inB k (2 + l) (b - 1) then gtS ss ps lg dt k else ⟨#[]⟩) else ⟨#[]⟩) := Lib.hid rfl
  generalize gpC ss ps fz off b l q t sq at_ lg dt k = C at *
  generalize gpS ss ps fz off b l q t sq at_ lg dt k = S at *
  have Hok := Lib.hid (pgrOk_t (ss := ss) (ps := ps) (fz := fz) (off := off) (b := b) (l := l) (q := q) (t := t) (sq := sq) (at_ := at_) (lg := lg) (dt := dt))
  have C1 := Lib.hid (implValidPager_any (fz := fz) (off := off) (q := q) (t := t) (sq := sq) (at_ := at_) (H0.out.at hB Hb0.out) (H1.out.at hB Hb0.out) (H10.out.at hB Hb0.out) (H11.out.at hB Hb0.out) (Nat.le_refl _) i4 i5)
  generalize pgrOk ss ps fz off b l q t sq at_ lg dt = z at *
  go_enter Try.func51, Try.ntmps51
  go_wp2_with (refine wpList_load_row rfl 42 (.tmp 2) rfl _ rfl 42 _ (0, 0) _ R0.out Try.underlying42 rfl (by kernel_rfl) ?_)
  generalize (w.alloc (.cells #[.slice A0 ss.length c0, .slice A1 ps.length c1, .int .i64 fz, .bool off, .int .i64 b, .int .i64 l, .int .i64 q, .int .i64 t, .int .i64 sq, .int .i64 at_, .slice A10 lg.length c10, .slice A11 dt.length c11] 42)) = w0 at *
  refine C1.out.mono ?_
  rintro e w1 ⟨rfl, g⟩
  have Hb1 := Lib.hid (Hb0.out.trans (g.mono Hb0.out.size))
  have R1 := Lib.hid ((g.block _ Lt0.out).trans R0.out)
  have Lt1 : Hid (w.heap.size < w1.heap.size) := Lib.hid (by have := Lt0.out; have := g.size; omega)
  clear g
  cases z
  · have Hf : Hid (C = 1 ∧ S = ⟨#[]⟩) := Lib.hid ⟨by rw [HC.out]; rfl, by rw [HS.out]; rfl⟩
    go_wp2_with fail
    go_ret2
    exact ⟨by rw [Hf.out.1, Hf.out.2]; rfl, Hb1.out⟩
  have HO := Lib.hid (Hok.out rfl); clear Hok
  have hb := sup_b HO.out.1
  have Hld := Lib.hid (run_load_cells (P := Try.prog) w1 w.heap.size 4 39 _ [.int .i64 b, .int .i64 l, .int .i64 q, .int .i64 t] (row_part R1.out (by intro j u hj; rcases j with _ | _ | _ | _ | j; all_goals first | exact hj | simp at hj)) Try.underlying39 rfl)
  go_wp2_with (refine wpList_load_agg rfl 39 (.tmp 9) rfl _ rfl _ Hld.out ?_)
  clear Hld
  have C2 := Lib.hid (hasPage_any k w1 HO.out.1)
  have hkk := @inB_iff k (2 + l) (b - 1)
  generalize hi : inB k (2 + l) (b - 1) = y at *
  refine C2.out.mono ?_
  rintro e w2 ⟨rfl, g⟩
  have Hb2 := Lib.hid (Hb1.out.trans (g.mono Hb1.out.size))
  have R2 := Lib.hid ((g.block _ Lt1.out).trans R1.out)
  have Lt2 : Hid (w.heap.size < w2.heap.size) := Lib.hid (by have := Lt1.out; have := g.size; omega)
  clear g hi
  cases y
  · have Hf : Hid (C = 2 ∧ S = ⟨#[]⟩) := Lib.hid ⟨by rw [HC.out]; rfl, by rw [HS.out]; rfl⟩
    go_wp2_with fail
    go_ret2
    exact ⟨by rw [Hf.out.1, Hf.out.2]; rfl, Hb2.out⟩
  have hk2 := hkk.1 rfl
  clear hkk
  have hbb := HO.out.2
  have hk0 : 0 ≤ k := by omega
  have hk1 : k < (ss.length : Int) := by omega
  have C3 := Lib.hid (current_any (k := k) (fz := fz) (off := off) (b := b) (l := l) (q := q) (t := t) (sq := sq) (at_ := at_) (H0.out.at hB Hb2.out) (H1.out.at hB Hb2.out) (H10.out.at hB Hb2.out) (H11.out.at hB Hb2.out) (Nat.le_refl _) hk0 hk1 hk)
  have Hf : Hid (C = 0 ∧ S = gtS ss ps lg dt k) := Lib.hid ⟨by rw [HC.out]; rfl, by rw [HS.out]; rfl⟩
  generalize gtS ss ps lg dt k = s at *
  clear hbb hk
  go_wp2_with (refine wpList_load_row rfl 42 (.tmp 2) rfl _ rfl 42 _ (0, 0) _ R2.out Try.underlying42 rfl (by kernel_rfl) ?_)
  refine C3.out.mono ?_
  rintro e w4 ⟨rfl, g⟩
  have Hb4 := Lib.hid (Hb2.out.trans (g.mono Hb2.out.size))
  clear g
  go_wp2_with fail
  go_ret2
  exact ⟨by rw [Hf.out.1, Hf.out.2]; rfl, Hb4.out⟩
end Go.Proofs.Ytlickjmdlooapaa
