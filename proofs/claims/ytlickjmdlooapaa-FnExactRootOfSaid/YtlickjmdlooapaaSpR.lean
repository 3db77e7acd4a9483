/- The allocation page: the program. No statement is proved here. -/
import Derived.Test.YtlickjmdlooapaaSpM
import Derived.Lib.SlBytesRow
namespace Go.Proofs.Ytlickjmdlooapaa
open Go.RowKit
set_option linter.unusedVariables false
theorem by_conv {W : World} {g cap : Nat} {s : ByteArray} (hz : s.size = 64) (h : ByA W g s) : (convert 119 9 (.slice (some ⟨g, 0, none⟩) 64 cap)).run Try.prog W = .ok (.string s) W := by
  have hb : Lib.Bytes W g 0 s := fun i hi => by
    rw [Nat.zero_add, h i hi, getD_byte s i hi]
  have := Lib.run_convert_whole (P := Try.prog) W 119 5 9 Try.underlying119 Try.underlying5 Try.underlying9 g 0 s hb cap
  rw [hz] at this
  exact this
set_option maxHeartbeats 4000000 in
set_option maxRecDepth 100000 in
theorem root_any {w : World} {g cap : Nat} {ar : ByteArray} {b l q t : Int} (hz : ar.size = 64) (hg : g < w.heap.size) (hA : ByA w g ar) :
    Calls Try.prog 89 #[.agg #[.int .i64 b, .int .i64 l, .int .i64 q, .int .i64 t, .slice (some ⟨g, 0, none⟩) 64 cap, .slice (some ⟨g, 4, none⟩) 32 32]] w (GivesB (.int .i64 (nV ar 2)) w) := by
  have Hb0 : Hid (Below w.heap.size w (w.alloc (.cells #[.int .i64 b, .int .i64 l, .int .i64 q, .int .i64 t, .slice (some ⟨g, 0, none⟩) 64 cap, .slice (some ⟨g, 4, none⟩) 32 32] 122))) := Lib.hid ((Below.refl _ w).alloc (Nat.le_refl _) _)
  have hcv := by_conv (cap := cap) hz (hA.bel hg Hb0.out)
  have H1 : Hid (FrA ((w.alloc (.cells #[.int .i64 b, .int .i64 l, .int .i64 q, .int .i64 t, .slice (some ⟨g, 0, none⟩) 64 cap, .slice (some ⟨g, 4, none⟩) 32 32] 122)).alloc (.cells #[.string ar] 219)) (w.heap.size + 1) ar) := Lib.hid (by unfold FrA; exact heap_alloc2_new w _ _)
  have HB1 : Hid (Below w.heap.size w ((w.alloc (.cells #[.int .i64 b, .int .i64 l, .int .i64 q, .int .i64 t, .slice (some ⟨g, 0, none⟩) 64 cap, .slice (some ⟨g, 4, none⟩) 32 32] 122)).alloc (.cells #[.string ar] 219))) := Lib.hid (Hb0.out.alloc Hb0.out.size _)
  have C1 := Lib.hid (frNumber_any (m := 2) (by omega) (by omega) (by omega) H1.out)
  generalize nV ar 2 = x at *
  clear hA H1
  go_enter Try.func89, Try.ntmps89
  go_wp2_with fail
  refine C1.out.mono ?_
  rintro e w1 ⟨rfl, -, -, -, g1⟩
  have Hb1 := Lib.hid (HB1.out.trans (g1.mono (by omega))); clear g1
  go_wp2_with fail
  go_ret
  exact ⟨rfl, Hb1.out⟩
set_option maxHeartbeats 4000000 in
set_option maxRecDepth 100000 in
theorem isTaken_any {w : World} {g cap : Nat} {ar : ByteArray} {b l q t k : Int} (hs : supOk b l q t = true) (hk : InI k) (hz : ar.size = 64) (hg : g < w.heap.size) (hA : ByA w g ar) :
    Calls Try.prog 94 #[.agg #[.int .i64 b, .int .i64 l, .int .i64 q, .int .i64 t, .slice (some ⟨g, 0, none⟩) 64 cap, .slice (some ⟨g, 4, none⟩) 32 32], .int .i64 k] w (GivesB (.bool (dtB b l k 1 && aB ar k.toNat)) w) := by
  have hb := sup_b hs
  have Hb0 : Hid (Below w.heap.size w (w.alloc (.cells #[.int .i64 b, .int .i64 l, .int .i64 q, .int .i64 t, .slice (some ⟨g, 0, none⟩) 64 cap, .slice (some ⟨g, 4, none⟩) 32 32] 122))) := Lib.hid ((Below.refl _ w).alloc (Nat.le_refl _) _)
  have R0 : Hid ((w.alloc (.cells #[.int .i64 b, .int .i64 l, .int .i64 q, .int .i64 t, .slice (some ⟨g, 0, none⟩) 64 cap, .slice (some ⟨g, 4, none⟩) 32 32] 122)).heap[w.heap.size]? = some (.cells #[.int .i64 b, .int .i64 l, .int .i64 q, .int .i64 t, .slice (some ⟨g, 0, none⟩) 64 cap, .slice (some ⟨g, 4, none⟩) 32 32] 122 (0, 0))) := Lib.hid (heap_alloc_new w _)
  have Lt0 : Hid (w.heap.size < (w.alloc (.cells #[.int .i64 b, .int .i64 l, .int .i64 q, .int .i64 t, .slice (some ⟨g, 0, none⟩) 64 cap, .slice (some ⟨g, 4, none⟩) 32 32] 122)).heap.size) := Lib.hid (by simp)
  have HA : Hid (∀ W, Below w.heap.size w W → ByA W g ar) := Lib.hid (fun W hW => hA.bel hg hW)
  have Hld := Lib.hid (run_load_cells (P := Try.prog) (w.alloc (.cells #[.int .i64 b, .int .i64 l, .int .i64 q, .int .i64 t, .slice (some ⟨g, 0, none⟩) 64 cap, .slice (some ⟨g, 4, none⟩) 32 32] 122)) w.heap.size 0 39 _ [.int .i64 b, .int .i64 l, .int .i64 q, .int .i64 t] (row_part R0.out (by intro j u hj; rcases j with _ | _ | _ | _ | j; all_goals first | exact hj | simp at hj)) Try.underlying39 rfl)
  have C1 := Lib.hid (fun W => hasRun_any (b := b) (l := l) (q := q) (t := t) k 1 W hs (by unfold InI; omega))
  have HK : Hid (dtB b l k 1 = true → 0 ≤ k ∧ k < 256) := Lib.hid (fun hd => by
    have := (dtB_iff (by omega) (by omega)).1 hd
    omega)
  generalize dtB b l k 1 = y at *
  clear hA hb hk
  go_enter Try.func94, Try.ntmps94
  go_wp2_with (refine wpList_load_agg rfl 39 (.tmp 5) rfl _ rfl _ Hld.out ?_)
  clear Hld
  generalize (w.alloc (.cells #[.int .i64 b, .int .i64 l, .int .i64 q, .int .i64 t, .slice (some ⟨g, 0, none⟩) 64 cap, .slice (some ⟨g, 4, none⟩) 32 32] 122)) = w0 at *
  refine (C1.out _).mono ?_
  rintro e w1 ⟨rfl, g1⟩
  have Hb1 := Lib.hid (Hb0.out.trans (g1.mono Hb0.out.size))
  have R1 := Lib.hid ((g1.block _ Lt0.out).trans R0.out)
  clear g1
  cases y
  · go_wp2_with fail
    go_ret
    exact ⟨by simp, Hb1.out⟩
  have hkk := HK.out (by first | rfl | trivial)
  obtain ⟨n, rfl⟩ : ∃ n : Nat, k = (n : Int) := ⟨k.toNat, by omega⟩
  have Hf : Hid ((true && aB ar (n : Int).toNat) = aB ar n) := Lib.hid (by simp)
  have C2 := Lib.hid (has_any hz (by omega : n < 256) (HA.out _ Hb1.out))
  generalize aB ar n = y at *
  have q5 : w1.cell? ⟨w.heap.size, 5, none⟩ = some (.slice (some ⟨g, 4, none⟩) 32 32) := by rw [cell_of_row _ _ _ _ _ _ R1.out]; rfl
  go_wp2_with ((go_at_call 171; refine C2.out.mono ?_; rintro e w' ⟨rfl, rfl⟩))
  go_ret
  exact ⟨by rw [Hf.out]; rfl, Hb1.out⟩
set_option maxHeartbeats 4000000 in
set_option maxRecDepth 100000 in
theorem implRootOf_any {B : Nat} {w : World} {v0 v1 v10 v11 : Value} {ss : List ByteArray} {ps lg dt : List Pt} {fz b l q t sq at_ : Int} {off : Bool} (h0 : RiT B w v0 ss) (h1 : RiU B w v1 ps) (h10 : RiU B w v10 lg) (h11 : RiU B w v11 dt) (hB : B ≤ w.heap.size) (i4 : InI b) (i5 : InI l) :
    Calls Try.prog 24 #[.agg #[v0, v1, .int .i64 fz, .bool off, .int .i64 b, .int .i64 l, .int .i64 q, .int .i64 t, .int .i64 sq, .int .i64 at_, v10, v11]] w (GivesB (.tuple #[.int .i64 (roV ss ps fz off b l q t sq at_ lg dt), .int .i64 (roC ss ps fz off b l q t sq at_ lg dt)]) w) := by
  have H0 := Lib.hid h0; obtain ⟨A0, c0, rfl, l0, m0, -⟩ := h0
  have H1 := Lib.hid h1; obtain ⟨A1, c1, rfl, l1, m1, -⟩ := h1
  have H10 := Lib.hid h10; obtain ⟨A10, c10, rfl, l10, m10, -⟩ := h10
  have H11 := Lib.hid h11; obtain ⟨A11, c11, rfl, l11, m11, -⟩ := h11
  unfold maxLen at m0 m1 m10 m11
  have Hb0 : Hid (Below w.heap.size w (w.alloc (.cells #[.slice A0 ss.length c0, .slice A1 ps.length c1, .int .i64 fz, .bool off, .int .i64 b, .int .i64 l, .int .i64 q, .int .i64 t, .int .i64 sq, .int .i64 at_, .slice A10 lg.length c10, .slice A11 dt.length c11] 42))) := Lib.hid ((Below.refl _ w).alloc (Nat.le_refl _) _)
  have R0 : Hid ((w.alloc (.cells #[.slice A0 ss.length c0, .slice A1 ps.length c1, .int .i64 fz, .bool off, .int .i64 b, .int .i64 l, .int .i64 q, .int .i64 t, .int .i64 sq, .int .i64 at_, .slice A10 lg.length c10, .slice A11 dt.length c11] 42)).heap[w.heap.size]? = some (.cells #[.slice A0 ss.length c0, .slice A1 ps.length c1, .int .i64 fz, .bool off, .int .i64 b, .int .i64 l, .int .i64 q, .int .i64 t, .int .i64 sq, .int .i64 at_, .slice A10 lg.length c10, .slice A11 dt.length c11] 42 (0, 0))) := Lib.hid (heap_alloc_new w _)
  have Lt0 : Hid (w.heap.size < (w.alloc (.cells #[.slice A0 ss.length c0, .slice A1 ps.length c1, .int .i64 fz, .bool off, .int .i64 b, .int .i64 l, .int .i64 q, .int .i64 t, .int .i64 sq, .int .i64 at_, .slice A10 lg.length c10, .slice A11 dt.length c11] 42)).heap.size) := Lib.hid (by simp)
  have C1 := Lib.hid (implValidPager_any (fz := fz) (off := off) (q := q) (t := t) (sq := sq) (at_ := at_) (H0.out.at hB Hb0.out) (H1.out.at hB Hb0.out) (H10.out.at hB Hb0.out) (H11.out.at hB Hb0.out) (Nat.le_refl _) i4 i5)
  have C2 : Hid (pgrOk ss ps fz off b l q t sq at_ lg dt = true → ∀ W, Below w.heap.size w W → _) := Lib.hid (fun hok W hW => spaceOf_any (w := W) (fz := fz) (off := off) (q := q) (t := t) (sq := sq) (at_ := at_) (H0.out.at hB hW) (H1.out.at hB hW) (H10.out.at hB hW) (H11.out.at hB hW) (Nat.le_refl _) hok)
  have HZ : Hid (pgrOk ss ps fz off b l q t sq at_ lg dt = true → (arS ss ps l lg dt).size = 64 ∧ supOk b l q t = true) := Lib.hid (fun hok => ⟨arS_64 hok, (pgrOk_t hok).1⟩)
  have HV : Hid (roV ss ps fz off b l q t sq at_ lg dt = (if pgrOk ss ps fz off b l q t sq at_ lg dt then nV (arS ss ps l lg dt) 2 else 0) ∧ roC ss ps fz off b l q t sq at_ lg dt = (if pgrOk ss ps fz off b l q t sq at_ lg dt then 0 else 1)) := Lib.hid ⟨rfl, rfl⟩
  generalize roV ss ps fz off b l q t sq at_ lg dt = rv at *
  generalize roC ss ps fz off b l q t sq at_ lg dt = rc at *
  generalize arS ss ps l lg dt = ar at *
  generalize pgrOk ss ps fz off b l q t sq at_ lg dt = z at *
  go_enter Try.func24, Try.ntmps24
  go_wp2_with (refine wpList_load_row rfl 42 (.tmp 1) rfl _ rfl 42 _ (0, 0) _ R0.out Try.underlying42 rfl (by kernel_rfl) ?_)
  generalize (w.alloc (.cells #[.slice A0 ss.length c0, .slice A1 ps.length c1, .int .i64 fz, .bool off, .int .i64 b, .int .i64 l, .int .i64 q, .int .i64 t, .int .i64 sq, .int .i64 at_, .slice A10 lg.length c10, .slice A11 dt.length c11] 42)) = w0 at *
  refine C1.out.mono ?_
  rintro e w1 ⟨rfl, g⟩
  have Hb1 := Lib.hid (Hb0.out.trans (g.mono Hb0.out.size))
  have R1 := Lib.hid ((g.block _ Lt0.out).trans R0.out)
  clear g
  cases z
  · have Hf : Hid (rv = 0 ∧ rc = 1) := Lib.hid HV.out
    go_wp2_with fail
    go_ret2
    exact ⟨by rw [Hf.out.1, Hf.out.2]; rfl, Hb1.out⟩
  have Hf : Hid (rv = nV ar 2 ∧ rc = 0) := Lib.hid HV.out
  have hzz := HZ.out (by first | rfl | trivial)
  go_wp2_with (refine wpList_load_row rfl 42 (.tmp 1) rfl _ rfl 42 _ (0, 0) _ R1.out Try.underlying42 rfl (by kernel_rfl) ?_)
  refine (C2.out (by first | rfl | trivial) _ Hb1.out).mono ?_
  rintro e w2 ⟨g, cap, rfl, hc1, hc2, hg1, hg2, hby, gg⟩
  have Hb2 := Lib.hid (Hb1.out.trans (gg.mono Hb1.out.size)); clear gg
  have C3 := Lib.hid (root_any (cap := cap) (b := b) (l := l) (q := q) (t := t) hzz.1 hg2 hby)
  clear hby hc1 hc2 hg1 hg2 hzz
  generalize nV ar 2 = x at *
  go_wp2_with fail
  refine C3.out.mono ?_
  rintro e w3 ⟨rfl, gg⟩
  have Hb3 := Lib.hid (Hb2.out.trans (gg.mono Hb2.out.size)); clear gg
  go_wp2_with fail
  go_ret2
  exact ⟨by rw [Hf.out.1, Hf.out.2]; rfl, Hb3.out⟩
set_option maxHeartbeats 4000000 in
set_option maxRecDepth 100000 in
theorem implIsAllocated_any {B : Nat} {w : World} {v0 v1 v10 v11 : Value} {ss : List ByteArray} {ps lg dt : List Pt} {fz b l q t sq at_ : Int} {off : Bool} {k : Int} (h0 : RiT B w v0 ss) (h1 : RiU B w v1 ps) (h10 : RiU B w v10 lg) (h11 : RiU B w v11 dt) (hk : (Lit.int .i64 k).wf = true) (hB : B ≤ w.heap.size) (i4 : InI b) (i5 : InI l) :
    Calls Try.prog 27 #[.agg #[v0, v1, .int .i64 fz, .bool off, .int .i64 b, .int .i64 l, .int .i64 q, .int .i64 t, .int .i64 sq, .int .i64 at_, v10, v11], .int .i64 k] w (GivesB (.bool (iaV ss ps fz off b l q t sq at_ lg dt k)) w) := by
  have hk2 := i64_bounds hk
  have H0 := Lib.hid h0; obtain ⟨A0, c0, rfl, l0, m0, -⟩ := h0
  have H1 := Lib.hid h1; obtain ⟨A1, c1, rfl, l1, m1, -⟩ := h1
  have H10 := Lib.hid h10; obtain ⟨A10, c10, rfl, l10, m10, -⟩ := h10
  have H11 := Lib.hid h11; obtain ⟨A11, c11, rfl, l11, m11, -⟩ := h11
  unfold maxLen at m0 m1 m10 m11
  have Hb0 : Hid (Below w.heap.size w (w.alloc (.cells #[.slice A0 ss.length c0, .slice A1 ps.length c1, .int .i64 fz, .bool off, .int .i64 b, .int .i64 l, .int .i64 q, .int .i64 t, .int .i64 sq, .int .i64 at_, .slice A10 lg.length c10, .slice A11 dt.length c11] 42))) := Lib.hid ((Below.refl _ w).alloc (Nat.le_refl _) _)
  have R0 : Hid ((w.alloc (.cells #[.slice A0 ss.length c0, .slice A1 ps.length c1, .int .i64 fz, .bool off, .int .i64 b, .int .i64 l, .int .i64 q, .int .i64 t, .int .i64 sq, .int .i64 at_, .slice A10 lg.length c10, .slice A11 dt.length c11] 42)).heap[w.heap.size]? = some (.cells #[.slice A0 ss.length c0, .slice A1 ps.length c1, .int .i64 fz, .bool off, .int .i64 b, .int .i64 l, .int .i64 q, .int .i64 t, .int .i64 sq, .int .i64 at_, .slice A10 lg.length c10, .slice A11 dt.length c11] 42 (0, 0))) := Lib.hid (heap_alloc_new w _)
  have Lt0 : Hid (w.heap.size < (w.alloc (.cells #[.slice A0 ss.length c0, .slice A1 ps.length c1, .int .i64 fz, .bool off, .int .i64 b, .int .i64 l, .int .i64 q, .int .i64 t, .int .i64 sq, .int .i64 at_, .slice A10 lg.length c10, .slice A11 dt.length c11] 42)).heap.size) := Lib.hid (by simp)
  have C1 := Lib.hid (implValidPager_any (fz := fz) (off := off) (q := q) (t := t) (sq := sq) (at_ := at_) (H0.out.at hB Hb0.out) (H1.out.at hB Hb0.out) (H10.out.at hB Hb0.out) (H11.out.at hB Hb0.out) (Nat.le_refl _) i4 i5)
  have C2 : Hid (pgrOk ss ps fz off b l q t sq at_ lg dt = true → ∀ W, Below w.heap.size w W → _) := Lib.hid (fun hok W hW => spaceOf_any (w := W) (fz := fz) (off := off) (q := q) (t := t) (sq := sq) (at_ := at_) (H0.out.at hB hW) (H1.out.at hB hW) (H10.out.at hB hW) (H11.out.at hB hW) (Nat.le_refl _) hok)
  have HZ : Hid (pgrOk ss ps fz off b l q t sq at_ lg dt = true → (arS ss ps l lg dt).size = 64 ∧ supOk b l q t = true) := Lib.hid (fun hok => ⟨arS_64 hok, (pgrOk_t hok).1⟩)
  have HV : Hid (iaV ss ps fz off b l q t sq at_ lg dt k = (pgrOk ss ps fz off b l q t sq at_ lg dt && (dtB b l k 1 && aB (arS ss ps l lg dt) k.toNat))) := Lib.hid rfl
  generalize iaV ss ps fz off b l q t sq at_ lg dt k = r at *
  generalize arS ss ps l lg dt = ar at *
  generalize pgrOk ss ps fz off b l q t sq at_ lg dt = z at *
  have hkI : InI k := by unfold InI; omega
  clear hk hk2
  go_enter Try.func27, Try.ntmps27
  go_wp2_with (refine wpList_load_row rfl 42 (.tmp 2) rfl _ rfl 42 _ (0, 0) _ R0.out Try.underlying42 rfl (by kernel_rfl) ?_)
  generalize (w.alloc (.cells #[.slice A0 ss.length c0, .slice A1 ps.length c1, .int .i64 fz, .bool off, .int .i64 b, .int .i64 l, .int .i64 q, .int .i64 t, .int .i64 sq, .int .i64 at_, .slice A10 lg.length c10, .slice A11 dt.length c11] 42)) = w0 at *
  refine C1.out.mono ?_
  rintro e w1 ⟨rfl, g⟩
  have Hb1 := Lib.hid (Hb0.out.trans (g.mono Hb0.out.size))
  have R1 := Lib.hid ((g.block _ Lt0.out).trans R0.out)
  clear g
  cases z
  · have Hf : Hid (r = false) := Lib.hid (by rw [HV.out]; rfl)
    go_wp2_with fail
    go_ret
    exact ⟨by rw [Hf.out]; rfl, Hb1.out⟩
  have Hf : Hid (r = (dtB b l k 1 && aB ar k.toNat)) := Lib.hid (by rw [HV.out]; rfl)
  have hzz := HZ.out (by first | rfl | trivial)
  have q0 : w1.cell? ⟨w.heap.size, 0, none⟩ = some (.slice A0 ss.length c0) := by rw [cell_of_row _ _ _ _ _ _ R1.out]; rfl
  have q1 : w1.cell? ⟨w.heap.size, 1, none⟩ = some (.slice A1 ps.length c1) := by rw [cell_of_row _ _ _ _ _ _ R1.out]; rfl
  have q2 : w1.cell? ⟨w.heap.size, 2, none⟩ = some (.int .i64 fz) := by rw [cell_of_row _ _ _ _ _ _ R1.out]; rfl
  have q3 : w1.cell? ⟨w.heap.size, 3, none⟩ = some (.bool off) := by rw [cell_of_row _ _ _ _ _ _ R1.out]; rfl
  have q4 : w1.cell? ⟨w.heap.size, 4, none⟩ = some (.int .i64 b) := by rw [cell_of_row _ _ _ _ _ _ R1.out]; rfl
  have q5 : w1.cell? ⟨w.heap.size, 5, none⟩ = some (.int .i64 l) := by rw [cell_of_row _ _ _ _ _ _ R1.out]; rfl
  have q6 : w1.cell? ⟨w.heap.size, 6, none⟩ = some (.int .i64 q) := by rw [cell_of_row _ _ _ _ _ _ R1.out]; rfl
  have q7 : w1.cell? ⟨w.heap.size, 7, none⟩ = some (.int .i64 t) := by rw [cell_of_row _ _ _ _ _ _ R1.out]; rfl
  have q8 : w1.cell? ⟨w.heap.size, 8, none⟩ = some (.int .i64 sq) := by rw [cell_of_row _ _ _ _ _ _ R1.out]; rfl
  have q9 : w1.cell? ⟨w.heap.size, 9, none⟩ = some (.int .i64 at_) := by rw [cell_of_row _ _ _ _ _ _ R1.out]; rfl
  have q10 : w1.cell? ⟨w.heap.size, 10, none⟩ = some (.slice A10 lg.length c10) := by rw [cell_of_row _ _ _ _ _ _ R1.out]; rfl
  have q11 : w1.cell? ⟨w.heap.size, 11, none⟩ = some (.slice A11 dt.length c11) := by rw [cell_of_row _ _ _ _ _ _ R1.out]; rfl
  go_wp2_with fail
  clear q0 q1 q2 q3 q4 q5 q6 q7 q8 q9 q10 q11
  refine (C2.out (by first | rfl | trivial) _ Hb1.out).mono ?_
  rintro e w2 ⟨g, cap, rfl, hc1, hc2, hg1, hg2, hby, gg⟩
  have Hb2 := Lib.hid (Hb1.out.trans (gg.mono Hb1.out.size)); clear gg
  have C3 := Lib.hid (isTaken_any (cap := cap) (k := k) hzz.2 hkI hzz.1 hg2 hby)
  clear hby hc1 hc2 hg1 hg2 hzz hkI
  generalize (dtB b l k 1 && aB ar k.toNat) = y at *
  go_wp2_with fail
  refine C3.out.mono ?_
  rintro e w3 ⟨rfl, gg⟩
  have Hb3 := Lib.hid (Hb2.out.trans (gg.mono Hb2.out.size)); clear gg
  go_wp2_with fail
  go_ret
  exact ⟨by rw [Hf.out]; rfl, Hb3.out⟩
end Go.Proofs.Ytlickjmdlooapaa
