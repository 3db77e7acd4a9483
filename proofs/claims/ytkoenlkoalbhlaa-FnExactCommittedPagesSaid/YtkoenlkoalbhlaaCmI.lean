/- All committed pages: the program. No statement is proved here. -/
import Derived.Test.YtkoenlkoalbhlaaCmS
import Derived.Test.YtkoenlkoalbhlaaGpI
namespace Go.Proofs.Ytkoenlkoalbhlaa
open Go.RowKit
set_option linter.unusedVariables false
set_option maxHeartbeats 4000000 in
set_option maxRecDepth 100000 in
theorem implCommittedPages_any {B : Nat} {w : World} {v0 v1 v10 v11 : Value} {ss : List ByteArray} {ps lg dt : List Pt} {fz b l q t sq at_ : Int} {off : Bool} (h0 : RiT B w v0 ss) (h1 : RiU B w v1 ps) (h10 : RiU B w v10 lg) (h11 : RiU B w v11 dt) (hB : B ≤ w.heap.size) (i4 : InI b) (i5 : InI l) :
    Calls Try.prog 65 #[.agg #[v0, v1, .int .i64 fz, .bool off, .int .i64 b, .int .i64 l, .int .i64 q, .int .i64 t, .int .i64 sq, .int .i64 at_, v10, v11]] w (AnsTC (cpD ss ps fz off b l q t sq at_ lg dt) (cpC ss ps fz off b l q t sq at_ lg dt) w) := by
  have H0 := Lib.hid h0; obtain ⟨A0, c0, rfl, l0, m0, -⟩ := h0
  have H1 := Lib.hid h1; obtain ⟨A1, c1, rfl, l1, m1, -⟩ := h1
  have H10 := Lib.hid h10; obtain ⟨A10, c10, rfl, l10, m10, -⟩ := h10
  have H11 := Lib.hid h11; obtain ⟨A11, c11, rfl, l11, m11, -⟩ := h11
  unfold maxLen at m0
  have Hb0 : Hid (Below w.heap.size w (w.alloc (.cells #[.slice A0 ss.length c0, .slice A1 ps.length c1, .int .i64 fz, .bool off, .int .i64 b, .int .i64 l, .int .i64 q, .int .i64 t, .int .i64 sq, .int .i64 at_, .slice A10 lg.length c10, .slice A11 dt.length c11] 83))) := Lib.hid ((Below.refl _ w).alloc (Nat.le_refl _) _)
  have R0 : Hid ((w.alloc (.cells #[.slice A0 ss.length c0, .slice A1 ps.length c1, .int .i64 fz, .bool off, .int .i64 b, .int .i64 l, .int .i64 q, .int .i64 t, .int .i64 sq, .int .i64 at_, .slice A10 lg.length c10, .slice A11 dt.length c11] 83)).heap[w.heap.size]? = some (.cells #[.slice A0 ss.length c0, .slice A1 ps.length c1, .int .i64 fz, .bool off, .int .i64 b, .int .i64 l, .int .i64 q, .int .i64 t, .int .i64 sq, .int .i64 at_, .slice A10 lg.length c10, .slice A11 dt.length c11] 83 (0, 0))) := Lib.hid (heap_alloc_new w _)
  have Lt0 : Hid (w.heap.size < (w.alloc (.cells #[.slice A0 ss.length c0, .slice A1 ps.length c1, .int .i64 fz, .bool off, .int .i64 b, .int .i64 l, .int .i64 q, .int .i64 t, .int .i64 sq, .int .i64 at_, .slice A10 lg.length c10, .slice A11 dt.length c11] 83)).heap.size) := Lib.hid (by simp)
  have C1 := Lib.hid (implValidPager_any (fz := fz) (off := off) (q := q) (t := t) (sq := sq) (at_ := at_) (H0.out.at hB Hb0.out) (H1.out.at hB Hb0.out) (H10.out.at hB Hb0.out) (H11.out.at hB Hb0.out) (Nat.le_refl _) i4 i5)
  have C2 : Hid (∀ W k, Below w.heap.size w W → 0 ≤ k → k < (ss.length : Int) → (Lit.int .i64 k).wf = true → _) := Lib.hid (fun W k hW hk0 hk1 hk2 => committed_any (w := W) (k := k) (fz := fz) (off := off) (b := b) (l := l) (q := q) (t := t) (sq := sq) (at_ := at_) (H0.out.at hB hW) (H1.out.at hB hW) (H10.out.at hB hW) (H11.out.at hB hW) (Nat.le_refl _) hk0 hk1 hk2)
  have CA := Lib.hid (fun W => implAreaBlock_any b l q t W i4 i5)
  have HC : Hid (cpC ss ps fz off b l q t sq at_ lg dt = if pgrOk ss ps fz off b l q t sq at_ lg dt then 0 else 1) := Lib.hid rfl
  have HD : Hid (cpD ss ps fz off b l q t sq at_ lg dt = if pgrOk ss ps fz off b l q t sq at_ lg dt then cmL ss ps lg (2 + l) (cpN b l) else []) := Lib.hid rfl
  generalize cpC ss ps fz off b l q t sq at_ lg dt = C at *
  generalize cpD ss ps fz off b l q t sq at_ lg dt = DD at *
  have Hok := Lib.hid (pgrOk_t (ss := ss) (ps := ps) (fz := fz) (off := off) (b := b) (l := l) (q := q) (t := t) (sq := sq) (at_ := at_) (lg := lg) (dt := dt))
  generalize pgrOk ss ps fz off b l q t sq at_ lg dt = z at *
  go_enter Try.func65, Try.ntmps65
  go_wp2_with (refine wpList_load_row rfl 83 (.tmp 1) rfl _ rfl 83 _ (0, 0) _ R0.out Try.underlying83 rfl (by kernel_rfl) ?_)
  generalize (w.alloc (.cells #[.slice A0 ss.length c0, .slice A1 ps.length c1, .int .i64 fz, .bool off, .int .i64 b, .int .i64 l, .int .i64 q, .int .i64 t, .int .i64 sq, .int .i64 at_, .slice A10 lg.length c10, .slice A11 dt.length c11] 83)) = w0 at *
  refine C1.out.mono ?_
  rintro e w1 ⟨rfl, g⟩
  have Hb1 := Lib.hid (Hb0.out.trans (g.mono Hb0.out.size))
  have R1 := Lib.hid ((g.block _ Lt0.out).trans R0.out)
  have Lt1 : Hid (w.heap.size + 1 ≤ w1.heap.size) := Lib.hid (by have := Lt0.out; have := g.size; omega)
  clear g
  cases z
  · have Hf : Hid (C = 1 ∧ DD = []) := Lib.hid ⟨by rw [HC.out]; rfl, by rw [HD.out]; rfl⟩
    go_wp2_with fail
    go_ret2
    exact ⟨_, by rw [Hf.out.1]; rfl, by rw [Hf.out.2]; exact OT.none _ _, Hb1.out⟩
  have HO := Lib.hid (Hok.out rfl); clear Hok
  have HA : Hid (arOf b l q t = 2 + l) := Lib.hid (by simp [arOf, HO.out.1])
  have hb := sup_b HO.out.1
  have hlb := (supOk_iff.1 HO.out.1).2.2.2.2.1
  have Hbs := Lib.hid HO.out.2
  have Hf : Hid (C = 0 ∧ DD = cmL ss ps lg (2 + l) (cpN b l)) := Lib.hid ⟨by rw [HC.out]; rfl, by rw [HD.out]; rfl⟩
  have hN : ((cpN b l : Nat) : Int) = b - (2 + l) := by unfold cpN; omega
  generalize cpN b l = N at *
  have hb2 := hb.2.2; clear hb
  have Hld := Lib.hid (run_load_cells (P := Try.prog) w1 w.heap.size 4 41 _ [.int .i64 b, .int .i64 l, .int .i64 q, .int .i64 t] (row_part R1.out (by intro j u hj; rcases j with _ | _ | _ | _ | j; all_goals first | exact hj | simp at hj)) Try.underlying41 rfl)
  go_wp2_with (refine wpList_load_agg rfl 41 (.tmp 9) rfl _ rfl _ Hld.out ?_)
  clear Hld
  refine (CA.out _).mono ?_
  rintro e w2 ⟨rfl, ga⟩
  rw [HA.out]
  have Hb2 := Lib.hid (Hb1.out.trans (ga.mono Hb1.out.size))
  have R2 := Lib.hid ((ga.block _ (by have := Lt1.out; omega)).trans R1.out)
  have Lt2 : Hid (w.heap.size + 1 ≤ w2.heap.size) := Lib.hid (by have := Lt1.out; have := ga.size; omega)
  clear ga
  go_wp2_with fail
  go_loopw [4, 5] (fun vl kv wr => ∃ k : Nat, k ≤ N ∧ kv = .int .i64 (2 + l + (k : Int)) ∧ OT wr (w.heap.size + 1) vl (cmL ss ps lg (2 + l) k) ∧ Below (w.heap.size + 1) w2 wr) (fun _ kv _ => N - (intOf kv - (2 + l)).toNat)
  case atStart => exact ⟨0, Nat.zero_le _, by simp, OT.none _ _, Below.refl _ _⟩
  case round =>
    obtain ⟨k, hk, rfl, hown, hbel⟩ := hrel
    have Hown := Lib.hid hown; have Hbel := Lib.hid hbel
    obtain ⟨VA, vc, rfl⟩ := OT.opened hown
    clear hown
    have Hbw : Hid (Below w.heap.size w wr) := Lib.hid (Hb2.out.trans (hbel.mono (Nat.le_succ _)))
    have Rr := Lib.hid ((hbel.block _ (Nat.lt_succ_self _)).trans R2.out)
    have Lr : Hid (w.heap.size + 1 ≤ wr.heap.size) := Lib.hid (by have := Lt2.out; have := hbel.size; omega)
    clear hbel
    have q4 : wr.cell? ⟨w.heap.size, 4, none⟩ = some (.int .i64 b) := by rw [cell_of_row _ _ _ _ _ _ Rr.out]; rfl
    have HLk := Lib.hid (cmL_len ss ps lg (2 + l) k)
    have HS := Lib.hid (cmL_succ ss ps lg (2 + l) k)
    have HNk : Hid (k = N → cmL ss ps lg (2 + l) k = cmL ss ps lg (2 + l) N) := Lib.hid (fun h => by rw [h])
    by_cases hlt : k < N
    · have d1 : decide (2 + l + (k : Int) < b) = true := decide_eq_true (by omega)
      have C3 := Lib.hid (C2.out wr (2 + l + (k : Int)) Hbw.out (by omega) (by have := Hbs.out; omega) (by simp [Lit.wf, IntKind.min, IntKind.max, IntKind.signed, IntKind.bits]; omega))
      generalize cmS ss ps lg (2 + l + (k : Int)) = x at *
      generalize cmL ss ps lg (2 + l) k = D at *
      go_wp2_with (refine wpList_load_row rfl 83 (.tmp 1) rfl _ rfl 83 _ (0, 0) _ Rr.out Try.underlying83 rfl (by kernel_rfl) ?_)
      clear q4 d1
      refine C3.out.mono ?_
      rintro e w3 ⟨rfl, g3⟩
      have Hb3 := Lib.hid (Hbel.out.trans (g3.mono Lr.out))
      have L3 : Hid (w.heap.size + 1 ≤ w3.heap.size) := Lib.hid (by have := Lr.out; have := g3.size; omega)
      have Ho3 := Lib.hid (own_bel Hown.out g3)
      clear g3 C3
      go_wp2_with (at_builtin; refine wpList_pushT (W := w3) (v := .slice VA D.length vc) (lo := w.heap.size + 1) (xs := D) (x := x) rfl (.tmp 19) (.tmp 23) rfl rfl rfl rfl Ho3.out L3.out (by have := HLk.out; omega) ?_; intro g4 cap4 w4 ow4 gr4 lt4; have Ho4 := Lib.hid ow4; have Hb4 := Lib.hid (pushT_bel Hb3.out Ho3.out (Nat.le_refl _) L3.out gr4); clear ow4 gr4)
      go_roundw
      case rel => exact ⟨k + 1, by omega, by go_num, by rw [HS.out]; have h4 := Ho4.out; rw [List.length_append] at h4; exact h4, Hb4.out⟩
      case measure => simp [intOf]; omega
    · have d1 : decide (2 + l + (k : Int) < b) = false := decide_eq_false (by omega)
      have Ho : Hid (OT wr w.heap.size (.slice VA (cmL ss ps lg (2 + l) k).length vc) DD) := Lib.hid (by rw [Hf.out.2, ← HNk.out (by omega)]; exact own_lo Hown.out (Nat.le_succ _))
      generalize (cmL ss ps lg (2 + l) k).length = nn at *
      go_wp2_with fail
      go_ret2
      exact ⟨_, by rw [Hf.out.1]; rfl, Ho.out, Hbw.out⟩
end Go.Proofs.Ytkoenlkoalbhlaa
