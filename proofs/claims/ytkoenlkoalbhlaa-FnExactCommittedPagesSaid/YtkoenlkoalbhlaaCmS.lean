/- All committed pages: the model. No statement is proved here. -/
import Derived.Test.YtkoenlkoalbhlaaGpS
import Derived.Test.YtkoenlkoalbhlaaPsT
namespace Go.Proofs.Ytkoenlkoalbhlaa
open Go.RowKit
set_option linter.unusedVariables false
def cmL (ss : List ByteArray) (ps lg : List Pt) (a : Int) (n : Nat) : List ByteArray := (List.range n).map fun (i : Nat) => cmS ss ps lg (a + (i : Int))
theorem cmL_len (ss : List ByteArray) (ps lg : List Pt) (a : Int) (n : Nat) : (cmL ss ps lg a n).length = n := by simp [cmL]
theorem cmL_succ (ss : List ByteArray) (ps lg : List Pt) (a : Int) (n : Nat) : cmL ss ps lg a (n + 1) = cmL ss ps lg a n ++ [cmS ss ps lg (a + (n : Int))] := by simp [cmL, List.range_succ]
/-- The answer: a list of strings of one's own. -/
def AnsT (D : List ByteArray) (w : World) (e : Ending) (w' : World) : Prop := ∃ v : Value, e = .returned v ∧ OT w' w.heap.size v D ∧ Below w.heap.size w w'
def AnsTC (D : List ByteArray) (c : Int) (w : World) (e : Ending) (w' : World) : Prop := ∃ v : Value, e = .returned (.tuple #[v, .int .i64 c]) ∧ OT w' w.heap.size v D ∧ Below w.heap.size w w'
def cpN (b l : Int) : Nat := (b - (2 + l)).toNat
def cpD (ss : List ByteArray) (ps : List Pt) (fz : Int) (off : Bool) (b l q t sq at_ : Int) (lg dt : List Pt) : List ByteArray := if pgrOk ss ps fz off b l q t sq at_ lg dt then cmL ss ps lg (2 + l) (cpN b l) else []
def cpC (ss : List ByteArray) (ps : List Pt) (fz : Int) (off : Bool) (b l q t sq at_ : Int) (lg dt : List Pt) : Int := if pgrOk ss ps fz off b l q t sq at_ lg dt then 0 else 1
theorem OT.opened {W : World} {lo : Nat} {v : Value} {ss : List ByteArray} (h : OT W lo v ss) : ∃ A cap, v = .slice A ss.length cap := by
  rcases h.sl with ⟨rfl, rfl⟩ | ⟨x, cap, rfl, _⟩ <;> exact ⟨_, _, rfl⟩
theorem OT.none (w : World) (lo : Nat) : OT w lo (.slice none 0 0) [] := ⟨rfl, .inl ⟨rfl, rfl⟩⟩
set_option maxHeartbeats 4000000 in
set_option maxRecDepth 100000 in
theorem l12All_any {B g : Nat} {w : World} {v0 v1 v10 v11 : Value} {ss : List ByteArray} {ps lg : List Pt} {fz b l q t sq at_ : Int} {off : Bool} (hg : w.heap[g]? = some (.cells #[v0, v1, .int .i64 fz, .bool off, .int .i64 b, .int .i64 l, .int .i64 q, .int .i64 t, .int .i64 sq, .int .i64 at_, v10, v11] 83 (0, 0))) (h0 : RiT B w v0 ss) (h1 : RiU B w v1 ps) (h10 : RiU B w v10 lg) (hB : B ≤ w.heap.size) (hs : supOk b l q t = true) (hbs : b = (ss.length : Int)) :
    Calls Try.prog 123 #[.pointer (some ⟨g, 0, none⟩)] w (AnsT (cmL ss ps lg (2 + l) (cpN b l)) w) := by
  have H0 := Lib.hid h0; obtain ⟨A0, c0, rfl, l0, m0, -⟩ := h0
  have H1 := Lib.hid h1; obtain ⟨A1, c1, rfl, l1, m1, -⟩ := h1
  have H10 := Lib.hid h10; obtain ⟨A10, c10, rfl, l10, m10, x10⟩ := h10
  unfold maxLen at m0 m1 m10
  have X10 := Lib.hid x10; clear x10
  have hgl : g < w.heap.size := by
    rcases Nat.lt_or_ge g w.heap.size with hl | hl
    · exact hl
    · rw [Array.getElem?_eq_none hl] at hg; cases hg
  have HG := Lib.hid hg; clear hg
  have hb := sup_b hs
  have hlb := (supOk_iff.1 hs).2.2.2.2.1
  have HL := Lib.hid (supOk_l hs)
  clear hs
  have Hbs := Lib.hid hbs; clear hbs
  have hN : ((cpN b l : Nat) : Int) = b - (2 + l) := by unfold cpN; omega
  generalize cpN b l = N at *
  have hb2 := hb.2.2; clear hb
  have Hb0 : Hid (Below w.heap.size w (w.alloc (.cells #[] 9))) := Lib.hid ((Below.refl _ w).alloc (Nat.le_refl _) _)
  have Ho0 : Hid (OT (w.alloc (.cells #[] 9)) w.heap.size (.slice (some ⟨w.heap.size, 0, none⟩) 0 0) []) := Lib.hid (World.ownsRow_made w #[] 0 (Nat.le_refl _) (by decide) (by simp))
  have R0 := Lib.hid ((Hb0.out.block _ hgl).trans HG.out)
  have Hld := Lib.hid (run_load_cells (P := Try.prog) (w.alloc (.cells #[] 9)) g 4 41 _ [.int .i64 b, .int .i64 l, .int .i64 q, .int .i64 t] (row_part R0.out (by intro j u hj; rcases j with _ | _ | _ | _ | j; all_goals first | exact hj | simp at hj)) Try.underlying41 rfl)
  go_enter Try.func123, Try.ntmps123
  go_wp2_with (refine wpList_load_agg rfl 41 (.tmp 9) rfl _ rfl _ Hld.out ?_)
  clear Hld
  generalize (w.alloc (.cells #[] 9)) = w0 at *
  refine (l10Area_any b l q t _ HL.out).mono ?_
  rintro e w1 ⟨rfl, ga⟩
  have Hb1 := Lib.hid (Hb0.out.trans (ga.mono Hb0.out.size))
  have Ho1 := Lib.hid (own_bel Ho0.out ga)
  clear ga
  go_wp2_with fail
  go_loopw [3, 4] (fun vl kv wr => ∃ k : Nat, k ≤ N ∧ kv = .int .i64 (2 + l + (k : Int)) ∧ OT wr w.heap.size vl (cmL ss ps lg (2 + l) k) ∧ Below w.heap.size w wr) (fun _ kv _ => N - (intOf kv - (2 + l)).toNat)
  case atStart => exact ⟨0, Nat.zero_le _, by simp, Ho1.out, Hb1.out⟩
  case round =>
    obtain ⟨k, hk, rfl, hown, hbel⟩ := hrel
    have Hown := Lib.hid hown; have Hbel := Lib.hid hbel
    obtain ⟨VA, vc, rfl⟩ := OT.opened hown
    clear hown
    have Rr := Lib.hid ((hbel.block _ hgl).trans HG.out)
    have hws : w.heap.size ≤ wr.heap.size := hbel.size
    clear hbel
    have q4 : wr.cell? ⟨g, 4, none⟩ = some (.int .i64 b) := by rw [cell_of_row _ _ _ _ _ _ Rr.out]; rfl
    have HLk := Lib.hid (cmL_len ss ps lg (2 + l) k)
    have HS := Lib.hid (cmL_succ ss ps lg (2 + l) k)
    have HNk : Hid (k = N → cmL ss ps lg (2 + l) k = cmL ss ps lg (2 + l) N) := Lib.hid (fun h => by rw [h])
    have Hcm : Hid (cmS ss ps lg (2 + l + (k : Int)) = if pgY lg (2 + l + (k : Int)) then pgX lg (2 + l + (k : Int)) else rdB ss ps (2 + l + (k : Int)).toNat) := Lib.hid rfl
    generalize cmS ss ps lg (2 + l + (k : Int)) = x at *
    generalize cmL ss ps lg (2 + l) k = D at *
    by_cases hlt : k < N
    · have d1 : decide (2 + l + (k : Int) < b) = true := decide_eq_true (by omega)
      have q10 : wr.cell? ⟨g, 10, none⟩ = some (.slice A10 lg.length c10) := by rw [cell_of_row _ _ _ _ _ _ Rr.out]; rfl
      go_wp2_with fail
      clear q4 q10 d1
      refine (l11Find_any (2 + l + (k : Int)) (H10.out.at hB Hbel.out) (Nat.le_refl _)).mono ?_
      rintro e w2 ⟨rfl, g2⟩
      have Hb2 := Lib.hid (Hbel.out.trans (g2.mono hws))
      have Hs2 : Hid (w.heap.size ≤ w2.heap.size) := Lib.hid (by have := g2.size; omega)
      have Ho2 := Lib.hid (own_bel Hown.out g2)
      have R2 := Lib.hid ((Hb2.out.block _ hgl).trans HG.out)
      clear g2
      rcases pg_cases lg (2 + l + (k : Int)) with ⟨j, hj, e1, e2, e3⟩ | ⟨e1, e2, e3⟩
      · obtain ⟨bb, o, rfl, hbb, hc1, hc2, -, -⟩ := X10.out j hj
        have Hx : Hid (x = lg[j].2) := Lib.hid (by rw [Hcm.out, e3, if_pos rfl, e2])
        rw [e1]
        have q10 : w2.cell? ⟨g, 10, none⟩ = some (.slice (some ⟨bb, o, none⟩) lg.length c10) := by rw [cell_of_row _ _ _ _ _ _ R2.out]; rfl
        have g3 := (Hb2.out.cell (p := ⟨bb, o + j * 2 + 1, none⟩) (show bb < _ by omega)).trans hc2
        clear hc1 hc2 e1 e2 e3
        rw [← Hx.out] at g3
        go_wp2_with (at_builtin; refine wpList_pushT (W := w2) (v := .slice VA D.length vc) (lo := w.heap.size) (xs := D) (x := x) rfl (.tmp 29) (.tmp 38) rfl rfl rfl rfl Ho2.out Hs2.out (by have := HLk.out; omega) ?_; intro g4 cap4 w4 ow4 gr4 lt4; have Ho4 := Lib.hid ow4; have Hb4 := Lib.hid (pushT_bel Hb2.out Ho2.out (Nat.le_refl _) Hs2.out gr4); clear ow4 gr4)
        go_roundw
        case rel => exact ⟨k + 1, by omega, by go_num, by rw [HS.out]; have h4 := Ho4.out; rw [List.length_append] at h4; exact h4, Hb4.out⟩
        case measure => simp [intOf]; omega
      · have Hx : Hid (x = rdB ss ps (2 + l + (k : Int)).toNat) := Lib.hid (by rw [Hcm.out, e3]; rfl)
        rw [e1]
        clear e1 e2 e3
        have HC := l09ReadC_any (g := g) (w := w2) (k := (2 + l + (k : Int)).toNat) (by have := Hbs.out; omega) (by rw [cell_of_row _ _ _ _ _ _ R2.out]; rfl) (by rw [cell_of_row _ _ _ _ _ _ R2.out]; rfl) (H0.out.at hB Hb2.out) (H1.out.at hB Hb2.out)
        rw [show (((2 + l + (k : Int)).toNat : Nat) : Int) = 2 + l + (k : Int) by omega, ← Hx.out] at HC
        have HC2 := Lib.hid HC
        clear HC
        go_wp2_with (first | (go_at_call 159; refine HC2.out.mono ?_; rintro e w' ⟨rfl, rfl⟩) | (at_builtin; refine wpList_pushT (W := w2) (v := .slice VA D.length vc) (lo := w.heap.size) (xs := D) (x := x) rfl (.tmp 40) (.tmp 46) rfl rfl rfl rfl Ho2.out Hs2.out (by have := HLk.out; omega) ?_; intro g4 cap4 w4 ow4 gr4 lt4; have Ho4 := Lib.hid ow4; have Hb4 := Lib.hid (pushT_bel Hb2.out Ho2.out (Nat.le_refl _) Hs2.out gr4); clear ow4 gr4))
        go_roundw
        case rel => exact ⟨k + 1, by omega, by go_num, by rw [HS.out]; have h4 := Ho4.out; rw [List.length_append] at h4; exact h4, Hb4.out⟩
        case measure => simp [intOf]; omega
    · have d1 : decide (2 + l + (k : Int) < b) = false := decide_eq_false (by omega)
      have Ho := Lib.hid (show OT wr w.heap.size (.slice VA D.length vc) (cmL ss ps lg (2 + l) N) from by rw [← HNk.out (by omega)]; exact Hown.out)
      go_wp2_with fail
      go_ret
      exact ⟨_, rfl, Ho.out, Hbel.out⟩
set_option maxHeartbeats 2000000 in
set_option maxRecDepth 100000 in
theorem specCommittedPages_any {B : Nat} {w : World} {v0 v1 v10 v11 : Value} {ss : List ByteArray} {ps lg dt : List Pt} {fz b l q t sq at_ : Int} {off : Bool} (h0 : RiT B w v0 ss) (h1 : RiU B w v1 ps) (h10 : RiU B w v10 lg) (h11 : RiU B w v11 dt) (hB : B ≤ w.heap.size) (i4 : InI b) (i5 : InI l) :
    Calls Try.prog 64 #[.agg #[v0, v1, .int .i64 fz, .bool off, .int .i64 b, .int .i64 l, .int .i64 q, .int .i64 t, .int .i64 sq, .int .i64 at_, v10, v11]] w (AnsTC (cpD ss ps fz off b l q t sq at_ lg dt) (cpC ss ps fz off b l q t sq at_ lg dt) w) := by
  have H0 := Lib.hid h0; obtain ⟨A0, c0, rfl, l0, m0, -⟩ := h0
  have H1 := Lib.hid h1; obtain ⟨A1, c1, rfl, l1, m1, -⟩ := h1
  have H10 := Lib.hid h10; obtain ⟨A10, c10, rfl, l10, m10, -⟩ := h10
  have H11 := Lib.hid h11; obtain ⟨A11, c11, rfl, l11, m11, -⟩ := h11
  have Hb0 : Hid (Below w.heap.size w (w.alloc (.cells #[.slice A0 ss.length c0, .slice A1 ps.length c1, .int .i64 fz, .bool off, .int .i64 b, .int .i64 l, .int .i64 q, .int .i64 t, .int .i64 sq, .int .i64 at_, .slice A10 lg.length c10, .slice A11 dt.length c11] 83))) := Lib.hid ((Below.refl _ w).alloc (Nat.le_refl _) _)
  have R0 : Hid ((w.alloc (.cells #[.slice A0 ss.length c0, .slice A1 ps.length c1, .int .i64 fz, .bool off, .int .i64 b, .int .i64 l, .int .i64 q, .int .i64 t, .int .i64 sq, .int .i64 at_, .slice A10 lg.length c10, .slice A11 dt.length c11] 83)).heap[w.heap.size]? = some (.cells #[.slice A0 ss.length c0, .slice A1 ps.length c1, .int .i64 fz, .bool off, .int .i64 b, .int .i64 l, .int .i64 q, .int .i64 t, .int .i64 sq, .int .i64 at_, .slice A10 lg.length c10, .slice A11 dt.length c11] 83 (0, 0))) := Lib.hid (heap_alloc_new w _)
  have Lt0 : Hid (w.heap.size < (w.alloc (.cells #[.slice A0 ss.length c0, .slice A1 ps.length c1, .int .i64 fz, .bool off, .int .i64 b, .int .i64 l, .int .i64 q, .int .i64 t, .int .i64 sq, .int .i64 at_, .slice A10 lg.length c10, .slice A11 dt.length c11] 83)).heap.size) := Lib.hid (by simp)
  have C1 := Lib.hid (l12Ok_any R0.out (H0.out.at hB Hb0.out) (H1.out.at hB Hb0.out) (H10.out.at hB Hb0.out) (H11.out.at hB Hb0.out) (Nat.le_refl _) i4 i5)
  have HC : Hid (cpC ss ps fz off b l q t sq at_ lg dt = if pgrOk ss ps fz off b l q t sq at_ lg dt then 0 else 1) := Lib.hid rfl
  have HD : Hid (cpD ss ps fz off b l q t sq at_ lg dt = if pgrOk ss ps fz off b l q t sq at_ lg dt then cmL ss ps lg (2 + l) (cpN b l) else []) := Lib.hid rfl
  generalize cpC ss ps fz off b l q t sq at_ lg dt = C at *
  generalize cpD ss ps fz off b l q t sq at_ lg dt = D at *
  have Hok := Lib.hid (pgrOk_t (ss := ss) (ps := ps) (fz := fz) (off := off) (b := b) (l := l) (q := q) (t := t) (sq := sq) (at_ := at_) (lg := lg) (dt := dt))
  generalize pgrOk ss ps fz off b l q t sq at_ lg dt = z at *
  go_enter Try.func64, Try.ntmps64
  go_wp2_with fail
  generalize (w.alloc (.cells #[.slice A0 ss.length c0, .slice A1 ps.length c1, .int .i64 fz, .bool off, .int .i64 b, .int .i64 l, .int .i64 q, .int .i64 t, .int .i64 sq, .int .i64 at_, .slice A10 lg.length c10, .slice A11 dt.length c11] 83)) = w0 at *
  refine C1.out.mono ?_
  rintro e w1 ⟨rfl, g⟩
  have Hb1 := Lib.hid (Hb0.out.trans (g.mono Hb0.out.size))
  have R1 := Lib.hid ((g.block _ Lt0.out).trans R0.out)
  have Lt1 : Hid (w.heap.size < w1.heap.size) := Lib.hid (by have := Lt0.out; have := g.size; omega)
  clear g
  cases z
  · have Hf : Hid (C = 1 ∧ D = []) := Lib.hid ⟨by rw [HC.out]; rfl, by rw [HD.out]; rfl⟩
    have Ho : Hid (OT (w1.alloc (.cells #[] 9)) w1.heap.size (.slice (some ⟨w1.heap.size, 0, none⟩) 0 0) []) := Lib.hid (World.ownsRow_made w1 #[] 0 (Nat.le_refl _) (by decide) (by simp))
    have Hb2 : Hid (Below w.heap.size w (w1.alloc (.cells #[] 9))) := Lib.hid (Hb1.out.alloc (Nat.le_of_lt Lt1.out) _)
    go_wp2_with fail
    go_ret2
    exact ⟨_, by rw [Hf.out.1]; rfl, by rw [Hf.out.2]; exact own_lo Ho.out (Nat.le_of_lt Lt1.out), Hb2.out⟩
  have HO := Lib.hid (Hok.out rfl); clear Hok
  have Hf : Hid (C = 0 ∧ D = cmL ss ps lg (2 + l) (cpN b l)) := Lib.hid ⟨by rw [HC.out]; rfl, by rw [HD.out]; rfl⟩
  have C2 := Lib.hid (l12All_any R1.out (H0.out.at hB Hb1.out) (H1.out.at hB Hb1.out) (H10.out.at hB Hb1.out) (Nat.le_refl _) HO.out.1 HO.out.2)
  generalize cmL ss ps lg (2 + l) (cpN b l) = D2 at *
  go_wp2_with fail
  refine C2.out.mono ?_
  rintro e w2 ⟨v, rfl, ho, g⟩
  have Hb2 := Lib.hid (Hb1.out.trans (g.mono Hb1.out.size))
  have Ho := Lib.hid ho
  clear g ho
  go_wp2_with fail
  go_ret2
  exact ⟨_, by rw [Hf.out.1]; rfl, by rw [Hf.out.2]; exact own_lo Ho.out (Nat.le_of_lt Lt1.out), Hb2.out⟩
end Go.Proofs.Ytkoenlkoalbhlaa
