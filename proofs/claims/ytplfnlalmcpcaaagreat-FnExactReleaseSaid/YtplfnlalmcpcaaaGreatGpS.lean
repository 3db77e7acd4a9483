/- Pages read through a pager: the model's functions. No statement is proved here. -/
import Derived.Test.YtplfnlalmcpcaaaGreatPgV
namespace Go.Proofs.YtplfnlalmcpcaaaGreat
open Go.RowKit
set_option linter.unusedVariables false
theorem pgrOk_t {ss : List ByteArray} {ps lg dt : List Pt} {fz b l q t sq at_ : Int} {off : Bool} (h : pgrOk ss ps fz off b l q t sq at_ lg dt = true) : supOk b l q t = true ∧ b = (ss.length : Int) := by
  simp only [pgrOk, Bool.and_eq_true, decide_eq_true_eq] at h
  exact h.1.2.2
/-- What the committed pages hold at k, and what the transaction sees. -/
def cmS (ss : List ByteArray) (ps lg : List Pt) (k : Int) : ByteArray := if pgY lg k then pgX lg k else rdB ss ps k.toNat
def gtS (ss : List ByteArray) (ps lg dt : List Pt) (k : Int) : ByteArray := if pgY dt k then pgX dt k else cmS ss ps lg k
def gpC (ss : List ByteArray) (ps : List Pt) (fz : Int) (off : Bool) (b l q t sq at_ : Int) (lg dt : List Pt) (k : Int) : Int := if pgrOk ss ps fz off b l q t sq at_ lg dt then (if inB k (2 + l) (b - 1) then 0 else 2) else 1
def gpS (ss : List ByteArray) (ps : List Pt) (fz : Int) (off : Bool) (b l q t sq at_ : Int) (lg dt : List Pt) (k : Int) : ByteArray := if pgrOk ss ps fz off b l q t sq at_ lg dt then (if inB k (2 + l) (b - 1) then gtS ss ps lg dt k else ⟨#[]⟩) else ⟨#[]⟩
set_option maxHeartbeats 1000000 in
set_option maxRecDepth 100000 in
theorem l12Page_any {g : Nat} {w : World} {v0 v1 v10 v11 : Value} {fz b l q t sq at_ : Int} {off : Bool} (k : Int) (hg : w.heap[g]? = some (.cells #[v0, v1, .int .i64 fz, .bool off, .int .i64 b, .int .i64 l, .int .i64 q, .int .i64 t, .int .i64 sq, .int .i64 at_, v10, v11] 38 (0, 0))) (hs : supOk b l q t = true) :
    Calls Tryz.prog 38 #[.pointer (some ⟨g, 0, none⟩), .int .i64 k] w (GivesB (.bool (inB k (2 + l) (b - 1))) w) := by
  have hb := sup_b hs
  have HL := Lib.hid (supOk_l hs)
  have hgl : g < w.heap.size := by
    rcases Nat.lt_or_ge g w.heap.size with hl | hl
    · exact hl
    · rw [Array.getElem?_eq_none hl] at hg; cases hg
  have HG := Lib.hid hg; clear hg hs
  have wz : IntKind.i64.wrap (b - 1) = b - 1 := IntWalk.i64_in _ (by omega)
  have HI := Lib.hid (fun W => l00In_any k (2 + l) (b - 1) W)
  generalize inB k (2 + l) (b - 1) = r at *
  have HH : Hid (∀ W, Below w.heap.size w W → W.cell? ⟨g, 4, none⟩ = some (.int .i64 b) ∧ W.cell? ⟨g, 5, none⟩ = some (.int .i64 l) ∧ W.cell? ⟨g, 6, none⟩ = some (.int .i64 q) ∧ W.cell? ⟨g, 7, none⟩ = some (.int .i64 t)) := Lib.hid (fun W hW => by
    have hR := (hW.block _ hgl).trans HG.out
    exact ⟨by rw [cell_of_row _ _ _ _ _ _ hR]; rfl, by rw [cell_of_row _ _ _ _ _ _ hR]; rfl, by rw [cell_of_row _ _ _ _ _ _ hR]; rfl, by rw [cell_of_row _ _ _ _ _ _ hR]; rfl⟩)
  have Hd : Hid (Below w.heap.size w w.drew) := Lib.hid (Below.refl _ _).drew
  go_enter Tryz.func38, Tryz.ntmps38
  go_wp2
  go_region_held3 (fun W => W.cell? ⟨g, 4, none⟩ = some (.int .i64 b) ∧ W.cell? ⟨g, 5, none⟩ = some (.int .i64 l) ∧ W.cell? ⟨g, 6, none⟩ = some (.int .i64 q) ∧ W.cell? ⟨g, 7, none⟩ = some (.int .i64 t)) (exact HH.out _ (by first | exact kb | exact Hd.out))
    ((first | (go_at_call 86; go_fit (l10Area_any b l q t _ HL.out); rintro e u ⟨rfl, ga⟩; have kb : Below w.heap.size w u := Hd.out.trans (ga.mono Hd.out.size); clear ga) | (go_at_call 62; go_fit (HI.out _); rintro e u2 ⟨rfl, rfl⟩)))
  try simp only [Exit.then]
  have Hk := Lib.hid kb
  clear kb
  go_wp2
  go_ret
  exact ⟨rfl, Hk.out⟩
set_option maxHeartbeats 2000000 in
set_option maxRecDepth 100000 in
theorem l12Get_any {B g : Nat} {w : World} {v0 v1 v10 v11 : Value} {ss : List ByteArray} {ps lg dt : List Pt} {fz b l q t sq at_ : Int} {off : Bool} {k : Int} (hg : w.heap[g]? = some (.cells #[v0, v1, .int .i64 fz, .bool off, .int .i64 b, .int .i64 l, .int .i64 q, .int .i64 t, .int .i64 sq, .int .i64 at_, v10, v11] 38 (0, 0))) (h0 : RiT B w v0 ss) (h1 : RiU B w v1 ps) (h10 : RiU B w v10 lg) (h11 : RiU B w v11 dt) (hB : B ≤ w.heap.size) (hk0 : 0 ≤ k) (hk : k < (ss.length : Int)) :
    Calls Tryz.prog 109 #[.pointer (some ⟨g, 0, none⟩), .int .i64 k] w (GivesB (.string (gtS ss ps lg dt k)) w) := by
  have H0 := Lib.hid h0; obtain ⟨A0, c0, rfl, l0, m0, -⟩ := h0
  have H1 := Lib.hid h1; obtain ⟨A1, c1, rfl, l1, m1, -⟩ := h1
  have H10 := Lib.hid h10; obtain ⟨A10, c10, rfl, l10, m10, x10⟩ := h10
  have H11 := Lib.hid h11; obtain ⟨A11, c11, rfl, l11, m11, x11⟩ := h11
  unfold maxLen at m0 m1 m10 m11
  have X10 := Lib.hid x10; have X11 := Lib.hid x11; clear x10 x11
  obtain ⟨n, rfl⟩ : ∃ n : Nat, k = (n : Int) := ⟨k.toNat, by omega⟩
  have hn : n < ss.length := by omega
  have HT : Hid (gtS ss ps lg dt (n : Int) = if pgY dt (n : Int) then pgX dt (n : Int) else if pgY lg (n : Int) then pgX lg (n : Int) else rdB ss ps n) := Lib.hid rfl
  generalize gtS ss ps lg dt (n : Int) = r at *
  have hgl : g < w.heap.size := by
    rcases Nat.lt_or_ge g w.heap.size with hl | hl
    · exact hl
    · rw [Array.getElem?_eq_none hl] at hg; cases hg
  have HG := Lib.hid hg; clear hg
  have q11 : w.cell? ⟨g, 11, none⟩ = some (.slice A11 dt.length c11) := by rw [cell_of_row _ _ _ _ _ _ HG.out]; rfl
  go_enter Tryz.func109, Tryz.ntmps109
  go_wp2_with fail
  clear q11
  refine (l11Find_any (n : Int) H11.out hB).mono ?_
  rintro e w1 ⟨rfl, g1⟩
  have Hb1 := Lib.hid g1; clear g1
  have R1 := Lib.hid ((Hb1.out.block _ hgl).trans HG.out)
  rcases pg_cases dt (n : Int) with ⟨j, hj, e1, e2, e3⟩ | ⟨e1, e2, e3⟩
  · obtain ⟨bb, o, rfl, hb, hc1, hc2, -, -⟩ := X11.out j hj
    have Hf : Hid (r = dt[j].2) := Lib.hid (by rw [HT.out, e3, if_pos rfl, e2])
    rw [e1]
    have q11 : w1.cell? ⟨g, 11, none⟩ = some (.slice (some ⟨bb, o, none⟩) dt.length c11) := by rw [cell_of_row _ _ _ _ _ _ R1.out]; rfl
    have g2 := (Hb1.out.cell (p := ⟨bb, o + j * 2 + 1, none⟩) (show bb < _ by omega)).trans hc2
    clear hc1 hc2 e1 e2 e3
    generalize dt[j].2 = s at *
    go_wp2_with fail
    go_ret
    exact ⟨by rw [Hf.out]; rfl, Hb1.out⟩
  have HT2 : Hid (r = if pgY lg (n : Int) then pgX lg (n : Int) else rdB ss ps n) := Lib.hid (by rw [HT.out, e3]; rfl)
  rw [e1]
  clear e1 e2 e3
  have q10 : w1.cell? ⟨g, 10, none⟩ = some (.slice A10 lg.length c10) := by rw [cell_of_row _ _ _ _ _ _ R1.out]; rfl
  go_wp2_with fail
  clear q10
  refine (l11Find_any (n : Int) (H10.out.at hB Hb1.out) (Nat.le_refl _)).mono ?_
  rintro e w2 ⟨rfl, g1⟩
  have Hb2 := Lib.hid (Hb1.out.trans (g1.mono Hb1.out.size)); clear g1
  have R2 := Lib.hid ((Hb2.out.block _ hgl).trans HG.out)
  rcases pg_cases lg (n : Int) with ⟨j, hj, e1, e2, e3⟩ | ⟨e1, e2, e3⟩
  · obtain ⟨bb, o, rfl, hb, hc1, hc2, -, -⟩ := X10.out j hj
    have Hf : Hid (r = lg[j].2) := Lib.hid (by rw [HT2.out, e3, if_pos rfl, e2])
    rw [e1]
    have q10 : w2.cell? ⟨g, 10, none⟩ = some (.slice (some ⟨bb, o, none⟩) lg.length c10) := by rw [cell_of_row _ _ _ _ _ _ R2.out]; rfl
    have g2 := (Hb2.out.cell (p := ⟨bb, o + j * 2 + 1, none⟩) (show bb < _ by omega)).trans hc2
    clear hc1 hc2 e1 e2 e3
    generalize lg[j].2 = s at *
    go_wp2_with fail
    go_ret
    exact ⟨by rw [Hf.out]; rfl, Hb2.out⟩
  have Hf : Hid (r = rdB ss ps n) := Lib.hid (by rw [HT2.out, e3]; rfl)
  rw [e1]
  clear e1 e2 e3
  have HC := Lib.hid (l09ReadC_any (g := g) (w := w2) hn (by rw [cell_of_row _ _ _ _ _ _ R2.out]; rfl) (by rw [cell_of_row _ _ _ _ _ _ R2.out]; rfl) (H0.out.at hB Hb2.out) (H1.out.at hB Hb2.out))
  generalize rdB ss ps n = s at *
  go_wp2_with ((go_at_call 148; refine HC.out.mono ?_; rintro e w' ⟨rfl, rfl⟩))
  go_ret
  exact ⟨by rw [Hf.out]; rfl, Hb2.out⟩
end Go.Proofs.YtplfnlalmcpcaaaGreat
