/- Pagers: contracts of the program's helpers on pages and superblocks. No statement is proved here. -/
import Derived.Test.YtplfnlalmcpcaaaGreatPgo
import Derived.Test.YtplfnlalmcpcaaaGreatSpI
import Derived.Test.YtplfnlalmcpcaaaGreatVdI
namespace Go.Proofs.YtplfnlalmcpcaaaGreat
open Go.RowKit
set_option linter.unusedVariables false
theorem sup_b {b l q t : Int} (h : supOk b l q t = true) : InI b ∧ InI l ∧ 8 ≤ l ∧ l ≤ 64 ∧ 16 ≤ b ∧ b ≤ 256 := by
  have := supOk_iff.1 h
  unfold InI
  omega
set_option maxHeartbeats 1000000 in
set_option maxRecDepth 100000 in
theorem hasPage_any {b l q t : Int} (k : Int) (w : World) (hs : supOk b l q t = true) :
    Calls Tryz.prog 45 #[.agg #[.int .i64 b, .int .i64 l, .int .i64 q, .int .i64 t], .int .i64 k] w (GivesB (.bool (inB k (2 + l) (b - 1))) w) := by
  have hb := sup_b hs
  have HA : Hid (arOf b l q t = 2 + l) := Lib.hid (by simp [arOf, hs])
  have Hb0 : Hid (Below w.heap.size w (w.alloc (.cells #[.int .i64 b, .int .i64 l, .int .i64 q, .int .i64 t] 35))) := Lib.hid ((Below.refl _ w).alloc (Nat.le_refl _) _)
  have R0 : Hid ((w.alloc (.cells #[.int .i64 b, .int .i64 l, .int .i64 q, .int .i64 t] 35)).heap[w.heap.size]? = some (.cells #[.int .i64 b, .int .i64 l, .int .i64 q, .int .i64 t] 35 (0, 0))) := Lib.hid (heap_alloc_new w _)
  have Lt0 : Hid (w.heap.size < (w.alloc (.cells #[.int .i64 b, .int .i64 l, .int .i64 q, .int .i64 t] 35)).heap.size) := Lib.hid (by simp)
  have HC := Lib.hid (fun W => implAreaBlock_any b l q t W hb.1 hb.2.1)
  go_enter Tryz.func45, Tryz.ntmps45
  go_wp2_with fail
  generalize (w.alloc (.cells #[.int .i64 b, .int .i64 l, .int .i64 q, .int .i64 t] 35)) = w0 at *
  refine (HC.out _).mono ?_
  rintro e w1 ⟨rfl, g⟩
  rw [HA.out]
  have Hb1 : Hid (Below w.heap.size w w1) := Lib.hid (Hb0.out.trans (g.mono Hb0.out.size))
  have R1 : Hid (w1.heap[w.heap.size]? = _) := Lib.hid ((g.block _ Lt0.out).trans R0.out)
  clear g
  have q0 : w1.cell? ⟨w.heap.size, 0, none⟩ = some (.int .i64 b) := by rw [cell_of_row _ _ _ _ _ _ R1.out]; rfl
  by_cases h1 : 2 + l ≤ k
  · have d1 : decide (2 + l ≤ k) = true := decide_eq_true h1
    by_cases h2 : k < b
    · have d2 : decide (k < b) = true := decide_eq_true h2
      have Hf : Hid (inB k (2 + l) (b - 1) = true) := Lib.hid (inB_yes h1 (by omega))
      go_wp2_with fail
      go_ret
      exact ⟨by rw [Hf.out]; rfl, Hb1.out⟩
    · have d2 : decide (k < b) = false := decide_eq_false h2
      have Hf : Hid (inB k (2 + l) (b - 1) = false) := Lib.hid (inB_no (by omega))
      go_wp2_with fail
      go_ret
      exact ⟨by rw [Hf.out]; rfl, Hb1.out⟩
  · have d1 : decide (2 + l ≤ k) = false := decide_eq_false h1
    have Hf : Hid (inB k (2 + l) (b - 1) = false) := Lib.hid (inB_no (by omega))
    go_wp2_with fail
    go_ret
    exact ⟨by rw [Hf.out]; rfl, Hb1.out⟩
set_option maxHeartbeats 1000000 in
set_option maxRecDepth 100000 in
/-- The closure of hasPages: is this page outside? -/
theorem outside_any {g : Nat} {b l q t z : Int} {s : ByteArray} {w : World} {r : Bool} (hr : inB z (2 + l) (b - 1) = r) (hs : supOk b l q t = true) (hg : w.heap[g]? = some (.cells #[.int .i64 b, .int .i64 l, .int .i64 q, .int .i64 t] 35 (0, 0))) :
    Calls Tryz.prog 140 #[.agg #[.int .i64 z, .string s], .pointer (some ⟨g, 0, none⟩)] w (GivesB (.bool (!r)) w) := by
  have hgl : g < w.heap.size := by
    rcases Nat.lt_or_ge g w.heap.size with hl | hl
    · exact hl
    · rw [Array.getElem?_eq_none hl] at hg; cases hg
  have HC := Lib.hid (fun W => hasPage_any (b := b) (l := l) (q := q) (t := t) z W hs)
  rw [hr] at HC
  clear hr hs
  have Hb0 : Hid (Below w.heap.size w (w.alloc (.cells #[.int .i64 z, .string s] 77))) := Lib.hid ((Below.refl _ w).alloc (Nat.le_refl _) _)
  have R0 := Lib.hid ((Hb0.out.block _ hgl).trans hg)
  clear hg
  go_enter Tryz.func140, Tryz.ntmps140
  go_wp2_with (refine wpList_load_row rfl 35 (.tmp 1) rfl _ rfl 35 _ (0, 0) _ R0.out Tryz.underlying35 rfl (by kernel_rfl) ?_)
  refine (HC.out _).mono ?_
  rintro e w1 ⟨rfl, gg⟩
  have Hb1 := Lib.hid (Hb0.out.trans (gg.mono Hb0.out.size))
  clear gg
  cases r <;> (go_wp2_with fail; go_ret; exact ⟨rfl, Hb1.out⟩)
set_option maxHeartbeats 2000000 in
set_option maxRecDepth 100000 in
theorem indexOut_any {B g : Nat} {w : World} {v : Value} {ps : List Pt} {b l q t : Int} (h : RiU B w v ps) (hB : B ≤ w.heap.size) (hs : supOk b l q t = true) (hg : w.heap[g]? = some (.cells #[.int .i64 b, .int .i64 l, .int .i64 q, .int .i64 t] 35 (0, 0))) :
    Calls Tryz.prog 173 #[v, .func (.func 140) #[] #[.pointer (some ⟨g, 0, none⟩)]] w
      fun e w' => (∃ n : Int, e = .returned (.int .i64 n) ∧ -1 ≤ n ∧ n < 9223372036854775808 ∧ decide (0 ≤ n) = !wiOk b l ps) ∧ Below w.heap.size w w' := by
  obtain ⟨A, cap, rfl, hl, hcc, hx⟩ := h
  have hgl : g < w.heap.size := by
    rcases Nat.lt_or_ge g w.heap.size with hl | hl
    · exact hl
    · rw [Array.getElem?_eq_none hl] at hg; cases hg
  have Hx := Lib.hid hx; have HG := Lib.hid hg; have Hs := Lib.hid hs; clear hx hg hs
  unfold maxLen at hcc
  have HF : Hid (wiOk b l ps = allTo (wiAt b l ps) ps.length) := Lib.hid rfl
  generalize wiOk b l ps = r at *
  have Hbad : Hid (∀ k, k < ps.length → wiAt b l ps k = false → r = false) := Lib.hid (fun k hk h => by rw [HF.out, allTo_bad _ k _ hk h])
  go_enter Tryz.func173, Tryz.ntmps173
  go_wp2
  go_loopw [8] (fun i wr => ∃ k : Nat, k ≤ ps.length ∧ i = .int .i64 k ∧ Below w.heap.size w wr ∧ allTo (wiAt b l ps) k = true) (fun i _ => ps.length - (intOf i).toNat)
  case atStart => exact ⟨0, Nat.zero_le _, rfl, Below.refl _ _, allTo_zero _⟩
  case round =>
    obtain ⟨k, hk, rfl, hbel, hall⟩ := hrel
    have Hall := Lib.hid hall; have Hbel := Lib.hid hbel
    clear hall
    by_cases hlt : k < ps.length
    · obtain ⟨b1, o, rfl, hb, hc1, hc2, -, -⟩ := Hx.out k hlt
      have Hld := Lib.hid (run_load_cells (P := Tryz.prog) wr b1 (o + k * 2) 77 _ [.int .i64 ps[k].1, .string ps[k].2] (pg_bel hc1 hc2 (show b1 < _ from by omega) hbel) Tryz.underlying77 rfl)
      have HGr := Lib.hid ((hbel.block _ hgl).trans HG.out)
      have Hp : Hid (wiAt b l ps k = inB ps[k].1 (2 + l) (b - 1)) := Lib.hid (by unfold wiAt; rw [pgB_at ps k hlt])
      have Hk2 := Lib.hid (allTo_succ (wiAt b l ps) k)
      have Hno := Lib.hid (Hbad.out k hlt)
      have hs := hbel.size
      clear hc1 hc2 hbel
      generalize ps[k].1 = z at *
      generalize ps[k].2 = s at *
      cases hi : inB z (2 + l) (b - 1)
      · have Hi := Lib.hid hi
        have Hf := Lib.hid (Hno.out (by rw [Hp.out, hi]))
        clear hi
        go_wp2_with (refine wpList_load_agg rfl 77 (.tmp 14) rfl _ rfl _ Hld.out ?_)
        refine (outside_any Hi.out Hs.out HGr.out).mono ?_
        rintro e w2 ⟨rfl, g⟩
        have Hb2 : Hid (Below w.heap.size w w2) := Lib.hid (Hbel.out.trans (g.mono hs))
        clear g
        go_wp2
        go_ret
        exact ⟨⟨(k : Int), rfl, by omega, by omega, by rw [Hf.out]; simp⟩, Hb2.out⟩
      · have Hi := Lib.hid hi
        have Hall2 : Hid (allTo (wiAt b l ps) (k + 1) = true) := Lib.hid (by rw [Hk2.out, Hall.out, Hp.out, hi]; rfl)
        clear hi
        go_wp2_with (refine wpList_load_agg rfl 77 (.tmp 14) rfl _ rfl _ Hld.out ?_)
        refine (outside_any Hi.out Hs.out HGr.out).mono ?_
        rintro e w2 ⟨rfl, g⟩
        have Hb2 : Hid (Below w.heap.size w w2) := Lib.hid (Hbel.out.trans (g.mono hs))
        clear g
        go_wp2
        go_roundw
        case rel => exact ⟨k + 1, by omega, by go_num, Hb2.out, Hall2.out⟩
        case measure => simp [intOf]; omega
    · obtain rfl : k = ps.length := by omega
      have Hf : Hid (r = true) := Lib.hid (by rw [HF.out, Hall.out])
      clear hbel
      go_wp2
      go_ret
      exact ⟨⟨-1, rfl, by omega, by omega, by rw [Hf.out]; rfl⟩, Hbel.out⟩
set_option maxHeartbeats 2000000 in
set_option maxRecDepth 100000 in
theorem containsOut_any {B g : Nat} {w : World} {v : Value} {ps : List Pt} {b l q t : Int} (h : RiU B w v ps) (hB : B ≤ w.heap.size) (hs : supOk b l q t = true) (hg : w.heap[g]? = some (.cells #[.int .i64 b, .int .i64 l, .int .i64 q, .int .i64 t] 35 (0, 0))) :
    Calls Tryz.prog 139 #[v, .func (.func 140) #[] #[.pointer (some ⟨g, 0, none⟩)]] w (GivesB (.bool (!wiOk b l ps)) w) := by
  have HC := Lib.hid (indexOut_any h hB hs hg)
  obtain ⟨A, cap, rfl, -, -, -⟩ := h
  clear hg
  generalize wiOk b l ps = r at *
  go_enter Tryz.func139, Tryz.ntmps139
  go_wp2_with fail
  refine HC.out.mono ?_
  rintro e w1 ⟨⟨n, rfl, n1, n2, hn⟩, g⟩
  have Hb1 := Lib.hid g; have Hn := Lib.hid hn; clear g hn
  by_cases h0 : 0 ≤ n
  · have Hf : Hid ((!r) = true) := Lib.hid (by rw [← Hn.out]; simpa using h0)
    go_wp2_with fail
    go_ret
    exact ⟨by rw [Hf.out]; first | rfl | simp, Hb1.out⟩
  · have Hf : Hid ((!r) = false) := Lib.hid (by rw [← Hn.out]; simpa using h0)
    have h0' : decide (0 ≤ n) = false := by simpa using h0
    go_wp2_with fail
    go_ret
    exact ⟨by rw [Hf.out]; first | rfl | simp, Hb1.out⟩
set_option maxHeartbeats 1000000 in
set_option maxRecDepth 100000 in
theorem hasPages_any {B : Nat} {w : World} {v : Value} {ps : List Pt} {b l q t : Int} (h : RiU B w v ps) (hB : B ≤ w.heap.size) (hs : supOk b l q t = true) :
    Calls Tryz.prog 95 #[.agg #[.int .i64 b, .int .i64 l, .int .i64 q, .int .i64 t], v] w (GivesB (.bool (wiOk b l ps)) w) := by
  have Hb0 : Hid (Below w.heap.size w (w.alloc (.cells #[.int .i64 b, .int .i64 l, .int .i64 q, .int .i64 t] 35))) := Lib.hid ((Below.refl _ w).alloc (Nat.le_refl _) _)
  have HC := Lib.hid (containsOut_any (g := w.heap.size) (w := w.alloc (.cells #[.int .i64 b, .int .i64 l, .int .i64 q, .int .i64 t] 35)) (h.at hB Hb0.out) (Nat.le_refl _) hs (heap_alloc_new w _))
  obtain ⟨A, cap, rfl, -, -, -⟩ := h
  clear hs
  generalize wiOk b l ps = r at *
  go_enter Tryz.func95, Tryz.ntmps95
  go_wp2_with fail
  generalize (w.alloc (.cells #[.int .i64 b, .int .i64 l, .int .i64 q, .int .i64 t] 35)) = w0 at *
  refine HC.out.mono ?_
  rintro e w1 ⟨rfl, g⟩
  have Hb1 := Lib.hid (Hb0.out.trans (g.mono Hb0.out.size)); clear g
  cases r <;> (go_wp2_with fail; go_ret; exact ⟨rfl, Hb1.out⟩)
theorem lt_ok {l : Int} (h8 : 8 ≤ l) (m : Nat) : ftOk l (m : Int) = (decide ((m : Int) ≤ 60) && decide (rbN (m : Int) ≤ l)) := by
  unfold ftOk rbN
  rcases Nat.eq_zero_or_pos m with rfl | hm
  · simp [inB]; omega
  · have h0 : ¬ (m : Int) = 0 := by omega
    rw [decide_eq_false h0, Bool.false_or]
    by_cases h6 : (m : Int) ≤ 60
    · rw [inB_yes (by omega) h6]; rfl
    · rw [decide_eq_false h6]; simp
set_option maxHeartbeats 1000000 in
set_option maxRecDepth 100000 in
theorem logTakes_any {w : World} {n0 n1 n2 n3 : Int} (m : Nat) (h8 : 8 ≤ n1) :
    Calls Tryz.prog 96 #[.agg #[.int .i64 n0, .int .i64 n1, .int .i64 n2, .int .i64 n3], .int .i64 (m : Int)] w (GivesB (.bool (ftOk n1 (m : Int))) w) := by
  have HB0 : Hid (∀ n, Below w.heap.size w ((w.alloc (.cells #[.int .i64 n0, .int .i64 n1, .int .i64 n2, .int .i64 n3] 35)).drewN n)) := Lib.hid (fun n => below_draws ((Below.refl _ w).alloc (Nat.le_refl _) _) n)
  have HF := Lib.hid (lt_ok h8 m)
  generalize ftOk n1 (m : Int) = r at *
  by_cases h6 : (m : Int) ≤ 60
  rotate_left
  · have Hf : Hid (r = false) := Lib.hid (by rw [HF.out, decide_eq_false h6]; rfl)
    have d6 : decide ((m : Int) ≤ 60) = false := decide_eq_false h6
    clear HF
    go_enter Tryz.func96, Tryz.ntmps96
    go_wp2
    go_quiet (fail)
    go_wp2
    go_ret
    exact ⟨by rw [Hf.out]; rfl, HB0.out _⟩
  have d6 : decide ((m : Int) ≤ 60) = true := decide_eq_true h6
  have HC := Lib.hid (fun W => implRecordBlocks_q (m : Int) W)
  generalize rbN (m : Int) = y at *
  by_cases hy : y ≤ n1
  · have Hf : Hid (r = true) := Lib.hid (by rw [HF.out, d6, decide_eq_true hy]; rfl)
    have dy : decide (y ≤ n1) = true := decide_eq_true hy
    clear HF
    go_enter Tryz.func96, Tryz.ntmps96
    go_wp2
    go_quiet ((go_at_call 141; exact Quiet.qs (HC.out _)))
    go_wp2
    go_ret
    exact ⟨by rw [Hf.out]; rfl, HB0.out _⟩
  · have Hf : Hid (r = false) := Lib.hid (by rw [HF.out, d6, decide_eq_false hy]; rfl)
    have dy : decide (y ≤ n1) = false := decide_eq_false hy
    clear HF
    go_enter Tryz.func96, Tryz.ntmps96
    go_wp2
    go_quiet ((go_at_call 141; exact Quiet.qs (HC.out _)))
    go_wp2
    go_ret
    exact ⟨by rw [Hf.out]; rfl, HB0.out _⟩
end Go.Proofs.YtplfnlalmcpcaaaGreat
