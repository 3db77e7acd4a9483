/- Pagers: which are valid; contracts of the model's checks. No statement is proved here. -/
import Derived.Test.YtplfnlalmcpcaaaGreatPgr
import Derived.Test.YtplfnlalmcpcaaaGreatRcd
import Derived.Test.YtplfnlalmcpcaaaGreatDkR
import Derived.Test.YtplfnlalmcpcaaaGreatSup
import Derived.Test.YtplfnlalmcpcaaaGreatHeld
namespace Go.Proofs.YtplfnlalmcpcaaaGreat
open Go.RowKit
set_option linter.unusedVariables false
set_option maxHeartbeats 2000000 in
set_option maxRecDepth 100000 in
theorem l09OkC_any {B g : Nat} {w : World} {v1 v2 : Value} {ss : List ByteArray} {ps : List Pt} {fz : Int} {r : Bool} (hr : dskOk ss ps fz = r) (q0 : w.cell? ⟨g, 0, none⟩ = some v1) (q1 : w.cell? ⟨g, 1, none⟩ = some v2) (q2 : w.cell? ⟨g, 2, none⟩ = some (.int .i64 fz)) (h1 : RiT B w v1 ss) (h2 : RiU B w v2 ps) :
    Calls Tryz.prog 81 #[.pointer (some ⟨g, 0, none⟩)] w (Quiet (.bool r) w) := by
  obtain ⟨A1, c1, rfl, hl1, hm1, hx1⟩ := h1
  obtain ⟨A2, c2, rfl, hl2, hm2, hx2⟩ := h2
  unfold maxLen at hm1 hm2
  have Hr := Lib.hid hr; clear hr
  have Hx1 := Lib.hid hx1; have Hx2 := Lib.hid hx2; clear hx1 hx2
  cases hn : inB ss.length 16 256
  · have Hn := Lib.hid hn; clear hn
    have Hf : Hid (r = false) := Lib.hid (by rw [← Hr.out]; exact dskOk_n1 Hn.out)
    go_enter Tryz.func81, Tryz.ntmps81
    go_wp2_with ((go_at_call 62; refine (l00In_no _ _ _ _ Hn.out).mono ?_; rintro e w' ⟨rfl, rfl⟩))
    go_ret
    exact ⟨by rw [Hf.out]; rfl, rfl⟩
  have Hn := Lib.hid hn; clear hn
  by_cases hp : ps.length ≤ 600
  rotate_left
  · have Hf : Hid (r = false) := Lib.hid (by rw [← Hr.out]; exact dskOk_n2 hp)
    have hp2 : decide ((600 : Int) < (ps.length : Int)) = true := decide_eq_true (by omega)
    go_enter Tryz.func81, Tryz.ntmps81
    go_wp2_with ((go_at_call 62; refine (l00In_yes _ _ _ _ Hn.out).mono ?_; rintro e w' ⟨rfl, rfl⟩))
    go_ret
    exact ⟨by rw [Hf.out]; rfl, rfl⟩
  have hp2 : decide ((600 : Int) < (ps.length : Int)) = false := decide_eq_false (by omega)
  cases hz : inB fz (-1) 100000
  · have Hz := Lib.hid hz; clear hz
    have Hf : Hid (r = false) := Lib.hid (by rw [← Hr.out]; exact dskOk_n3 Hz.out)
    go_enter Tryz.func81, Tryz.ntmps81
    go_wp2_with (first | (go_at_call 62; ((with_reducible refine (l00In_yes _ _ _ _ Hn.out).mono ?_); rintro e w' ⟨rfl, rfl⟩)) | (go_at_call 62; refine (l00In_no _ _ _ _ Hz.out).mono ?_; rintro e w' ⟨rfl, rfl⟩))
    go_ret
    exact ⟨by rw [Hf.out]; rfl, rfl⟩
  have Hz := Lib.hid hz; clear hz
  have hs256 : ss.length ≤ 256 := by have h := (inB_iff.1 Hn.out).2; omega
  go_enter Tryz.func81, Tryz.ntmps81
  go_wp2_with (first | (go_at_call 62; ((with_reducible refine (l00In_yes _ _ _ _ Hn.out).mono ?_); rintro e w' ⟨rfl, rfl⟩)) | (go_at_call 62; refine (l00In_yes _ _ _ _ Hz.out).mono ?_; rintro e w' ⟨rfl, rfl⟩))
  go_loop [4] (fun i => ∃ k : Nat, k ≤ ss.length ∧ i = .int .i64 (k : Int) ∧ allTo (bkAt ss) k = true) (fun i => ss.length - (intOf i).toNat)
  case atStart => exact ⟨0, Nat.zero_le _, rfl, allTo_zero _⟩
  case round =>
    obtain ⟨k, hk, rfl, hall⟩ := hrel
    have Hall := Lib.hid hall; clear hall
    by_cases hlt : k < ss.length
    · obtain ⟨b, o, rfl, hb, hc, -⟩ := Hx1.out k hlt
      have HP := Lib.hid (bkAt_at ss k hlt)
      have HS := Lib.hid (allTo_succ (bkAt ss) k)
      have Hbad : Hid (bkAt ss k = false → r = false) := Lib.hid (fun h => by rw [← Hr.out]; exact dskOk_n4 hlt h)
      generalize ss[k] = s at *
      by_cases hs : s.size = 64
      · have h64 : ((s.size : Int) != 64) = false := by simp; omega
        have h65 : (s.size : Int) = 64 := by omega
        have Hall2 : Hid (allTo (bkAt ss) (k + 1) = true) := Lib.hid (by rw [HS.out, Hall.out, HP.out]; simpa using hs)
        clear hs
        go_wp2
        go_round
        case rel => exact ⟨k + 1, by omega, by go_num, Hall2.out⟩
        case measure => simp [intOf]; omega
      · have Hf := Lib.hid (Hbad.out (by rw [HP.out]; simpa using hs))
        have h64 : ((s.size : Int) != 64) = true := by simp; omega
        have h65 : ¬ (s.size : Int) = 64 := by omega
        clear hs Hbad
        go_wp2
        go_ret
        exact ⟨by rw [Hf.out]; rfl, rfl⟩
    · obtain rfl : k = ss.length := by omega
      go_wp2
      go_loop [5] (fun i => ∃ j : Nat, j ≤ ps.length ∧ i = .int .i64 (j : Int) ∧ allTo (pdAt ss.length ps) j = true) (fun i => ps.length - (intOf i).toNat)
      case atStart => exact ⟨0, Nat.zero_le _, rfl, allTo_zero _⟩
      case round =>
        obtain ⟨j, hj, rfl, hal2⟩ := hrel
        have Hal2 := Lib.hid hal2; clear hal2
        by_cases hlj : j < ps.length
        · obtain ⟨b, o, rfl, hb, hc1, hc2, -, -⟩ := Hx2.out j hlj
          have HP := Lib.hid (pdAt_at ss.length ps j hlj)
          have HS := Lib.hid (allTo_succ (pdAt ss.length ps) j)
          have Hbad : Hid (pdAt ss.length ps j = false → r = false) := Lib.hid (fun h => by rw [← Hr.out]; exact dskOk_n5 hlj h)
          generalize ps[j].1 = z at *
          generalize ps[j].2 = s at *
          cases hi : inB z 0 ((ss.length : Int) - 1)
          · have Hi := Lib.hid hi
            have Hf := Lib.hid (Hbad.out (by rw [HP.out, hi]; rfl))
            clear hi Hbad
            go_wp2_with ((go_at_call 62; refine (l00In_no _ _ _ _ Hi.out).mono ?_; rintro e w' ⟨rfl, rfl⟩))
            go_ret
            exact ⟨by rw [Hf.out]; rfl, rfl⟩
          · have Hi := Lib.hid hi
            by_cases hs : s.size = 64
            · have h64 : ((s.size : Int) != 64) = false := by simp; omega
              have h65 : (s.size : Int) = 64 := by omega
              have Hall2 : Hid (allTo (pdAt ss.length ps) (j + 1) = true) := Lib.hid (by rw [HS.out, Hal2.out, HP.out, hi]; simpa using hs)
              clear hs hi
              go_wp2_with ((go_at_call 62; refine (l00In_yes _ _ _ _ Hi.out).mono ?_; rintro e w' ⟨rfl, rfl⟩))
              go_round
              case rel => exact ⟨j + 1, by omega, by go_num, Hall2.out⟩
              case measure => simp [intOf]; omega
            · have Hf := Lib.hid (Hbad.out (by rw [HP.out, hi]; simpa using hs))
              have h64 : ((s.size : Int) != 64) = true := by simp; omega
              have h65 : ¬ (s.size : Int) = 64 := by omega
              clear hs hi Hbad
              go_wp2_with ((go_at_call 62; refine (l00In_yes _ _ _ _ Hi.out).mono ?_; rintro e w' ⟨rfl, rfl⟩))
              go_ret
              exact ⟨by rw [Hf.out]; rfl, rfl⟩
        · obtain rfl : j = ps.length := by omega
          have Hf : Hid (r = true) := Lib.hid (by
            rw [← Hr.out, dskOk_iff]
            have h1 := inB_iff.1 Hn.out; have h2 := inB_iff.1 Hz.out
            exact ⟨by omega, by omega, hp, h2.1, h2.2, Hall.out, Hal2.out⟩)
          go_wp2
          go_ret
          exact ⟨by rw [Hf.out]; rfl, rfl⟩
set_option maxHeartbeats 1000000 in
set_option maxRecDepth 100000 in
theorem l09ReadC_any {B g : Nat} {w : World} {v1 v2 : Value} {ss : List ByteArray} {ps : List Pt} {k : Nat} (hk : k < ss.length) (q0 : w.cell? ⟨g, 0, none⟩ = some v1) (q1 : w.cell? ⟨g, 1, none⟩ = some v2) (h1 : RiT B w v1 ss) (h2 : RiU B w v2 ps) :
    Calls Tryz.prog 148 #[.pointer (some ⟨g, 0, none⟩), .int .i64 (k : Int)] w (Quiet (.string (rdB ss ps k)) w) := by
  obtain ⟨A1, c1, rfl, hl1, hm1, hx1⟩ := h1
  obtain ⟨A2, c2, rfl, hl2, hm2, hx2⟩ := h2
  unfold maxLen at hm1 hm2
  have Hx1 := Lib.hid hx1; have Hx2 := Lib.hid hx2; clear hx1 hx2
  have HT : Hid (rdB ss ps k = rdI ss ps k ps.length) := Lib.hid rfl
  generalize rdB ss ps k = T at *
  go_enter Tryz.func148, Tryz.ntmps148
  go_wp2
  go_loop [5] (fun i => ∃ j : Nat, j ≤ ps.length ∧ i = .int .i64 ((j : Int) - 1) ∧ T = rdI ss ps k j) (fun i => (intOf i + 1).toNat)
  case atStart => exact ⟨ps.length, Nat.le_refl _, rfl, HT.out⟩
  case round =>
    obtain ⟨j, hj, rfl, hT⟩ := hrel
    have HT2 := Lib.hid hT; clear hT
    cases j with
    | zero =>
      obtain ⟨b, o, rfl, hb, hc, -⟩ := Hx1.out k hk
      have HZ := Lib.hid (rdI_zero (ss := ss) (ps := ps) hk)
      generalize ss[k] = s at *
      rw [show ((0 : Nat) : Int) - 1 = -1 from rfl]
      go_wp2
      go_ret
      exact ⟨by rw [HT2.out, HZ.out]; rfl, rfl⟩
    | succ j =>
      rw [show ((j + 1 : Nat) : Int) - 1 = (j : Int) by omega]
      have hlt : j < ps.length := by omega
      obtain ⟨b, o, rfl, hb, hc1, hc2, -, -⟩ := Hx2.out j hlt
      have HS := Lib.hid (rdI_succ (ss := ss) (k := k) hlt)
      generalize ps[j].1 = z at *
      generalize ps[j].2 = s at *
      by_cases hz : z = (k : Int)
      · have Hf : Hid (T = s) := Lib.hid (by rw [HT2.out, HS.out, if_pos hz])
        have e1 : (z == (k : Int)) = true := by simpa using hz
        clear hz
        go_wp2
        go_ret
        exact ⟨by rw [Hf.out]; rfl, rfl⟩
      · have Hf : Hid (T = rdI ss ps k j) := Lib.hid (by rw [HT2.out, HS.out, if_neg hz])
        have e1 : (z == (k : Int)) = false := beq_eq_false_iff_ne.2 hz
        have e2 : ¬ z = (k : Int) := hz
        clear hz
        go_wp2
        go_round
        case rel => exact ⟨j, by omega, by first | rfl | go_num, Hf.out⟩
        case measure => simp [intOf]

/-- All pages lie behind the log. -/
def wiAt (b l : Int) (ps : List Pt) (i : Nat) : Bool := inB (pgB ps i) (2 + l) (b - 1)
def wiOk (b l : Int) (ps : List Pt) : Bool := allTo (wiAt b l ps) ps.length
/-- The log has room for so many pages. -/
def ftOk (l n : Int) : Bool := decide (n = 0) || (decide (n ≤ 60) && decide (1 + tbN n + n ≤ l))
def pgrOk (ss : List ByteArray) (ps : List Pt) (fz : Int) (off : Bool) (b l q t sq at_ : Int) (lg dt : List Pt) : Bool :=
  (dskOk ss ps fz && ((decide (ps.length ≤ 1) || off) && (supOk b l q t && decide (b = (ss.length : Int))))) &&
  ((inB sq q 1000000000000 && inB at_ 0 l) && ((pgOk lg && pgOk dt) && ((wiOk b l lg && wiOk b l dt) && ftOk l (dt.length : Int))))
set_option maxHeartbeats 1000000 in
set_option maxRecDepth 100000 in
theorem l11Within_any {B : Nat} {w : World} {n0 n1 n2 n3 : Int} {v : Value} {ps : List Pt} (h : RiU B w v ps) (hB : B ≤ w.heap.size) (hs : supOk n0 n1 n2 n3 = true) :
    Calls Tryz.prog 84 #[.agg #[.int .i64 n0, .int .i64 n1, .int .i64 n2, .int .i64 n3], v] w (GivesB (.bool (wiOk n0 n1 ps)) w) := by
  obtain ⟨A, cap, rfl, hl, hm, hx⟩ := h
  unfold maxLen at hm
  have Hx := Lib.hid hx; clear hx
  have h1 := supOk_l hs
  have HL := Lib.hid h1
  have hb1 := inB_iff.1 h1
  have hb0 : 16 ≤ n0 ∧ n0 ≤ 256 := by
    simp only [supOk, Bool.and_eq_true, inB_iff, decide_eq_true_eq] at hs
    exact hs.1.1.1
  clear hs h1
  have HF : Hid (wiOk n0 n1 ps = allTo (wiAt n0 n1 ps) ps.length) := Lib.hid rfl
  generalize wiOk n0 n1 ps = r at *
  have Hbad : Hid (∀ k, k < ps.length → wiAt n0 n1 ps k = false → r = false) := Lib.hid (fun k hk h => by rw [HF.out, allTo_bad _ k _ hk h])
  have Hb0 : Hid (Below w.heap.size w (w.alloc (.cells #[.int .i64 n0, .int .i64 n1, .int .i64 n2, .int .i64 n3] 35))) := Lib.hid ((Below.refl _ w).alloc (Nat.le_refl _) _)
  have R0 : Hid ((w.alloc (.cells #[.int .i64 n0, .int .i64 n1, .int .i64 n2, .int .i64 n3] 35)).heap[w.heap.size]? = some (.cells #[.int .i64 n0, .int .i64 n1, .int .i64 n2, .int .i64 n3] 35 (0, 0))) := Lib.hid (heap_alloc_new w _)
  have Lt0 : Hid (w.heap.size < (w.alloc (.cells #[.int .i64 n0, .int .i64 n1, .int .i64 n2, .int .i64 n3] 35)).heap.size) := Lib.hid (by simp)
  go_enter Tryz.func84, Tryz.ntmps84
  go_wp2_with fail
  generalize (w.alloc (.cells #[.int .i64 n0, .int .i64 n1, .int .i64 n2, .int .i64 n3] 35)) = w0 at *
  go_loopw [5] (fun i wr => ∃ k : Nat, k ≤ ps.length ∧ i = .int .i64 (k : Int) ∧ Below w0.heap.size w0 wr ∧ allTo (wiAt n0 n1 ps) k = true) (fun i _ => ps.length - (intOf i).toNat)
  case atStart => exact ⟨0, Nat.zero_le _, rfl, Below.refl _ _, allTo_zero _⟩
  case round =>
    obtain ⟨k, hk, rfl, hbel, hall⟩ := hrel
    have Hall := Lib.hid hall; have Hbel := Lib.hid hbel; clear hall
    have HBw : Hid (Below w.heap.size w wr) := Lib.hid (Hb0.out.trans (hbel.mono Hb0.out.size))
    by_cases hlt : k < ps.length
    · obtain ⟨b, o, rfl, hb, hc1, hc2, -, -⟩ := Hx.out k hlt
      have HP : Hid (wiAt n0 n1 ps k = inB ps[k].1 (2 + n1) (n0 - 1)) := Lib.hid (by unfold wiAt; rw [pgB_at ps k hlt])
      have HS := Lib.hid (allTo_succ (wiAt n0 n1 ps) k)
      have Hb := Lib.hid (Hbad.out k hlt)
      have Hc1 := Lib.hid hc1
      have HH : Hid (∀ W, Below w0.heap.size w0 W → W.cell? ⟨b, o + k * 2, none⟩ = some (.int .i64 ps[k].1) ∧ W.cell? ⟨w.heap.size, 0, none⟩ = some (.int .i64 n0) ∧ W.cell? ⟨w.heap.size, 1, none⟩ = some (.int .i64 n1) ∧ W.cell? ⟨w.heap.size, 2, none⟩ = some (.int .i64 n2) ∧ W.cell? ⟨w.heap.size, 3, none⟩ = some (.int .i64 n3)) := Lib.hid (fun W hW => by
        have hR := (hW.block _ Lt0.out).trans R0.out
        exact ⟨((Hb0.out.trans (hW.mono Hb0.out.size)).cell (p := ⟨b, o + k * 2, none⟩) (show b < _ by omega)).trans Hc1.out, by rw [cell_of_row _ _ _ _ _ _ hR]; rfl, by rw [cell_of_row _ _ _ _ _ _ hR]; rfl, by rw [cell_of_row _ _ _ _ _ _ hR]; rfl, by rw [cell_of_row _ _ _ _ _ _ hR]; rfl⟩)
      clear hc1 hc2 hbel Hc1
      have wz : IntKind.i64.wrap (n0 - 1) = n0 - 1 := IntWalk.i64_in _ (by omega)
      generalize ps[k].1 = z at *
      cases hi : inB z (2 + n1) (n0 - 1)
      · have Hi := Lib.hid hi
        have Hf := Lib.hid (Hb.out (by rw [HP.out, hi]))
        clear hi
        go_wp2
        go_region_held3 (fun W => W.cell? ⟨b, o + k * 2, none⟩ = some (.int .i64 z) ∧ W.cell? ⟨w.heap.size, 0, none⟩ = some (.int .i64 n0) ∧ W.cell? ⟨w.heap.size, 1, none⟩ = some (.int .i64 n1) ∧ W.cell? ⟨w.heap.size, 2, none⟩ = some (.int .i64 n2) ∧ W.cell? ⟨w.heap.size, 3, none⟩ = some (.int .i64 n3)) (exact HH.out _ (by first | exact kb | exact Hbel.out.drew | exact Hbel.out))
          ((first | (go_at_call 86; go_fit (l10Area_any n0 n1 n2 n3 _ HL.out); rintro e u ⟨rfl, ga⟩; have kb : Below w0.heap.size w0 u := Hbel.out.drew.trans (ga.mono Hbel.out.drew.size); clear ga) | (go_at_call 62; go_fit (l00In_no _ _ _ _ Hi.out); rintro e u2 ⟨rfl, rfl⟩)))
        try simp only [Exit.then]
        have Hk : Hid (Below w.heap.size w u) := Lib.hid (Hb0.out.trans (kb.mono Hb0.out.size))
        clear kb
        go_wp2
        go_ret
        exact ⟨by rw [Hf.out]; rfl, Hk.out⟩
      · have Hi := Lib.hid hi
        have Hall2 : Hid (allTo (wiAt n0 n1 ps) (k + 1) = true) := Lib.hid (by rw [HS.out, Hall.out, HP.out, hi]; rfl)
        clear hi
        go_wp2
        go_region_held3 (fun W => W.cell? ⟨b, o + k * 2, none⟩ = some (.int .i64 z) ∧ W.cell? ⟨w.heap.size, 0, none⟩ = some (.int .i64 n0) ∧ W.cell? ⟨w.heap.size, 1, none⟩ = some (.int .i64 n1) ∧ W.cell? ⟨w.heap.size, 2, none⟩ = some (.int .i64 n2) ∧ W.cell? ⟨w.heap.size, 3, none⟩ = some (.int .i64 n3)) (exact HH.out _ (by first | exact kb | exact Hbel.out.drew | exact Hbel.out))
          ((first | (go_at_call 86; go_fit (l10Area_any n0 n1 n2 n3 _ HL.out); rintro e u ⟨rfl, ga⟩; have kb : Below w0.heap.size w0 u := Hbel.out.drew.trans (ga.mono Hbel.out.drew.size); clear ga) | (go_at_call 62; go_fit (l00In_yes _ _ _ _ Hi.out); rintro e u2 ⟨rfl, rfl⟩)))
        try simp only [Exit.then]
        have Hk := Lib.hid kb
        clear kb
        go_wp2
        go_roundw
        case rel => exact ⟨k + 1, by omega, by go_num, Hk.out, Hall2.out⟩
        case measure => simp [intOf]; omega
    · obtain rfl : k = ps.length := by omega
      have Hf : Hid (r = true) := Lib.hid (by rw [HF.out, Hall.out])
      clear hbel
      go_wp2
      go_ret
      exact ⟨by rw [Hf.out]; rfl, HBw.out⟩
set_option maxHeartbeats 1000000 in
set_option maxRecDepth 100000 in
theorem l12Fits_any {w : World} {n0 n1 n2 n3 : Int} (m : Nat) :
    Calls Tryz.prog 85 #[.agg #[.int .i64 n0, .int .i64 n1, .int .i64 n2, .int .i64 n3], .int .i64 (m : Int)] w (GivesB (.bool (ftOk n1 (m : Int))) w) := by
  have HB0 : Hid (∀ n, Below w.heap.size w ((w.alloc (.cells #[.int .i64 n0, .int .i64 n1, .int .i64 n2, .int .i64 n3] 35)).drewN n)) := Lib.hid (fun n => below_draws ((Below.refl _ w).alloc (Nat.le_refl _) _) n)
  have HF : Hid (ftOk n1 (m : Int) = (decide ((m : Int) = 0) || (decide ((m : Int) ≤ 60) && decide (1 + tbN m + m ≤ n1)))) := Lib.hid rfl
  generalize ftOk n1 (m : Int) = r at *
  by_cases h0 : (m : Int) = 0
  · have Hf : Hid (r = true) := Lib.hid (by rw [HF.out]; simp [h0])
    have d0 : ((m : Int) == 0) = true := by simpa using h0
    obtain rfl : m = 0 := by omega
    clear h0
    go_enter Tryz.func85, Tryz.ntmps85
    go_wp2
    go_quiet (fail)
    go_wp2
    go_ret
    exact ⟨by rw [Hf.out]; rfl, HB0.out _⟩
  have d0 : ((m : Int) == 0) = false := beq_eq_false_iff_ne.2 h0
  have d00 : ¬ m = 0 := by omega
  by_cases h6 : (m : Int) ≤ 60
  rotate_left
  · have Hf : Hid (r = false) := Lib.hid (by rw [HF.out]; simp [d00, h6])
    have d6 : decide ((m : Int) ≤ 60) = false := decide_eq_false h6
    go_enter Tryz.func85, Tryz.ntmps85
    go_wp2
    go_quiet (fail)
    go_wp2
    go_ret
    exact ⟨by rw [Hf.out]; rfl, HB0.out _⟩
  have d6 : decide ((m : Int) ≤ 60) = true := decide_eq_true h6
  have HC := Lib.hid (fun W => l11Blocks_any (m : Int) W (by omega) h6)
  generalize 1 + tbN m + m = y at *
  by_cases hy : y ≤ n1
  · have Hf : Hid (r = true) := Lib.hid (by rw [HF.out]; simp [d00, h6, hy])
    have dy : decide (y ≤ n1) = true := decide_eq_true hy
    go_enter Tryz.func85, Tryz.ntmps85
    go_wp2
    go_quiet ((go_at_call 135; exact Quiet.qs (HC.out _)))
    go_wp2
    go_ret
    exact ⟨by rw [Hf.out]; rfl, HB0.out _⟩
  · have Hf : Hid (r = false) := Lib.hid (by rw [HF.out]; simp [d00, h6, hy])
    have dy : decide (y ≤ n1) = false := decide_eq_false hy
    go_enter Tryz.func85, Tryz.ntmps85
    go_wp2
    go_quiet ((go_at_call 135; exact Quiet.qs (HC.out _)))
    go_wp2
    go_ret
    exact ⟨by rw [Hf.out]; rfl, HB0.out _⟩
end Go.Proofs.YtplfnlalmcpcaaaGreat
