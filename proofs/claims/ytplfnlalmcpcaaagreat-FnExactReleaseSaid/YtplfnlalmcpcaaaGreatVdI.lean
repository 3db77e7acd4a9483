/- Contracts of the program's check of a disk. No statement is proved here. -/
import Derived.Test.YtplfnlalmcpcaaaGreatDkV
namespace Go.Proofs.YtplfnlalmcpcaaaGreat
open Go.RowKit
set_option linter.unusedVariables false
theorem isFuse_any (a : Int) (w : World) : Calls Tryz.prog 171 #[.int .i64 a] w (Quiet (.bool (inB a (-1) 100000)) w) := by
  by_cases h1 : -1 ≤ a
  · by_cases h2 : a ≤ 100000
    · have Hf2 : Hid (inB a (-1) 100000 = true) := Lib.hid (by simp [inB, h1, h2])
      go_enter Tryz.func171, Tryz.ntmps171
      go_wp2
      go_ret
      exact ⟨by rw [Hf2.out]; rfl, rfl⟩
    · have Hf2 : Hid (inB a (-1) 100000 = false) := Lib.hid (by simp [inB]; omega)
      go_enter Tryz.func171, Tryz.ntmps171
      go_wp2
      go_ret
      exact ⟨by rw [Hf2.out]; rfl, rfl⟩
  · have Hf2 : Hid (inB a (-1) 100000 = false) := Lib.hid (by simp [inB]; omega)
    go_enter Tryz.func171, Tryz.ntmps171
    go_wp2
    go_ret
    exact ⟨by rw [Hf2.out]; rfl, rfl⟩
theorem isFuse_yes (a : Int) (w : World) (h : inB a (-1) 100000 = true) : Calls Tryz.prog 171 #[.int .i64 a] w (Quiet (.bool true) w) := h ▸ isFuse_any a w
theorem isFuse_no (a : Int) (w : World) (h : inB a (-1) 100000 = false) : Calls Tryz.prog 171 #[.int .i64 a] w (Quiet (.bool false) w) := h ▸ isFuse_any a w
theorem isIndex_any (a : Int) (n : Nat) (w : World) : Calls Tryz.prog 172 #[.int .i64 a, .int .i64 (n : Int)] w (Quiet (.bool (inB a 0 ((n : Int) - 1))) w) := by
  by_cases h1 : 0 ≤ a
  · by_cases h2 : a < (n : Int)
    · have Hf2 : Hid (inB a 0 ((n : Int) - 1) = true) := Lib.hid (by simp [inB]; omega)
      go_enter Tryz.func172, Tryz.ntmps172
      go_wp2
      go_ret
      exact ⟨by rw [Hf2.out]; rfl, rfl⟩
    · have Hf2 : Hid (inB a 0 ((n : Int) - 1) = false) := Lib.hid (by simp [inB]; omega)
      go_enter Tryz.func172, Tryz.ntmps172
      go_wp2
      go_ret
      exact ⟨by rw [Hf2.out]; rfl, rfl⟩
  · have Hf2 : Hid (inB a 0 ((n : Int) - 1) = false) := Lib.hid (by simp [inB]; omega)
    go_enter Tryz.func172, Tryz.ntmps172
    go_wp2
    go_ret
    exact ⟨by rw [Hf2.out]; rfl, rfl⟩
theorem isIndex_yes (a : Int) (n : Nat) (w : World) (h : inB a 0 ((n : Int) - 1) = true) : Calls Tryz.prog 172 #[.int .i64 a, .int .i64 (n : Int)] w (Quiet (.bool true) w) := h ▸ isIndex_any a n w
theorem isIndex_no (a : Int) (n : Nat) (w : World) (h : inB a 0 ((n : Int) - 1) = false) : Calls Tryz.prog 172 #[.int .i64 a, .int .i64 (n : Int)] w (Quiet (.bool false) w) := h ▸ isIndex_any a n w
set_option maxHeartbeats 2000000 in
set_option maxRecDepth 100000 in
theorem implValidDisk_any {B : Nat} {w : World} {v1 v2 : Value} {ss : List ByteArray} {ps : List Pt} {fz : Int} {off : Bool} (h1 : RiT B w v1 ss) (h2 : RiU B w v2 ps) (hB : B ≤ w.heap.size) :
    Calls Tryz.prog 137 #[.agg #[v1, v2, .int .i64 fz, .bool off]] w (GivesB (.bool (dskOk ss ps fz)) w) := by
  obtain ⟨A1, c1, rfl, hl1, hm1, hx1⟩ := h1
  obtain ⟨A2, c2, rfl, hl2, hm2, hx2⟩ := h2
  unfold maxLen at hm1 hm2
  generalize hr : dskOk ss ps fz = r
  have Hr := Lib.hid hr; clear hr
  have Hx1 := Lib.hid hx1; have Hx2 := Lib.hid hx2; clear hx1 hx2
  have Hb0 : Hid (Below w.heap.size w (w.alloc (.cells #[.slice A1 ss.length c1, .slice A2 ps.length c2, .int .i64 fz, .bool off] 34))) := Lib.hid ((Below.refl _ w).alloc (Nat.le_refl _) _)
  have HD : Hid (DB (w.alloc (.cells #[.slice A1 ss.length c1, .slice A2 ps.length c2, .int .i64 fz, .bool off] 34)) w.heap.size (.slice A1 ss.length c1) (.slice A2 ps.length c2) fz off) := Lib.hid (heap_alloc_new w _)
  cases hn : inB ss.length 16 256
  · have Hn := Lib.hid hn
    have Hf : Hid (r = false) := Lib.hid (by rw [← Hr.out]; exact dskOk_n1 Hn.out)
    by_cases hlo : (ss.length : Int) < 16
    · have d1 : decide ((ss.length : Int) < 16) = true := decide_eq_true hlo
      clear hn
      go_enter Tryz.func137, Tryz.ntmps137
      go_wp2_with fail
      go_ret
      exact ⟨by rw [Hf.out]; rfl, Hb0.out⟩
    · have d1 : decide ((ss.length : Int) < 16) = false := decide_eq_false hlo
      have d2 : decide ((256 : Int) < (ss.length : Int)) = true := decide_eq_true (by
        by_cases h : (256 : Int) < (ss.length : Int)
        · exact h
        · rw [inB_yes (by omega) (by omega)] at hn; cases hn)
      clear hn
      go_enter Tryz.func137, Tryz.ntmps137
      go_wp2_with fail
      go_ret
      exact ⟨by rw [Hf.out]; rfl, Hb0.out⟩
  have Hn := Lib.hid hn
  have hnb := inB_iff.1 hn
  have d1 : decide ((ss.length : Int) < 16) = false := decide_eq_false (by omega)
  have d2 : decide ((256 : Int) < (ss.length : Int)) = false := decide_eq_false (by omega)
  clear hn
  by_cases hp : ps.length ≤ 600
  rotate_left
  · have Hf : Hid (r = false) := Lib.hid (by rw [← Hr.out]; exact dskOk_n2 hp)
    have d3 : decide ((600 : Int) < (ps.length : Int)) = true := decide_eq_true (by omega)
    go_enter Tryz.func137, Tryz.ntmps137
    go_wp2_with fail
    go_ret
    exact ⟨by rw [Hf.out]; rfl, Hb0.out⟩
  have d3 : decide ((600 : Int) < (ps.length : Int)) = false := decide_eq_false (by omega)
  cases hz : inB fz (-1) 100000
  · have Hz := Lib.hid hz; clear hz
    have Hf : Hid (r = false) := Lib.hid (by rw [← Hr.out]; exact dskOk_n3 Hz.out)
    go_enter Tryz.func137, Tryz.ntmps137
    go_wp2_with ((go_at_call 171; refine (isFuse_no _ _ Hz.out).mono ?_; rintro e w' ⟨rfl, rfl⟩))
    go_ret
    exact ⟨by rw [Hf.out]; rfl, Hb0.out⟩
  have Hz := Lib.hid hz; clear hz
  go_enter Tryz.func137, Tryz.ntmps137
  go_wp2_with ((go_at_call 171; refine (isFuse_yes _ _ Hz.out).mono ?_; rintro e w' ⟨rfl, rfl⟩))
  generalize hW0 : (w.alloc (.cells #[.slice A1 ss.length c1, .slice A2 ps.length c2, .int .i64 fz, .bool off] 34)) = W0 at *
  clear hW0 d1 d2 d3
  have q1 := HD.out.c1
  go_loop [4, 32] (fun s i => ∃ k : Nat, k ≤ ss.length ∧ i = .int .i64 (k : Int) ∧ allTo (bkAt ss) k = true) (fun _ i => ss.length - (intOf i).toNat)
  case atStart => exact ⟨0, Nat.zero_le _, rfl, allTo_zero _⟩
  case round =>
    obtain ⟨k, hk, rfl, hall⟩ := hrel
    have Hall := Lib.hid hall; clear hall
    by_cases hlt : k < ss.length
    · obtain ⟨b, o, rfl, hb, hc, -⟩ := Hx1.out k hlt
      have hc0 : W0.cell? ⟨b, o + k, none⟩ = some (.string ss[k]) := (Hb0.out.cell (p := ⟨b, o + k, none⟩) (show b < _ by omega)).trans hc
      have HP := Lib.hid (bkAt_at ss k hlt)
      have HS := Lib.hid (allTo_succ (bkAt ss) k)
      have Hbad : Hid (bkAt ss k = false → r = false) := Lib.hid (fun h => by rw [← Hr.out]; exact dskOk_n4 hlt h)
      clear hc
      generalize ss[k] = s at *
      by_cases hs : s.size = 64
      · have h64 : ((s.size : Int) != 64) = false := by simp; omega
        have h65 : (s.size : Int) = 64 := by omega
        have Hall2 : Hid (allTo (bkAt ss) (k + 1) = true) := Lib.hid (by rw [HS.out, Hall.out, HP.out]; simpa using hs)
        clear hs
        go_wp2
        go_round
        case rel => exact ⟨k + 1, by omega, by go_num, Hall2.out⟩
        case measure => simp [intOf]; omega
      · have Hf := Lib.hid (Hbad.out (by rw [HP.out]; simpa using hs))
        have h64 : ((s.size : Int) != 64) = true := by simp; omega
        have h65 : ¬ (s.size : Int) = 64 := by omega
        clear hs Hbad
        go_wp2
        go_ret
        exact ⟨by rw [Hf.out]; rfl, Hb0.out⟩
    · obtain rfl : k = ss.length := by omega
      go_wp2
      go_loopw [6, 43] (fun s i wr => ∃ j : Nat, j ≤ ps.length ∧ i = .int .i64 (j : Int) ∧ Below W0.heap.size W0 wr ∧ allTo (pdAt ss.length ps) j = true) (fun _ i _ => ps.length - (intOf i).toNat)
      case atStart => exact ⟨0, Nat.zero_le _, rfl, Below.refl _ _, allTo_zero _⟩
      case round =>
        obtain ⟨j, hj, rfl, hbel, hal2⟩ := hrel
        have Hal2 := Lib.hid hal2; have Hbel := Lib.hid hbel; clear hal2 hbel
        clear q1
        have HDr := Lib.hid (HD.out.keep Hbel.out)
        have HBw : Hid (Below w.heap.size w wr) := Lib.hid (Hb0.out.trans (Hbel.out.mono Hb0.out.size))
        by_cases hlj : j < ps.length
        · obtain ⟨b, o, rfl, hb, hc1, hc2, -, -⟩ := Hx2.out j hlj
          have Hld := Lib.hid (run_load_cells (P := Tryz.prog) wr b (o + j * 2) 178 _ [.int .i64 ps[j].1, .string ps[j].2] (two_cells (by rw [HBw.out.cell (show b < _ from by omega)]; exact hc1) (by rw [HBw.out.cell (show b < _ from by omega)]; exact hc2)) Tryz.underlying178 rfl)
          have HP := Lib.hid (pdAt_at ss.length ps j hlj)
          have HS := Lib.hid (allTo_succ (pdAt ss.length ps) j)
          have Hbad : Hid (pdAt ss.length ps j = false → r = false) := Lib.hid (fun h => by rw [← Hr.out]; exact dskOk_n5 hlj h)
          clear hc1 hc2
          generalize ps[j].1 = z at *
          generalize ps[j].2 = s at *
          have q0 := (HDr.out.keep ((Below.refl _ wr).alloc (Nat.le_refl _) (.cells #[.int .i64 z, .string s] 178))).c0
          have HBa : Hid (Below w.heap.size w (wr.alloc (.cells #[.int .i64 z, .string s] 178))) := Lib.hid (HBw.out.alloc HBw.out.size _)
          have HBe : Hid (Below W0.heap.size W0 (wr.alloc (.cells #[.int .i64 z, .string s] 178))) := Lib.hid (Hbel.out.alloc Hbel.out.size _)
          cases hi : inB z 0 ((ss.length : Int) - 1)
          · have Hi := Lib.hid hi
            have Hf := Lib.hid (Hbad.out (by rw [HP.out, hi]; rfl))
            clear hi Hbad
            go_wp2_with (first | (refine wpList_load_agg rfl 178 (.tmp 45) rfl _ rfl _ Hld.out ?_) | (go_at_call 172; refine (isIndex_no _ _ _ Hi.out).mono ?_; rintro e w' ⟨rfl, rfl⟩))
            go_ret
            exact ⟨by rw [Hf.out]; rfl, HBa.out⟩
          · have Hi := Lib.hid hi
            by_cases hs : s.size = 64
            · have h64 : ((s.size : Int) != 64) = false := by simp; omega
              have h65 : (s.size : Int) = 64 := by omega
              have Hall2 : Hid (allTo (pdAt ss.length ps) (j + 1) = true) := Lib.hid (by rw [HS.out, Hal2.out, HP.out, hi]; simpa using hs)
              clear hs hi
              go_wp2_with (first | (refine wpList_load_agg rfl 178 (.tmp 45) rfl _ rfl _ Hld.out ?_) | (go_at_call 172; refine (isIndex_yes _ _ _ Hi.out).mono ?_; rintro e w' ⟨rfl, rfl⟩))
              go_roundw
              case rel => exact ⟨j + 1, by omega, by go_num, HBe.out, Hall2.out⟩
              case measure => simp [intOf]; omega
            · have Hf := Lib.hid (Hbad.out (by rw [HP.out, hi]; simpa using hs))
              have h64 : ((s.size : Int) != 64) = true := by simp; omega
              have h65 : ¬ (s.size : Int) = 64 := by omega
              clear hs hi Hbad
              go_wp2_with (first | (refine wpList_load_agg rfl 178 (.tmp 45) rfl _ rfl _ Hld.out ?_) | (go_at_call 172; refine (isIndex_yes _ _ _ Hi.out).mono ?_; rintro e w' ⟨rfl, rfl⟩))
              go_ret
              exact ⟨by rw [Hf.out]; rfl, HBa.out⟩
        · obtain rfl : j = ps.length := by omega
          have Hf : Hid (r = true) := Lib.hid (by
            rw [← Hr.out, dskOk_iff]
            have h1 := inB_iff.1 Hn.out; have h2 := inB_iff.1 Hz.out
            exact ⟨by omega, by omega, hp, h2.1, h2.2, Hall.out, Hal2.out⟩)
          go_wp2
          go_ret
          exact ⟨by rw [Hf.out]; rfl, HBw.out⟩
end Go.Proofs.YtplfnlalmcpcaaaGreat
