/- Disks as lists: which are valid; contracts of the model's checks. No statement is proved here. -/
import Derived.Test.YtplfnlalmcpcaaaGreatDsk2
import Derived.Test.YtplfnlalmcpcaaaGreatIdx
namespace Go.Proofs.YtplfnlalmcpcaaaGreat
open Go.RowKit
set_option linter.unusedVariables false
def bkAt (ss : List ByteArray) (i : Nat) : Bool := decide ((ss.getD i ByteArray.empty).size = 64)
def pdAt (n : Nat) (ps : List Pt) (i : Nat) : Bool := inB (ps.getD i (0, ByteArray.empty)).1 0 ((n : Int) - 1) && decide ((ps.getD i (0, ByteArray.empty)).2.size = 64)
def dskOk (ss : List ByteArray) (ps : List Pt) (fz : Int) : Bool :=
  (inB ss.length 16 256 && (decide (ps.length ≤ 600) && inB fz (-1) 100000)) && (allTo (bkAt ss) ss.length && allTo (pdAt ss.length ps) ps.length)
theorem bkAt_at (ss : List ByteArray) (i : Nat) (h : i < ss.length) : bkAt ss i = decide (ss[i].size = 64) := by unfold bkAt; rw [List.getD_eq_getElem?_getD, List.getElem?_eq_getElem h]; rfl
theorem pdAt_at (n : Nat) (ps : List Pt) (i : Nat) (h : i < ps.length) : pdAt n ps i = (inB ps[i].1 0 ((n : Int) - 1) && decide (ps[i].2.size = 64)) := by unfold pdAt; rw [List.getD_eq_getElem?_getD, List.getElem?_eq_getElem h]; rfl
theorem dskOk_iff {ss : List ByteArray} {ps : List Pt} {fz : Int} : dskOk ss ps fz = true ↔ (16 ≤ ss.length ∧ ss.length ≤ 256 ∧ ps.length ≤ 600 ∧ -1 ≤ fz ∧ fz ≤ 100000 ∧ allTo (bkAt ss) ss.length = true ∧ allTo (pdAt ss.length ps) ps.length = true) := by
  simp only [dskOk, Bool.and_eq_true, inB_iff, decide_eq_true_eq]
  constructor
  · rintro ⟨⟨h1, h2, h3⟩, h4, h5⟩; exact ⟨by omega, by omega, h2, h3.1, h3.2, h4, h5⟩
  · rintro ⟨a, b, c, d, e, f, g⟩; exact ⟨⟨⟨by omega, by omega⟩, c, d, e⟩, f, g⟩
theorem dskOk_n1 {ss : List ByteArray} {ps : List Pt} {fz : Int} (h : inB ss.length 16 256 = false) : dskOk ss ps fz = false := by simp [dskOk, h]
theorem dskOk_n2 {ss : List ByteArray} {ps : List Pt} {fz : Int} (h : ¬ ps.length ≤ 600) : dskOk ss ps fz = false := by simp [dskOk, h]
theorem dskOk_n3 {ss : List ByteArray} {ps : List Pt} {fz : Int} (h : inB fz (-1) 100000 = false) : dskOk ss ps fz = false := by simp [dskOk, h]
theorem dskOk_n4 {ss : List ByteArray} {ps : List Pt} {fz : Int} {k : Nat} (hk : k < ss.length) (h : bkAt ss k = false) : dskOk ss ps fz = false := by simp [dskOk, allTo_bad _ k _ hk h]
theorem dskOk_n5 {ss : List ByteArray} {ps : List Pt} {fz : Int} {k : Nat} (hk : k < ps.length) (h : pdAt ss.length ps k = false) : dskOk ss ps fz = false := by simp [dskOk, allTo_bad _ k _ hk h]
/-- A disk in a block. -/
def DB (w : World) (g : Nat) (v1 v2 : Value) (fz : Int) (off : Bool) : Prop := w.heap[g]? = some (.cells #[v1, v2, .int .i64 fz, .bool off] 34 (0, 0))
theorem DB.c0 {w : World} {g : Nat} {v1 v2 : Value} {fz : Int} {off : Bool} (h : DB w g v1 v2 fz off) : w.cell? ⟨g, 0, none⟩ = some v1 := by rw [cell_of_row _ _ _ _ _ _ h]; rfl
theorem DB.c1 {w : World} {g : Nat} {v1 v2 : Value} {fz : Int} {off : Bool} (h : DB w g v1 v2 fz off) : w.cell? ⟨g, 1, none⟩ = some v2 := by rw [cell_of_row _ _ _ _ _ _ h]; rfl
theorem DB.c2 {w : World} {g : Nat} {v1 v2 : Value} {fz : Int} {off : Bool} (h : DB w g v1 v2 fz off) : w.cell? ⟨g, 2, none⟩ = some (.int .i64 fz) := by rw [cell_of_row _ _ _ _ _ _ h]; rfl
theorem DB.c3 {w : World} {g : Nat} {v1 v2 : Value} {fz : Int} {off : Bool} (h : DB w g v1 v2 fz off) : w.cell? ⟨g, 3, none⟩ = some (.bool off) := by rw [cell_of_row _ _ _ _ _ _ h]; rfl
theorem DB.f {w : World} {g : Nat} {v1 v2 : Value} {fz : Int} {off : Bool} (h : DB w g v1 v2 fz off) (j : Nat) : w.frozen? ⟨g, j, none⟩ = false := frozen_of_row _ _ _ _ _ h
theorem DB.lt {w : World} {g : Nat} {v1 v2 : Value} {fz : Int} {off : Bool} (h : DB w g v1 v2 fz off) : g < w.heap.size := by
  rcases Nat.lt_or_ge g w.heap.size with hl | hl
  · exact hl
  · unfold DB at h; rw [Array.getElem?_eq_none hl] at h; cases h
theorem DB.keep {w w' : World} {g : Nat} {v1 v2 : Value} {fz : Int} {off : Bool} (h : DB w g v1 v2 fz off) (hb : Below w.heap.size w w') : DB w' g v1 v2 fz off := (hb.block g h.lt).trans h
set_option maxHeartbeats 2000000 in
set_option maxRecDepth 100000 in
theorem l09Ok_any {B g : Nat} {w : World} {v1 v2 : Value} {ss : List ByteArray} {ps : List Pt} {fz : Int} {off : Bool} {r : Bool} (hr : dskOk ss ps fz = r) (hd : DB w g v1 v2 fz off) (h1 : RiT B w v1 ss) (h2 : RiU B w v2 ps) :
    Calls Tryz.prog 81 #[.pointer (some ⟨g, 0, none⟩)] w (Quiet (.bool r) w) := by
  obtain ⟨A1, c1, rfl, hl1, hm1, hx1⟩ := h1
  obtain ⟨A2, c2, rfl, hl2, hm2, hx2⟩ := h2
  unfold maxLen at hm1 hm2
  have Hr := Lib.hid hr; clear hr
  have Hx1 := Lib.hid hx1; have Hx2 := Lib.hid hx2; clear hx1 hx2
  have q0 := hd.c0; have q1 := hd.c1; have q2 := hd.c2
  clear hd
  cases hn : inB ss.length 16 256
  · have Hn := Lib.hid hn; clear hn
    have Hf : Hid (r = false) := Lib.hid (by rw [← Hr.out]; exact dskOk_n1 Hn.out)
    go_enter Tryz.func81, Tryz.ntmps81
    go_wp2_with ((go_at_call 62; refine (l00In_no _ _ _ _ Hn.out).mono ?_; rintro e w' ⟨rfl, rfl⟩))
    go_ret
    exact ⟨by rw [Hf.out]; rfl, rfl⟩
  have Hn := Lib.hid hn; clear hn
  by_cases hp : ps.length ≤ 600
  rotate_left
  · have Hf : Hid (r = false) := Lib.hid (by rw [← Hr.out]; exact dskOk_n2 hp)
    have hp2 : decide ((600 : Int) < (ps.length : Int)) = true := decide_eq_true (by omega)
    go_enter Tryz.func81, Tryz.ntmps81
    go_wp2_with ((go_at_call 62; refine (l00In_yes _ _ _ _ Hn.out).mono ?_; rintro e w' ⟨rfl, rfl⟩))
    go_ret
    exact ⟨by rw [Hf.out]; rfl, rfl⟩
  have hp2 : decide ((600 : Int) < (ps.length : Int)) = false := decide_eq_false (by omega)
  cases hz : inB fz (-1) 100000
  · have Hz := Lib.hid hz; clear hz
    have Hf : Hid (r = false) := Lib.hid (by rw [← Hr.out]; exact dskOk_n3 Hz.out)
    go_enter Tryz.func81, Tryz.ntmps81
    go_wp2_with (first | (go_at_call 62; ((with_reducible refine (l00In_yes _ _ _ _ Hn.out).mono ?_); rintro e w' ⟨rfl, rfl⟩)) | (go_at_call 62; refine (l00In_no _ _ _ _ Hz.out).mono ?_; rintro e w' ⟨rfl, rfl⟩))
    go_ret
    exact ⟨by rw [Hf.out]; rfl, rfl⟩
  have Hz := Lib.hid hz; clear hz
  have hs256 : ss.length ≤ 256 := by have h := (inB_iff.1 Hn.out).2; omega
  go_enter Tryz.func81, Tryz.ntmps81
  go_wp2_with (first | (go_at_call 62; ((with_reducible refine (l00In_yes _ _ _ _ Hn.out).mono ?_); rintro e w' ⟨rfl, rfl⟩)) | (go_at_call 62; refine (l00In_yes _ _ _ _ Hz.out).mono ?_; rintro e w' ⟨rfl, rfl⟩))
  go_loop [4] (fun i => ∃ k : Nat, k ≤ ss.length ∧ i = .int .i64 (k : Int) ∧ allTo (bkAt ss) k = true) (fun i => ss.length - (intOf i).toNat)
  case atStart => exact ⟨0, Nat.zero_le _, rfl, allTo_zero _⟩
  case round =>
    obtain ⟨k, hk, rfl, hall⟩ := hrel
    have Hall := Lib.hid hall; clear hall
    by_cases hlt : k < ss.length
    · obtain ⟨b, o, rfl, hb, hc, -⟩ := Hx1.out k hlt
      have HP := Lib.hid (bkAt_at ss k hlt)
      have HS := Lib.hid (allTo_succ (bkAt ss) k)
      have Hbad : Hid (bkAt ss k = false → r = false) := Lib.hid (fun h => by rw [← Hr.out]; exact dskOk_n4 hlt h)
      generalize ss[k] = s at *
      by_cases hs : s.size = 64
      · have h64 : ((s.size : Int) != 64) = false := by simp; omega
        have h65 : (s.size : Int) = 64 := by omega
        have Hall2 : Hid (allTo (bkAt ss) (k + 1) = true) := Lib.hid (by rw [HS.out, Hall.out, HP.out]; simpa using hs)
        clear hs
        go_wp2
        go_round
        case rel => exact ⟨k + 1, by omega, by go_num, Hall2.out⟩
        case measure => simp [intOf]; omega
      · have Hf := Lib.hid (Hbad.out (by rw [HP.out]; simpa using hs))
        have h64 : ((s.size : Int) != 64) = true := by simp; omega
        have h65 : ¬ (s.size : Int) = 64 := by omega
        clear hs Hbad
        go_wp2
        go_ret
        exact ⟨by rw [Hf.out]; rfl, rfl⟩
    · obtain rfl : k = ss.length := by omega
      go_wp2
      go_loop [5] (fun i => ∃ j : Nat, j ≤ ps.length ∧ i = .int .i64 (j : Int) ∧ allTo (pdAt ss.length ps) j = true) (fun i => ps.length - (intOf i).toNat)
      case atStart => exact ⟨0, Nat.zero_le _, rfl, allTo_zero _⟩
      case round =>
        obtain ⟨j, hj, rfl, hal2⟩ := hrel
        have Hal2 := Lib.hid hal2; clear hal2
        by_cases hlj : j < ps.length
        · obtain ⟨b, o, rfl, hb, hc1, hc2, -, -⟩ := Hx2.out j hlj
          have HP := Lib.hid (pdAt_at ss.length ps j hlj)
          have HS := Lib.hid (allTo_succ (pdAt ss.length ps) j)
          have Hbad : Hid (pdAt ss.length ps j = false → r = false) := Lib.hid (fun h => by rw [← Hr.out]; exact dskOk_n5 hlj h)
          generalize ps[j].1 = z at *
          generalize ps[j].2 = s at *
          cases hi : inB z 0 ((ss.length : Int) - 1)
          · have Hi := Lib.hid hi
            have Hf := Lib.hid (Hbad.out (by rw [HP.out, hi]; rfl))
            clear hi Hbad
            go_wp2_with ((go_at_call 62; refine (l00In_no _ _ _ _ Hi.out).mono ?_; rintro e w' ⟨rfl, rfl⟩))
            go_ret
            exact ⟨by rw [Hf.out]; rfl, rfl⟩
          · have Hi := Lib.hid hi
            by_cases hs : s.size = 64
            · have h64 : ((s.size : Int) != 64) = false := by simp; omega
              have h65 : (s.size : Int) = 64 := by omega
              have Hall2 : Hid (allTo (pdAt ss.length ps) (j + 1) = true) := Lib.hid (by rw [HS.out, Hal2.out, HP.out, hi]; simpa using hs)
              clear hs hi
              go_wp2_with ((go_at_call 62; refine (l00In_yes _ _ _ _ Hi.out).mono ?_; rintro e w' ⟨rfl, rfl⟩))
              go_round
              case rel => exact ⟨j + 1, by omega, by go_num, Hall2.out⟩
              case measure => simp [intOf]; omega
            · have Hf := Lib.hid (Hbad.out (by rw [HP.out, hi]; simpa using hs))
              have h64 : ((s.size : Int) != 64) = true := by simp; omega
              have h65 : ¬ (s.size : Int) = 64 := by omega
              clear hs hi Hbad
              go_wp2_with ((go_at_call 62; refine (l00In_yes _ _ _ _ Hi.out).mono ?_; rintro e w' ⟨rfl, rfl⟩))
              go_ret
              exact ⟨by rw [Hf.out]; rfl, rfl⟩
        · obtain rfl : j = ps.length := by omega
          have Hf : Hid (r = true) := Lib.hid (by
            rw [← Hr.out, dskOk_iff]
            have h1 := inB_iff.1 Hn.out; have h2 := inB_iff.1 Hz.out
            exact ⟨by omega, by omega, hp, h2.1, h2.2, Hall.out, Hal2.out⟩)
          go_wp2
          go_ret
          exact ⟨by rw [Hf.out]; rfl, rfl⟩
end Go.Proofs.YtplfnlalmcpcaaaGreat
