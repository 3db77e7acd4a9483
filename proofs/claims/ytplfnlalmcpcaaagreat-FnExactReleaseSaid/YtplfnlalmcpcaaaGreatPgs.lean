/- Lists of pages: which are valid, where a block is; contracts of the model's functions. No statement is proved here. -/
import Derived.Test.YtplfnlalmcpcaaaGreatPag
import Derived.Test.YtplfnlalmcpcaaaGreatDimC
import Derived.Test.YtplfnlalmcpcaaaGreatIdx
namespace Go.Proofs.YtplfnlalmcpcaaaGreat
open Go.RowKit
set_option linter.unusedVariables false
def pgB (ps : List Pt) (i : Nat) : Int := (ps.getD i (0, ByteArray.empty)).1
def pgS (ps : List Pt) (i : Nat) : ByteArray := (ps.getD i (0, ByteArray.empty)).2
theorem pgB_at (ps : List Pt) (i : Nat) (h : i < ps.length) : pgB ps i = ps[i].1 := by unfold pgB; rw [List.getD_eq_getElem?_getD, List.getElem?_eq_getElem h]; rfl
theorem pgS_at (ps : List Pt) (i : Nat) (h : i < ps.length) : pgS ps i = ps[i].2 := by unfold pgS; rw [List.getD_eq_getElem?_getD, List.getElem?_eq_getElem h]; rfl
def pgAt (ps : List Pt) (i : Nat) : Bool := inB (pgB ps i) 0 255 && (decide ((pgS ps i).size = 64) && (decide (i = 0) || decide (pgB ps (i - 1) < pgB ps i)))
def pgOk (ps : List Pt) : Bool := decide (ps.length ≤ 256) && allTo (pgAt ps) ps.length
theorem pgOk_n1 {ps : List Pt} (h : ¬ ps.length ≤ 256) : pgOk ps = false := by simp [pgOk, h]
theorem pgOk_n2 {ps : List Pt} {k : Nat} (hk : k < ps.length) (h : pgAt ps k = false) : pgOk ps = false := by simp [pgOk, allTo_bad _ k _ hk h]
theorem pgOk_y {ps : List Pt} (h : ps.length ≤ 256) (h2 : allTo (pgAt ps) ps.length = true) : pgOk ps = true := by simp [pgOk, h, h2]
theorem pgOk_iff {ps : List Pt} : pgOk ps = true ↔ ps.length ≤ 256 ∧ allTo (pgAt ps) ps.length = true := by simp [pgOk]
/-- The least number that the next block may have. -/
def pgL (ps : List Pt) : Nat → Int
  | 0 => 0
  | k + 1 => pgB ps k + 1
theorem pgL_ge {ps : List Pt} : ∀ k : Nat, allTo (pgAt ps) k = true → (k : Int) ≤ pgL ps k ∧ pgL ps k ≤ 256
  | 0, _ => by simp [pgL]
  | k + 1, h => by
    rw [allTo_succ, Bool.and_eq_true] at h
    have ih := pgL_ge k h.1
    have h2 := h.2
    simp only [pgAt, Bool.and_eq_true, inB_iff, Bool.or_eq_true, decide_eq_true_eq] at h2
    obtain ⟨⟨a, b⟩, c, d⟩ := h2
    show ((k + 1 : Nat) : Int) ≤ pgB ps k + 1 ∧ pgB ps k + 1 ≤ 256
    refine ⟨?_, by omega⟩
    cases k with
    | zero => simp; omega
    | succ k =>
      have hl : pgL ps (k + 1) = pgB ps k + 1 := rfl
      have e : (k + 1 - 1 : Nat) = k := by omega
      rw [e] at d
      have : pgB ps k < pgB ps (k + 1) := by
        rcases d with d | d
        · omega
        · exact d
      omega
/-- What the program asks of the page k. -/
theorem pgAt_eq {ps : List Pt} {k : Nat} (h : allTo (pgAt ps) k = true) : pgAt ps k = (decide (pgL ps k ≤ pgB ps k) && (decide (pgB ps k < 256) && decide ((pgS ps k).size = 64))) := by
  have hl := pgL_ge k h
  rw [Bool.eq_iff_iff]
  simp only [pgAt, Bool.and_eq_true, inB_iff, Bool.or_eq_true, decide_eq_true_eq]
  cases k with
  | zero => simp [pgL]; omega
  | succ k =>
    have hl2 : pgL ps (k + 1) = pgB ps k + 1 := rfl
    have e : (k + 1 - 1 : Nat) = k := by omega
    rw [hl2] at hl ⊢
    rw [e]
    constructor
    · rintro ⟨⟨a, b⟩, c, d⟩
      rcases d with d | d
      · omega
      · exact ⟨by omega, by omega, c⟩
    · rintro ⟨a, b, c⟩
      exact ⟨⟨by omega, by omega⟩, c, .inr (by omega)⟩
/-- Where a block is. -/
def pgF : List Pt → Int → Option Nat
  | [], _ => none
  | p :: ps, b => if p.1 = b then some 0 else (pgF ps b).map (· + 1)
theorem pgF_none {ps : List Pt} {b : Int} (h : ∀ i (hi : i < ps.length), ps[i].1 ≠ b) : pgF ps b = none := by
  induction ps with
  | nil => rfl
  | cons p ps ih =>
    rw [pgF, if_neg (show ¬ p.1 = b from h 0 (by simp)), ih (fun i hi => h (i + 1) (by simpa using hi))]; rfl
theorem pgF_some {ps : List Pt} {b : Int} : ∀ {k : Nat} (hk : k < ps.length), ps[k].1 = b → (∀ i (hi : i < ps.length), i < k → ps[i].1 ≠ b) → pgF ps b = some k := by
  induction ps with
  | nil => intro k hk; simp at hk
  | cons p ps ih =>
    intro k hk he hall
    cases k with
    | zero => rw [pgF, if_pos (show p.1 = b from he)]
    | succ k =>
      rw [pgF, if_neg (show ¬ p.1 = b from hall 0 (by simp) (by omega)), ih (k := k) (by simpa using hk) (by simpa using he) (fun i hi hik => hall (i + 1) (by simpa using hi) (by omega))]; rfl
theorem pgF_lt {ps : List Pt} {b : Int} {k : Nat} (h : pgF ps b = some k) : k < ps.length := by
  induction ps generalizing k with
  | nil => cases h
  | cons p ps ih =>
    rw [pgF] at h
    split at h
    · obtain rfl := Option.some.inj h; simp
    · obtain ⟨j, hj, rfl⟩ := Option.map_eq_some_iff.1 h
      have := ih hj
      simp; omega
def pgI (ps : List Pt) (b : Int) : Int := match pgF ps b with | some k => (k : Int) | none => -1
/-- What is found: the page's bytes, and whether there is one. -/
def pgX (ps : List Pt) (b : Int) : ByteArray := match pgF ps b with | some k => pgS ps k | none => ByteArray.empty
def pgY (ps : List Pt) (b : Int) : Bool := (pgF ps b).isSome
set_option maxHeartbeats 2000000 in
set_option maxRecDepth 100000 in
theorem l11Pages_any {B : Nat} {w : World} {v : Value} {ps : List Pt} (h : RiU B w v ps) (hB : B ≤ w.heap.size) :
    Calls Tryz.prog 83 #[v] w (GivesB (.bool (pgOk ps)) w) := by
  obtain ⟨A, cap, rfl, hl, hm, hx⟩ := h
  unfold maxLen at hm
  generalize hr : pgOk ps = r
  have Hr := Lib.hid hr; clear hr
  have Hx := Lib.hid hx; clear hx
  by_cases hp : ps.length ≤ 256
  rotate_left
  · have Hf : Hid (r = false) := Lib.hid (by rw [← Hr.out]; exact pgOk_n1 hp)
    have hp2 : decide ((256 : Int) < (ps.length : Int)) = true := decide_eq_true (by omega)
    go_enter Tryz.func83, Tryz.ntmps83
    go_wp2_with fail
    go_ret
    exact ⟨by rw [Hf.out]; rfl, Below.refl _ _⟩
  have hp2 : decide ((256 : Int) < (ps.length : Int)) = false := decide_eq_false (by omega)
  go_enter Tryz.func83, Tryz.ntmps83
  go_wp2_with fail
  go_loopw [3] (fun i wr => ∃ k : Nat, k ≤ ps.length ∧ i = .int .i64 (k : Int) ∧ Below w.heap.size w wr ∧ allTo (pgAt ps) k = true) (fun i _ => ps.length - (intOf i).toNat)
  case atStart => exact ⟨0, Nat.zero_le _, rfl, Below.refl _ _, allTo_zero _⟩
  case round =>
    obtain ⟨k, hk, rfl, hbel, hall⟩ := hrel
    have Hall := Lib.hid hall; have Hbel := Lib.hid hbel; clear hall
    by_cases hlt : k < ps.length
    · obtain ⟨b, o, rfl, hb, hc1, hc2, -, -⟩ := Hx.out k hlt
      have g1 := (hbel.cell (p := ⟨b, o + k * 2, none⟩) (show b < _ by omega)).trans hc1
      have g2 := (hbel.cell (p := ⟨b, o + k * 2 + 1, none⟩) (show b < _ by omega)).trans hc2
      have HP : Hid (pgAt ps k = (inB ps[k].1 0 255 && (decide (ps[k].2.size = 64) && (decide (k = 0) || decide (pgB ps (k - 1) < ps[k].1))))) := Lib.hid (by unfold pgAt; rw [pgB_at ps k hlt, pgS_at ps k hlt])
      have HS := Lib.hid (allTo_succ (pgAt ps) k)
      have Hbad : Hid (pgAt ps k = false → r = false) := Lib.hid (fun h => by rw [← Hr.out]; exact pgOk_n2 hlt h)
      have Hprev : Hid (∀ j, k = j + 1 → wr.cell? ⟨b, o + j * 2, none⟩ = some (.int .i64 (pgB ps j))) := Lib.hid (fun j hj => by
        obtain ⟨b', o', e, hb', hc', -, -, -⟩ := Hx.out j (by omega)
        simp only [Option.some.injEq, Addr.mk.injEq, and_true] at e
        obtain ⟨rfl, rfl⟩ := e
        rw [pgB_at ps j (by omega)]
        exact (hbel.cell (p := ⟨b, o + j * 2, none⟩) (show b < _ by omega)).trans hc')
      clear hc1 hc2 hbel
      generalize ps[k].1 = z at *
      generalize ps[k].2 = s at *
      cases hi : inB z 0 255
      · have Hi := Lib.hid hi
        have Hf := Lib.hid (Hbad.out (by rw [HP.out, hi]; rfl))
        clear hi Hbad
        go_wp2
        go_quiet ((go_at_call 62; exact Quiet.qs (l00In_no _ _ _ _ Hi.out)))
        go_wp2
        go_ret
        exact ⟨by rw [Hf.out]; rfl, below_draws Hbel.out _⟩
      have Hi := Lib.hid hi
      by_cases hs : s.size = 64
      rotate_left
      · have Hf := Lib.hid (Hbad.out (by rw [HP.out, hi]; simp [hs]))
        have h64 : ((s.size : Int) != 64) = true := by simp; omega
        have h65 : ¬ (s.size : Int) = 64 := by omega
        clear hs hi Hbad
        go_wp2
        go_quiet ((go_at_call 62; exact Quiet.qs (l00In_yes _ _ _ _ Hi.out)))
        go_wp2
        go_ret
        exact ⟨by rw [Hf.out]; rfl, below_draws Hbel.out _⟩
      have h64 : ((s.size : Int) != 64) = false := by simp; omega
      have h65 : (s.size : Int) = 64 := by omega
      cases k with
      | zero =>
        have Hall2 : Hid (allTo (pgAt ps) (0 + 1) = true) := Lib.hid (by rw [HS.out, Hall.out, HP.out, hi]; simp [hs])
        clear hs hi Hbad
        simp only [Nat.zero_mul, Nat.add_zero] at g1 g2
        have n0 : (0 : Int) < (ps.length : Int) := by omega
        go_wp2
        go_quiet ((go_at_call 62; exact Quiet.qs (l00In_yes _ _ _ _ Hi.out)))
        go_wp2
        go_roundw
        case rel => exact ⟨0 + 1, by omega, by go_num, below_draws Hbel.out _, Hall2.out⟩
        case measure => simp [intOf]; omega
      | succ k =>
        have g3 := Hprev.out k rfl
        have e1 : (k + 1 - 1 : Nat) = k := by omega
        have hk2 : k < ps.length := by omega
        have hm2 : ps.length ≤ 256 := hp
        by_cases hzz : pgB ps k < z
        · have Hall2 : Hid (allTo (pgAt ps) (k + 1 + 1) = true) := Lib.hid (by rw [HS.out, Hall.out, HP.out, hi, e1]; simp [hs, hzz])
          generalize pgB ps k = y at *
          clear hs hi Hbad Hprev e1
          go_wp2
          go_quiet ((go_at_call 62; exact Quiet.qs (l00In_yes _ _ _ _ Hi.out)))
          go_wp2
          go_roundw
          case rel => exact ⟨k + 1 + 1, by omega, by go_num, below_draws Hbel.out _, Hall2.out⟩
          case measure => simp [intOf]; omega
        · have Hf := Lib.hid (Hbad.out (by rw [HP.out, hi, e1]; simp [hs, hzz]))
          generalize pgB ps k = y at *
          clear hs hi Hbad Hprev e1
          go_wp2
          go_quiet ((go_at_call 62; exact Quiet.qs (l00In_yes _ _ _ _ Hi.out)))
          go_wp2
          go_ret
          exact ⟨by rw [Hf.out]; rfl, below_draws Hbel.out _⟩
    · obtain rfl : k = ps.length := by omega
      have Hf : Hid (r = true) := Lib.hid (by rw [← Hr.out]; exact pgOk_y hp Hall.out)
      clear hbel
      go_wp2
      go_ret
      exact ⟨by rw [Hf.out]; rfl, Hbel.out⟩
end Go.Proofs.YtplfnlalmcpcaaaGreat
