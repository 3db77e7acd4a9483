/- Where a block is in a list of pages: contracts of the model's functions, and of its checks of records. No statement is proved here. -/
import Derived.Test.YtplfnlalmcpcaaaGreatPgs
namespace Go.Proofs.YtplfnlalmcpcaaaGreat
open Go.RowKit
set_option linter.unusedVariables false
set_option maxHeartbeats 2000000 in
set_option maxRecDepth 100000 in
theorem l11Find_any {B : Nat} {w : World} {v : Value} {ps : List Pt} (x : Int) (h : RiU B w v ps) (hB : B ≤ w.heap.size) :
    Calls Tryz.prog 147 #[v, .int .i64 x] w (GivesB (.int .i64 (pgI ps x)) w) := by
  obtain ⟨A, cap, rfl, hl, hm, hx⟩ := h
  unfold maxLen at hm
  have Hx := Lib.hid hx; clear hx
  have Hyes : Hid (∀ k (hk : k < ps.length), ps[k].1 = x → (∀ i (hi : i < ps.length), i < k → ps[i].1 ≠ x) → pgI ps x = (k : Int)) := Lib.hid (fun k hk he hall => by unfold pgI; rw [pgF_some hk he hall])
  have Hno : Hid ((∀ i (hi : i < ps.length), ps[i].1 ≠ x) → pgI ps x = -1) := Lib.hid (fun hall => by unfold pgI; rw [pgF_none hall])
  generalize pgI ps x = r at *
  go_enter Tryz.func147, Tryz.ntmps147
  go_wp2_with fail
  go_loopw [5] (fun i wr => ∃ k : Nat, k ≤ ps.length ∧ i = .int .i64 (k : Int) ∧ Below w.heap.size w wr ∧ ∀ i (hi : i < ps.length), i < k → ps[i].1 ≠ x) (fun i _ => ps.length - (intOf i).toNat)
  case atStart => exact ⟨0, Nat.zero_le _, rfl, Below.refl _ _, fun j _ h => absurd h (by omega)⟩
  case round =>
    obtain ⟨k, hk, rfl, hbel, hall⟩ := hrel
    have Hall := Lib.hid hall; have Hbel := Lib.hid hbel; clear hall
    by_cases hlt : k < ps.length
    · obtain ⟨b, o, rfl, hb, hc1, hc2, -, -⟩ := Hx.out k hlt
      have g1 := (hbel.cell (p := ⟨b, o + k * 2, none⟩) (show b < _ by omega)).trans hc1
      have Hall2 : Hid (ps[k].1 ≠ x → ∀ i (hi : i < ps.length), i < k + 1 → ps[i].1 ≠ x) := Lib.hid (fun h i hi hik => by
        rcases Nat.lt_or_ge i k with h3 | h3
        · exact Hall.out i hi h3
        · obtain rfl : i = k := by omega
          exact h)
      have HY : Hid (ps[k].1 = x → r = (k : Int)) := Lib.hid (fun h => Hyes.out k hlt h Hall.out)
      clear hc1 hc2 hbel
      generalize ps[k].1 = z at *
      by_cases hz : z = x
      · have Hf := Lib.hid (HY.out hz)
        subst hz
        clear HY Hall2
        go_wp2
        go_ret
        exact ⟨by rw [Hf.out]; rfl, Hbel.out⟩
      · have Hn := Lib.hid (Hall2.out hz)
        have x1 : (z == x) = false := beq_eq_false_iff_ne.2 hz
        clear HY Hall2
        go_wp2
        go_roundw
        case rel => exact ⟨k + 1, by omega, by go_num, Hbel.out, Hn.out⟩
        case measure => simp [intOf]; omega
    · obtain rfl : k = ps.length := by omega
      have Hf := Lib.hid (Hno.out fun i hi => Hall.out i hi hi)
      clear hbel
      go_wp2
      go_ret
      exact ⟨by rw [Hf.out]; rfl, Hbel.out⟩
theorem pg_cases (ps : List Pt) (x : Int) : (∃ k, ∃ h : k < ps.length, pgI ps x = (k : Int) ∧ pgX ps x = ps[k].2 ∧ pgY ps x = true) ∨ (pgI ps x = -1 ∧ pgX ps x = ByteArray.empty ∧ pgY ps x = false) := by
  unfold pgI pgX pgY
  cases h : pgF ps x with
  | none => exact .inr ⟨rfl, rfl, rfl⟩
  | some k => exact .inl ⟨k, pgF_lt h, rfl, pgS_at ps k (pgF_lt h), rfl⟩
end Go.Proofs.YtplfnlalmcpcaaaGreat
