/- Lists of pages: contracts of the program's functions. No statement is proved here. -/
import Derived.Test.YtplfnlalmcpcaaaGreatPgF
namespace Go.Proofs.YtplfnlalmcpcaaaGreat
open Go.RowKit
set_option linter.unusedVariables false
theorem pg_bel {B : Nat} {w w' : World} {b o : Nat} {z : Int} {s : ByteArray} (h1 : w.cell? ⟨b, o, none⟩ = some (.int .i64 z)) (h2 : w.cell? ⟨b, o + 1, none⟩ = some (.string s)) (hb : b < B) (g : Below B w w') : ∀ (j : Nat) (u : Value), [.int .i64 z, .string s][j]? = some u → w'.cell? ⟨b, o + j, none⟩ = some u :=
  two_cells (by rw [g.cell hb]; exact h1) (by rw [g.cell hb]; exact h2)
set_option maxHeartbeats 2000000 in
set_option maxRecDepth 100000 in
theorem implValidPages_any {B : Nat} {w : World} {v : Value} {ps : List Pt} (h : RiU B w v ps) (hB : B ≤ w.heap.size) :
    Calls Tryz.prog 94 #[v] w (GivesB (.bool (pgOk ps)) w) := by
  have hwf := h.wf
  obtain ⟨A, cap, rfl, hl, hm, hx⟩ := h
  unfold maxLen at hm
  generalize hr : pgOk ps = r
  have Hr := Lib.hid hr; clear hr
  have Hx := Lib.hid hx; clear hx hwf
  go_enter Tryz.func94, Tryz.ntmps94
  go_wp2_with fail
  go_loopw [3, 8] (fun l i wr => ∃ k : Nat, k ≤ ps.length ∧ i = .int .i64 (k : Int) ∧ l = .int .i64 (pgL ps k) ∧ Below w.heap.size w wr ∧ allTo (pgAt ps) k = true) (fun _ i _ => ps.length - (intOf i).toNat)
  case atStart => exact ⟨0, Nat.zero_le _, rfl, rfl, Below.refl _ _, allTo_zero _⟩
  case round =>
    obtain ⟨k, hk, rfl, rfl, hbel, hall⟩ := hrel
    have Hall := Lib.hid hall; have Hbel := Lib.hid hbel; clear hall
    have hge := pgL_ge k Hall.out
    by_cases hlt : k < ps.length
    · obtain ⟨b, o, rfl, hb, hc1, hc2, hI, -⟩ := Hx.out k hlt
      have Hld := Lib.hid (run_load_cells (P := Tryz.prog) wr b (o + k * 2) 77 _ [.int .i64 ps[k].1, .string ps[k].2] (pg_bel hc1 hc2 (show b < _ from by omega) hbel) Tryz.underlying77 rfl)
      have HP : Hid (pgAt ps k = (decide (pgL ps k ≤ ps[k].1) && (decide (ps[k].1 < 256) && decide (ps[k].2.size = 64)))) := Lib.hid (by rw [pgAt_eq Hall.out, pgB_at ps k hlt, pgS_at ps k hlt])
      have HS := Lib.hid (allTo_succ (pgAt ps) k)
      have HL : Hid (pgL ps (k + 1) = ps[k].1 + 1) := Lib.hid (by rw [← pgB_at ps k hlt]; rfl)
      have Hbad : Hid (pgAt ps k = false → r = false) := Lib.hid (fun h => by rw [← Hr.out]; exact pgOk_n2 hlt h)
      clear hc1 hc2 hbel
      generalize ps[k].1 = z at *
      generalize ps[k].2 = s at *
      generalize pgL ps k = y at *
      have HBa : Hid (Below w.heap.size w (wr.alloc (.cells #[.int .i64 z, .string s] 77))) := Lib.hid (Hbel.out.alloc Hbel.out.size _)
      unfold InI at hI
      by_cases h1 : y ≤ z
      rotate_left
      · have Hf := Lib.hid (Hbad.out (by rw [HP.out, decide_eq_false h1]; rfl))
        clear Hbad
        go_wp2_with (refine wpList_load_agg rfl 77 (.tmp 10) rfl _ rfl _ Hld.out ?_)
        go_ret
        exact ⟨by rw [Hf.out]; rfl, HBa.out⟩
      by_cases h2 : z < 256
      rotate_left
      · have Hf := Lib.hid (Hbad.out (by rw [HP.out, decide_eq_false h2]; simp))
        clear Hbad
        go_wp2_with (refine wpList_load_agg rfl 77 (.tmp 10) rfl _ rfl _ Hld.out ?_)
        go_ret
        exact ⟨by rw [Hf.out]; rfl, HBa.out⟩
      by_cases hs : s.size = 64
      rotate_left
      · have Hf := Lib.hid (Hbad.out (by rw [HP.out]; simp [hs]))
        have h64 : ((s.size : Int) != 64) = true := by simp; omega
        have h65 : ¬ (s.size : Int) = 64 := by omega
        clear hs Hbad
        go_wp2_with (refine wpList_load_agg rfl 77 (.tmp 10) rfl _ rfl _ Hld.out ?_)
        go_ret
        exact ⟨by rw [Hf.out]; rfl, HBa.out⟩
      have h64 : ((s.size : Int) != 64) = false := by simp; omega
      have h65 : (s.size : Int) = 64 := by omega
      have Hall2 : Hid (allTo (pgAt ps) (k + 1) = true) := Lib.hid (by rw [HS.out, Hall.out, HP.out]; simp [h1, h2, hs])
      clear hs Hbad
      go_wp2_with (refine wpList_load_agg rfl 77 (.tmp 10) rfl _ rfl _ Hld.out ?_)
      go_roundw
      case rel => exact ⟨k + 1, by omega, by go_num, by rw [HL.out], HBa.out, Hall2.out⟩
      case measure => simp [intOf]; omega
    · obtain rfl : k = ps.length := by omega
      have Hf : Hid (r = true) := Lib.hid (by rw [← Hr.out]; exact pgOk_y (by omega) Hall.out)
      clear hbel
      go_wp2
      go_ret
      exact ⟨by rw [Hf.out]; rfl, Hbel.out⟩
set_option maxHeartbeats 2000000 in
set_option maxRecDepth 100000 in
theorem implPageOf_any {B : Nat} {w : World} {v : Value} {ps : List Pt} {x : Int} (h : RiU B w v ps) (hx : (Lit.int .i64 x).wf = true) (hB : B ≤ w.heap.size) :
    Calls Tryz.prog 149 #[v, .int .i64 x] w (GivesB (.tuple #[.string (pgX ps x), .bool (pgY ps x)]) w) := by
  obtain ⟨A, cap, rfl, hl, hm, hx⟩ := h
  unfold maxLen at hm
  have Hx := Lib.hid hx; clear hx
  have Hyes : Hid (∀ k (hk : k < ps.length), ps[k].1 = x → (∀ i (hi : i < ps.length), i < k → ps[i].1 ≠ x) → pgX ps x = ps[k].2 ∧ pgY ps x = true) := Lib.hid (fun k hk he hall => by unfold pgX pgY; rw [pgF_some hk he hall]; exact ⟨pgS_at ps k hk, rfl⟩)
  have Hno : Hid ((∀ i (hi : i < ps.length), ps[i].1 ≠ x) → pgX ps x = ByteArray.empty ∧ pgY ps x = false) := Lib.hid (fun hall => by unfold pgX pgY; rw [pgF_none hall]; exact ⟨rfl, rfl⟩)
  generalize pgX ps x = rx at *
  generalize pgY ps x = ry at *
  go_enter Tryz.func149, Tryz.ntmps149
  go_wp2_with fail
  go_loopw [10] (fun i wr => ∃ k : Nat, k ≤ ps.length ∧ i = .int .i64 (k : Int) ∧ Below w.heap.size w wr ∧ ∀ i (hi : i < ps.length), i < k → ps[i].1 ≠ x) (fun i _ => ps.length - (intOf i).toNat)
  case atStart => exact ⟨0, Nat.zero_le _, rfl, Below.refl _ _, fun j _ h => absurd h (by omega)⟩
  case round =>
    obtain ⟨k, hk, rfl, hbel, hall⟩ := hrel
    have Hall := Lib.hid hall; have Hbel := Lib.hid hbel; clear hall
    by_cases hlt : k < ps.length
    · obtain ⟨b, o, rfl, hb, hc1, hc2, -, -⟩ := Hx.out k hlt
      have Hld := Lib.hid (run_load_cells (P := Tryz.prog) wr b (o + k * 2) 77 _ [.int .i64 ps[k].1, .string ps[k].2] (pg_bel hc1 hc2 (show b < _ from by omega) hbel) Tryz.underlying77 rfl)
      have Hall2 : Hid (ps[k].1 ≠ x → ∀ i (hi : i < ps.length), i < k + 1 → ps[i].1 ≠ x) := Lib.hid (fun h i hi hik => by
        rcases Nat.lt_or_ge i k with h3 | h3
        · exact Hall.out i hi h3
        · obtain rfl : i = k := by omega
          exact h)
      have HY : Hid (ps[k].1 = x → rx = ps[k].2 ∧ ry = true) := Lib.hid (fun h => Hyes.out k hlt h Hall.out)
      clear hc1 hc2 hbel
      generalize ps[k].1 = z at *
      generalize ps[k].2 = s at *
      have HBa : Hid (Below w.heap.size w (wr.alloc (.cells #[.int .i64 z, .string s] 77))) := Lib.hid (Hbel.out.alloc Hbel.out.size _)
      by_cases hz : z = x
      · have Hf := Lib.hid (HY.out hz)
        subst hz
        clear HY Hall2
        go_wp2_with (refine wpList_load_agg rfl 77 (.tmp 12) rfl _ rfl _ Hld.out ?_)
        go_ret2
        exact ⟨by rw [Hf.out.1, Hf.out.2]; rfl, HBa.out⟩
      · have Hn := Lib.hid (Hall2.out hz)
        have x1 : (z == x) = false := beq_eq_false_iff_ne.2 hz
        clear HY Hall2
        go_wp2_with (refine wpList_load_agg rfl 77 (.tmp 12) rfl _ rfl _ Hld.out ?_)
        go_roundw
        case rel => exact ⟨k + 1, by omega, by go_num, HBa.out, Hn.out⟩
        case measure => simp [intOf]; omega
    · obtain rfl : k = ps.length := by omega
      have Hf := Lib.hid (Hno.out fun i hi => Hall.out i hi hi)
      clear hbel
      go_wp2
      go_ret2
      exact ⟨by rw [Hf.out.1, Hf.out.2]; rfl, Hbel.out⟩
end Go.Proofs.YtplfnlalmcpcaaaGreat
