/- Runs: lists in memory; contracts of the laws' functions that bound, copy, compare, mark and hold them. No statement is proved here. -/
import Derived.Test.YtlickjmdlooapaaPag
import Derived.Deep.WholeRow
import Derived.StillTailTactics
namespace Go.Proofs.Ytlickjmdlooapaa
open Go.RowKit
set_option linter.unusedVariables false
abbrev ER := Int × Int
/-- A slice that reads as this list, below block B. -/
def RiR (B : Nat) (w : World) (v : Value) (ps : List ER) : Prop := ∃ (A : Option Addr) (cap : Nat), v = .slice A ps.length cap ∧ ps.length ≤ cap ∧ cap ≤ maxLen ∧
  ∀ (i : Nat) (hi : i < ps.length), ∃ (b o : Nat), A = some ⟨b, o, none⟩ ∧ b < B ∧ w.cell? ⟨b, o + i * 2, none⟩ = some (.int .i64 ps[i].1) ∧ w.cell? ⟨b, o + i * 2 + 1, none⟩ = some (.int .i64 ps[i].2) ∧ InI ps[i].1 ∧ InI ps[i].2
theorem RiR.up {B B' : Nat} {w w' : World} {v : Value} {ps : List ER} (h : RiR B w v ps) (hB : B ≤ B') (hw : Below B w w') : RiR B' w' v ps := by
  obtain ⟨A, cap, hv, h1, h2, h3⟩ := h
  refine ⟨A, cap, hv, h1, h2, fun i hi => ?_⟩
  obtain ⟨b, o, hA, hb, hc0, hc1, hr⟩ := h3 i hi
  exact ⟨b, o, hA, by omega, by rw [hw.cell hb]; exact hc0, by rw [hw.cell hb]; exact hc1, hr⟩
theorem RiR.at {B : Nat} {w w' : World} {v : Value} {ps : List ER} (h : RiR B w v ps) (hB : B ≤ w.heap.size) (hw : Below w.heap.size w w') : RiR w'.heap.size w' v ps :=
  (h.up (Nat.le_refl _) (hw.mono hB)).up (Nat.le_trans hB hw.size) (Below.refl _ _)
theorem RiR.nil (B : Nat) (w : World) : RiR B w (.slice none 0 0) [] := ⟨none, 0, rfl, Nat.le_refl _, by decide, fun i hi => by simp at hi⟩
theorem RiR.wf {B : Nat} {w : World} {v : Value} {ps : List ER} (h : RiR B w v ps) : ∀ p ∈ ps, InI p.1 ∧ InI p.2 := by
  obtain ⟨A, cap, hv, h1, h2, h3⟩ := h
  intro p hp
  obtain ⟨i, hi, rfl⟩ := List.getElem_of_mem hp
  obtain ⟨b, o, hA, hb, _, _, hr⟩ := h3 i hi
  exact hr
def flatR : List ER → List Value
  | [] => []
  | p :: ps => .int .i64 p.1 :: .int .i64 p.2 :: flatR ps
theorem flatR_len : ∀ ps : List ER, (flatR ps).length = ps.length * 2
  | [] => rfl
  | p :: ps => by simp [flatR, flatR_len ps]; omega
theorem flatR_at : ∀ (ps : List ER) (i : Nat) (h : i < ps.length), (flatR ps)[i * 2]? = some (.int .i64 ps[i].1) ∧ (flatR ps)[i * 2 + 1]? = some (.int .i64 ps[i].2)
  | p :: ps, 0, _ => ⟨rfl, rfl⟩
  | p :: ps, i + 1, h => by
    have e1 : (i + 1) * 2 = i * 2 + 2 := by omega
    rw [e1]
    exact flatR_at ps i (Nat.lt_of_succ_lt_succ h)
theorem flatR_append : ∀ ps qs : List ER, flatR (ps ++ qs) = flatR ps ++ flatR qs
  | [], _ => rfl
  | p :: ps, qs => by simp [flatR, flatR_append ps qs]
theorem flatR_one : ∀ ps : List ER, ∀ u ∈ flatR ps, u.oneCell' = true
  | [], u, h => by simp [flatR] at h
  | p :: ps, u, h => by
    simp only [flatR, List.mem_cons] at h
    rcases h with rfl | rfl | h
    · rfl
    · rfl
    · exact flatR_one ps u h
def cellsR (ps : List ER) : Array Value := (flatR ps).toArray
/-- A block that holds this list. -/
def RowR (w : World) (b : Nat) (ps : List ER) : Prop := w.heap[b]? = some (.cells (cellsR ps) 132 (0, 0))
theorem cellsR_of {C : Array Value} {ps : List ER} (hs : C.size = ps.length * 2) (h : ∀ j (hj : j < ps.length), C[j * 2]? = some (.int .i64 ps[j].1) ∧ C[j * 2 + 1]? = some (.int .i64 ps[j].2)) : C = cellsR ps := by
  apply Array.ext (by simp [cellsR, flatR_len, hs])
  intro i h1 h2
  have hi : i / 2 < ps.length := by omega
  have hc := h (i / 2) hi
  have hf := flatR_at ps (i / 2) hi
  have key : ∀ q, q = i → C[q]? = (flatR ps)[q]? → C[i] = (cellsR ps)[i] := fun q hq he => by
    subst hq
    have e1 : C[q]? = some C[q] := Array.getElem?_eq_getElem h1
    have e2 : (flatR ps)[q]? = some (cellsR ps)[q] := by simp [cellsR]
    rw [e1, e2] at he
    exact Option.some.inj he
  have hm : i % 2 = 0 ∨ i % 2 = 1 := by omega
  rcases hm with hm | hm
  · exact key (i / 2 * 2) (by omega) ((hc.1).trans (hf.1).symm)
  · exact key (i / 2 * 2 + 1) (by omega) ((hc.2).trans (hf.2).symm)
/-- A list of one's own. -/
def OR (w : World) (lo : Nat) (v : Value) (ps : List ER) : Prop := w.ownsRow lo 132 2 v ps.length (flatR ps)
theorem OR.sl {w : World} {lo : Nat} {v : Value} {ps : List ER} (h : OR w lo v ps) : (v = .slice none 0 0 ∧ ps = []) ∨ ∃ g cap, v = .slice (some ⟨g, 0, none⟩) ps.length cap ∧ lo ≤ g ∧ g < w.heap.size ∧ ps.length ≤ cap ∧ cap ≤ maxLen := by
  rcases own_sl h with ⟨h1, h2⟩ | h1
  · exact .inl ⟨h1, List.eq_nil_of_length_eq_zero h2⟩
  · exact .inr h1
theorem OR.cell {w : World} {lo g cap n : Nat} {ps : List ER} (h : OR w lo (.slice (some ⟨g, 0, none⟩) n cap) ps) (j : Nat) (hj : j < ps.length) : w.cell? ⟨g, j * 2, none⟩ = some (.int .i64 ps[j].1) ∧ w.cell? ⟨g, j * 2 + 1, none⟩ = some (.int .i64 ps[j].2) := by
  have h0 := World.ownsRow.cells (g := g) h rfl (j * 2) _ (flatR_at ps j hj).1
  have h1 := World.ownsRow.cells (g := g) h rfl (j * 2 + 1) _ (flatR_at ps j hj).2
  rw [add_at, Nat.zero_add] at h0 h1
  exact ⟨h0, h1⟩
theorem OR.ri {w : World} {lo : Nat} {v : Value} {ps : List ER} (h : OR w lo v ps) (hi : ∀ p ∈ ps, InI p.1 ∧ InI p.2) : RiR w.heap.size w v ps := by
  rcases h.sl with ⟨rfl, rfl⟩ | ⟨g, cap, rfl, hlo, hg, hn, hm⟩
  · exact RiR.nil _ _
  · exact ⟨_, cap, rfl, hn, hm, fun i hi2 => ⟨g, 0, rfl, hg, by rw [Nat.zero_add]; exact (h.cell i hi2).1, by rw [Nat.zero_add]; exact (h.cell i hi2).2, hi _ (List.getElem_mem hi2)⟩⟩
theorem OR.of_row {w : World} {lo b : Nat} {ps : List ER} (h : RowR w b ps) (hlo : lo ≤ b) (hl : ps.length ≤ maxLen) : OR w lo (.slice (some ⟨b, 0, none⟩) ps.length ps.length) ps := by
  refine ⟨by rw [flatR_len], .inr ⟨b, ps.length, cellsR ps, rfl, hlo, h, Nat.le_refl _, hl, by simp [cellsR, flatR_len], ?_⟩⟩
  simp only [cellsR]
  rw [List.take_of_length_le (by rw [flatR_len]; exact Nat.le_refl _)]
def SmR (ps : List ER) : Prop := ps.length ≤ 1048576 ∧ ∀ p ∈ ps, True
theorem cells_R {w : World} {b o : Nat} {u0 u1 : Value} (h0 : w.cell? ⟨b, o, none⟩ = some u0) (h1 : w.cell? ⟨b, o + 1, none⟩ = some u1) : ∀ (j : Nat) (u : Value), [u0, u1][j]? = some u → w.cell? ⟨b, o + j, none⟩ = some u := fun j u hj => by
  rcases j with _ | _ | j
  · obtain rfl := Option.some.inj hj; exact h0
  · obtain rfl := Option.some.inj hj; exact h1
  · simp at hj
theorem heap_setCellsR {w : World} {b o : Nat} {C : Array Value} {t : TypeId} (u0 u1 : Value) (h : w.heap[b]? = some (.cells C t (0, 0))) : (w.setCells b o [u0, u1]).heap[b]? = some (.cells ((C.setIfInBounds (o) u0).setIfInBounds (o + 1) u1) t (0, 0)) := by
  show ((w.setCell ⟨b, o, none⟩ u0).setCell ⟨b, o + 1, none⟩ u1).heap[b]? = _
  exact heap_setCell_same _ _ _ _ _ _ (heap_setCell_same _ _ _ _ _ _ h)
theorem Try.infoR : (Try.prog.info? 132).map (fun i => (i.zero.isSome, i.size, i.bytes)) = some (true, 2, 16) := by kernel_rfl
set_option maxHeartbeats 400000 in
theorem eqRun_any (n0 : Int) (n1 : Int) (w : World) :
    Calls Try.prog 99 #[.agg #[.int .i64 n0, .int .i64 n1], .agg #[.int .i64 n0, .int .i64 n1]] w (GivesB (.bool true) w) := by
  go_enter Try.func99, Try.ntmps99
  go_wp2
  go_ret
  exact ⟨rfl, ((Below.refl _ _).alloc (Nat.le_refl _) _).alloc (by simp) _⟩
set_option maxHeartbeats 1000000 in
set_option maxRecDepth 100000 in
theorem eqRuns_any {B : Nat} {w : World} {v1 v2 : Value} {ps : List ER} (h1 : RiR B w v1 ps) (h2 : RiR B w v2 ps) (hB : B ≤ w.heap.size) :
    Calls Try.prog 32 #[v1, v2] w (GivesB (.bool true) w) := by
  obtain ⟨A1, c1, rfl, hl1, hm1, hx1⟩ := h1
  obtain ⟨A2, c2, rfl, hl2, hm2, hx2⟩ := h2
  have Hx1 := Lib.hid hx1; have Hx2 := Lib.hid hx2; clear hx1 hx2
  unfold maxLen at hm1 hm2
  go_enter Try.func32, Try.ntmps32
  go_wp2
  go_loopw [5] (fun i wr => ∃ k : Nat, k ≤ ps.length ∧ i = .int .i64 k ∧ Below w.heap.size w wr) (fun i _ => ps.length - (intOf i).toNat)
  case atStart => exact ⟨0, Nat.zero_le _, rfl, Below.refl _ _⟩
  case round =>
    obtain ⟨k, hk, rfl, hbel⟩ := hrel
    by_cases hlt : k < ps.length
    · obtain ⟨b1, o1, rfl, hb1, q1_0, q1_1, -⟩ := Hx1.out k hlt
      obtain ⟨b2, o2, rfl, hb2, q2_0, q2_1, -⟩ := Hx2.out k hlt
      have hbw : Below wr.heap.size wr (wr.drewN 1) := below_draws (Below.refl _ _) 1
      have hbW : Below w.heap.size w (wr.drewN 1) := hbel.trans (hbw.mono hbel.size)
      have Hbel := Lib.hid hbel; have Hbw := Lib.hid hbw
      have G1 := Lib.hid (run_load_cells (P := Try.prog) (wr.drewN 1) b1 (o1 + k * 2) 132 _ [.int .i64 ps[k].1, .int .i64 ps[k].2] (cells_R (by rw [hbW.cell (show b1 < _ from by omega)]; exact q1_0) (by rw [hbW.cell (show b1 < _ from by omega)]; exact q1_1)) Try.underlying132 (by kernel_rfl))
      have G2 := Lib.hid (run_load_cells (P := Try.prog) (wr.drewN 1) b2 (o2 + k * 2) 132 _ [.int .i64 ps[k].1, .int .i64 ps[k].2] (cells_R (by rw [hbW.cell (show b2 < _ from by omega)]; exact q2_0) (by rw [hbW.cell (show b2 < _ from by omega)]; exact q2_1)) Try.underlying132 (by kernel_rfl))
      clear q1_0 q1_1 q2_0 q2_1 hbel hbw hbW
      go_wp2
      refine wp_region_still_tail 8 (by kernel_rfl) (by kernel_rfl) ?_
      simp only [List.take_succ_cons, List.take_zero, List.drop_succ_cons, List.drop_zero]
      still_step
      still_step
      still_step
      refine wpStill_load rfl 132 (.tmp 19) rfl _ rfl _ G1.out ?_
      still_step
      still_step
      still_step
      refine wpStill_load rfl 132 (.tmp 23) rfl _ rfl _ G2.out ?_
      refine wpStill_nil ?_
      go_wp2_with fail
      refine (eqRun_any _ _ _).mono ?_
      rintro e w1 ⟨rfl, hb1⟩
      have Hb1 : Hid (Below w.heap.size w w1) := Lib.hid (Hbel.out.trans ((Hbw.out.trans (hb1.mono Hbw.out.size)).mono Hbel.out.size))
      clear hb1
      go_wp2
      go_roundw
      case rel => exact ⟨k + 1, by omega, by go_num, Hb1.out⟩
      case measure => simp [intOf]; omega
    · go_wp2
      go_ret
      exact ⟨rfl, hbel⟩
end Go.Proofs.Ytlickjmdlooapaa
