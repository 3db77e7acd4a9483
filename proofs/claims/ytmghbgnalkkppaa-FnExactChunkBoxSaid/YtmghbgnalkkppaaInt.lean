/- Lists of numbers in memory; contracts of the laws' functions that bound, copy and compare them. No statement is proved here. -/
import Derived.Test.YtmghbgnalkkppaaData
import Derived.Test.YtmghbgnalkkppaaDim
import Derived.Deep.QuietTactic
import Derived.BigQuiet
import Derived.Deep.Draws
import Derived.Deep.RegionHeld3
import Derived.Deep.MidRow
import Derived.Laws.MakeOwn
import Derived.StillTailTactics
namespace Go.Proofs.Ytmghbgnalkkppaa
open Go.RowKit
set_option linter.unusedVariables false
theorem old_cell {W w1 : World} (hb : Below W.heap.size W w1) (b o : Nat) (h : b < W.heap.size) : w1.cell? ⟨b, o, none⟩ = W.cell? ⟨b, o, none⟩ := hb.cell (p := ⟨b, o, none⟩) h
theorem old_frozen {W w1 : World} (hb : Below W.heap.size W w1) (b o : Nat) (h : b < W.heap.size) : w1.frozen? ⟨b, o, none⟩ = W.frozen? ⟨b, o, none⟩ := hb.frozen (p := ⟨b, o, none⟩) h
theorem below_draws {B : Nat} {a w : World} (h : Below B a w) (n : Nat) : Below B a (w.drewN n) := ⟨h.os, h.tape, h.output, h.size, h.block⟩
/-- The call gives this value; of memory there is only more. -/
def GivesB (v : Value) (w : World) (e : Ending) (w' : World) : Prop := e = .returned v ∧ Below w.heap.size w w'
/-- The call gives this value, and memory is as it was. -/
def Quiet (v : Value) (w : World) (e : Ending) (w' : World) : Prop := e = .returned v ∧ w = w'
theorem Gb.of {P : Program} {F : FuncId} {args : Array Value} {v : Value} {w : World} (h : Calls P F args w (Quiet v w)) : Calls P F args w (GivesB v w) :=
  h.mono fun e w' ⟨he, hw⟩ => ⟨he, hw ▸ Below.refl _ _⟩
/-- A slice that reads as a list of numbers, below block B. -/
def Ri (B : Nat) (w : World) (v : Value) (xs : List Int) : Prop := ∃ (A : Option Addr) (cap : Nat), v = .slice A xs.length cap ∧ xs.length ≤ cap ∧ cap ≤ maxLen ∧
  ∀ (i : Nat) (hi : i < xs.length), ∃ b o : Nat, A = some ⟨b, o, none⟩ ∧ b < B ∧ w.cell? ⟨b, o + i, none⟩ = some (.int .i64 xs[i]) ∧ InI xs[i]
theorem Ri.up {B B' : Nat} {w w' : World} {v : Value} {xs : List Int} (h : Ri B w v xs) (hB : B ≤ B') (hw : Below B w w') : Ri B' w' v xs := by
  obtain ⟨A, cap, hv, h1, h2, h3⟩ := h
  refine ⟨A, cap, hv, h1, h2, fun i hi => ?_⟩
  obtain ⟨b, o, hA, hb, hc, hI⟩ := h3 i hi
  exact ⟨b, o, hA, by omega, by rw [hw.cell hb]; exact hc, hI⟩
theorem Ri.at {B : Nat} {w w' : World} {v : Value} {xs : List Int} (h : Ri B w v xs) (hB : B ≤ w.heap.size) (hw : Below w.heap.size w w') : Ri w'.heap.size w' v xs :=
  (h.up (Nat.le_refl _) (hw.mono hB)).up (Nat.le_trans hB hw.size) (Below.refl _ _)
theorem Rd.ri {f B : Nat} {w : World} {v : Value} {d : D} (h : Rd f B w (.sl .int) v d) : ∃ xs : List Int, Ri B w v xs := by
  obtain ⟨f', xs, A, cap, _, _, rfl, hl, hc, hx⟩ := Rd.ints h
  exact ⟨xs, A, cap, rfl, hl, hc, hx⟩
theorem Ri.inI {B : Nat} {w : World} {v : Value} {xs : List Int} (h : Ri B w v xs) : ∀ x ∈ xs, InI x := by
  obtain ⟨A, cap, hv, h1, h2, h3⟩ := h
  intro x hx
  obtain ⟨i, hi, rfl⟩ := List.getElem_of_mem hx
  obtain ⟨b, o, hA, hb, hc, hI⟩ := h3 i hi
  exact hI
def cellsI (xs : List Int) : Array Value := (xs.map (Value.int .i64)).toArray
theorem cellsI_size (xs : List Int) : (cellsI xs).size = xs.length := by simp [cellsI]
theorem cellsI_at (xs : List Int) (i : Nat) (h : i < xs.length) : (cellsI xs)[i]? = some (.int .i64 xs[i]) := by simp [cellsI, h]
/-- A block that holds this list. -/
def Row (w : World) (b : Nat) (xs : List Int) : Prop := w.heap[b]? = some (.cells (cellsI xs) 2 (0, 0))
theorem Row.lt {w : World} {b : Nat} {xs : List Int} (h : Row w b xs) : b < w.heap.size := by
  rcases Nat.lt_or_ge b w.heap.size with hl | hl
  · exact hl
  · unfold Row at h; rw [Array.getElem?_eq_none hl] at h; cases h
theorem Row.cell {w : World} {b : Nat} {xs : List Int} (h : Row w b xs) (i : Nat) (hi : i < xs.length) : w.cell? ⟨b, i, none⟩ = some (.int .i64 xs[i]) := by
  rw [cell_of_row _ _ _ _ _ _ h]; exact cellsI_at xs i hi
theorem Row.ri {w : World} {b B : Nat} {xs : List Int} (h : Row w b xs) (hb : b < B) (hx : ∀ x ∈ xs, InI x) (hl : xs.length ≤ maxLen) : Ri B w (.slice (some ⟨b, 0, none⟩) xs.length xs.length) xs :=
  ⟨_, _, rfl, Nat.le_refl _, hl, fun i hi => ⟨b, 0, rfl, hb, by rw [Nat.zero_add]; exact h.cell i hi, hx _ (List.getElem_mem hi)⟩⟩
theorem Row.below {w w' : World} {b : Nat} {xs : List Int} (h : Row w b xs) (hw : Below w.heap.size w w') : Row w' b xs := by
  unfold Row; rw [hw.block _ h.lt]; exact h
theorem Ri.nil (B : Nat) (w : World) : Ri B w (.slice none 0 0) [] := ⟨none, 0, rfl, Nat.le_refl _, by decide, fun i hi => by simp at hi⟩
/-- 'make' of a slice of whatever elements. -/
theorem make_all {P : Program} (t e : TypeId) (n size bytes : Nat) (ht : P.underlying t = some (.slice e)) (hinfo : (P.info? e).map (fun i => (i.zero.isSome, i.size, i.bytes)) = some (true, size, bytes)) (hb : bytes * n ≤ 281474976710656) (hn : n ≤ 9223372036854775807) :
    ∃ C : Array Value, C.size = n * size ∧ ∀ w : World, (Instr.makeSlice t (.int .i64 (n : Int)) (.int .i64 (n : Int))).run P w = .ok (.slice (some ⟨w.heap.size, 0, none⟩) n n) (w.alloc (.cells C e)) := by
  obtain ⟨i, hi, he⟩ := Option.map_eq_some_iff.1 hinfo
  simp only [Prod.mk.injEq] at he
  obtain ⟨hz, rfl, rfl⟩ := he
  obtain ⟨z, hz⟩ := Option.isSome_iff_exists.1 hz
  refine ⟨madeCells z.cells (n * i.size), size_madeCells _ _, fun w => ?_⟩
  have hb' : (i.bytes : Int) * (n : Int) ≤ 281474976710656 := by rw [← Int.natCast_mul]; omega
  have := run_make (P := P) w t e i z ht hi hz .i64 .i64 n n (by omega) (Int.le_refl _) hb' (by omega)
  simpa only [Int.toNat_natCast] using this
theorem Try.infoI : (Try.prog.info? 2).map (fun i => (i.zero.isSome, i.size, i.bytes)) = some (true, 1, 8) := by kernel_rfl
/-- The call makes a copy of the list, in one new block. -/
def MadeI (xs : List Int) (w : World) (e : Ending) (w' : World) : Prop := e = .returned (.slice (some ⟨w.heap.size, 0, none⟩) xs.length xs.length) ∧ Row w' w.heap.size xs ∧ w'.heap.size = w.heap.size + 1 ∧ Below w.heap.size w w'
set_option maxHeartbeats 400000 in
theorem toI_any {B : Nat} {w : World} {v : Value} {xs : List Int} (h : Ri B w v xs) (hB : B ≤ w.heap.size) (hs : xs.length ≤ 1048576) :
    Calls Try.prog 12 #[v] w (MadeI xs w) := by
  obtain ⟨A, cap, rfl, hl, hc, hx⟩ := h
  obtain ⟨C, hC, hmk⟩ := make_all (P := Try.prog) 22 2 xs.length 1 8 Try.underlying22 Try.infoI (by omega) (by omega)
  have Hx := Lib.hid hx; have HC := Lib.hid hC
  clear hx hC
  have HB0 : Hid (Below w.heap.size w (w.alloc (.cells C 2))) := Lib.hid ((Below.refl _ w).alloc (Nat.le_refl _) _)
  have HR0 : Hid ((w.alloc (.cells C 2)).heap[w.heap.size]? = some (.cells C 2 (0, 0))) := Lib.hid (heap_alloc_new w _)
  go_enter Try.func12, Try.ntmps12
  go_wp2
  go_loopw [4] (fun i wr => ∃ k : Nat, ∃ C' : Array Value, k ≤ xs.length ∧ i = .int .i64 k ∧ wr.heap[w.heap.size]? = some (.cells C' 2 (0, 0)) ∧ C'.size = xs.length ∧ (∀ j (hj : j < xs.length), j < k → C'[j]? = some (.int .i64 xs[j])) ∧ wr.heap.size = w.heap.size + 1 ∧ Below w.heap.size w wr) (fun i _ => xs.length - (intOf i).toNat)
  case atStart => exact ⟨0, C, Nat.zero_le _, rfl, HR0.out, by rw [HC.out, Nat.mul_one], fun j hj h => absurd h (by omega), by simp, HB0.out⟩
  case round =>
    obtain ⟨k, C', hk, rfl, hrow, hsz, hall, hws, hbel⟩ := hrel
    have Hall := Lib.hid hall; have Hsz := Lib.hid hsz
    have Hws := Lib.hid hws
    clear hall hsz
    by_cases hlt : k < xs.length
    · obtain ⟨b, o, rfl, hb, hcell, hI⟩ := Hx.out k hlt
      have hcell2 : wr.cell? ⟨b, o + k, none⟩ = some (.int .i64 xs[k]) := by rw [hbel.cell (p := ⟨b, o + k, none⟩) (show b < _ from by omega)]; exact hcell
      obtain ⟨u, hu0⟩ : ∃ u, C'[k]? = some u := ⟨_, Array.getElem?_eq_getElem (by rw [Hsz.out]; exact hlt)⟩
      have hu : wr.cell? ⟨w.heap.size, k, none⟩ = some u := by rw [cell_of_row _ _ _ _ _ _ hrow]; exact hu0
      have hfz : wr.frozen? ⟨w.heap.size, k, none⟩ = false := frozen_of_row _ _ _ _ _ hrow
      have Hnew : Hid ((wr.setCell ⟨w.heap.size, k, none⟩ (.int .i64 xs[k])).heap[w.heap.size]? = some (.cells (C'.setIfInBounds k (.int .i64 xs[k])) 2 (0, 0))) := Lib.hid (heap_setCell_same _ _ _ _ _ _ hrow)
      have Hb2 : Hid (Below w.heap.size w (wr.setCell ⟨w.heap.size, k, none⟩ (.int .i64 xs[k]))) := Lib.hid (hbel.setCell (p := ⟨w.heap.size, k, none⟩) (Nat.le_refl _) _)
      have Hall2 : Hid (∀ j (hj : j < xs.length), j < k + 1 → (C'.setIfInBounds k (.int .i64 xs[k]))[j]? = some (.int .i64 xs[j])) := Lib.hid (fun j hj hjk => by
        rw [Array.getElem?_setIfInBounds]
        by_cases e : k = j
        · subst e; simp [Hsz.out, hlt]
        · rw [if_neg e]; exact Hall.out j hj (by omega))
      clear hcell hu0 hrow hbel hws
      go_wp2
      go_roundw
      case rel => exact ⟨k + 1, _, by omega, by go_num, Hnew.out, by simp [Hsz.out], Hall2.out, by simp [World.setCell, Hws.out], Hb2.out⟩
      case measure => simp [intOf]; omega
    · have Hrow : Hid (Row wr w.heap.size xs) := Lib.hid (by
        unfold Row
        rw [hrow]
        congr 2
        apply Array.ext (by rw [cellsI_size, Hsz.out])
        intro i h1 h2
        rw [cellsI_size] at h2
        have e1 := Hall.out i h2 (by omega)
        have e2 := cellsI_at xs i h2
        rw [Array.getElem?_eq_getElem h1] at e1
        rw [Array.getElem?_eq_getElem (by rw [cellsI_size]; exact h2)] at e2
        rw [← Option.some.inj e1] at e2
        exact (Option.some.inj e2).symm)
      have Hbel := Lib.hid hbel
      clear hrow hbel hws
      go_wp2
      go_ret
      exact ⟨rfl, Hrow.out, Hws.out, Hbel.out⟩
set_option maxHeartbeats 400000 in
theorem eqI_any {B : Nat} {w : World} {v1 v2 : Value} {xs : List Int} (h1 : Ri B w v1 xs) (h2 : Ri B w v2 xs) (hB : B ≤ w.heap.size) :
    Calls Try.prog 14 #[v1, v2] w (GivesB (.bool true) w) := by
  obtain ⟨A1, c1, rfl, hl1, hm1, hx1⟩ := h1
  obtain ⟨A2, c2, rfl, hl2, hm2, hx2⟩ := h2
  have Hx1 := Lib.hid hx1; have Hx2 := Lib.hid hx2; clear hx1 hx2
  unfold maxLen at hm1 hm2
  go_enter Try.func14, Try.ntmps14
  go_wp2
  go_loopw [5] (fun i wr => ∃ k : Nat, k ≤ xs.length ∧ i = .int .i64 k ∧ Below w.heap.size w wr) (fun i _ => xs.length - (intOf i).toNat)
  case atStart => exact ⟨0, Nat.zero_le _, rfl, Below.refl _ _⟩
  case round =>
    obtain ⟨k, hk, rfl, hbel⟩ := hrel
    by_cases hlt : k < xs.length
    · obtain ⟨b1, o1, rfl, hb1, hq1, _⟩ := Hx1.out k hlt
      obtain ⟨b2, o2, rfl, hb2, hq2, _⟩ := Hx2.out k hlt
      have g1 : wr.cell? ⟨b1, o1 + k, none⟩ = some (.int .i64 xs[k]) := by rw [hbel.cell (p := ⟨b1, o1 + k, none⟩) (show b1 < _ from by omega)]; exact hq1
      have g2 : wr.cell? ⟨b2, o2 + k, none⟩ = some (.int .i64 xs[k]) := by rw [hbel.cell (p := ⟨b2, o2 + k, none⟩) (show b2 < _ from by omega)]; exact hq2
      have Hbel := Lib.hid hbel
      clear hq1 hq2 hbel
      go_wp2
      go_quiet (fail)
      go_wp2
      go_roundw
      case rel => exact ⟨k + 1, by omega, by go_num, below_draws Hbel.out _⟩
      case measure => simp [intOf]; omega
    · go_wp2
      go_ret
      exact ⟨rfl, hbel⟩
end Go.Proofs.Ytmghbgnalkkppaa
