/- Selections as lists: which are well-formed; contracts of the model's checks. No statement is proved here. -/
import Derived.Test.YtbghekgghiamcaaIdx
import Derived.Test.YtbghekgghiamcaaPts
import Derived.Deep.RegionHeld3
import Derived.Deep.DeepFit
namespace Go.Proofs.Ytbghekgghiamcaa
open Go.RowKit
set_option linter.unusedVariables false
def axOk (s t c b : Int) : Bool := decide (0 ≤ s ∧ s ≤ 40 ∧ 1 ≤ c ∧ c ≤ 40 ∧ 1 ≤ b ∧ b ≤ t ∧ t ≤ 40 ∧ s + (c - 1) * t + b ≤ 40)
def axEnd (s t c b : Int) : Int := s + (c - 1) * t + b
theorem axOk_iff {s t c b : Int} : axOk s t c b = true ↔ (0 ≤ s ∧ s ≤ 40 ∧ 1 ≤ c ∧ c ≤ 40 ∧ 1 ≤ b ∧ b ≤ t ∧ t ≤ 40 ∧ s + (c - 1) * t + b ≤ 40) := by simp [axOk]
theorem axOk_no {s t c b : Int} (h : ¬ (0 ≤ s ∧ s ≤ 40 ∧ 1 ≤ c ∧ c ≤ 40 ∧ 1 ≤ b ∧ b ≤ t ∧ t ≤ 40 ∧ s + (c - 1) * t + b ≤ 40)) : axOk s t c b = false := by
  rw [Bool.eq_false_iff]; intro h2; exact h (axOk_iff.1 h2)
/-- The products of a hyperslab's dimension stay small. -/
theorem ax_bd {s t c b : Int} (h1 : 0 ≤ s) (h2 : s ≤ 40) (h3 : 1 ≤ c) (h4 : c ≤ 40) (h5 : 1 ≤ b) (h6 : b ≤ t) (h7 : t ≤ 40) : 0 ≤ (c - 1) * t ∧ (c - 1) * t ≤ 1600 := by
  have h := mul_bd (p := c - 1) (x := t) (P := 40) (by omega) (by omega) (by omega) h7
  omega
def slabAt (S T C K : List Int) (i : Nat) : Bool := axOk (S.getD i 0) (T.getD i 0) (C.getD i 0) (K.getD i 0)
def slabLens (S T C K : List Int) : Bool := decide (S.length ≤ 3) && (decide (T.length = S.length) && (decide (C.length = S.length) && decide (K.length = S.length)))
def slabOk (S T C K : List Int) : Bool := slabLens S T C K && allTo (slabAt S T C K) S.length
def plainB (S T C K : List Int) : Bool := decide (S.length = 0) && (decide (T.length = 0) && (decide (C.length = 0) && decide (K.length = 0)))
def ptAt (ps : List (List Int)) (i : Nat) : Bool := decide ((ps.getD i []).length = (ps.getD 0 []).length) && (decide ((ps.getD i []).length ≤ 3) && allTo (fun j => inB ((ps.getD i []).getD j 0) 0 39) (ps.getD i []).length)
def ptsOk (ps : List (List Int)) : Bool := inB ps.length 1 24 && allTo (ptAt ps) ps.length
def formedB (k : Int) (S T C K : List Int) (ps : List (List Int)) : Bool :=
  if k = 1 ∨ k = 2 then plainB S T C K && decide (ps.length = 0) else if k = 3 then decide (ps.length = 0) && slabOk S T C K else if k = 4 then plainB S T C K && ptsOk ps else false
theorem slabAt_at {S T C K : List Int} {i : Nat} (h1 : i < S.length) (h2 : i < T.length) (h3 : i < C.length) (h4 : i < K.length) : slabAt S T C K i = axOk S[i] T[i] C[i] K[i] := by
  unfold slabAt; rw [getD_at _ _ h1, getD_at _ _ h2, getD_at _ _ h3, getD_at _ _ h4]
theorem getD_pt (ps : List (List Int)) (i : Nat) (h : i < ps.length) : ps.getD i [] = ps[i] := by rw [List.getD_eq_getElem?_getD, List.getElem?_eq_getElem h]; rfl
theorem ptAt_at {ps : List (List Int)} {i : Nat} (h : i < ps.length) : ptAt ps i = (decide (ps[i].length = (ps[0]'(by omega)).length) && (decide (ps[i].length ≤ 3) && allTo (fun j => inB (ps[i].getD j 0) 0 39) ps[i].length)) := by
  unfold ptAt; rw [getD_pt _ _ h, getD_pt _ _ (by omega)]
/-- The box of a selection handed over. -/
def SelBox (w wr : World) (k : Int) (A1 A2 A3 A4 A5 : Option Addr) (n1 n2 n3 n4 n5 c1 c2 c3 c4 c5 : Nat) : Prop :=
  wr.cell? ⟨w.heap.size, 0, none⟩ = some (.int .i64 k) ∧ wr.cell? ⟨w.heap.size, 1, none⟩ = some (.slice A1 n1 c1) ∧ wr.cell? ⟨w.heap.size, 2, none⟩ = some (.slice A2 n2 c2) ∧ wr.cell? ⟨w.heap.size, 3, none⟩ = some (.slice A3 n3 c3) ∧ wr.cell? ⟨w.heap.size, 4, none⟩ = some (.slice A4 n4 c4) ∧ wr.cell? ⟨w.heap.size, 5, none⟩ = some (.slice A5 n5 c5) ∧ w.heap.size < wr.heap.size
theorem SelBox.start (w : World) (t : TypeId) (k : Int) (A1 A2 A3 A4 A5 : Option Addr) (n1 n2 n3 n4 n5 c1 c2 c3 c4 c5 : Nat) :
    SelBox w (w.alloc (.cells #[.int .i64 k, .slice A1 n1 c1, .slice A2 n2 c2, .slice A3 n3 c3, .slice A4 n4 c4, .slice A5 n5 c5] t)) k A1 A2 A3 A4 A5 n1 n2 n3 n4 n5 c1 c2 c3 c4 c5 := by
  refine ⟨?_, ?_, ?_, ?_, ?_, ?_, by simp⟩ <;> (rw [cell_of_row _ _ _ _ _ _ (heap_alloc_new w _)]; rfl)
theorem SelBox.go {w w1 w2 : World} {k : Int} {A1 A2 A3 A4 A5 : Option Addr} {n1 n2 n3 n4 n5 c1 c2 c3 c4 c5 : Nat} (h : SelBox w w1 k A1 A2 A3 A4 A5 n1 n2 n3 n4 n5 c1 c2 c3 c4 c5) (g : Below w1.heap.size w1 w2) : SelBox w w2 k A1 A2 A3 A4 A5 n1 n2 n3 n4 n5 c1 c2 c3 c4 c5 := by
  obtain ⟨h0, h1, h2, h3, h4, h5, h6⟩ := h
  have e : ∀ j, w2.cell? ⟨w.heap.size, j, none⟩ = w1.cell? ⟨w.heap.size, j, none⟩ := fun j => g.cell (p := ⟨w.heap.size, j, none⟩) h6
  exact ⟨by rw [e]; exact h0, by rw [e]; exact h1, by rw [e]; exact h2, by rw [e]; exact h3, by rw [e]; exact h4, by rw [e]; exact h5, by have := g.size; omega⟩
set_option maxHeartbeats 1000000 in
theorem l06Plain_any (w : World) (k : Int) (A1 A2 A3 A4 A5 : Option Addr) (n1 n2 n3 n4 n5 c1 c2 c3 c4 c5 : Nat) :
    Calls Try.prog 64 #[.agg #[.int .i64 k, .slice A1 n1 c1, .slice A2 n2 c2, .slice A3 n3 c3, .slice A4 n4 c4, .slice A5 n5 c5]] w (GivesB (.bool (decide (n1 = 0) && (decide (n2 = 0) && (decide (n3 = 0) && decide (n4 = 0))))) w) := by
  have Hb0 : Hid (Below w.heap.size w (w.alloc (.cells #[.int .i64 k, .slice A1 n1 c1, .slice A2 n2 c2, .slice A3 n3 c3, .slice A4 n4 c4, .slice A5 n5 c5] 25))) := Lib.hid ((Below.refl _ w).alloc (Nat.le_refl _) _)
  generalize hr : (decide (n1 = 0) && (decide (n2 = 0) && (decide (n3 = 0) && decide (n4 = 0)))) = r
  by_cases e1 : n1 = 0
  · by_cases e2 : n2 = 0
    · by_cases e3 : n3 = 0
      · by_cases e4 : n4 = 0
        · have Hf : Hid (r = true) := Lib.hid (by rw [← hr]; simp [e1, e2, e3, e4])
          subst e1; subst e2; subst e3; subst e4
          clear hr
          go_enter Try.func64, Try.ntmps64
          go_wp2
          go_ret
          exact ⟨by rw [Hf.out]; rfl, Hb0.out⟩
        · have Hf : Hid (r = false) := Lib.hid (by rw [← hr]; simp [e4])
          have q1 : ((n4 : Int) == 0) = false := by simp; omega
          subst e1; subst e2; subst e3
          clear hr
          go_enter Try.func64, Try.ntmps64
          go_wp2
          go_ret
          exact ⟨by rw [Hf.out]; rfl, Hb0.out⟩
      · have Hf : Hid (r = false) := Lib.hid (by rw [← hr]; simp [e3])
        have q1 : ((n3 : Int) == 0) = false := by simp; omega
        subst e1; subst e2
        clear hr
        go_enter Try.func64, Try.ntmps64
        go_wp2
        go_ret
        exact ⟨by rw [Hf.out]; rfl, Hb0.out⟩
    · have Hf : Hid (r = false) := Lib.hid (by rw [← hr]; simp [e2])
      have q1 : ((n2 : Int) == 0) = false := by simp; omega
      subst e1
      clear hr
      go_enter Try.func64, Try.ntmps64
      go_wp2
      go_ret
      exact ⟨by rw [Hf.out]; rfl, Hb0.out⟩
  · have Hf : Hid (r = false) := Lib.hid (by rw [← hr]; simp [e1])
    have q1 : ((n1 : Int) == 0) = false := by simp; omega
    clear hr
    go_enter Try.func64, Try.ntmps64
    go_wp2
    go_ret
    exact ⟨by rw [Hf.out]; rfl, Hb0.out⟩
set_option maxHeartbeats 1000000 in
set_option maxRecDepth 100000 in
theorem l06End_any (w : World) (k : Int) (A5 : Option Addr) (b1 o1 b2 o2 b3 o3 b4 o4 n1 n2 n3 n4 n5 c1 c2 c3 c4 c5 i : Nat) (s t c b : Int)
    (hs : w.cell? ⟨b1, o1 + i, none⟩ = some (.int .i64 s)) (ht : w.cell? ⟨b2, o2 + i, none⟩ = some (.int .i64 t)) (hc : w.cell? ⟨b3, o3 + i, none⟩ = some (.int .i64 c)) (hb : w.cell? ⟨b4, o4 + i, none⟩ = some (.int .i64 b))
    (h1 : i < n1) (h2 : i < n2) (h3 : i < n3) (h4 : i < n4) (hin : i < 4)
    (p1 : 0 ≤ s) (p2 : s ≤ 40) (p3 : 1 ≤ c) (p4 : c ≤ 40) (p5 : 1 ≤ b) (p6 : b ≤ t) (p7 : t ≤ 40) :
    Calls Try.prog 78 #[.agg #[.int .i64 k, .slice (some ⟨b1, o1, none⟩) n1 c1, .slice (some ⟨b2, o2, none⟩) n2 c2, .slice (some ⟨b3, o3, none⟩) n3 c3, .slice (some ⟨b4, o4, none⟩) n4 c4, .slice A5 n5 c5], .int .i64 (i : Int)] w (GivesB (.int .i64 (axEnd s t c b)) w) := by
  have hl1 := (spot_none hs).2; have hl2 := (spot_none ht).2; have hl3 := (spot_none hc).2; have hl4 := (spot_none hb).2
  obtain ⟨m1, m2⟩ := ax_bd p1 p2 p3 p4 p5 p6 p7
  have Hb0 : Hid (Below w.heap.size w (w.alloc (.cells #[.int .i64 k, .slice (some ⟨b1, o1, none⟩) n1 c1, .slice (some ⟨b2, o2, none⟩) n2 c2, .slice (some ⟨b3, o3, none⟩) n3 c3, .slice (some ⟨b4, o4, none⟩) n4 c4, .slice A5 n5 c5] 25))) := Lib.hid ((Below.refl _ w).alloc (Nat.le_refl _) _)
  have w0 : IntKind.i64.wrap (c - 1) = c - 1 := IntWalk.i64_in _ (by omega)
  have w1 : IntKind.i64.wrap ((c - 1) * t) = (c - 1) * t := IntWalk.i64_in _ (by omega)
  have w2 : IntKind.i64.wrap (s + (c - 1) * t) = s + (c - 1) * t := IntWalk.i64_in _ (by omega)
  have w3 : IntKind.i64.wrap (s + (c - 1) * t + b) = s + (c - 1) * t + b := IntWalk.i64_in _ (by omega)
  go_enter Try.func78, Try.ntmps78
  go_wp2
  go_quiet (fail)
  clear w0 w1 w2 w3
  go_wp2
  go_ret
  exact ⟨rfl, below_draws Hb0.out _⟩
end Go.Proofs.Ytbghekgghiamcaa
