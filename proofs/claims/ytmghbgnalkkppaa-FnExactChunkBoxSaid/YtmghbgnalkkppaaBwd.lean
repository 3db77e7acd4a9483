/- The contract of the library's iterator that goes backward over dimensions. No statement is proved here. -/
import Derived.RangeFuncNested
import Derived.RangeFuncBound
import Derived.RangeFuncCalls
import Derived.RangeFuncLeaves
import Derived.Shelf.Abstract
import Derived.Shelf.RegionOpen
import Derived.WalkKit
import Derived.OwnWalkIn
import Derived.TacticsInMore
import Derived.LoopNIn
import Derived.LoopIn
import Derived.Test.YtmghbgnalkkppaaCrd
namespace Go.Proofs.Ytmghbgnalkkppaa
open Go.RowKit Go.Shelf
attribute [local go_sem] Oper.semAt_some
set_option linter.unusedVariables false
def blkOf : Option Addr → Nat
  | some a => a.block
  | none => 0
/-- These two blocks are as they were. -/
def KpS (b Bs : Nat) (W W' : World) : Prop := W'.heap[b]? = W.heap[b]? ∧ W'.heap[Bs]? = W.heap[Bs]?
theorem kpS_refl (b Bs : Nat) (W : World) : KpS b Bs W W := ⟨rfl, rfl⟩
theorem kpS_t {b Bs : Nat} {A B C : World} (h : KpS b Bs A B) (k : KpS b Bs B C) : KpS b Bs A C := ⟨k.1.trans h.1, k.2.trans h.2⟩
theorem kpS_b {b Bs : Nat} {w : World} (hb : b < w.heap.size) (hB : Bs < w.heap.size) (W : World) (l : Nat) (o o' : Obj) (hl : w.heap.size ≤ l) (h : W.heap[l]? = some o) (_ : o.isCells = false) (_ : o.isWalk = false) : KpS b Bs W (W.putObj l o') :=
  ⟨World.putObj_heap_other (by omega), World.putObj_heap_other (by omega)⟩
/-- The pairs of index and dimension that have come when j remain. -/
def dn (ds : List Int) (j : Nat) : List (Nat × Int) := ((List.range' j (ds.length - j)).reverse).map (fun k => (k, ds.getD k 0))
theorem dn_end (ds : List Int) : dn ds ds.length = [] := by simp [dn]
theorem dn_step (ds : List Int) (j : Nat) (h : j < ds.length) : dn ds j = dn ds (j + 1) ++ [(j, ds.getD j 0)] := by
  unfold dn
  rw [show ds.length - j = (ds.length - (j + 1)) + 1 by omega, List.range'_succ]
  simp
theorem dn_length (ds : List Int) (j : Nat) : (dn ds j).length = ds.length - j := by simp [dn]
set_option maxRecDepth 100000 in
set_option maxHeartbeats 2000000 in
theorem bwd1_in (F : Fence) (n : Nat) (h67 : F.fn 77) (hro : F.round = none) (hn : 1 ≤ n) (l Bs cap b0 : Nat) (A : Option Addr) (ds : List Int) (hlen : ds.length ≤ cap) (hcap : cap ≤ maxLen) (J Jx : List (Nat × Int) → World → Prop)
    (hY : ∀ pre x W, J pre W → pre.length < ds.length → (x.1 < ds.length ∧ x.2 ∈ ds) → YieldAt F (n - 1) Try.prog l #[.int .i64 (x.1 : Int), .int .i64 x.2] W fun e W' =>
      (e = .returned (.bool true) ∧ J (pre ++ [x]) W' ∧ KpS (b0) Bs W W') ∨ (e = .returned (.bool false) ∧ Jx (pre ++ [x]) W'))
    (W : World) (hBs : W.cell? ⟨Bs, 0, none⟩ = some (.slice A ds.length cap)) (hc : ∀ j (hj : j < ds.length), ∃ o, A = some ⟨b0, o, none⟩ ∧ W.cell? ⟨b0, o + j, none⟩ = some (.int .i64 ds[j])) (h0 : J [] W) :
    CallsIn F n Try.prog 77 #[.func (.yield l) #[] #[], .pointer (some ⟨Bs, 0, none⟩)] W fun e W' => (∃ v, e = .returned v) ∧
      ((∃ ys, ys = dn ds 0 ∧ J ys W') ∨ (∃ pre, True ∧ Jx pre W')) := by
  unfold maxLen at hcap
  have Hc := Lib.hid hc; clear hc
  refine callsIn_of_wp Try.func77 rfl h67 ?_ hro
  simp only [Try.ntmps77, List.size_toArray, List.length_cons, List.length_nil, Nat.reduceAdd, Nat.reduceSub, Array.replicate_succ, Array.replicate_zero, List.push_toArray, List.append_toArray, List.nil_append, List.cons_append]
  gi_wp2
  gi_loopw [3] (fun x wr => ∃ j : Nat, j ≤ ds.length ∧ x = .int .i64 ((j : Int) - 1) ∧ J (dn ds j) wr ∧ KpS (b0) Bs W wr)
    (fun x _ => (intOf x + 1).toNat)
  case atStart => exact ⟨ds.length, Nat.le_refl _, rfl, by rw [dn_end]; exact h0, kpS_refl _ _ _⟩
  case round =>
    obtain ⟨j, hj, rfl, hJs, hnx⟩ := hrel
    have Hnx := Lib.hid hnx; clear hnx
    cases j with
    | zero =>
      gi_wp2
      go_end0
      exact ⟨⟨_, rfl⟩, .inl ⟨_, rfl, hJs⟩⟩
    | succ j =>
      rw [show ((j + 1 : Nat) : Int) - 1 = (j : Int) by omega]
      have hlt : j < ds.length := by omega
      obtain ⟨o, rfl, hcell⟩ := Hc.out j hlt
      have hb2 : wr.cell? ⟨Bs, 0, none⟩ = some (.slice (some ⟨b0, o, none⟩) ds.length cap) := (World.cell?_of_block (w := W) (a := ⟨Bs, 0, none⟩) Hnx.out.2).trans hBs
      have hcell2 : wr.cell? ⟨b0, o + j, none⟩ = some (.int .i64 ds[j]) := (World.cell?_of_block (w := W) (a := ⟨b0, o + j, none⟩) Hnx.out.1).trans hcell
      obtain ⟨fn, tmps, assign, body, hy, hR⟩ := hY _ (j, ds[j]) wr hJs (by rw [dn_length]; omega) ⟨hlt, List.getElem_mem hlt⟩
      dsimp only at hy
      have Hst := Lib.hid (dn_step ds j hlt)
      have Hgd : Hid (ds.getD j 0 = ds[j]) := Lib.hid (by rw [List.getD_eq_getElem?_getD, List.getElem?_eq_getElem hlt]; rfl)
      clear hcell hJs
      gi_wp2
      refine hR.mono ?_
      rintro e W3 (⟨rfl, hJ3, hk3⟩ | ⟨rfl, hJx3⟩)
      · have HJ : Hid (J (dn ds j) W3) := Lib.hid (by rw [Hst.out, Hgd.out]; exact hJ3)
        have HK := Lib.hid (kpS_t Hnx.out hk3)
        clear hJ3 hk3
        gi_wp2
        go_roundw
        case rel => exact ⟨j, by omega, rfl, HJ.out, HK.out⟩
        case measure => simp [intOf]
      · gi_wp2
        refine bodyPost_ret (results_none rfl _ _ _) rfl ?_
        exact ⟨⟨_, rfl⟩, .inr ⟨_, trivial, hJx3⟩⟩
set_option maxHeartbeats 1000000 in
theorem bwd_in (F : Fence) (n : Nat) (h62 : F.fn 76) (hro : F.round = none) (a : Option Addr) (len cap : Nat) (w : World) :
    CallsIn F n Try.prog 76 #[.slice a len cap] w fun e w' => e = .returned (.func (.func 77) #[] #[.pointer (some ⟨w.heap.size, 0, none⟩)]) ∧ w' = w.alloc (.cells #[.slice a len cap] 41) := by
  refine callsIn_of_wp Try.func76 rfl h62 ?_ hro
  simp only [Try.ntmps76, List.size_toArray, List.length_cons, List.length_nil, Nat.reduceAdd, Nat.reduceSub, Array.replicate_succ, Array.replicate_zero, List.push_toArray, List.append_toArray, List.nil_append, List.cons_append]
  gi_wp2
  go_ret
  exact ⟨rfl, rfl⟩
abbrev Dx (ds : List Int) := { x : Nat × Int // x.1 < ds.length ∧ x.2 ∈ ds }
theorem bwd_stops (F : Fence) (n : Nat) (h67 : F.fn 77) (hro : F.round = none) (hn : 1 ≤ n) (Bs cap b0 : Nat) (A : Option Addr) (ds : List Int) (hlen : ds.length ≤ cap) (hcap : cap ≤ maxLen) (w : World) (hBs : Bs < w.heap.size)
    (hc : w.cell? ⟨Bs, 0, none⟩ = some (.slice A ds.length cap)) (hb0 : b0 < w.heap.size) (hd : ∀ j (hj : j < ds.length), ∃ o, A = some ⟨b0, o, none⟩ ∧ w.cell? ⟨b0, o + j, none⟩ = some (.int .i64 ds[j])) :
    SeqStopsK F n Try.prog 77 #[.pointer (some ⟨Bs, 0, none⟩)] (fun x : Dx ds => #[Value.int .i64 (x.1.1 : Int), Value.int .i64 x.1.2]) (KpS (b0) Bs) (fun ys => ys.map (·.1) = dn ds 0) (fun _ => True) ds.length w := fun l J Jx W hW _ _ hY h0 => by
  refine (bwd1_in F n h67 hro hn l Bs cap b0 A ds hlen hcap (fun pre W => ∃ q : List (Dx ds), q.map (·.1) = pre ∧ J q W) (fun pre W => ∃ q : List (Dx ds), q.map (·.1) = pre ∧ Jx q W) ?_ W ((hW.cell (p := ⟨Bs, 0, none⟩) hBs).trans hc)
    (fun j hj => by obtain ⟨o, e, hcj⟩ := hd j hj; exact ⟨o, e, (hW.cell (p := ⟨b0, o + j, none⟩) hb0).trans hcj⟩) ⟨[], rfl, h0⟩).mono ?_
  · rintro pre x W1 ⟨q, rfl, hq⟩ hl hx
    refine (hY q ⟨x, hx⟩ W1 hq (by simpa using hl)).mono ?_
    rintro e W' (⟨rfl, hj, hk⟩ | ⟨rfl, hj⟩)
    · exact .inl ⟨rfl, ⟨q ++ [⟨x, hx⟩], by simp, hj⟩, hk⟩
    · exact .inr ⟨rfl, ⟨q ++ [⟨x, hx⟩], by simp, hj⟩⟩
  · rintro e W' ⟨he, ⟨ys, rfl, q, hq, hj⟩ | ⟨pre, _, q, hq, hj⟩⟩
    · exact ⟨he, .inl ⟨q, hq, hj⟩⟩
    · exact ⟨he, .inr ⟨q, trivial, hj⟩⟩
/-- Index and row behind these pairs. -/
def stq (i : Int) (C : Array Value) (pre : List (Nat × Int)) : Int × Array Value := pre.foldl (fun s x => (s.1.tdiv x.2, s.2.setIfInBounds x.1 (.int .i64 (s.1.tmod x.2)))) (i, C)
theorem stq_snoc (i : Int) (C : Array Value) (pre : List (Nat × Int)) (x : Nat × Int) : stq i C (pre ++ [x]) = ((stq i C pre).1.tdiv x.2, (stq i C pre).2.setIfInBounds x.1 (.int .i64 ((stq i C pre).1.tmod x.2))) := by simp [stq]
theorem stq_cons (i : Int) (C : Array Value) (pre : List (Nat × Int)) (x : Nat × Int) : stq i C (x :: pre) = stq (i.tdiv x.2) (C.setIfInBounds x.1 (.int .i64 (i.tmod x.2))) pre := rfl
theorem stq_size (i : Int) (C : Array Value) (pre : List (Nat × Int)) : (stq i C pre).2.size = C.size := by
  induction pre generalizing i C with
  | nil => rfl
  | cons x pre ih => rw [stq_cons, ih]; simp
theorem stq_bd (i : Int) (C : Array Value) (h0 : 0 ≤ i) (pre : List (Nat × Int)) (hp : ∀ x ∈ pre, 0 < x.2) : 0 ≤ (stq i C pre).1 ∧ (stq i C pre).1 ≤ i := by
  induction pre generalizing i C with
  | nil => exact ⟨h0, Int.le_refl _⟩
  | cons x pre ih =>
    have hx := hp x (by simp)
    have := ih (i.tdiv x.2) (C.setIfInBounds x.1 (.int .i64 (i.tmod x.2))) (Int.tdiv_nonneg h0 (by omega)) (fun y hy => hp y (by simp [hy]))
    rw [stq_cons]
    exact ⟨this.1, Int.le_trans this.2 (Int.tdiv_le_self _ h0)⟩
theorem stq_dn (ds : List Int) (i : Int) (C : Array Value) (hC : C.size = ds.length) (m : Nat) : ∀ j, j + m = ds.length → (stq i C (dn ds j)).1 = qR ds i j ∧ ∀ k, k < ds.length → j ≤ k → (stq i C (dn ds j)).2[k]? = some (.int .i64 (crd ds i k)) := by
  induction m with
  | zero =>
    intro j hj
    obtain rfl : j = ds.length := by omega
    rw [dn_end]
    exact ⟨by simp [stq, qR_end], fun k hk h => absurd hk (by omega)⟩
  | succ m ih =>
    intro j hj
    have hlt : j < ds.length := by omega
    have hg : ds.getD j 0 = ds[j] := by rw [List.getD_eq_getElem?_getD, List.getElem?_eq_getElem hlt]; rfl
    obtain ⟨e1, e2⟩ := ih (j + 1) (by omega)
    rw [dn_step ds j hlt, stq_snoc]
    simp only [hg]
    refine ⟨by rw [e1, ← qR_step ds i j hlt], fun k hk hjk => ?_⟩
    rw [Array.getElem?_setIfInBounds]
    by_cases e : j = k
    · subst e
      rw [if_pos rfl, if_pos (by rw [stq_size, hC]; exact hlt), e1, ← crd_at ds i j hlt]
    · rw [if_neg e]; exact e2 k hk (by omega)
end Go.Proofs.Ytmghbgnalkkppaa
