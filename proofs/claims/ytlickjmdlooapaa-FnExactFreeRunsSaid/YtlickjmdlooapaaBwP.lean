/- The contract of the library's iterator that goes backward over pairs of number and string. No statement is proved here. -/
import Derived.RangeFuncNested
import Derived.RangeFuncBound
import Derived.RangeFuncCalls
import Derived.RangeFuncLeaves
import Derived.Shelf.Abstract
import Derived.Shelf.RegionOpen
import Derived.WalkKit
import Derived.OwnWalkIn
import Derived.TacticsInMore
import Derived.LoopNIn
import Derived.LoopIn
import Derived.Test.YtlickjmdlooapaaDkR
namespace Go.Proofs.Ytlickjmdlooapaa
open Go.RowKit Go.Shelf
attribute [local go_sem] Oper.semAt_some
set_option linter.unusedVariables false
/-- These two blocks are as they were. -/
def KpS (b Bs : Nat) (W W' : World) : Prop := W'.heap[b]? = W.heap[b]? ∧ W'.heap[Bs]? = W.heap[Bs]?
theorem kpS_refl (b Bs : Nat) (W : World) : KpS b Bs W W := ⟨rfl, rfl⟩
theorem kpS_t {b Bs : Nat} {A B C : World} (h : KpS b Bs A B) (k : KpS b Bs B C) : KpS b Bs A C := ⟨k.1.trans h.1, k.2.trans h.2⟩
theorem kpS_b {b Bs : Nat} {w : World} (hb : b < w.heap.size) (hB : Bs < w.heap.size) (W : World) (l : Nat) (o o' : Obj) (hl : w.heap.size ≤ l) (h : W.heap[l]? = some o) (_ : o.isCells = false) (_ : o.isWalk = false) : KpS b Bs W (W.putObj l o') :=
  ⟨World.putObj_heap_other (by omega), World.putObj_heap_other (by omega)⟩
/-- The pairs of index and element that have come when j remain. -/
def dnP (ps : List Pt) (j : Nat) : List (Nat × Pt) := ((List.range' j (ps.length - j)).reverse).map (fun k => (k, ps.getD k (0, ByteArray.empty)))
theorem dnP_end (ps : List Pt) : dnP ps ps.length = [] := by simp [dnP]
theorem dnP_step (ps : List Pt) (j : Nat) (h : j < ps.length) : dnP ps j = dnP ps (j + 1) ++ [(j, ps.getD j (0, ByteArray.empty))] := by
  unfold dnP
  rw [show ps.length - j = (ps.length - (j + 1)) + 1 by omega, List.range'_succ]
  simp
theorem dnP_length (ps : List Pt) (j : Nat) : (dnP ps j).length = ps.length - j := by simp [dnP]
set_option maxRecDepth 100000 in
set_option maxHeartbeats 2000000 in
theorem bwdP1_in (F : Fence) (n : Nat) (h67 : F.fn 227) (hro : F.round = none) (hn : 1 ≤ n) (l Bs cap b0 : Nat) (A : Option Addr) (ps : List Pt) (hlen : ps.length ≤ cap) (hcap : cap ≤ maxLen) (J Jx : List (Nat × Pt) → World → Prop)
    (hY : ∀ pre x W, J pre W → pre.length < ps.length → (x.1 < ps.length ∧ x.2 ∈ ps) → YieldAt F (n - 1) Try.prog l #[.int .i64 (x.1 : Int), .agg #[.int .i64 x.2.1, .string x.2.2]] W fun e W' =>
      (e = .returned (.bool true) ∧ J (pre ++ [x]) W' ∧ KpS (b0) Bs W W') ∨ (e = .returned (.bool false) ∧ Jx (pre ++ [x]) W'))
    (W : World) (hBs : W.cell? ⟨Bs, 0, none⟩ = some (.slice A ps.length cap)) (hc : ∀ j (hj : j < ps.length), ∃ o, A = some ⟨b0, o, none⟩ ∧ W.cell? ⟨b0, o + j * 2, none⟩ = some (.int .i64 ps[j].1) ∧ W.cell? ⟨b0, o + j * 2 + 1, none⟩ = some (.string ps[j].2)) (h0 : J [] W) :
    CallsIn F n Try.prog 227 #[.func (.yield l) #[] #[], .pointer (some ⟨Bs, 0, none⟩)] W fun e W' => (∃ v, e = .returned v) ∧
      ((∃ ys, ys = dnP ps 0 ∧ J ys W') ∨ (∃ pre, (∃ j, j < ps.length ∧ pre = dnP ps j) ∧ Jx pre W')) := by
  unfold maxLen at hcap
  have Hc := Lib.hid hc; clear hc
  refine callsIn_of_wp Try.func227 rfl h67 ?_ hro
  simp only [Try.ntmps227, List.size_toArray, List.length_cons, List.length_nil, Nat.reduceAdd, Nat.reduceSub, Array.replicate_succ, Array.replicate_zero, List.push_toArray, List.append_toArray, List.nil_append, List.cons_append]
  gi_wp2
  gi_loopw [3] (fun x wr => ∃ j : Nat, j ≤ ps.length ∧ x = .int .i64 ((j : Int) - 1) ∧ J (dnP ps j) wr ∧ KpS (b0) Bs W wr)
    (fun x _ => (intOf x + 1).toNat)
  case atStart => exact ⟨ps.length, Nat.le_refl _, rfl, by rw [dnP_end]; exact h0, kpS_refl _ _ _⟩
  case round =>
    obtain ⟨j, hj, rfl, hJs, hnx⟩ := hrel
    have Hnx := Lib.hid hnx; clear hnx
    cases j with
    | zero =>
      gi_wp2
      go_end0
      exact ⟨⟨_, rfl⟩, .inl ⟨_, rfl, hJs⟩⟩
    | succ j =>
      rw [show ((j + 1 : Nat) : Int) - 1 = (j : Int) by omega]
      have hlt : j < ps.length := by omega
      obtain ⟨o, rfl, hcell, hcell1⟩ := Hc.out j hlt
      have hb2 : wr.cell? ⟨Bs, 0, none⟩ = some (.slice (some ⟨b0, o, none⟩) ps.length cap) := (World.cell?_of_block (w := W) (a := ⟨Bs, 0, none⟩) Hnx.out.2).trans hBs
      have hcell2 : wr.cell? ⟨b0, o + j * 2, none⟩ = some (.int .i64 ps[j].1) := (World.cell?_of_block (w := W) (a := ⟨b0, o + j * 2, none⟩) Hnx.out.1).trans hcell
      have hcell3 : wr.cell? ⟨b0, o + j * 2 + 1, none⟩ = some (.string ps[j].2) := (World.cell?_of_block (w := W) (a := ⟨b0, o + j * 2 + 1, none⟩) Hnx.out.1).trans hcell1
      have Hld := Lib.hid (run_load_cells (P := Try.prog) wr b0 (o + j * 2) 238 _ [.int .i64 ps[j].1, .string ps[j].2] (two_cells hcell2 hcell3) Try.underlying238 rfl)
      obtain ⟨fn, tmps, assign, body, hy, hR⟩ := hY _ (j, ps[j]) wr hJs (by rw [dnP_length]; omega) ⟨hlt, List.getElem_mem hlt⟩
      dsimp only at hy
      have Hst := Lib.hid (dnP_step ps j hlt)
      have Hgd : Hid (ps.getD j (0, ByteArray.empty) = ps[j]) := Lib.hid (by rw [List.getD_eq_getElem?_getD, List.getElem?_eq_getElem hlt]; rfl)
      clear hcell hcell1 hJs
      gi_wp2
      refine hR.mono ?_
      rintro e W3 (⟨rfl, hJ3, hk3⟩ | ⟨rfl, hJx3⟩)
      · have HJ : Hid (J (dnP ps j) W3) := Lib.hid (by rw [Hst.out, Hgd.out]; exact hJ3)
        have HK := Lib.hid (kpS_t Hnx.out hk3)
        clear hJ3 hk3
        gi_wp2
        go_roundw
        case rel => exact ⟨j, by omega, rfl, HJ.out, HK.out⟩
        case measure => simp [intOf]
      · gi_wp2
        refine bodyPost_ret (results_none rfl _ _ _) rfl ?_
        exact ⟨⟨_, rfl⟩, .inr ⟨_, ⟨j, hlt, by rw [Hst.out, Hgd.out]⟩, hJx3⟩⟩
set_option maxHeartbeats 1000000 in
theorem bwdP_in (F : Fence) (n : Nat) (h62 : F.fn 217) (hro : F.round = none) (a : Option Addr) (len cap : Nat) (w : World) :
    CallsIn F n Try.prog 217 #[.slice a len cap] w fun e w' => e = .returned (.func (.func 227) #[] #[.pointer (some ⟨w.heap.size, 0, none⟩)]) ∧ w' = w.alloc (.cells #[.slice a len cap] 36) := by
  refine callsIn_of_wp Try.func217 rfl h62 ?_ hro
  simp only [Try.ntmps217, List.size_toArray, List.length_cons, List.length_nil, Nat.reduceAdd, Nat.reduceSub, Array.replicate_succ, Array.replicate_zero, List.push_toArray, List.append_toArray, List.nil_append, List.cons_append]
  gi_wp2
  go_ret
  exact ⟨rfl, rfl⟩
abbrev Px (ps : List Pt) := { x : Nat × Pt // x.1 < ps.length ∧ x.2 ∈ ps }
theorem bwdP_stops (F : Fence) (n : Nat) (h67 : F.fn 227) (hro : F.round = none) (hn : 1 ≤ n) (Bs cap b0 : Nat) (A : Option Addr) (ps : List Pt) (hlen : ps.length ≤ cap) (hcap : cap ≤ maxLen) (w : World) (hBs : Bs < w.heap.size)
    (hc : w.cell? ⟨Bs, 0, none⟩ = some (.slice A ps.length cap)) (hb0 : b0 < w.heap.size) (hd : ∀ j (hj : j < ps.length), ∃ o, A = some ⟨b0, o, none⟩ ∧ w.cell? ⟨b0, o + j * 2, none⟩ = some (.int .i64 ps[j].1) ∧ w.cell? ⟨b0, o + j * 2 + 1, none⟩ = some (.string ps[j].2)) :
    SeqStopsK F n Try.prog 227 #[.pointer (some ⟨Bs, 0, none⟩)] (fun x : Px ps => #[Value.int .i64 (x.1.1 : Int), .agg #[.int .i64 x.1.2.1, .string x.1.2.2]]) (KpS (b0) Bs) (fun ys => ys.map (·.1) = dnP ps 0) (fun pre => ∃ j, j < ps.length ∧ pre.map (·.1) = dnP ps j) ps.length w := fun l J Jx W hW _ _ hY h0 => by
  refine (bwdP1_in F n h67 hro hn l Bs cap b0 A ps hlen hcap (fun pre W => ∃ q : List (Px ps), q.map (·.1) = pre ∧ J q W) (fun pre W => ∃ q : List (Px ps), q.map (·.1) = pre ∧ Jx q W) ?_ W ((hW.cell (p := ⟨Bs, 0, none⟩) hBs).trans hc)
    (fun j hj => by obtain ⟨o, e, hcj, hcj2⟩ := hd j hj; exact ⟨o, e, (hW.cell (p := ⟨b0, o + j * 2, none⟩) hb0).trans hcj, (hW.cell (p := ⟨b0, o + j * 2 + 1, none⟩) hb0).trans hcj2⟩) ⟨[], rfl, h0⟩).mono ?_
  · rintro pre x W1 ⟨q, rfl, hq⟩ hl hx
    refine (hY q ⟨x, hx⟩ W1 hq (by simpa using hl)).mono ?_
    rintro e W' (⟨rfl, hj, hk⟩ | ⟨rfl, hj⟩)
    · exact .inl ⟨rfl, ⟨q ++ [⟨x, hx⟩], by simp, hj⟩, hk⟩
    · exact .inr ⟨rfl, ⟨q ++ [⟨x, hx⟩], by simp, hj⟩⟩
  · rintro e W' ⟨he, ⟨ys, rfl, q, hq, hj⟩ | ⟨pre, ⟨j, hjl, rfl⟩, q, hq, hj⟩⟩
    · exact ⟨he, .inl ⟨q, hq, hj⟩⟩
    · exact ⟨he, .inr ⟨q, ⟨j, hjl, hq⟩, hj⟩⟩
theorem rdI_none {ss : List ByteArray} {ps : List Pt} {k : Nat} : ∀ i, i ≤ ps.length → (∀ j (h : j < ps.length), j < i → ps[j].1 ≠ (k : Int)) → rdI ss ps k i = rdI ss ps k 0
  | 0, _, _ => rfl
  | i + 1, hi, h => by
    rw [rdI_succ (by omega), if_neg (h i (by omega) (by omega)), rdI_none i (by omega) (fun j hj hji => h j hj (by omega))]
theorem rdI_last {ss : List ByteArray} {ps : List Pt} {k j : Nat} (hj : j < ps.length) (he : ps[j].1 = (k : Int)) : ∀ m, j + 1 + m ≤ ps.length → (∀ i (h : i < ps.length), j < i → ps[i].1 ≠ (k : Int)) → rdI ss ps k (j + 1 + m) = ps[j].2
  | 0, _, _ => by rw [Nat.add_zero, rdI_succ hj, if_pos he]
  | m + 1, hm, h => by
    rw [show j + 1 + (m + 1) = (j + 1 + m) + 1 by omega, rdI_succ (by omega), if_neg (h _ (by omega) (by omega)), rdI_last hj he m (by omega) h]
theorem dnP_mem (ps : List Pt) (j i : Nat) (hi : i < ps.length) (hji : j ≤ i) : (i, ps[i]) ∈ dnP ps j := by
  unfold dnP
  refine List.mem_map.2 ⟨i, ?_, by rw [List.getD_eq_getElem?_getD, List.getElem?_eq_getElem hi]; rfl⟩
  rw [List.mem_reverse, List.mem_range']
  exact ⟨i - j, by omega, by omega⟩
/-- Nothing that came is a write of block k. -/
theorem rdB_none {ss : List ByteArray} {ps : List Pt} {k : Nat} (hk : k < ss.length) (pre : List (Px ps)) (hp : pre.map (·.1) = dnP ps 0) (h : ∀ x ∈ pre, x.1.2.1 ≠ (k : Int)) : rdB ss ps k = ss[k] := by
  rw [rdB, rdI_none _ (Nat.le_refl _) (fun j hj _ => ?_), rdI_zero hk]
  have hm := dnP_mem ps 0 j hj (Nat.zero_le _)
  rw [← hp] at hm
  obtain ⟨x, hx, e⟩ := List.mem_map.1 hm
  have := h x hx
  rw [e] at this
  exact this
/-- The one that came last is a write of block k, and none before it is. -/
theorem rdB_last {ss : List ByteArray} {ps : List Pt} {k j : Nat} (pre : List (Px ps)) (x : Px ps) (hj : j < ps.length) (hp : (pre ++ [x]).map (·.1) = dnP ps j) (h : ∀ y ∈ pre, y.1.2.1 ≠ (k : Int)) (hx : x.1.2.1 = (k : Int)) : rdB ss ps k = x.1.2.2 := by
  rw [dnP_step ps j hj, List.map_append] at hp
  obtain ⟨e1, e2⟩ := List.append_inj' hp rfl
  have e3 : x.1 = (j, ps[j]) := by
    have := List.head_eq_of_cons_eq e2
    rw [show x.1 = _ from this, List.getD_eq_getElem?_getD, List.getElem?_eq_getElem hj]; rfl
  rw [e3] at hx ⊢
  obtain ⟨m, hm⟩ : ∃ m, ps.length = j + 1 + m := ⟨ps.length - (j + 1), by omega⟩
  rw [rdB, hm]
  refine rdI_last hj hx m (by omega) (fun i hi hji => ?_)
  have hmm := dnP_mem ps (j + 1) i hi (by omega)
  rw [← e1] at hmm
  obtain ⟨y, hy, e⟩ := List.mem_map.1 hmm
  have := h y hy
  rw [e] at this
  exact this
end Go.Proofs.Ytlickjmdlooapaa
