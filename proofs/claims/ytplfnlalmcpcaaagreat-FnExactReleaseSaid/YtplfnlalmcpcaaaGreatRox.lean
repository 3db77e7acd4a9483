/- Several texts in one: BwP, Cts, GpI, SpO, Abt, Val, Read, GetU, Fre, SpM, Rpt, PdI, FrmP, WrP, WrS, WrI, Spw, NuI, Spq, RoS, RoI. No statement is proved here. -/
import Derived.RangeFuncNested
import Derived.RangeFuncBound
import Derived.RangeFuncCalls
import Derived.RangeFuncLeaves
import Derived.Shelf.Abstract
import Derived.Shelf.RegionOpen
import Derived.WalkKit
import Derived.OwnWalkIn
import Derived.TacticsInMore
import Derived.LoopNIn
import Derived.LoopIn
import Derived.Test.YtplfnlalmcpcaaaGreatDkR
import Derived.Test.YtplfnlalmcpcaaaGreatVdI
import Derived.Test.YtplfnlalmcpcaaaGreatGpS
import Derived.Test.YtplfnlalmcpcaaaGreatGtZ
import Derived.Test.YtplfnlalmcpcaaaGreatSpI
import Derived.Test.YtplfnlalmcpcaaaGreatHeld
import Derived.Lib.ConvBytes
import Derived.Lib.SmallJoins
import Derived.Laws.AppendOwn
import Derived.Deep.DeepFit
import Derived.Deep.RegionHeld3
import Derived.Test.YtplfnlalmcpcaaaGreatDimC
import Derived.Test.YtplfnlalmcpcaaaGreatBase
import Derived.WalkSpells
import Derived.Shelf.Strings.Repeat
import Derived.Test.YtplfnlalmcpcaaaGreatProg
import Derived.Test.YtplfnlalmcpcaaaGreatByt
import Derived.Test.YtplfnlalmcpcaaaGreatPag
import Derived.ProofKit
import Derived.OpenShut
import Derived.Test.YtplfnlalmcpcaaaGreatPgw
import Derived.Test.YtplfnlalmcpcaaaGreatBkf
import Derived.Test.YtplfnlalmcpcaaaGreatStm
import Derived.Test.YtplfnlalmcpcaaaGreatPgV
import Derived.Lib.BufferWrite
import Derived.Lib.SlBytesRow
namespace Go.Proofs.YtplfnlalmcpcaaaGreat
open Go.RowKit Go.Shelf
attribute [local go_sem] Oper.semAt_some
set_option linter.unusedVariables false
/-- These two blocks are as they were. -/
def KpS (b Bs : Nat) (W W' : World) : Prop := W'.heap[b]? = W.heap[b]? ∧ W'.heap[Bs]? = W.heap[Bs]?
theorem kpS_refl (b Bs : Nat) (W : World) : KpS b Bs W W := ⟨rfl, rfl⟩
theorem kpS_t {b Bs : Nat} {A B C : World} (h : KpS b Bs A B) (k : KpS b Bs B C) : KpS b Bs A C := ⟨k.1.trans h.1, k.2.trans h.2⟩
theorem kpS_b {b Bs : Nat} {w : World} (hb : b < w.heap.size) (hB : Bs < w.heap.size) (W : World) (l : Nat) (o o' : Obj) (hl : w.heap.size ≤ l) (h : W.heap[l]? = some o) (_ : o.isCells = false) (_ : o.isWalk = false) : KpS b Bs W (W.putObj l o') :=
  ⟨World.putObj_heap_other (by omega), World.putObj_heap_other (by omega)⟩
/-- The pairs of index and element that have come when j remain. -/
def dnP (ps : List Pt) (j : Nat) : List (Nat × Pt) := ((List.range' j (ps.length - j)).reverse).map (fun k => (k, ps.getD k (0, ByteArray.empty)))
theorem dnP_end (ps : List Pt) : dnP ps ps.length = [] := by simp [dnP]
theorem dnP_step (ps : List Pt) (j : Nat) (h : j < ps.length) : dnP ps j = dnP ps (j + 1) ++ [(j, ps.getD j (0, ByteArray.empty))] := by
  unfold dnP
  rw [show ps.length - j = (ps.length - (j + 1)) + 1 by omega, List.range'_succ]
  simp
theorem dnP_length (ps : List Pt) (j : Nat) : (dnP ps j).length = ps.length - j := by simp [dnP]
set_option maxRecDepth 100000 in
set_option maxHeartbeats 2000000 in
theorem bwdP1_in (F : Fence) (n : Nat) (h67 : F.fn 198) (hro : F.round = none) (hn : 1 ≤ n) (l Bs cap b0 : Nat) (A : Option Addr) (ps : List Pt) (hlen : ps.length ≤ cap) (hcap : cap ≤ maxLen) (J Jx : List (Nat × Pt) → World → Prop)
    (hY : ∀ pre x W, J pre W → pre.length < ps.length → (x.1 < ps.length ∧ x.2 ∈ ps) → YieldAt F (n - 1) Tryz.prog l #[.int .i64 (x.1 : Int), .agg #[.int .i64 x.2.1, .string x.2.2]] W fun e W' =>
      (e = .returned (.bool true) ∧ J (pre ++ [x]) W' ∧ KpS (b0) Bs W W') ∨ (e = .returned (.bool false) ∧ Jx (pre ++ [x]) W'))
    (W : World) (hBs : W.cell? ⟨Bs, 0, none⟩ = some (.slice A ps.length cap)) (hc : ∀ j (hj : j < ps.length), ∃ o, A = some ⟨b0, o, none⟩ ∧ W.cell? ⟨b0, o + j * 2, none⟩ = some (.int .i64 ps[j].1) ∧ W.cell? ⟨b0, o + j * 2 + 1, none⟩ = some (.string ps[j].2)) (h0 : J [] W) :
    CallsIn F n Tryz.prog 198 #[.func (.yield l) #[] #[], .pointer (some ⟨Bs, 0, none⟩)] W fun e W' => (∃ v, e = .returned v) ∧
      ((∃ ys, ys = dnP ps 0 ∧ J ys W') ∨ (∃ pre, (∃ j, j < ps.length ∧ pre = dnP ps j) ∧ Jx pre W')) := by
  unfold maxLen at hcap
  have Hc := Lib.hid hc; clear hc
  refine callsIn_of_wp Tryz.func198 rfl h67 ?_ hro
  simp only [Tryz.ntmps198, List.size_toArray, List.length_cons, List.length_nil, Nat.reduceAdd, Nat.reduceSub, Array.replicate_succ, Array.replicate_zero, List.push_toArray, List.append_toArray, List.nil_append, List.cons_append]
  gi_wp2
  gi_loopw [3] (fun x wr => ∃ j : Nat, j ≤ ps.length ∧ x = .int .i64 ((j : Int) - 1) ∧ J (dnP ps j) wr ∧ KpS (b0) Bs W wr)
    (fun x _ => (intOf x + 1).toNat)
  case atStart => exact ⟨ps.length, Nat.le_refl _, rfl, by rw [dnP_end]; exact h0, kpS_refl _ _ _⟩
  case round =>
    obtain ⟨j, hj, rfl, hJs, hnx⟩ := hrel
    have Hnx := Lib.hid hnx; clear hnx
    cases j with
    | zero =>
      gi_wp2
      go_end0
      exact ⟨⟨_, rfl⟩, .inl ⟨_, rfl, hJs⟩⟩
    | succ j =>
      rw [show ((j + 1 : Nat) : Int) - 1 = (j : Int) by omega]
      have hlt : j < ps.length := by omega
      obtain ⟨o, rfl, hcell, hcell1⟩ := Hc.out j hlt
      have hb2 : wr.cell? ⟨Bs, 0, none⟩ = some (.slice (some ⟨b0, o, none⟩) ps.length cap) := (World.cell?_of_block (w := W) (a := ⟨Bs, 0, none⟩) Hnx.out.2).trans hBs
      have hcell2 : wr.cell? ⟨b0, o + j * 2, none⟩ = some (.int .i64 ps[j].1) := (World.cell?_of_block (w := W) (a := ⟨b0, o + j * 2, none⟩) Hnx.out.1).trans hcell
      have hcell3 : wr.cell? ⟨b0, o + j * 2 + 1, none⟩ = some (.string ps[j].2) := (World.cell?_of_block (w := W) (a := ⟨b0, o + j * 2 + 1, none⟩) Hnx.out.1).trans hcell1
      have Hld := Lib.hid (run_load_cells (P := Tryz.prog) wr b0 (o + j * 2) 178 _ [.int .i64 ps[j].1, .string ps[j].2] (two_cells hcell2 hcell3) Tryz.underlying178 rfl)
      obtain ⟨fn, tmps, assign, body, hy, hR⟩ := hY _ (j, ps[j]) wr hJs (by rw [dnP_length]; omega) ⟨hlt, List.getElem_mem hlt⟩
      dsimp only at hy
      have Hst := Lib.hid (dnP_step ps j hlt)
      have Hgd : Hid (ps.getD j (0, ByteArray.empty) = ps[j]) := Lib.hid (by rw [List.getD_eq_getElem?_getD, List.getElem?_eq_getElem hlt]; rfl)
      clear hcell hcell1 hJs
      gi_wp2
      refine hR.mono ?_
      rintro e W3 (⟨rfl, hJ3, hk3⟩ | ⟨rfl, hJx3⟩)
      · have HJ : Hid (J (dnP ps j) W3) := Lib.hid (by rw [Hst.out, Hgd.out]; exact hJ3)
        have HK := Lib.hid (kpS_t Hnx.out hk3)
        clear hJ3 hk3
        gi_wp2
        go_roundw
        case rel => exact ⟨j, by omega, rfl, HJ.out, HK.out⟩
        case measure => simp [intOf]
      · gi_wp2
        refine bodyPost_ret (results_none rfl _ _ _) rfl ?_
        exact ⟨⟨_, rfl⟩, .inr ⟨_, ⟨j, hlt, by rw [Hst.out, Hgd.out]⟩, hJx3⟩⟩
set_option maxHeartbeats 1000000 in
theorem bwdP_in (F : Fence) (n : Nat) (h62 : F.fn 191) (hro : F.round = none) (a : Option Addr) (len cap : Nat) (w : World) :
    CallsIn F n Tryz.prog 191 #[.slice a len cap] w fun e w' => e = .returned (.func (.func 198) #[] #[.pointer (some ⟨w.heap.size, 0, none⟩)]) ∧ w' = w.alloc (.cells #[.slice a len cap] 32) := by
  refine callsIn_of_wp Tryz.func191 rfl h62 ?_ hro
  simp only [Tryz.ntmps191, List.size_toArray, List.length_cons, List.length_nil, Nat.reduceAdd, Nat.reduceSub, Array.replicate_succ, Array.replicate_zero, List.push_toArray, List.append_toArray, List.nil_append, List.cons_append]
  gi_wp2
  go_ret
  exact ⟨rfl, rfl⟩
abbrev Px (ps : List Pt) := { x : Nat × Pt // x.1 < ps.length ∧ x.2 ∈ ps }
theorem bwdP_stops (F : Fence) (n : Nat) (h67 : F.fn 198) (hro : F.round = none) (hn : 1 ≤ n) (Bs cap b0 : Nat) (A : Option Addr) (ps : List Pt) (hlen : ps.length ≤ cap) (hcap : cap ≤ maxLen) (w : World) (hBs : Bs < w.heap.size)
    (hc : w.cell? ⟨Bs, 0, none⟩ = some (.slice A ps.length cap)) (hb0 : b0 < w.heap.size) (hd : ∀ j (hj : j < ps.length), ∃ o, A = some ⟨b0, o, none⟩ ∧ w.cell? ⟨b0, o + j * 2, none⟩ = some (.int .i64 ps[j].1) ∧ w.cell? ⟨b0, o + j * 2 + 1, none⟩ = some (.string ps[j].2)) :
    SeqStopsK F n Tryz.prog 198 #[.pointer (some ⟨Bs, 0, none⟩)] (fun x : Px ps => #[Value.int .i64 (x.1.1 : Int), .agg #[.int .i64 x.1.2.1, .string x.1.2.2]]) (KpS (b0) Bs) (fun ys => ys.map (·.1) = dnP ps 0) (fun pre => ∃ j, j < ps.length ∧ pre.map (·.1) = dnP ps j) ps.length w := fun l J Jx W hW _ _ hY h0 => by
  refine (bwdP1_in F n h67 hro hn l Bs cap b0 A ps hlen hcap (fun pre W => ∃ q : List (Px ps), q.map (·.1) = pre ∧ J q W) (fun pre W => ∃ q : List (Px ps), q.map (·.1) = pre ∧ Jx q W) ?_ W ((hW.cell (p := ⟨Bs, 0, none⟩) hBs).trans hc)
    (fun j hj => by obtain ⟨o, e, hcj, hcj2⟩ := hd j hj; exact ⟨o, e, (hW.cell (p := ⟨b0, o + j * 2, none⟩) hb0).trans hcj, (hW.cell (p := ⟨b0, o + j * 2 + 1, none⟩) hb0).trans hcj2⟩) ⟨[], rfl, h0⟩).mono ?_
  · rintro pre x W1 ⟨q, rfl, hq⟩ hl hx
    refine (hY q ⟨x, hx⟩ W1 hq (by simpa using hl)).mono ?_
    rintro e W' (⟨rfl, hj, hk⟩ | ⟨rfl, hj⟩)
    · exact .inl ⟨rfl, ⟨q ++ [⟨x, hx⟩], by simp, hj⟩, hk⟩
    · exact .inr ⟨rfl, ⟨q ++ [⟨x, hx⟩], by simp, hj⟩⟩
  · rintro e W' ⟨he, ⟨ys, rfl, q, hq, hj⟩ | ⟨pre, ⟨j, hjl, rfl⟩, q, hq, hj⟩⟩
    · exact ⟨he, .inl ⟨q, hq, hj⟩⟩
    · exact ⟨he, .inr ⟨q, ⟨j, hjl, hq⟩, hj⟩⟩
theorem rdI_none {ss : List ByteArray} {ps : List Pt} {k : Nat} : ∀ i, i ≤ ps.length → (∀ j (h : j < ps.length), j < i → ps[j].1 ≠ (k : Int)) → rdI ss ps k i = rdI ss ps k 0
  | 0, _, _ => rfl
  | i + 1, hi, h => by
    rw [rdI_succ (by omega), if_neg (h i (by omega) (by omega)), rdI_none i (by omega) (fun j hj hji => h j hj (by omega))]
theorem rdI_last {ss : List ByteArray} {ps : List Pt} {k j : Nat} (hj : j < ps.length) (he : ps[j].1 = (k : Int)) : ∀ m, j + 1 + m ≤ ps.length → (∀ i (h : i < ps.length), j < i → ps[i].1 ≠ (k : Int)) → rdI ss ps k (j + 1 + m) = ps[j].2
  | 0, _, _ => by rw [Nat.add_zero, rdI_succ hj, if_pos he]
  | m + 1, hm, h => by
    rw [show j + 1 + (m + 1) = (j + 1 + m) + 1 by omega, rdI_succ (by omega), if_neg (h _ (by omega) (by omega)), rdI_last hj he m (by omega) h]
theorem dnP_mem (ps : List Pt) (j i : Nat) (hi : i < ps.length) (hji : j ≤ i) : (i, ps[i]) ∈ dnP ps j := by
  unfold dnP
  refine List.mem_map.2 ⟨i, ?_, by rw [List.getD_eq_getElem?_getD, List.getElem?_eq_getElem hi]; rfl⟩
  rw [List.mem_reverse, List.mem_range']
  exact ⟨i - j, by omega, by omega⟩
/-- Nothing that came is a write of block k. -/
theorem rdB_none {ss : List ByteArray} {ps : List Pt} {k : Nat} (hk : k < ss.length) (pre : List (Px ps)) (hp : pre.map (·.1) = dnP ps 0) (h : ∀ x ∈ pre, x.1.2.1 ≠ (k : Int)) : rdB ss ps k = ss[k] := by
  rw [rdB, rdI_none _ (Nat.le_refl _) (fun j hj _ => ?_), rdI_zero hk]
  have hm := dnP_mem ps 0 j hj (Nat.zero_le _)
  rw [← hp] at hm
  obtain ⟨x, hx, e⟩ := List.mem_map.1 hm
  have := h x hx
  rw [e] at this
  exact this
/-- The one that came last is a write of block k, and none before it is. -/
theorem rdB_last {ss : List ByteArray} {ps : List Pt} {k j : Nat} (pre : List (Px ps)) (x : Px ps) (hj : j < ps.length) (hp : (pre ++ [x]).map (·.1) = dnP ps j) (h : ∀ y ∈ pre, y.1.2.1 ≠ (k : Int)) (hx : x.1.2.1 = (k : Int)) : rdB ss ps k = x.1.2.2 := by
  rw [dnP_step ps j hj, List.map_append] at hp
  obtain ⟨e1, e2⟩ := List.append_inj' hp rfl
  have e3 : x.1 = (j, ps[j]) := by
    have := List.head_eq_of_cons_eq e2
    rw [show x.1 = _ from this, List.getD_eq_getElem?_getD, List.getElem?_eq_getElem hj]; rfl
  rw [e3] at hx ⊢
  obtain ⟨m, hm⟩ : ∃ m, ps.length = j + 1 + m := ⟨ps.length - (j + 1), by omega⟩
  rw [rdB, hm]
  refine rdI_last hj hx m (by omega) (fun i hi hji => ?_)
  have hmm := dnP_mem ps (j + 1) i hi (by omega)
  rw [← e1] at hmm
  obtain ⟨y, hy, e⟩ := List.mem_map.1 hmm
  have := h y hy
  rw [e] at this
  exact this
end Go.Proofs.YtplfnlalmcpcaaaGreat
namespace Go.Proofs.YtplfnlalmcpcaaaGreat
open Go.RowKit Go.Shelf
attribute [local go_sem] Oper.semAt_some
set_option linter.unusedVariables false
theorem row_own {β : Type} (B : Nat) (t : TypeId) (f : β → Array Value) : Own (fun s W => W.heap[B]? = some (.cells (f s) t (0, 0))) := fun s X Y row hs hg hrow => (grownBy_keeps_cells hg hrow hs rfl).trans hs
theorem rows4 (w : World) (o0 o1 o2 o3 : Obj) : ((((w.alloc o0).alloc o1).alloc o2).alloc o3).heap[w.heap.size]? = some o0 ∧ ((((w.alloc o0).alloc o1).alloc o2).alloc o3).heap[w.heap.size + 1]? = some o1 ∧ ((((w.alloc o0).alloc o1).alloc o2).alloc o3).heap[w.heap.size + 2]? = some o2 ∧
    ((((w.alloc o0).alloc o1).alloc o2).alloc o3).heap[w.heap.size + 3]? = some o3 ∧ ((((w.alloc o0).alloc o1).alloc o2).alloc o3).heap.size = w.heap.size + 4 ∧ Below w.heap.size w ((((w.alloc o0).alloc o1).alloc o2).alloc o3) := by
  have z1 : (w.alloc o0).heap.size = w.heap.size + 1 := by simp
  have z2 : ((w.alloc o0).alloc o1).heap.size = w.heap.size + 2 := by simp
  have z3 : (((w.alloc o0).alloc o1).alloc o2).heap.size = w.heap.size + 3 := by simp
  have z4 : ((((w.alloc o0).alloc o1).alloc o2).alloc o3).heap.size = w.heap.size + 4 := by simp
  refine ⟨?_, ?_, ?_, ?_, z4, ((((Below.refl _ w).alloc (Nat.le_refl _) _).alloc (by omega) _).alloc (by omega) _).alloc (by omega) _⟩
  · rw [heap_alloc_old _ _ _ (by omega), heap_alloc_old _ _ _ (by omega), heap_alloc_old _ _ _ (by omega)]; exact heap_alloc_new _ _
  · rw [heap_alloc_old _ _ _ (by omega), heap_alloc_old _ _ _ (by omega), ← z1]; exact heap_alloc_new _ _
  · rw [heap_alloc_old _ _ _ (by omega), ← z2]; exact heap_alloc_new _ _
  · rw [← z3]; exact heap_alloc_new _ _
/-- The four boxes between two rounds. -/
def CtB (w : World) (v1 v2 : Value) (fz : Int) (off : Bool) (k : Nat) (s : ByteArray) (W : World) : Prop :=
  (W.heap[w.heap.size]? = some (.cells #[v1, v2, .int .i64 fz, .bool off] 34 (0, 0)) ∧ W.heap[w.heap.size + 1]? = some (.cells #[.int .i64 (k : Int)] 2 (0, 0)) ∧ W.heap[w.heap.size + 2]? = some (.cells #[.string s] 9 (0, 0)) ∧ W.heap[w.heap.size + 3]? = some (.cells #[v2] 32 (0, 0))) ∧ Below w.heap.size w W
theorem ctB_own {β : Type} (w : World) (v1 v2 : Value) (fz : Int) (off : Bool) (k : Nat) (s : ByteArray) (K : Nat) (hK : w.heap.size ≤ K) : OwnFrom K (fun (_ : β) W => CtB w v1 v2 fz off k s W) :=
  OwnFrom.and (OwnFrom.and (Own.from (row_own _ _ _) _) (OwnFrom.and (Own.from (row_own _ _ _) _) (OwnFrom.and (Own.from (row_own _ _ _) _) (Own.from (row_own _ _ _) _)))) (ownFrom_below (Nat.le_refl _) hK)
theorem CtB.lt {w : World} {v1 v2 : Value} {fz : Int} {off : Bool} {k : Nat} {s : ByteArray} {W : World} (h : CtB w v1 v2 fz off k s W) : w.heap.size + 3 < W.heap.size := (Array.getElem?_eq_some_iff.1 h.1.2.2.2).1
theorem CtB.alloc {w : World} {v1 v2 : Value} {fz : Int} {off : Bool} {k : Nat} {s : ByteArray} {W : World} (h : CtB w v1 v2 fz off k s W) (o : Obj) : CtB w v1 v2 fz off k s (W.alloc o) := by
  have hl := h.lt
  exact ⟨⟨(heap_alloc_old _ _ _ (by omega)).trans h.1.1, (heap_alloc_old _ _ _ (by omega)).trans h.1.2.1, (heap_alloc_old _ _ _ (by omega)).trans h.1.2.2.1, (heap_alloc_old _ _ _ (by omega)).trans h.1.2.2.2⟩, h.2.alloc h.2.size _⟩
theorem CtB.put {w : World} {v1 v2 : Value} {fz : Int} {off : Bool} {k : Nat} {s : ByteArray} {W : World} (h : CtB w v1 v2 fz off k s W) (t : ByteArray) : CtB w v1 v2 fz off k t (W.setCell ⟨w.heap.size + 2, 0, none⟩ (.string t)) :=
  ⟨⟨(heap_setCell_other _ ⟨w.heap.size + 2, 0, none⟩ _ _ (show w.heap.size ≠ w.heap.size + 2 by omega)).trans h.1.1, (heap_setCell_other _ ⟨w.heap.size + 2, 0, none⟩ _ _ (show w.heap.size + 1 ≠ w.heap.size + 2 by omega)).trans h.1.2.1,
    heap_setCell_same W (w.heap.size + 2) 0 #[.string s] 9 (.string t) h.1.2.2.1, (heap_setCell_other _ ⟨w.heap.size + 2, 0, none⟩ _ _ (show w.heap.size + 3 ≠ w.heap.size + 2 by omega)).trans h.1.2.2.2⟩, h.2.setCell (p := ⟨w.heap.size + 2, 0, none⟩) (by simp) _⟩
set_option maxRecDepth 100000 in
set_option maxHeartbeats 2000000 in
theorem contentsOf_in (F : Fence) (n : Nat) (h82 : F.fn 178) (h62 : F.fn 191) (h67 : F.fn 198) (hro : F.round = none) (hn : 3 ≤ n)
    {B : Nat} {w : World} {v1 v2 : Value} {ss : List ByteArray} {ps : List Pt} {fz : Int} {off : Bool} {k : Nat} (h1 : RiT B w v1 ss) (h2 : RiU B w v2 ps) (hB : B ≤ w.heap.size) (hk : k < ss.length) :
    CallsIn F n Tryz.prog 178 #[.agg #[v1, v2, .int .i64 fz, .bool off], .int .i64 (k : Int)] w (GivesB (.string (rdB ss ps k)) w) := by
  have hn1 : 1 ≤ n := by omega
  obtain ⟨A1, c1, rfl, hl1, hm1, hx1⟩ := h1
  obtain ⟨A2, c2, rfl, hl2, hm2, hx2⟩ := h2
  have Hl := Lib.hid hl2; have Hm := Lib.hid hm2; have Hm1 := Lib.hid hm1; have Hl1 := Lib.hid hl1
  clear hl1 hl2 hm2
  unfold maxLen at hm1
  obtain ⟨b1, o1, rfl, hb1, hc1, -⟩ := hx1 k hk
  have Hk1 := Lib.hid hc1; clear hc1 hx1
  have Hlast : Hid (∀ (j : Nat) (pre : List (Px ps)) (x : Px ps), j < ps.length → (pre ++ [x]).map (·.1) = dnP ps j → (∀ y ∈ pre, y.1.2.1 ≠ (k : Int)) → x.1.2.1 = (k : Int) → rdB ss ps k = x.1.2.2) := Lib.hid (fun j pre x hj hp h hx => rdB_last pre x hj hp h hx)
  have Hnone : Hid (∀ pre : List (Px ps), pre.map (·.1) = dnP ps 0 → (∀ x ∈ pre, x.1.2.1 ≠ (k : Int)) → rdB ss ps k = ss[k]) := Lib.hid (fun pre hp h => rdB_none hk pre hp h)
  generalize rdB ss ps k = T at *
  generalize hs : ss[k] = s at *
  clear hs
  obtain ⟨b0, Hb0, Hd⟩ : ∃ b0 : Nat, Hid (b0 < w.heap.size ∨ b0 = w.heap.size + 3) ∧ Hid (∀ j (hj : j < ps.length), ∃ o, A2 = some ⟨b0, o, none⟩ ∧ b0 < w.heap.size ∧ w.cell? ⟨b0, o + j * 2, none⟩ = some (.int .i64 ps[j].1) ∧ w.cell? ⟨b0, o + j * 2 + 1, none⟩ = some (.string ps[j].2)) := by
    by_cases hz : 0 < ps.length
    · obtain ⟨b, o, e, hb, _⟩ := hx2 0 hz
      refine ⟨b, Lib.hid (.inl (by omega)), Lib.hid fun j hj => ?_⟩
      obtain ⟨b2, o2, e2, hb2, hcj, hcj2, _⟩ := hx2 j hj
      rw [e] at e2
      cases e2
      exact ⟨o, e, by omega, hcj, hcj2⟩
    · exact ⟨w.heap.size + 3, Lib.hid (.inr rfl), Lib.hid fun j hj => absurd hj (by omega)⟩
  clear hx2
  have HA := Lib.hid (rows4 w (.cells #[.slice (some ⟨b1, o1, none⟩) ss.length c1, .slice A2 ps.length c2, .int .i64 fz, .bool off] 34) (.cells #[.int .i64 (k : Int)] 2) (.cells #[.string ⟨#[]⟩] 9) (.cells #[.slice A2 ps.length c2] 32))
  refine callsIn_of_wp_marks Tryz.func178 rfl h82 ?_ hro
  simp only [Tryz.ntmps178, List.size_toArray, List.length_cons, List.length_nil, Nat.reduceAdd, Nat.reduceSub, Array.replicate_succ, Array.replicate_zero, List.push_toArray, List.append_toArray, List.nil_append, List.cons_append]
  gi_wp2_with (gi_at_call 191; refine (bwdP_in F (n - 1) h62 hro _ _ _ _).mono ?_; rintro e w' ⟨rfl, rfl⟩)
  generalize ((((w.alloc (.cells #[.slice (some ⟨b1, o1, none⟩) ss.length c1, .slice A2 ps.length c2, .int .i64 fz, .bool off] 34)).alloc (.cells #[.int .i64 (k : Int)] 2)).alloc (.cells #[.string ⟨#[]⟩] 9)).alloc (.cells #[.slice A2 ps.length c2] 32)) = w4 at *
  have HBx : Hid (w4.cell? ⟨w.heap.size + 3, 0, none⟩ = some (.slice A2 ps.length c2)) := Lib.hid (by rw [cell_of_row _ _ _ _ _ _ HA.out.2.2.2.1]; rfl)
  have Hz : Hid (w4.heap.size = w.heap.size + 4) := Lib.hid HA.out.2.2.2.2.1
  have HD4 : Hid (∀ j (hj : j < ps.length), ∃ o, A2 = some ⟨b0, o, none⟩ ∧ w4.cell? ⟨b0, o + j * 2, none⟩ = some (.int .i64 ps[j].1) ∧ w4.cell? ⟨b0, o + j * 2 + 1, none⟩ = some (.string ps[j].2)) := Lib.hid (fun j hj => by
    obtain ⟨o, e, hlt, hcj, hcj2⟩ := Hd.out j hj
    exact ⟨o, e, (HA.out.2.2.2.2.2.cell (p := ⟨b0, o + j * 2, none⟩) hlt).trans hcj, (HA.out.2.2.2.2.2.cell (p := ⟨b0, o + j * 2 + 1, none⟩) hlt).trans hcj2⟩)
  refine wpIn_rangeFunc_ownH hro hn1 (gf := 198) (lb := #[.pointer (some ⟨w.heap.size + 3, 0, none⟩)]) rfl h67 (enters_of Tryz.func198 (by kernel_rfl) rfl)
    (bwdP_stops F (n - 1) h67 hro (by omega) (w.heap.size + 3) c2 b0 A2 ps Hl.out Hm.out w4 (by rw [Hz.out]; omega) HBx.out (by have := Hb0.out; rw [Hz.out]; omega) HD4.out) kpS_t (kpS_b (by have := Hb0.out; rw [Hz.out]; omega) (by rw [Hz.out]; omega)) (Below.refl _ _) (fun _ => rfl)
    (fun pre W => (∀ x ∈ pre, x.1.2.1 ≠ (k : Int)) ∧ CtB w (.slice (some ⟨b1, o1, none⟩) ss.length c1) (.slice A2 ps.length c2) fz off k ⟨#[]⟩ W)
    (fun c pre W => c = .ret ∧ ∃ q x, pre = q ++ [x] ∧ (∀ y ∈ q, y.1.2.1 ≠ (k : Int)) ∧ x.1.2.1 = (k : Int) ∧ CtB w (.slice (some ⟨b1, o1, none⟩) ss.length c1) (.slice A2 ps.length c2) fz off k x.1.2.2 W)
    (OwnFrom.and (ownFrom_pure _ _) (ctB_own _ _ _ _ _ _ _ _ (by rw [Hz.out]; omega)))
    (fun c s X Y row hs hg hr => by obtain ⟨e0, q, x, e1, e2, e3, e4⟩ := hs; exact ⟨e0, q, x, e1, e2, e3, ctB_own (β := Unit) w _ _ fz off k _ w4.heap.size (by rw [Hz.out]; omega) () X Y row e4 hg hr⟩)
    ⟨by simp, ⟨HA.out.1, HA.out.2.1, HA.out.2.2.1, HA.out.2.2.2.1⟩, HA.out.2.2.2.2.2⟩
    (fun x a' W => ∃ Bx, w.heap.size + 4 ≤ Bx ∧ W.heap[Bx]? = some (.cells #[.int .i64 x.1.2.1, .string x.1.2.2] 178 (0, 0)) ∧ a' = { tmps := #[.agg #[.slice (some ⟨b1, o1, none⟩) ss.length c1, .slice A2 ps.length c2, .int .i64 fz, .bool off], .int .i64 (k : Int), .pointer (some ⟨w.heap.size, 0, none⟩), .pointer (some ⟨w.heap.size + 1, 0, none⟩), .pointer (some ⟨w.heap.size + 2, 0, none⟩), undef, .pointer (some ⟨Bx, 0, none⟩), .pointer (some ⟨w.heap.size, 1, none⟩), .slice A2 ps.length c2, .func (.func 198) #[] #[.pointer (some ⟨w.heap.size + 3, 0, none⟩)], .int .i64 (x.1.1 : Int), .agg #[.int .i64 x.1.2.1, .string x.1.2.2], undef, undef, undef, undef, undef, undef, undef, undef, undef, undef, undef], defers := [] })
    (fun x a' _ X Y row hs hg hr => by obtain ⟨Bx, e1, e2, e3⟩ := hs; exact ⟨Bx, e1, row_own Bx 178 (fun (_ : Unit) => #[Value.int .i64 x.1.2.1, .string x.1.2.2]) () X Y row e2 hg (fun r e => (hr r e).2), e3⟩)
    ?assign ?body ?done ?stop
  case assign =>
    rintro l pre x W K ⟨hp, hc⟩ hK
    have hlt := hc.lt
    have hb0 := Hb0.out
    gi_wp2
    exact hK _ _ ((KeepsOthers.alloc _ _).from _) ⟨heap_alloc_old _ _ _ (by omega), heap_alloc_old _ _ _ (by omega)⟩ ⟨hp, hc.alloc _⟩ ⟨W.heap.size, by omega, heap_alloc_new _ _, rfl⟩
  case body =>
    rintro l pre x a' W hl ⟨r, hr⟩ ⟨hp, hc⟩ ⟨Bx, hBx, bX, rfl⟩ hlt
    have Hc := Lib.hid hc; have Hp := Lib.hid hp; clear hp
    have x0 : W.cell? ⟨Bx, 0, none⟩ = some (.int .i64 x.1.2.1) := by rw [cell_of_row _ _ _ _ _ _ bX]; rfl
    have x1 : W.cell? ⟨Bx, 1, none⟩ = some (.string x.1.2.2) := by rw [cell_of_row _ _ _ _ _ _ bX]; rfl
    have k0 : W.cell? ⟨w.heap.size + 1, 0, none⟩ = some (.int .i64 (k : Int)) := by rw [cell_of_row _ _ _ _ _ _ hc.1.2.1]; rfl
    have t0 : W.cell? ⟨w.heap.size + 1 + 1, 0, none⟩ = some (.string ⟨#[]⟩) := by rw [cell_of_row _ _ _ _ _ _ hc.1.2.2.1]; rfl
    have f0 : W.frozen? ⟨w.heap.size + 1 + 1, 0, none⟩ = false := frozen_of_row _ _ _ _ _ hc.1.2.2.1
    have hb0 := Hb0.out
    clear hc
    by_cases hz : x.1.2.1 = (k : Int)
    · have Hx : Hid (∃ q y, pre ++ [x] = q ++ [y] ∧ (∀ y ∈ q, y.1.2.1 ≠ (k : Int)) ∧ y.1.2.1 = (k : Int) ∧ CtB w (.slice (some ⟨b1, o1, none⟩) ss.length c1) (.slice A2 ps.length c2) fz off k y.1.2.2 (W.setCell ⟨w.heap.size + 2, 0, none⟩ (.string x.1.2.2))) := Lib.hid ⟨pre, x, rfl, Hp.out, hz, Hc.out.put _⟩
      have e1 : (x.1.2.1 == (k : Int)) = true := by simpa using hz
      gi_wp2
      exact ⟨(KeepsOthers.setCell _ _ _).from _, rfl, Hx.out⟩
    · have e1 : (x.1.2.1 == (k : Int)) = false := beq_eq_false_iff_ne.2 hz
      have Hx : Hid (∀ y ∈ pre ++ [x], y.1.2.1 ≠ (k : Int)) := Lib.hid (fun y hy => (List.mem_append.1 hy).elim (Hp.out y) (fun e => by simp at e; subst e; exact hz))
      gi_wp2
      exact ⟨KeepsFrom.refl _ _, kpS_refl _ _ _, Hx.out, Hc.out⟩
  case done =>
    rintro D ys W hD hys ⟨hp, hc⟩ hK
    have HT := Lib.hid (Hnone.out ys hys hp)
    have Hc := Lib.hid hc
    clear hys hp
    have d0 : W.cell? ⟨w.heap.size, 0, none⟩ = some (.slice (some ⟨b1, o1, none⟩) ss.length c1) := by rw [cell_of_row _ _ _ _ _ _ hc.1.1]; rfl
    have k0 : W.cell? ⟨w.heap.size + 1, 0, none⟩ = some (.int .i64 (k : Int)) := by rw [cell_of_row _ _ _ _ _ _ hc.1.2.1]; rfl
    have s0 : W.cell? ⟨b1, o1 + k, none⟩ = some (.string s) := (hc.2.cell (p := ⟨b1, o1 + k, none⟩) (show b1 < _ by omega)).trans Hk1.out
    have t0 : W.cell? ⟨w.heap.size + 1 + 1, 0, none⟩ = some (.string ⟨#[]⟩) := by rw [cell_of_row _ _ _ _ _ _ hc.1.2.2.1]; rfl
    have f0 : W.frozen? ⟨w.heap.size + 1 + 1, 0, none⟩ = false := frozen_of_row _ _ _ _ _ hc.1.2.2.1
    have Hk' := Lib.hid ((KeepsOthers.setCell W ⟨w.heap.size + 2, 0, none⟩ (.string s)).same D _ hK rfl)
    have HDz : Hid (w.heap.size + 4 ≤ D) := Lib.hid (by have := Hz.out; omega)
    clear hc hK hD
    gi_wp2
    refine ⟨by simp, .inl ⟨_, _, rfl, run_takeDeferred Hk'.out, ?_⟩⟩
    have hcd : (W.setCell ⟨w.heap.size + 2, 0, none⟩ (.string s)).cell? ⟨w.heap.size + 2, 0, none⟩ = some (.string s) := by rw [cell_of_row _ _ _ _ _ _ (Hc.out.put s).1.2.2.1]; rfl
    have hc5 := cell_kept hcd (grownBy_putObj' _ D (.deferred none)) (fun r e => by cases e; exact ⟨_, Hk'.out, rfl⟩)
    refine ⟨.string s, ?_, by rw [HT.out], (Hc.out.put s).2.trans (belowK_b (w := w) (Nat.le_refl _) _ D _ _ (by have := HDz.out; omega) Hk'.out rfl rfl)⟩
    simp [results, Tryz.results178, go_sem, hc5]
  case stop =>
    rintro D c pre W hD ⟨j, hj, hpre⟩ ⟨rfl, q, x, rfl, h1, h2, hc⟩ hK
    have HT := Lib.hid (Hlast.out j q x hj hpre h1 h2)
    have Hc := Lib.hid hc; have HK := Lib.hid hK
    have HDz : Hid (w.heap.size + 4 ≤ D) := Lib.hid (by have := Hz.out; omega)
    clear hpre h1 h2 hc hK hD
    gi_wp2
    refine ⟨by simp, .inl ⟨_, _, rfl, run_takeDeferred HK.out, ?_⟩⟩
    have hcd : W.cell? ⟨w.heap.size + 2, 0, none⟩ = some (.string x.1.2.2) := by rw [cell_of_row _ _ _ _ _ _ Hc.out.1.2.2.1]; rfl
    have hc5 := cell_kept hcd (grownBy_putObj' _ D (.deferred none)) (fun r e => by cases e; exact ⟨_, HK.out, rfl⟩)
    refine ⟨.string x.1.2.2, ?_, by rw [HT.out], Hc.out.2.trans (belowK_b (w := w) (Nat.le_refl _) _ D _ _ (by have := HDz.out; omega) HK.out rfl rfl)⟩
    simp [results, Tryz.results178, go_sem, hc5]
theorem contentsOf_any {B : Nat} {w : World} {v1 v2 : Value} {ss : List ByteArray} {ps : List Pt} {fz : Int} {off : Bool} {k : Nat} (h1 : RiT B w v1 ss) (h2 : RiU B w v2 ps) (hB : B ≤ w.heap.size) (hk : k < ss.length) :
    Calls Tryz.prog 178 #[.agg #[v1, v2, .int .i64 fz, .bool off], .int .i64 (k : Int)] w (GivesB (.string (rdB ss ps k)) w) :=
  callsIn_wide.1 (contentsOf_in Fence.wide 3 trivial trivial trivial rfl (by omega) h1 h2 hB hk)
end Go.Proofs.YtplfnlalmcpcaaaGreat
namespace Go.Proofs.YtplfnlalmcpcaaaGreat
open Go.RowKit
set_option linter.unusedVariables false
set_option maxHeartbeats 2000000 in
set_option maxRecDepth 100000 in
theorem committed_any {B : Nat} {w : World} {v0 v1 v10 v11 : Value} {ss : List ByteArray} {ps lg dt : List Pt} {fz b l q t sq at_ : Int} {off : Bool} {k : Int} (h0 : RiT B w v0 ss) (h1 : RiU B w v1 ps) (h10 : RiU B w v10 lg) (h11 : RiU B w v11 dt) (hB : B ≤ w.heap.size) (hk0 : 0 ≤ k) (hk : k < (ss.length : Int)) (hkw : (Lit.int .i64 k).wf = true) :
    Calls Tryz.prog 150 #[.agg #[v0, v1, .int .i64 fz, .bool off, .int .i64 b, .int .i64 l, .int .i64 q, .int .i64 t, .int .i64 sq, .int .i64 at_, v10, v11], .int .i64 k] w (GivesB (.string (cmS ss ps lg k)) w) := by
  have H0 := Lib.hid h0; obtain ⟨A0, c0, rfl, l0, m0, -⟩ := h0
  have H1 := Lib.hid h1; obtain ⟨A1, c1, rfl, l1, m1, -⟩ := h1
  have H10 := Lib.hid h10; obtain ⟨A10, c10, rfl, l10, m10, x10⟩ := h10
  have H11 := Lib.hid h11; obtain ⟨A11, c11, rfl, l11, m11, x11⟩ := h11
  unfold maxLen at m0 m1 m10 m11
  have X10 := Lib.hid x10; have X11 := Lib.hid x11; clear x10 x11
  obtain ⟨n, rfl⟩ : ∃ n : Nat, k = (n : Int) := ⟨k.toNat, by omega⟩
  have hn : n < ss.length := by omega
  have Hb0 : Hid (Below w.heap.size w (w.alloc (.cells #[.slice A0 ss.length c0, .slice A1 ps.length c1, .int .i64 fz, .bool off, .int .i64 b, .int .i64 l, .int .i64 q, .int .i64 t, .int .i64 sq, .int .i64 at_, .slice A10 lg.length c10, .slice A11 dt.length c11] 38))) := Lib.hid ((Below.refl _ w).alloc (Nat.le_refl _) _)
  have R0 : Hid ((w.alloc (.cells #[.slice A0 ss.length c0, .slice A1 ps.length c1, .int .i64 fz, .bool off, .int .i64 b, .int .i64 l, .int .i64 q, .int .i64 t, .int .i64 sq, .int .i64 at_, .slice A10 lg.length c10, .slice A11 dt.length c11] 38)).heap[w.heap.size]? = some (.cells #[.slice A0 ss.length c0, .slice A1 ps.length c1, .int .i64 fz, .bool off, .int .i64 b, .int .i64 l, .int .i64 q, .int .i64 t, .int .i64 sq, .int .i64 at_, .slice A10 lg.length c10, .slice A11 dt.length c11] 38 (0, 0))) := Lib.hid (heap_alloc_new w _)
  have Lt0 : Hid (w.heap.size < (w.alloc (.cells #[.slice A0 ss.length c0, .slice A1 ps.length c1, .int .i64 fz, .bool off, .int .i64 b, .int .i64 l, .int .i64 q, .int .i64 t, .int .i64 sq, .int .i64 at_, .slice A10 lg.length c10, .slice A11 dt.length c11] 38)).heap.size) := Lib.hid (by simp)
  have C1 := Lib.hid (implPageOf_any (H10.out.at hB Hb0.out) hkw (Nat.le_refl _))
  have HT : Hid (cmS ss ps lg (n : Int) = if pgY lg (n : Int) then pgX lg (n : Int) else rdB ss ps n) := Lib.hid rfl
  generalize cmS ss ps lg (n : Int) = r at *
  generalize pgY lg (n : Int) = y at *
  generalize pgX lg (n : Int) = x at *
  clear hkw
  go_enter Tryz.func150, Tryz.ntmps150
  go_wp2_with fail
  generalize (w.alloc (.cells #[.slice A0 ss.length c0, .slice A1 ps.length c1, .int .i64 fz, .bool off, .int .i64 b, .int .i64 l, .int .i64 q, .int .i64 t, .int .i64 sq, .int .i64 at_, .slice A10 lg.length c10, .slice A11 dt.length c11] 38)) = w0 at *
  refine C1.out.mono ?_
  rintro e w1 ⟨rfl, g⟩
  have Hb1 := Lib.hid (Hb0.out.trans (g.mono Hb0.out.size))
  have R1 := Lib.hid ((g.block _ Lt0.out).trans R0.out)
  clear g
  cases y
  rotate_left
  · have Hf : Hid (r = x) := Lib.hid (by rw [HT.out]; rfl)
    go_wp2_with fail
    go_ret
    exact ⟨by rw [Hf.out]; rfl, Hb1.out⟩
  have Hf : Hid (r = rdB ss ps n) := Lib.hid (by rw [HT.out]; rfl)
  have Hld := Lib.hid (run_load_cells (P := Tryz.prog) w1 w.heap.size 0 34 _ [.slice A0 ss.length c0, .slice A1 ps.length c1, .int .i64 fz, .bool off] (row_part R1.out (by intro j u hj; rcases j with _ | _ | _ | _ | j; all_goals first | exact hj | simp at hj)) Tryz.underlying34 rfl)
  have C2 := Lib.hid (contentsOf_any (fz := fz) (off := off) (H0.out.at hB Hb1.out) (H1.out.at hB Hb1.out) (Nat.le_refl _) hn)
  generalize rdB ss ps n = s at *
  go_wp2_with (refine wpList_load_agg rfl 34 (.tmp 16) rfl _ rfl _ Hld.out ?_)
  refine C2.out.mono ?_
  rintro e w2 ⟨rfl, g⟩
  have Hb2 := Lib.hid (Hb1.out.trans (g.mono Hb1.out.size))
  clear g
  go_wp2_with fail
  go_ret
  exact ⟨by rw [Hf.out]; rfl, Hb2.out⟩
set_option maxHeartbeats 2000000 in
set_option maxRecDepth 100000 in
theorem current_any {B : Nat} {w : World} {v0 v1 v10 v11 : Value} {ss : List ByteArray} {ps lg dt : List Pt} {fz b l q t sq at_ : Int} {off : Bool} {k : Int} (h0 : RiT B w v0 ss) (h1 : RiU B w v1 ps) (h10 : RiU B w v10 lg) (h11 : RiU B w v11 dt) (hB : B ≤ w.heap.size) (hk0 : 0 ≤ k) (hk : k < (ss.length : Int)) (hkw : (Lit.int .i64 k).wf = true) :
    Calls Tryz.prog 111 #[.agg #[v0, v1, .int .i64 fz, .bool off, .int .i64 b, .int .i64 l, .int .i64 q, .int .i64 t, .int .i64 sq, .int .i64 at_, v10, v11], .int .i64 k] w (GivesB (.string (gtS ss ps lg dt k)) w) := by
  have H0 := Lib.hid h0; obtain ⟨A0, c0, rfl, l0, m0, -⟩ := h0
  have H1 := Lib.hid h1; obtain ⟨A1, c1, rfl, l1, m1, -⟩ := h1
  have H10 := Lib.hid h10; obtain ⟨A10, c10, rfl, l10, m10, x10⟩ := h10
  have H11 := Lib.hid h11; obtain ⟨A11, c11, rfl, l11, m11, x11⟩ := h11
  unfold maxLen at m0 m1 m10 m11
  have X10 := Lib.hid x10; have X11 := Lib.hid x11; clear x10 x11
  have Hb0 : Hid (Below w.heap.size w (w.alloc (.cells #[.slice A0 ss.length c0, .slice A1 ps.length c1, .int .i64 fz, .bool off, .int .i64 b, .int .i64 l, .int .i64 q, .int .i64 t, .int .i64 sq, .int .i64 at_, .slice A10 lg.length c10, .slice A11 dt.length c11] 38))) := Lib.hid ((Below.refl _ w).alloc (Nat.le_refl _) _)
  have R0 : Hid ((w.alloc (.cells #[.slice A0 ss.length c0, .slice A1 ps.length c1, .int .i64 fz, .bool off, .int .i64 b, .int .i64 l, .int .i64 q, .int .i64 t, .int .i64 sq, .int .i64 at_, .slice A10 lg.length c10, .slice A11 dt.length c11] 38)).heap[w.heap.size]? = some (.cells #[.slice A0 ss.length c0, .slice A1 ps.length c1, .int .i64 fz, .bool off, .int .i64 b, .int .i64 l, .int .i64 q, .int .i64 t, .int .i64 sq, .int .i64 at_, .slice A10 lg.length c10, .slice A11 dt.length c11] 38 (0, 0))) := Lib.hid (heap_alloc_new w _)
  have Lt0 : Hid (w.heap.size < (w.alloc (.cells #[.slice A0 ss.length c0, .slice A1 ps.length c1, .int .i64 fz, .bool off, .int .i64 b, .int .i64 l, .int .i64 q, .int .i64 t, .int .i64 sq, .int .i64 at_, .slice A10 lg.length c10, .slice A11 dt.length c11] 38)).heap.size) := Lib.hid (by simp)
  have HG : Hid (gtS ss ps lg dt k = if pgY dt k then pgX dt k else cmS ss ps lg k) := Lib.hid rfl
  have C3 := Lib.hid (implPageOf_any (H11.out.at hB Hb0.out) hkw (Nat.le_refl _))
  have C4 : Hid (∀ W, Below _ _ W → _) := Lib.hid (fun W hW => committed_any (w := W) (k := k) (fz := fz) (off := off) (b := b) (l := l) (q := q) (t := t) (sq := sq) (at_ := at_) (H0.out.at hB (Hb0.out.trans (hW.mono Hb0.out.size))) (H1.out.at hB (Hb0.out.trans (hW.mono Hb0.out.size))) (H10.out.at hB (Hb0.out.trans (hW.mono Hb0.out.size))) (H11.out.at hB (Hb0.out.trans (hW.mono Hb0.out.size))) (Nat.le_refl _) hk0 hk hkw)
  generalize gtS ss ps lg dt k = S at *
  generalize cmS ss ps lg k = s at *
  generalize pgY dt k = y at *
  generalize pgX dt k = x at *
  clear hk0 hk hkw
  go_enter Tryz.func111, Tryz.ntmps111
  go_wp2_with fail
  generalize (w.alloc (.cells #[.slice A0 ss.length c0, .slice A1 ps.length c1, .int .i64 fz, .bool off, .int .i64 b, .int .i64 l, .int .i64 q, .int .i64 t, .int .i64 sq, .int .i64 at_, .slice A10 lg.length c10, .slice A11 dt.length c11] 38)) = w2 at *
  refine C3.out.mono ?_
  rintro e w3 ⟨rfl, g⟩
  have Hg3 := Lib.hid g
  have Hb3 := Lib.hid (Hb0.out.trans (g.mono Hb0.out.size))
  have R3 := Lib.hid ((g.block _ Lt0.out).trans R0.out)
  clear g
  cases y
  rotate_left
  · have Hf2 : Hid (S = x) := Lib.hid (by rw [HG.out]; rfl)
    go_wp2_with fail
    go_ret
    exact ⟨by rw [Hf2.out]; rfl, Hb3.out⟩
  have Hf2 : Hid (S = s) := Lib.hid (by rw [HG.out]; rfl)
  go_wp2_with (refine wpList_load_row rfl 38 (.tmp 2) rfl _ rfl 38 _ (0, 0) _ R3.out Tryz.underlying38 rfl (by kernel_rfl) ?_)
  refine (C4.out _ Hg3.out).mono ?_
  rintro e w4 ⟨rfl, g⟩
  have Hb4 := Lib.hid (Hb3.out.trans (g.mono Hb3.out.size))
  clear g
  go_wp2_with fail
  go_ret
  exact ⟨by rw [Hf2.out]; rfl, Hb4.out⟩
end Go.Proofs.YtplfnlalmcpcaaaGreat
namespace Go.Proofs.YtplfnlalmcpcaaaGreat
open Go.RowKit
set_option linter.unusedVariables false
/-- The bytes of a string lie in this block. -/
def ByA (w : World) (g : Nat) (s : ByteArray) : Prop := ∀ j, j < s.size → w.cell? ⟨g, j, none⟩ = some (.int .u8 (s.data.toList.getD j 0).toNat)
theorem ByA.bel {w w' : World} {g : Nat} {s : ByteArray} (h : ByA w g s) (hg : g < w.heap.size) (hb : Below w.heap.size w w') : ByA w' g s := fun j hj => (hb.cell (p := ⟨g, j, none⟩) hg).trans (h j hj)
def SpA (ar : ByteArray) (b l q t : Int) (w : World) (e : Ending) (w' : World) : Prop := ∃ g cap : Nat, e = .returned (.agg #[.int .i64 b, .int .i64 l, .int .i64 q, .int .i64 t, .slice (some ⟨g, 0, none⟩) 64 cap, .slice (some ⟨g, 4, none⟩) 32 32]) ∧ 64 ≤ cap ∧ cap ≤ maxLen ∧ w.heap.size ≤ g ∧ g < w'.heap.size ∧ ByA w' g ar ∧ Below w.heap.size w w'
theorem boxes2Q (w : World) (a b : Array Value) (s t : TypeId) : ((w.alloc (.cells a s)).alloc (.cells b t)).heap[w.heap.size]? = some (.cells a s (0, 0)) ∧ ((w.alloc (.cells a s)).alloc (.cells b t)).heap[w.heap.size + 1]? = some (.cells b t (0, 0)) ∧ ((w.alloc (.cells a s)).alloc (.cells b t)).heap.size = w.heap.size + 2 ∧ Below w.heap.size w ((w.alloc (.cells a s)).alloc (.cells b t)) :=
  ⟨heap_alloc2_old w _ _, heap_alloc2_new w _ _, by simp, ((Below.refl _ w).alloc (Nat.le_refl _) _).alloc (by simp) _⟩
theorem cell_same {w w' : World} {g : Nat} (h : w'.heap[g]? = w.heap[g]?) (j : Nat) : w'.cell? ⟨g, j, none⟩ = w.cell? ⟨g, j, none⟩ := by simp only [World.cell?, h]
theorem bw_below (w : World) (s : ByteArray) : Below w.heap.size w (Lib.bytesWorld w 5 s) := Go.Joins.below_bytesWorld _ w _ s (Nat.le_refl _)
set_option maxHeartbeats 4000000 in
set_option maxRecDepth 100000 in
theorem spaceOf_any {B : Nat} {w : World} {v0 v1 v10 v11 : Value} {ss : List ByteArray} {ps lg dt : List Pt} {fz b l q t sq at_ : Int} {off : Bool} (h0 : RiT B w v0 ss) (h1 : RiU B w v1 ps) (h10 : RiU B w v10 lg) (h11 : RiU B w v11 dt) (hB : B ≤ w.heap.size) (hok : pgrOk ss ps fz off b l q t sq at_ lg dt = true) :
    Calls Tryz.prog 59 #[.agg #[v0, v1, .int .i64 fz, .bool off, .int .i64 b, .int .i64 l, .int .i64 q, .int .i64 t, .int .i64 sq, .int .i64 at_, v10, v11]] w (SpA (arS ss ps l lg dt) b l q t w) := by
  have H0 := Lib.hid h0; obtain ⟨A0, c0, rfl, l0, m0, -⟩ := h0
  have H1 := Lib.hid h1; obtain ⟨A1, c1, rfl, l1, m1, -⟩ := h1
  have H10 := Lib.hid h10; obtain ⟨A10, c10, rfl, l10, m10, x10⟩ := h10
  have H11 := Lib.hid h11; obtain ⟨A11, c11, rfl, l11, m11, x11⟩ := h11
  unfold maxLen at m0 m1 m10 m11
  clear x10 x11
  have hb := pgrOk_b hok
  have HS := (pgrOk_t hok).1
  have HZ := Lib.hid (arS_64 hok)
  have HB2 := Lib.hid (boxes2Q w #[.slice A0 ss.length c0, .slice A1 ps.length c1, .int .i64 fz, .bool off, .int .i64 b, .int .i64 l, .int .i64 q, .int .i64 t, .int .i64 sq, .int .i64 at_, .slice A10 lg.length c10, .slice A11 dt.length c11] #[.int .i64 0, .int .i64 0, .int .i64 0, .int .i64 0, .slice none 0 0, .slice none 0 0] 38 91)
  have C1 := Lib.hid (fun W => by have := implAreaBlock_any b l q t W (sup_b HS).1 (sup_b HS).2.1; rwa [show arOf b l q t = 2 + l from by simp [arOf, HS]] at this)
  have C2 : Hid (∀ W, Below w.heap.size w W → _) := Lib.hid (fun W hW => current_any (w := W) (k := 2 + l) (fz := fz) (off := off) (b := b) (l := l) (q := q) (t := t) (sq := sq) (at_ := at_) (H0.out.at hB hW) (H1.out.at hB hW) (H10.out.at hB hW) (H11.out.at hB hW) (Nat.le_refl _) (by omega) (by omega) (WalkArith.wf_i64 (by omega)))
  have HA : Hid (arS ss ps l lg dt = gtS ss ps lg dt (2 + l)) := Lib.hid rfl
  rw [← HA.out] at C2
  clear HA
  generalize arS ss ps l lg dt = AR at *
  clear hok HS
  have HBB := Lib.hid hb; clear hb
  have HLP : Hid (∀ W, Below ((w.alloc (.cells #[.slice A0 ss.length c0, .slice A1 ps.length c1, .int .i64 fz, .bool off, .int .i64 b, .int .i64 l, .int .i64 q, .int .i64 t, .int .i64 sq, .int .i64 at_, .slice A10 lg.length c10, .slice A11 dt.length c11] 38)).alloc (.cells #[.int .i64 0, .int .i64 0, .int .i64 0, .int .i64 0, .slice none 0 0, .slice none 0 0] 91)).heap.size ((w.alloc (.cells #[.slice A0 ss.length c0, .slice A1 ps.length c1, .int .i64 fz, .bool off, .int .i64 b, .int .i64 l, .int .i64 q, .int .i64 t, .int .i64 sq, .int .i64 at_, .slice A10 lg.length c10, .slice A11 dt.length c11] 38)).alloc (.cells #[.int .i64 0, .int .i64 0, .int .i64 0, .int .i64 0, .slice none 0 0, .slice none 0 0] 91)) W → W.cell? ⟨w.heap.size, 0, none⟩ = some (.slice A0 ss.length c0) ∧ W.cell? ⟨w.heap.size, 1, none⟩ = some (.slice A1 ps.length c1) ∧ W.cell? ⟨w.heap.size, 2, none⟩ = some (.int .i64 fz) ∧ W.cell? ⟨w.heap.size, 3, none⟩ = some (.bool off) ∧ W.cell? ⟨w.heap.size, 4, none⟩ = some (.int .i64 b) ∧ W.cell? ⟨w.heap.size, 5, none⟩ = some (.int .i64 l) ∧ W.cell? ⟨w.heap.size, 6, none⟩ = some (.int .i64 q) ∧ W.cell? ⟨w.heap.size, 7, none⟩ = some (.int .i64 t) ∧ W.cell? ⟨w.heap.size, 8, none⟩ = some (.int .i64 sq) ∧ W.cell? ⟨w.heap.size, 9, none⟩ = some (.int .i64 at_) ∧ W.cell? ⟨w.heap.size, 10, none⟩ = some (.slice A10 lg.length c10) ∧ W.cell? ⟨w.heap.size, 11, none⟩ = some (.slice A11 dt.length c11)) := Lib.hid (fun W hW => by
    have R : W.heap[w.heap.size]? = some (.cells #[.slice A0 ss.length c0, .slice A1 ps.length c1, .int .i64 fz, .bool off, .int .i64 b, .int .i64 l, .int .i64 q, .int .i64 t, .int .i64 sq, .int .i64 at_, .slice A10 lg.length c10, .slice A11 dt.length c11] 38 (0, 0)) := (hW.block _ (by have := HB2.out.2.2.1; omega)).trans HB2.out.1
    exact ⟨by rw [cell_of_row _ _ _ _ _ _ R]; rfl, by rw [cell_of_row _ _ _ _ _ _ R]; rfl, by rw [cell_of_row _ _ _ _ _ _ R]; rfl, by rw [cell_of_row _ _ _ _ _ _ R]; rfl, by rw [cell_of_row _ _ _ _ _ _ R]; rfl, by rw [cell_of_row _ _ _ _ _ _ R]; rfl, by rw [cell_of_row _ _ _ _ _ _ R]; rfl, by rw [cell_of_row _ _ _ _ _ _ R]; rfl, by rw [cell_of_row _ _ _ _ _ _ R]; rfl, by rw [cell_of_row _ _ _ _ _ _ R]; rfl, by rw [cell_of_row _ _ _ _ _ _ R]; rfl, by rw [cell_of_row _ _ _ _ _ _ R]; rfl⟩)
  have HRS : Hid (∀ W, Below ((w.alloc (.cells #[.slice A0 ss.length c0, .slice A1 ps.length c1, .int .i64 fz, .bool off, .int .i64 b, .int .i64 l, .int .i64 q, .int .i64 t, .int .i64 sq, .int .i64 at_, .slice A10 lg.length c10, .slice A11 dt.length c11] 38)).alloc (.cells #[.int .i64 0, .int .i64 0, .int .i64 0, .int .i64 0, .slice none 0 0, .slice none 0 0] 91)).heap.size ((w.alloc (.cells #[.slice A0 ss.length c0, .slice A1 ps.length c1, .int .i64 fz, .bool off, .int .i64 b, .int .i64 l, .int .i64 q, .int .i64 t, .int .i64 sq, .int .i64 at_, .slice A10 lg.length c10, .slice A11 dt.length c11] 38)).alloc (.cells #[.int .i64 0, .int .i64 0, .int .i64 0, .int .i64 0, .slice none 0 0, .slice none 0 0] 91)) W → W.heap[w.heap.size + 1]? = some (.cells #[.int .i64 0, .int .i64 0, .int .i64 0, .int .i64 0, .slice none 0 0, .slice none 0 0] 91 (0, 0)) ∧ Below w.heap.size w W ∧ w.heap.size + 2 ≤ W.heap.size) := Lib.hid (fun W hW => ⟨(hW.block _ (by have := HB2.out.2.2.1; omega)).trans HB2.out.2.1, HB2.out.2.2.2.trans (hW.mono (by have := HB2.out.2.2.1; omega)), by have := HB2.out.2.2.1; have := hW.size; omega⟩)
  clear HB2
  have hcv := fun W => Lib.run_convert_string_bytes (P := Tryz.prog) W 9 88 5 AR Tryz.underlying9 Tryz.underlying88 Tryz.underlying5
  rw [HZ.out] at hcv
  go_enter Tryz.func59, Tryz.ntmps59
  go_wp2_with fail
  generalize ((w.alloc (.cells #[.slice A0 ss.length c0, .slice A1 ps.length c1, .int .i64 fz, .bool off, .int .i64 b, .int .i64 l, .int .i64 q, .int .i64 t, .int .i64 sq, .int .i64 at_, .slice A10 lg.length c10, .slice A11 dt.length c11] 38)).alloc (.cells #[.int .i64 0, .int .i64 0, .int .i64 0, .int .i64 0, .slice none 0 0, .slice none 0 0] 91)) = w0 at *
  have HD : Hid (Below w0.heap.size w0 w0.drew) := Lib.hid (Below.refl _ _).drew
  refine wp_region_held_drew (S := (fun W => W.cell? ⟨w.heap.size, 0, none⟩ = some (.slice A0 ss.length c0) ∧ W.cell? ⟨w.heap.size, 1, none⟩ = some (.slice A1 ps.length c1) ∧ W.cell? ⟨w.heap.size, 2, none⟩ = some (.int .i64 fz) ∧ W.cell? ⟨w.heap.size, 3, none⟩ = some (.bool off) ∧ W.cell? ⟨w.heap.size, 4, none⟩ = some (.int .i64 b) ∧ W.cell? ⟨w.heap.size, 5, none⟩ = some (.int .i64 l) ∧ W.cell? ⟨w.heap.size, 6, none⟩ = some (.int .i64 q) ∧ W.cell? ⟨w.heap.size, 7, none⟩ = some (.int .i64 t) ∧ W.cell? ⟨w.heap.size, 8, none⟩ = some (.int .i64 sq) ∧ W.cell? ⟨w.heap.size, 9, none⟩ = some (.int .i64 at_) ∧ W.cell? ⟨w.heap.size, 10, none⟩ = some (.slice A10 lg.length c10) ∧ W.cell? ⟨w.heap.size, 11, none⟩ = some (.slice A11 dt.length c11))) (by kernel_rfl) (HLP.out _ HD.out) (fun hHeld => ?_)
  refine held_yes 0 (some 4) rfl rfl (by kernel_rfl) (by kernel_rfl) (by kernel_rfl) (fun _ _ _ h => h) (by kernel_rfl) hHeld (v := ?_) (fun wz hSw => ?_) ?_
  rotate_left 1
  · (try dsimp only at hSw); go_simp; (try with_reducible rfl)
  try simp only [Act.put, List.setIfInBounds_toArray, List.set_cons_zero, List.set_cons_succ]
  refine held_yes 1 (some 5) rfl rfl (by kernel_rfl) (by kernel_rfl) (by kernel_rfl) (fun _ _ _ h => h) (by kernel_rfl) hHeld (v := ?_) (fun wz hSw => ?_) ?_
  rotate_left 1
  · (try dsimp only at hSw); go_simp; (try with_reducible rfl)
  try simp only [Act.put, List.setIfInBounds_toArray, List.set_cons_zero, List.set_cons_succ]
  refine held_yes 2 (some 6) rfl rfl (by kernel_rfl) (by kernel_rfl) (by kernel_rfl) (fun _ _ _ h => h) (by kernel_rfl) hHeld (v := ?_) (fun wz hSw => ?_) ?_
  rotate_left 1
  · (try dsimp only at hSw); go_simp; (try with_reducible rfl)
  try simp only [Act.put, List.setIfInBounds_toArray, List.set_cons_zero, List.set_cons_succ]
  refine wpAnyH_ready (rs := [3]) (by kernel_rfl) (by simp) ?_
  refine AllReadyH.cons rfl (fun K hK => ?_) AllReadyH.nil
  go_simp
  (go_at_call 97; go_fit (C1.out _); rintro e u1 ⟨rfl, g1⟩; have kb1 : Below w0.heap.size w0 u1 := HD.out.trans (g1.mono HD.out.size))
  refine hK.out _ _ (HLP.out _ kb1) (fun hHeld => ?_)
  clear hK K
  try simp only [Act.put, List.setIfInBounds_toArray, List.set_cons_zero, List.set_cons_succ]
  refine wpAnyH_ready (rs := [4]) (by kernel_rfl) (by simp) ?_
  refine AllReadyH.cons rfl (fun K hK => ?_) AllReadyH.nil
  go_simp
  (go_at_call 111; go_fit (C2.out _ (HRS.out _ kb1).2.1); rintro e u2 ⟨rfl, g2⟩; have kb2 : Below w0.heap.size w0 u2 := kb1.trans (g2.mono kb1.size))
  refine hK.out _ _ (HLP.out _ kb2) (fun hHeld => ?_)
  clear hK K
  try simp only [Act.put, List.setIfInBounds_toArray, List.set_cons_zero, List.set_cons_succ]
  refine wpAnyH_ready (rs := [5]) (by kernel_rfl) (by simp) ?_
  refine AllReadyH.cons rfl (fun K hK => ?_) AllReadyH.nil
  go_simp
  skip
  refine hK.out _ _ (HLP.out _ (kb2.trans ((bw_below u2 AR).mono kb2.size))) (fun hHeld => ?_)
  clear hK K
  try simp only [Act.put, List.setIfInBounds_toArray, List.set_cons_zero, List.set_cons_succ]
  refine held_yes 6 (some 3) rfl rfl (by kernel_rfl) (by kernel_rfl) (by kernel_rfl) (fun _ _ _ h => h) (by kernel_rfl) hHeld (v := ?_) (fun wz hSw => ?_) ?_
  rotate_left 1
  · (try dsimp only at hSw); go_simp; (try with_reducible rfl)
  try simp only [Act.put, List.setIfInBounds_toArray, List.set_cons_zero, List.set_cons_succ]
  refine wpAnyH_done (by kernel_rfl) ?_ _
  try simp only [Exit.then]
  have hc1 := grownCap_ge u2 64 0 5
  have hc2 := grownCap_le_maxLen u2 64 0 5 (by unfold maxLen; omega)
  have HBy : Hid (ByA (Lib.bytesWorld u2 5 AR) u2.heap.size AR) := Lib.hid (fun j hj => Lib.bytesWorld_cell u2 5 AR j hj)
  have Hk3 : Hid (Below w0.heap.size w0 (Lib.bytesWorld u2 5 AR)) := Lib.hid (kb2.trans ((bw_below u2 AR).mono kb2.size))
  have Hz3 : Hid ((Lib.bytesWorld u2 5 AR).heap.size = u2.heap.size + 1 ∧ w.heap.size + 2 ≤ u2.heap.size) := Lib.hid ⟨Lib.bytesWorld_size _ _ _, (HRS.out _ kb2).2.2⟩
  clear kb1 kb2 g1 g2 hcv
  generalize grownCap u2 64 0 5 = cap at *
  generalize Lib.bytesWorld u2 5 AR = w3 at *
  generalize u2.heap.size = g at *
  unfold maxLen at hc2
  have Hc2 := Lib.hid hc2; clear hc2
  have G1 := Lib.hid (run_load_cells (P := Tryz.prog) w3.drew w.heap.size 4 35 _ [.int .i64 b, .int .i64 l, .int .i64 q, .int .i64 t] (fun j u hj => by
    have h := HLP.out w3.drew (Hk3.out.drew)
    rcases j with _ | _ | _ | _ | j
    · obtain rfl := Option.some.inj hj; exact h.2.2.2.2.1
    · obtain rfl := Option.some.inj hj; exact h.2.2.2.2.2.1
    · obtain rfl := Option.some.inj hj; exact h.2.2.2.2.2.2.1
    · obtain rfl := Option.some.inj hj; exact h.2.2.2.2.2.2.2.1
    · simp at hj) Tryz.underlying35 rfl)
  have hc3 : (36 : Int) ≤ (cap : Int) := by omega
  go_wp2_with fail
  refine wp_region_still_tail 6 (by kernel_rfl) (by kernel_rfl) ?_
  simp only [List.take_succ_cons, List.take_zero, List.drop_succ_cons, List.drop_zero]
  still_step
  refine wpStill_load rfl 35 (.tmp 10) rfl _ rfl _ G1.out ?_
  still_step
  still_step
  still_step
  still_step
  refine wpStill_nil ?_
  have RS := Lib.hid (HRS.out w3.drew Hk3.out.drew)
  have HBy2 : Hid (ByA w3.drew g AR) := Lib.hid (fun j hj => HBy.out j hj)
  have Hz4 : Hid (w3.drew.heap.size = g + 1) := Lib.hid Hz3.out.1
  change wpList _ _ _ _ _ w3.drew
  clear G1
  generalize w3.drew = wd at *
  have Hi9 : Hid ((Tryz.prog.info? 91).map (·.size) = some (#[.int .i64 b, .int .i64 l, .int .i64 q, .int .i64 t, .slice (some ⟨g, 0, none⟩) 64 cap, .slice (some ⟨g, 4, none⟩) 32 32] : Array Value).size) := Lib.hid (by kernel_rfl)
  have H19 : Hid ((#[.int .i64 b, .int .i64 l, .int .i64 q, .int .i64 t, .slice (some ⟨g, 0, none⟩) 64 cap, .slice (some ⟨g, 4, none⟩) 32 32] : Array Value).all (·.oneCell') = true) := Lib.hid (by simp [Value.oneCell'])
  go_wp2_with (refine wpList_store_row rfl 91 (.tmp 2) (.tmp 15) rfl (w.heap.size + 1) #[.int .i64 b, .int .i64 l, .int .i64 q, .int .i64 t, .slice (some ⟨g, 0, none⟩) 64 cap, .slice (some ⟨g, 4, none⟩) 32 32] rfl rfl 91 _ RS.out.1 Hi9.out rfl H19.out ?_)
  refine bodyPost_ret (v := .agg #[.int .i64 b, .int .i64 l, .int .i64 q, .int .i64 t, .slice (some ⟨g, 0, none⟩) 64 cap, .slice (some ⟨g, 4, none⟩) 32 32]) ?_ rfl ?_
  · exact results_cell_row rfl _ _ (w.heap.size + 1) 91 _ (0, 0) _ rfl (setRow_heap _ _ _ _ _ _ RS.out.1) Tryz.underlying91 rfl (by kernel_rfl)
  · have hz := Hz3.out.2
    have hne : g ≠ w.heap.size + 1 := by omega
    refine ⟨g, cap, rfl, by omega, by unfold maxLen; have := Hc2.out; omega, by omega, ?_, ?_, below_setRow RS.out.2.1 (by omega) _⟩
    · have := Hz4.out; rw [setRow_size]; omega
    · intro j hj
      rw [← HBy2.out j hj]
      exact cell_same (setRow_other _ _ _ _ hne) j
end Go.Proofs.YtplfnlalmcpcaaaGreat
namespace Go.Proofs.YtplfnlalmcpcaaaGreat
open Go.RowKit
set_option linter.unusedVariables false
def aB (s : ByteArray) (n : Nat) : Bool := bits .and .u8 (((s.data.toList.getD (4 + n / 8) 0).toNat : Int) / 2 ^ (n % 8)) 1 == 1
theorem getD_byte (s : ByteArray) (i : Nat) (h : i < s.size) : s.data.toList.getD i 0 = s[i] := by
  rw [List.getD_eq_getElem?_getD, List.getElem?_eq_getElem (by simpa using h)]
  simp; rfl
/-- All these blocks are data blocks. -/
def dtB (b l at_ n : Int) : Bool := inB n 1 256 && (inB at_ (3 + l) (b - 1) && decide (at_ + n ≤ b))
theorem dtB_iff {b l at_ n : Int} (hb : b ≤ 256) (hl : 8 ≤ l) : dtB b l at_ n = true ↔ 1 ≤ n ∧ 3 + l ≤ at_ ∧ at_ ≤ b - n := by
  simp only [dtB, Bool.and_eq_true, inB_iff, decide_eq_true_eq]
  omega
theorem dtB_eq {b l at_ n : Int} (hb : b ≤ 256) (hl : 8 ≤ l) : dtB b l at_ n = (decide (1 ≤ n) && (decide (3 + l ≤ at_) && decide (at_ ≤ b - n))) := by
  rw [Bool.eq_iff_iff, dtB_iff hb hl]
  simp only [Bool.and_eq_true, decide_eq_true_eq]
set_option maxHeartbeats 1000000 in
set_option maxRecDepth 100000 in
theorem l13Bit_any (s : ByteArray) (n : Nat) (hs : s.size = 64) (hn : n < 256) (w : World) :
    Calls Tryz.prog 118 #[.string s, .int .i64 (n : Int)] w (Quiet (.bool (aB s n)) w) := by
  have h1 : 4 + n / 8 < s.size := by omega
  have HV : Hid (aB s n = (bits .and .u8 ((s[4 + n / 8].toNat : Int) / 2 ^ (n % 8)) 1 == 1)) := Lib.hid (by unfold aB; rw [getD_byte s _ h1])
  generalize aB s n = r at *
  go_enter Tryz.func118, Tryz.ntmps118
  go_wp2
  go_ret
  exact ⟨by rw [HV.out]; rfl, rfl⟩
set_option maxHeartbeats 1000000 in
set_option maxRecDepth 100000 in
theorem has_any {w : World} {g n : Nat} {s : ByteArray} (hs : s.size = 64) (hn : n < 256) (hg : ByA w g s) :
    Calls Tryz.prog 119 #[.slice (some ⟨g, 4, none⟩) 32 32, .int .i64 (n : Int)] w (Quiet (.bool (aB s n)) w) := by
  have h1 : n / 8 < 32 := by omega
  have q := hg (4 + n / 8) (by omega)
  have HV : Hid (aB s n = (bits .and .u8 (((s.data.toList.getD (4 + n / 8) 0).toNat : Int) / 2 ^ (n % 8)) 1 == 1)) := Lib.hid rfl
  generalize aB s n = r at *
  have hz : (s.data.toList.getD (4 + n / 8) 0).toNat < 256 := UInt8.toNat_lt _
  generalize (s.data.toList.getD (4 + n / 8) 0).toNat = x at *
  clear hg
  go_enter Tryz.func119, Tryz.ntmps119
  go_wp2
  go_ret
  exact ⟨by rw [HV.out]; rfl, rfl⟩
set_option maxHeartbeats 1000000 in
set_option maxRecDepth 100000 in
theorem hasRun_any {b l q t : Int} (at_ n : Int) (w : World) (hs : supOk b l q t = true) (hn : InI n) :
    Calls Tryz.prog 58 #[.agg #[.int .i64 b, .int .i64 l, .int .i64 q, .int .i64 t], .int .i64 at_, .int .i64 n] w (GivesB (.bool (dtB b l at_ n)) w) := by
  have hb := sup_b hs
  have Hb0 : Hid (Below w.heap.size w (w.alloc (.cells #[.int .i64 b, .int .i64 l, .int .i64 q, .int .i64 t] 35))) := Lib.hid ((Below.refl _ w).alloc (Nat.le_refl _) _)
  have R0 : Hid ((w.alloc (.cells #[.int .i64 b, .int .i64 l, .int .i64 q, .int .i64 t] 35)).heap[w.heap.size]? = some (.cells #[.int .i64 b, .int .i64 l, .int .i64 q, .int .i64 t] 35 (0, 0))) := Lib.hid (heap_alloc_new w _)
  have Lt0 : Hid (w.heap.size < (w.alloc (.cells #[.int .i64 b, .int .i64 l, .int .i64 q, .int .i64 t] 35)).heap.size) := Lib.hid (by simp)
  have HV := Lib.hid (dtB_eq (b := b) (l := l) (at_ := at_) (n := n) hb.2.2.2.2.2 hb.2.2.1)
  have C1 := Lib.hid (fun W => by have := implDataFirst_any b l q t W hb.1 hb.2.1; rwa [show daOf b l q t = 3 + l from by simp [daOf, hs]] at this)
  generalize dtB b l at_ n = r at *
  unfold InI at hn
  by_cases h1 : 1 ≤ n
  rotate_left
  · have Hf : Hid (r = false) := Lib.hid (by rw [HV.out, decide_eq_false h1]; rfl)
    go_enter Tryz.func58, Tryz.ntmps58
    go_wp2_with fail
    go_ret
    exact ⟨by rw [Hf.out]; rfl, Hb0.out⟩
  have hw : wrap64 (b - n) = b - n := by have h := hb.2.2.2.2; unfold wrap64; omega
  have Hw := Lib.hid hw
  have HV2 : Hid (r = (decide (3 + l ≤ at_) && decide (at_ ≤ b - n))) := Lib.hid (by rw [HV.out, decide_eq_true h1]; rfl)
  have h1' : decide (1 ≤ n) = true := decide_eq_true h1
  have Hbb := Lib.hid hb
  clear HV hb hw
  have q0 : (w.alloc (.cells #[.int .i64 b, .int .i64 l, .int .i64 q, .int .i64 t] 35)).cell? ⟨w.heap.size, 0, none⟩ = some (.int .i64 b) := by rw [cell_of_row _ _ _ _ _ _ R0.out]; rfl
  have q1 : (w.alloc (.cells #[.int .i64 b, .int .i64 l, .int .i64 q, .int .i64 t] 35)).cell? ⟨w.heap.size, 1, none⟩ = some (.int .i64 l) := by rw [cell_of_row _ _ _ _ _ _ R0.out]; rfl
  have q2 : (w.alloc (.cells #[.int .i64 b, .int .i64 l, .int .i64 q, .int .i64 t] 35)).cell? ⟨w.heap.size, 2, none⟩ = some (.int .i64 q) := by rw [cell_of_row _ _ _ _ _ _ R0.out]; rfl
  have q3 : (w.alloc (.cells #[.int .i64 b, .int .i64 l, .int .i64 q, .int .i64 t] 35)).cell? ⟨w.heap.size, 3, none⟩ = some (.int .i64 t) := by rw [cell_of_row _ _ _ _ _ _ R0.out]; rfl
  go_enter Tryz.func58, Tryz.ntmps58
  go_wp2_with fail
  clear q0 q1 q2 q3
  generalize (w.alloc (.cells #[.int .i64 b, .int .i64 l, .int .i64 q, .int .i64 t] 35)) = w0 at *
  refine (C1.out _).mono ?_
  rintro e w1 ⟨rfl, g⟩
  have Hb1 := Lib.hid (Hb0.out.trans (g.mono Hb0.out.size))
  have R1 := Lib.hid ((g.block _ Lt0.out).trans R0.out)
  clear g C1
  by_cases h2 : 3 + l ≤ at_
  rotate_left
  · have Hf : Hid (r = false) := Lib.hid (by rw [HV2.out, decide_eq_false h2]; rfl)
    go_wp2_with fail
    go_ret
    exact ⟨by rw [Hf.out]; rfl, Hb1.out⟩
  have q0 : w1.cell? ⟨w.heap.size, 0, none⟩ = some (.int .i64 b) := by rw [cell_of_row _ _ _ _ _ _ R1.out]; rfl
  by_cases h3 : at_ ≤ b - n
  · have Hf : Hid (r = true) := Lib.hid (by rw [HV2.out, decide_eq_true h2, decide_eq_true h3]; rfl)
    have h3' : Hid (decide (at_ ≤ wrap64 (b - n)) = true) := Lib.hid (by rw [Hw.out]; exact decide_eq_true h3)
    go_wp2_with fail
    go_ret
    exact ⟨by rw [Hf.out]; first | rfl | exact congrArg (fun x => Ending.returned (.bool x)) h3'.out, Hb1.out⟩
  · have Hf : Hid (r = false) := Lib.hid (by rw [HV2.out, decide_eq_false h3]; simp)
    have h3' : Hid (decide (at_ ≤ wrap64 (b - n)) = false) := Lib.hid (by rw [Hw.out]; exact decide_eq_false h3)
    go_wp2_with fail
    go_ret
    exact ⟨by rw [Hf.out]; first | rfl | exact congrArg (fun x => Ending.returned (.bool x)) h3'.out, Hb1.out⟩
end Go.Proofs.YtplfnlalmcpcaaaGreat
namespace Go.Proofs.YtplfnlalmcpcaaaGreat
open Go.RowKit
set_option linter.unusedVariables false
/-- The number whose bytes are these, the least significant one first. -/
def leVal : List UInt8 → Int
  | [] => 0
  | b :: l => (b.toNat : Int) + 256 * leVal l
theorem leVal_nonneg : ∀ l, 0 ≤ leVal l
  | [] => Int.le_refl 0
  | b :: l => by have := leVal_nonneg l; unfold leVal; omega
theorem byte_lt (b : UInt8) : b.toNat < 256 := b.toNat_lt
theorem leVal_lt : ∀ l : List UInt8, leVal l < 256 ^ l.length
  | [] => by simp [leVal]
  | b :: l => by
    have h := leVal_lt l
    have hb := byte_lt b
    have e : (256 : Int) ^ (b :: l).length = 256 * 256 ^ l.length := by rw [List.length_cons, Int.pow_succ, Int.mul_comm]
    rw [e]; unfold leVal
    generalize (256 : Int) ^ l.length = P at *
    omega
def cutL (s : ByteArray) (a m : Nat) : List UInt8 := (s.data.toList.drop a).take m
theorem cutL_length (s : ByteArray) (a m : Nat) (h : a + m ≤ s.size) : (cutL s a m).length = m := by
  have : s.data.toList.length = s.size := by simp
  unfold cutL; rw [List.length_take, List.length_drop]; omega
theorem cutL_drop (s : ByteArray) (a m j : Nat) (h : a + m ≤ s.size) (hj : j < m) : (cutL s a m).drop j = s[a + j]'(by omega) :: (cutL s a m).drop (j + 1) := by
  rw [List.drop_eq_getElem_cons (by rw [cutL_length s a m h]; exact hj)]
  congr 1
  simp only [cutL, List.getElem_take, List.getElem_drop]
  rfl
theorem leVal_lt7 (l : List UInt8) (h : l.length ≤ 7) : leVal l < 72057594037927936 := by
  have hl := leVal_lt l
  have hc : l.length = 0 ∨ l.length = 1 ∨ l.length = 2 ∨ l.length = 3 ∨ l.length = 4 ∨ l.length = 5 ∨ l.length = 6 ∨ l.length = 7 := by omega
  rcases hc with e | e | e | e | e | e | e | e <;> rw [e] at hl <;> simp only [Int.reducePow, Int.pow_zero] at hl <;> omega
theorem or_comm_bits (k : IntKind) (x y : Int) : bits .or k x y = bits .or k y x := by simp only [bits, BitVec.or_comm]
theorem u64_or_byte (X : Int) (h0 : 0 ≤ X) (h1 : X < 72057594037927936) (b : UInt8) : bits .or .u64 (X * 256) (IntKind.u64.wrap (b.toNat : Int)) = (b.toNat : Int) + 256 * X := by
  have hb := byte_lt b
  rw [IntKind.wrap_u64, show ((b.toNat : Int) % 18446744073709551616) = (b.toNat : Int) from by omega, or_comm_bits, u64_or8 _ _ (by omega) (by omega) (by omega) (by omega) (by omega)]
  omega
theorem leVal_snoc (b : UInt8) : ∀ l : List UInt8, leVal (l ++ [b]) = leVal l + 256 ^ l.length * (b.toNat : Int)
  | [] => by simp [leVal]
  | a :: l => by
    have h := leVal_snoc b l
    rw [List.cons_append]
    unfold leVal
    rw [h, List.length_cons, Int.pow_succ, Int.mul_comm (256 ^ l.length) 256, Int.mul_assoc]
    generalize (256 : Int) ^ l.length * (b.toNat : Int) = P
    omega
theorem leVal_drop_le (l : List UInt8) (j : Nat) : leVal (l.drop j) ≤ leVal l := by
  induction l generalizing j with
  | nil => simp
  | cons b l ih =>
    cases j with
    | zero => simp
    | succ j =>
      have := ih j
      have h0 := leVal_nonneg l
      rw [List.drop_succ_cons]
      show leVal (l.drop j) ≤ (b.toNat : Int) + 256 * leVal l
      omega
theorem cutL_snoc (s : ByteArray) (a m : Nat) (h : a + (m + 1) ≤ s.size) : cutL s a (m + 1) = cutL s a m ++ [s[a + m]'(by omega)] := by
  have hl : s.data.toList.length = s.size := by simp
  unfold cutL
  rw [List.take_succ_eq_append_getElem (by rw [List.length_drop]; omega)]
  congr 2
  simp only [List.getElem_drop]
  rfl
/-- Eight bytes stand for a number of 2^63 or more just where the last of them is 128 or more. -/
theorem leVal_top (s : ByteArray) (a : Nat) (h : a + 8 ≤ s.size) : 9223372036854775808 ≤ leVal (cutL s a 8) ↔ 127 < ((s[a + 7]'(by omega)).toNat : Int) := by
  rw [cutL_snoc s a 7 h, leVal_snoc, cutL_length s a 7 (by omega)]
  have h0 := leVal_nonneg (cutL s a 7)
  have h1 := leVal_lt7 (cutL s a 7) (by rw [cutL_length s a 7 (by omega)]; exact Nat.le_refl _)
  simp only [Int.reducePow]
  omega
theorem leVal_small (s : ByteArray) (a m : Nat) (h : a + m ≤ s.size) (hm : m ≤ 7) : leVal (cutL s a m) < 9223372036854775808 := by
  have := leVal_lt7 (cutL s a m) (by rw [cutL_length s a m h]; exact hm)
  omega
/-- The same with a sign: c is what stands above the bytes: 0, or -1. -/
def leValC (c : Int) : List UInt8 → Int
  | [] => c
  | b :: l => (b.toNat : Int) + 256 * leValC c l
theorem leValC_eq (c : Int) : ∀ l, leValC c l = leVal l + c * 256 ^ l.length
  | [] => by simp [leValC, leVal]
  | b :: l => by
    have h := leValC_eq c l
    unfold leValC leVal
    rw [h, List.length_cons, Int.pow_succ, ← Int.mul_assoc]
    generalize c * (256 : Int) ^ l.length = P
    omega
/-- What stands above a last byte b. -/
def above (b : Int) : Int := if 127 < b then -1 else 0
theorem leValC_bounds (b : UInt8) : ∀ l : List UInt8, -(128 * 256 ^ l.length) ≤ leValC (above b.toNat) (l ++ [b]) ∧ leValC (above b.toNat) (l ++ [b]) < 128 * 256 ^ l.length
  | [] => by
    have := byte_lt b
    simp only [List.nil_append, leValC, above, List.length_nil, Int.pow_zero]
    split <;> omega
  | a :: l => by
    have h := leValC_bounds b l
    have := byte_lt a
    rw [List.cons_append]
    unfold leValC
    rw [List.length_cons, Int.pow_succ]
    generalize (256 : Int) ^ l.length = P at *
    omega
/-- The number of m bytes read with a sign. -/
def rdVl (s : ByteArray) (a m : Nat) : Int := leValC (above ((s.data.toList.getD (a + (m - 1)) 0).toNat)) (cutL s a m)
end Go.Proofs.YtplfnlalmcpcaaaGreat
namespace Go.Proofs.YtplfnlalmcpcaaaGreat
open Go.RowKit
set_option linter.unusedVariables false
def InB (s : ByteArray) (at' k : Int) : Prop := 1 ≤ k ∧ k ≤ 8 ∧ 0 ≤ at' ∧ at' + k ≤ s.size

theorem readLE_yes (s : ByteArray) (a m : Nat) (h1 : 1 ≤ m) (h8 : m ≤ 8) (h : a + m ≤ s.size) (hs : s.size ≤ 1048576) (w : World) :
    Calls Tryz.prog 193 #[.string s, .int .i64 a, .int .i64 m] w fun e w' => e = .returned (.tuple #[.int .u64 (leVal (cutL s a m)), .bool true]) ∧ w = w' := by
  have hd : decide ((s.size : Int) - m < a) = false := by simp; omega
  go_enter Tryz.func193, Tryz.ntmps193
  go_wp2_with go_in
  go_loop [8, 9] (fun n i => ∃ iv : Int, -1 ≤ iv ∧ iv < m ∧ i = .int .i64 iv ∧ n = .int .u64 (leVal ((cutL s a m).drop (iv + 1).toNat))) (fun _ i => (intOf i + 1).toNat)
  case atStart => exact ⟨m - 1, by omega, by omega, by go_num, by rw [show ((m : Int) - 1 + 1).toNat = m from by omega, List.drop_eq_nil_of_le (by rw [cutL_length s a m h]; exact Nat.le_refl _)]; rfl⟩
  case round =>
    obtain ⟨iv, hi0, hi1, rfl, rfl⟩ := hrel
    by_cases hge : 0 ≤ iv
    · obtain ⟨j, rfl⟩ := Int.eq_ofNat_of_zero_le hge
      have e1 : ((j : Int) + 1).toNat = j + 1 := by omega
      rw [e1]
      clear e1
      have b1 := leVal_nonneg ((cutL s a m).drop (j + 1))
      have b2 : leVal ((cutL s a m).drop (j + 1)) < 72057594037927936 := leVal_lt7 _ (by rw [List.length_drop, cutL_length s a m h]; omega)
      have hidx : a + j < s.size := by omega
      go_wp2
      go_round
      case rel => exact ⟨j - 1, by omega, by omega, by go_num, by rw [u64_or_byte _ b1 b2, show ((j : Int) - 1 + 1).toNat = j from by omega, cutL_drop s a m j h (by omega)]; rfl⟩
      case measure => first | (simp [intOf]; done) | (simp [intOf]; omega)
    · go_wp2
      go_ret2
      have : iv = -1 := by omega
      subst this
      exact ⟨rfl, rfl⟩

theorem readLE_no (s : ByteArray) (at' k : Int) (hi : -9223372036854775808 ≤ at' ∧ at' < 9223372036854775808) (hn : ¬ InB s at' k) (hs : s.size ≤ 1048576) (w : World) :
    Calls Tryz.prog 193 #[.string s, .int .i64 at', .int .i64 k] w fun e w' => e = .returned (.tuple #[.int .u64 0, .bool false]) ∧ w = w' := by
  unfold InB at hn
  by_cases h1 : 1 ≤ k
  · by_cases h8 : k ≤ 8
    · by_cases h0 : 0 ≤ at'
      · have hd : (s.size : Int) - k < at' := by omega
        clear hn
        go_enter Tryz.func193, Tryz.ntmps193
        go_wp2_with go_in
        go_ret2
        exact ⟨rfl, rfl⟩
      · clear hn
        go_enter Tryz.func193, Tryz.ntmps193
        go_wp2_with go_in
        go_ret2
        exact ⟨rfl, rfl⟩
    · clear hn
      go_enter Tryz.func193, Tryz.ntmps193
      go_wp2_with go_in
      go_ret2
      exact ⟨rfl, rfl⟩
  · clear hn
    go_enter Tryz.func193, Tryz.ntmps193
    go_wp2_with go_in
    go_ret2
    exact ⟨rfl, rfl⟩

theorem within_yes (s : ByteArray) (a m : Nat) (h1 : 1 ≤ m) (h8 : m ≤ 8) (h : a + m ≤ s.size) (hs : s.size ≤ 1048576) (w : World) :
    Calls Tryz.prog 166 #[.string s, .int .i64 a, .int .i64 m] w fun e w' => e = .returned (.bool true) ∧ w = w' := by
  have hd : decide ((m : Int) ≤ (s.size : Int) - a) = true := by simp; omega
  go_enter Tryz.func166, Tryz.ntmps166
  go_wp2_with go_in
  go_ret
  exact ⟨rfl, rfl⟩

theorem within_no (s : ByteArray) (at' k : Int) (hi : -9223372036854775808 ≤ at' ∧ at' < 9223372036854775808) (hn : ¬ InB s at' k) (hs : s.size ≤ 1048576) (w : World) :
    Calls Tryz.prog 166 #[.string s, .int .i64 at', .int .i64 k] w fun e w' => e = .returned (.bool false) ∧ w = w' := by
  unfold InB at hn
  by_cases h1 : 1 ≤ k
  · by_cases h8 : k ≤ 8
    · by_cases h0 : 0 ≤ at'
      · by_cases hl : at' ≤ s.size
        · have hd : decide (k ≤ (s.size : Int) - at') = false := by simp; omega
          clear hn
          go_enter Tryz.func166, Tryz.ntmps166
          go_wp2_with go_in
          go_ret
          exact ⟨rfl, rfl⟩
        · clear hn
          go_enter Tryz.func166, Tryz.ntmps166
          go_wp2_with go_in
          go_ret
          exact ⟨rfl, rfl⟩
      · clear hn
        go_enter Tryz.func166, Tryz.ntmps166
        go_wp2_with go_in
        go_ret
        exact ⟨rfl, rfl⟩
    · clear hn
      go_enter Tryz.func166, Tryz.ntmps166
      go_wp2_with go_in
      go_ret
      exact ⟨rfl, rfl⟩
  · clear hn
    go_enter Tryz.func166, Tryz.ntmps166
    go_wp2_with go_in
    go_ret
    exact ⟨rfl, rfl⟩
end Go.Proofs.YtplfnlalmcpcaaaGreat
namespace Go.Proofs.YtplfnlalmcpcaaaGreat
open Go.RowKit
set_option linter.unusedVariables false
/-- What GetUint answers at a number that is there: the number, if it is an int64. -/
def uOk (v : Int) : Value := if v < 9223372036854775808 then .tuple #[.int .i64 v, .bool true] else .tuple #[.int .i64 0, .bool false]
theorem uOk_yes {v : Int} (h : v < 9223372036854775808) : uOk v = .tuple #[.int .i64 v, .bool true] := if_pos h
theorem uOk_no {v : Int} (h : ¬ v < 9223372036854775808) : uOk v = .tuple #[.int .i64 0, .bool false] := if_neg h

theorem implGetUint_yes (s : ByteArray) (a m : Nat) (h1 : 1 ≤ m) (h8 : m ≤ 8) (h : a + m ≤ s.size) (hs : s.size ≤ 1048576) (w : World) :
    Calls Tryz.prog 183 #[.string s, .int .i64 a, .int .i64 m] w fun e w' => e = .returned (uOk (leVal (cutL s a m))) ∧ w = w' := by
  have b0 := leVal_nonneg (cutL s a m)
  have hc := fun w1 => readLE_yes s a m h1 h8 h hs w1
  have Hc := Lib.hid hc; clear hc
  generalize leVal (cutL s a m) = v at *
  by_cases hv : v < 9223372036854775808
  · have Hf := Lib.hid (uOk_yes hv)
    have hd : decide (9223372036854775807 < v) = false := by simp; omega
    go_enter Tryz.func183, Tryz.ntmps183
    go_wp2_with (go_at_call 193; refine (Hc.out _).mono ?_; rintro e w' ⟨rfl, rfl⟩)
    go_ret2
    exact ⟨by rw [Hf.out]; rfl, rfl⟩
  · have Hf := Lib.hid (uOk_no hv)
    have hd : decide (9223372036854775807 < v) = true := by simp; omega
    go_enter Tryz.func183, Tryz.ntmps183
    go_wp2_with (go_at_call 193; refine (Hc.out _).mono ?_; rintro e w' ⟨rfl, rfl⟩)
    go_ret2
    exact ⟨by rw [Hf.out]; rfl, rfl⟩

theorem implGetUint_no (s : ByteArray) (at' k : Int) (hi : -9223372036854775808 ≤ at' ∧ at' < 9223372036854775808) (hn : ¬ InB s at' k) (hs : s.size ≤ 1048576) (w : World) :
    Calls Tryz.prog 183 #[.string s, .int .i64 at', .int .i64 k] w fun e w' => e = .returned (.tuple #[.int .i64 0, .bool false]) ∧ w = w' := by
  have hc := fun w1 => readLE_no s at' k hi hn hs w1
  have Hc := Lib.hid hc; clear hc hn
  go_enter Tryz.func183, Tryz.ntmps183
  go_wp2_with (go_at_call 193; refine (Hc.out _).mono ?_; rintro e w' ⟨rfl, rfl⟩)
  go_ret2
  exact ⟨rfl, rfl⟩

theorem l01GetUint_loop (s : ByteArray) (a m : Nat) (h1 : 1 ≤ m) (h8 : m ≤ 8) (h : a + m ≤ s.size) (hs : s.size ≤ 1048576) (w : World) (hv : leVal (cutL s a m) < 9223372036854775808)
    (hno : m = 8 → ∃ hlt : a + 7 < s.size, decide ((127 : Int) < ((s[a + 7]'hlt).toNat : Int)) = false) :
    Calls Tryz.prog 131 #[.string s, .int .i64 a, .int .i64 m] w fun e w' => e = .returned (uOk (leVal (cutL s a m))) ∧ w = w' := by
  have hc := fun w1 => within_yes s a m h1 h8 h hs w1
  have Hc := Lib.hid hc; clear hc
  have Hf := Lib.hid (uOk_yes hv)
  have hb1 : ∀ j, leVal ((cutL s a m).drop j) < 9223372036854775808 := fun j => Int.lt_of_le_of_lt (leVal_drop_le _ j) hv
  have Hb1 := Lib.hid hb1; clear hb1 hv
  have hcs : ((m : Int) == 8) = false ∨ (((m : Int) == 8) = true ∧ ∃ hlt : a + 7 < s.size, decide ((127 : Int) < ((s[a + 7]'hlt).toNat : Int)) = false) := by
    by_cases e : m = 8
    · exact .inr ⟨by simp; omega, hno e⟩
    · exact .inl (by simp; omega)
  clear hno
  rcases hcs with ht8 | ⟨ht8, hlt, hno⟩
  all_goals
    go_enter Tryz.func131, Tryz.ntmps131
    go_wp2_with (go_at_call 166; refine (Hc.out _).mono ?_; rintro e w' ⟨rfl, rfl⟩)
    go_loop [8, 9] (fun n i => ∃ iv : Int, -1 ≤ iv ∧ iv < m ∧ i = .int .i64 iv ∧ n = .int .i64 (leVal ((cutL s a m).drop (iv + 1).toNat))) (fun _ i => (intOf i + 1).toNat)
    case atStart => exact ⟨m - 1, by omega, by omega, by go_num, by rw [show ((m : Int) - 1 + 1).toNat = m from by omega, List.drop_eq_nil_of_le (by rw [cutL_length s a m h]; exact Nat.le_refl _)]; rfl⟩
    case round =>
      obtain ⟨iv, hi0, hi1, rfl, rfl⟩ := hrel
      by_cases hge : 0 ≤ iv
      · obtain ⟨j, rfl⟩ := Int.eq_ofNat_of_zero_le hge
        have e1 : ((j : Int) + 1).toNat = j + 1 := by omega
        rw [e1]
        clear e1
        have hidx : a + j < s.size := by omega
        have hst : leVal ((cutL s a m).drop j) = ((s[a + j]'hidx).toNat : Int) + 256 * leVal ((cutL s a m).drop (j + 1)) := by
          rw [cutL_drop s a m j h (by omega)]; rfl
        have b0 := leVal_nonneg ((cutL s a m).drop (j + 1))
        have b1 := Hb1.out (j + 1)
        have b2 : ((s[a + j]'hidx).toNat : Int) + 256 * leVal ((cutL s a m).drop (j + 1)) < 9223372036854775808 := by rw [← hst]; exact Hb1.out j
        have b3 := byte_lt (s[a + j]'hidx)
        have Hst := Lib.hid hst; clear hst
        go_wp2
        go_round
        case rel => exact ⟨j - 1, by omega, by omega, by go_num, by rw [show ((j : Int) - 1 + 1).toNat = j from by omega, Hst.out]; go_num⟩
        case measure => first | (simp [intOf]; done) | (simp [intOf]; omega)
      · go_wp2
        go_ret2
        have : iv = -1 := by omega
        subst this
        exact ⟨by rw [Hf.out]; rfl, rfl⟩

theorem l01GetUint_yes (s : ByteArray) (a m : Nat) (h1 : 1 ≤ m) (h8 : m ≤ 8) (h : a + m ≤ s.size) (hs : s.size ≤ 1048576) (w : World) :
    Calls Tryz.prog 131 #[.string s, .int .i64 a, .int .i64 m] w fun e w' => e = .returned (uOk (leVal (cutL s a m))) ∧ w = w' := by
  have hc := fun w1 => within_yes s a m h1 h8 h hs w1
  have Hc := Lib.hid hc; clear hc
  by_cases h88 : m = 8
  · have hlt : a + 7 < s.size := by omega
    have htop : 9223372036854775808 ≤ leVal (cutL s a m) ↔ 127 < ((s[a + 7]'hlt).toNat : Int) := by
      subst h88; exact leVal_top s a h
    have ht8 : ((m : Int) == 8) = true := by simp; omega
    by_cases hv : leVal (cutL s a m) < 9223372036854775808
    · have hno : decide ((127 : Int) < ((s[a + 7]'hlt).toNat : Int)) = false := by
        rw [decide_eq_false_iff_not, ← htop]; omega
      exact l01GetUint_loop s a m h1 h8 h hs w hv (fun _ => ⟨hlt, hno⟩)
    · have Hf := Lib.hid (uOk_no hv)
      have hno : decide ((127 : Int) < ((s[a + 7]'hlt).toNat : Int)) = true := by
        rw [decide_eq_true_iff, ← htop]; omega
      clear hv htop h88
      go_enter Tryz.func131, Tryz.ntmps131
      go_wp2_with (go_at_call 166; refine (Hc.out _).mono ?_; rintro e w' ⟨rfl, rfl⟩)
      go_ret2
      exact ⟨by rw [Hf.out]; rfl, rfl⟩
  · exact l01GetUint_loop s a m h1 h8 h hs w (leVal_small s a m h (by omega)) (fun e => absurd e h88)

theorem l01GetUint_no (s : ByteArray) (at' k : Int) (hi : -9223372036854775808 ≤ at' ∧ at' < 9223372036854775808) (hn : ¬ InB s at' k) (hs : s.size ≤ 1048576) (w : World) :
    Calls Tryz.prog 131 #[.string s, .int .i64 at', .int .i64 k] w fun e w' => e = .returned (.tuple #[.int .i64 0, .bool false]) ∧ w = w' := by
  have hc := fun w1 => within_no s at' k hi hn hs w1
  have Hc := Lib.hid hc; clear hc hn
  go_enter Tryz.func131, Tryz.ntmps131
  go_wp2_with (go_at_call 166; refine (Hc.out _).mono ?_; rintro e w' ⟨rfl, rfl⟩)
  go_ret2
  exact ⟨rfl, rfl⟩

/-- What GetUint answers. -/
def getU (s : ByteArray) (at' k : Int) : Value := if 1 ≤ k ∧ k ≤ 8 ∧ 0 ≤ at' ∧ at' + k ≤ s.size then uOk (leVal (cutL s at'.toNat k.toNat)) else .tuple #[.int .i64 0, .bool false]
theorem implGetUint_any (s : ByteArray) (at' k : Int) (hi : -9223372036854775808 ≤ at' ∧ at' < 9223372036854775808) (hs : s.size ≤ 1048576) (w : World) :
    Calls Tryz.prog 183 #[.string s, .int .i64 at', .int .i64 k] w fun e w' => e = .returned (getU s at' k) ∧ w = w' := by
  by_cases h : InB s at' k
  · rw [show getU s at' k = uOk (leVal (cutL s at'.toNat k.toNat)) from if_pos h]
    obtain ⟨g1, g2, g3, g4⟩ := h
    obtain ⟨a, rfl⟩ := Int.eq_ofNat_of_zero_le g3
    obtain ⟨m, rfl⟩ := Int.eq_ofNat_of_zero_le (by omega : 0 ≤ k)
    exact implGetUint_yes s a m (by omega) (by omega) (by omega) hs w
  · rw [show getU s at' k = .tuple #[.int .i64 0, .bool false] from if_neg h]
    exact implGetUint_no s at' k hi h hs w
theorem l01GetUint_any (s : ByteArray) (at' k : Int) (hi : -9223372036854775808 ≤ at' ∧ at' < 9223372036854775808) (hs : s.size ≤ 1048576) (w : World) :
    Calls Tryz.prog 131 #[.string s, .int .i64 at', .int .i64 k] w fun e w' => e = .returned (getU s at' k) ∧ w = w' := by
  by_cases h : InB s at' k
  · rw [show getU s at' k = uOk (leVal (cutL s at'.toNat k.toNat)) from if_pos h]
    obtain ⟨g1, g2, g3, g4⟩ := h
    obtain ⟨a, rfl⟩ := Int.eq_ofNat_of_zero_le g3
    obtain ⟨m, rfl⟩ := Int.eq_ofNat_of_zero_le (by omega : 0 ≤ k)
    exact l01GetUint_yes s a m (by omega) (by omega) (by omega) hs w
  · rw [show getU s at' k = .tuple #[.int .i64 0, .bool false] from if_neg h]
    exact l01GetUint_no s at' k hi h hs w
/-- Both results of GetUint, taken apart. -/
def numB (v : Int) (b : Bool) : Value := .tuple #[.int .i64 v, .bool b]
theorem getU_form (s : ByteArray) (at' k : Int) : ∃ v b, getU s at' k = .tuple #[.int .i64 v, .bool b] := by
  unfold getU uOk
  split
  · split
    · exact ⟨_, _, rfl⟩
    · exact ⟨_, _, rfl⟩
  · exact ⟨_, _, rfl⟩
end Go.Proofs.YtplfnlalmcpcaaaGreat
namespace Go.Proofs.YtplfnlalmcpcaaaGreat
open Go.RowKit
set_option linter.unusedVariables false
/-- The number that lies at a place, 0 if it is no int64. -/
def gV (s : ByteArray) (a m : Nat) : Int := if leVal (cutL s a m) < 9223372036854775808 then leVal (cutL s a m) else 0
def gB (s : ByteArray) (a m : Nat) : Bool := decide (leVal (cutL s a m) < 9223372036854775808)
theorem getU_gV (s : ByteArray) (a m : Nat) (h1 : 1 ≤ m) (h8 : m ≤ 8) (h : a + m ≤ s.size) : getU s a m = .tuple #[.int .i64 (gV s a m), .bool (gB s a m)] := by
  unfold getU
  rw [if_pos ⟨by omega, by omega, by omega, by omega⟩]
  unfold uOk gV gB
  simp only [Int.toNat_natCast]
  split
  · rename_i h; rw [decide_eq_true h]
  · rename_i h; rw [decide_eq_false h]
theorem gV_in (s : ByteArray) (a m : Nat) : 0 ≤ gV s a m ∧ gV s a m < 9223372036854775808 := by
  unfold gV
  have := leVal_nonneg (cutL s a m)
  split <;> omega

/-- What is taken from the start, and what is left. -/
def fT (s : ByteArray) (m : Nat) : ByteArray := s.extract 0 (min m s.size)
def fR (s : ByteArray) (m : Nat) : ByteArray := s.extract (min m s.size) s.size
theorem fT_size (s : ByteArray) (m : Nat) : (fT s m).size = min m s.size := by simp [fT]
theorem fR_size (s : ByteArray) (m : Nat) : (fR s m).size = s.size - min m s.size := by simp [fR]
/-- What a fieldReader's cell holds. -/
def FrA (w : World) (c : Nat) (s : ByteArray) : Prop := w.heap[c]? = some (.cells #[.string s] 198 (0, 0))
def FrP (c : Nat) (v : Value) (t : ByteArray) (w : World) (e : Ending) (w' : World) : Prop := e = .returned v ∧ FrA w' c t ∧ (∀ k, k ≠ c → w'.heap[k]? = w.heap[k]?) ∧ w'.heap.size = w.heap.size ∧ Below c w w'
set_option maxHeartbeats 1000000 in
theorem frBytes_any {w : World} {c m : Nat} {s : ByteArray} (hs : s.size ≤ 1048576) (hm : m ≤ 1048576) (hc : FrA w c s) :
    Calls Tryz.prog 160 #[.pointer (some ⟨c, 0, none⟩), .int .i64 m] w (FrP c (.string (fT s m)) (fR s m) w) := by
  have q0 : w.cell? ⟨c, 0, none⟩ = some (.string s) := by rw [cell_of_row _ _ _ _ _ _ hc]; rfl
  have f0 : w.frozen? ⟨c, 0, none⟩ = false := frozen_of_row _ _ _ _ _ hc
  have Hc := Lib.hid hc; clear hc
  by_cases h : m ≤ s.size
  · have hmn : min (m : Int) (s.size : Int) = m := by omega
    have HT : Hid (fT s m = s.extract 0 m ∧ fR s m = s.extract m s.size) := Lib.hid (by unfold fT fR; rw [Nat.min_eq_left h]; exact ⟨rfl, rfl⟩)
    go_enter Tryz.func160, Tryz.ntmps160
    go_wp2
    go_region
    simp only [Exit.then]
    clear q0 f0
    have Hc2 : Hid (FrA w.drew c s) := Hc
    have q0 : w.drew.cell? ⟨c, 0, none⟩ = some (.string s) := by rw [cell_of_row _ _ _ _ _ _ Hc2.out]; rfl
    have f0 : w.drew.frozen? ⟨c, 0, none⟩ = false := frozen_of_row _ _ _ _ _ Hc2.out
    have HS := Lib.hid (heap_setCell_same w.drew c 0 _ _ (.string (s.extract m s.size)) Hc2.out)
    have HB : Hid (Below c w (w.drew.setCell ⟨c, 0, none⟩ (.string (s.extract m s.size)))) := Lib.hid (((Below.refl c w).drew).setCell (p := ⟨c, 0, none⟩) (Nat.le_refl _) _)
    go_wp2
    go_ret
    exact ⟨by rw [HT.out.1]; rfl, by unfold FrA; rw [HT.out.2]; exact HS.out, fun k hk => heap_setCell_other _ ⟨c, 0, none⟩ k _ hk, by simp, HB.out⟩
  · have hmn : min (m : Int) (s.size : Int) = s.size := by omega
    have HT : Hid (fT s m = s ∧ fR s m = ByteArray.empty) := Lib.hid (by unfold fT fR; rw [Nat.min_eq_right (by omega)]; exact ⟨by simp, by simp⟩)
    go_enter Tryz.func160, Tryz.ntmps160
    go_wp2
    go_region
    simp only [Exit.then]
    clear q0 f0
    have Hc2 : Hid (FrA w.drew c s) := Hc
    have q0 : w.drew.cell? ⟨c, 0, none⟩ = some (.string s) := by rw [cell_of_row _ _ _ _ _ _ Hc2.out]; rfl
    have f0 : w.drew.frozen? ⟨c, 0, none⟩ = false := frozen_of_row _ _ _ _ _ Hc2.out
    have HS := Lib.hid (heap_setCell_same w c 0 _ _ (.string (ByteArray.empty)) Hc.out)
    have HB : Hid (Below c w (w.setCell ⟨c, 0, none⟩ (.string (ByteArray.empty))).drew) := Lib.hid (((Below.refl c w).setCell (p := ⟨c, 0, none⟩) (Nat.le_refl _) _).drew)
    go_wp2
    go_ret
    exact ⟨by rw [HT.out.1]; rfl, by unfold FrA; rw [HT.out.2]; exact HS.out, fun k hk => heap_setCell_other _ ⟨c, 0, none⟩ k _ hk, by simp, HB.out⟩
theorem cutL_take (s : ByteArray) (m : Nat) : cutL (s.extract 0 m) 0 m = cutL s 0 m := by
  unfold cutL
  simp [List.take_take]
theorem gV_take (s : ByteArray) (m : Nat) : gV (s.extract 0 m) 0 m = gV s 0 m := by unfold gV; rw [cutL_take]
theorem cutL_rest (s : ByteArray) (a m e : Nat) (h : a + m ≤ e) : cutL (s.extract a e) 0 m = cutL s a m := by
  unfold cutL
  simp only [ByteArray.data_extract, Array.toList_extract, List.extract_eq_take_drop, List.drop_zero, List.take_take]
  rw [Nat.min_eq_left (by omega)]
theorem gV_rest (s : ByteArray) (a m e : Nat) (h : a + m ≤ e) : gV (s.extract a e) 0 m = gV s a m := by unfold gV; rw [cutL_rest s a m e h]
/-- The number that is read: 0 if something is missing. -/
def nV (s : ByteArray) (m : Nat) : Int := if m ≤ s.size then gV s 0 m else 0
theorem nV_in (s : ByteArray) (m : Nat) : 0 ≤ nV s m ∧ nV s m < 9223372036854775808 := by
  unfold nV; split
  · exact gV_in s 0 m
  · omega
set_option maxHeartbeats 1000000 in
theorem frNumber_any {w : World} {c m : Nat} {s : ByteArray} (hs : s.size ≤ 1048576) (h1 : 1 ≤ m) (h8 : m ≤ 8) (hc : FrA w c s) :
    Calls Tryz.prog 159 #[.pointer (some ⟨c, 0, none⟩), .int .i64 m] w (FrP c (.int .i64 (nV s m)) (fR s m) w) := by
  have C1 := Lib.hid (frBytes_any hs (show m ≤ 1048576 by omega) hc)
  have hz : (fT s m).size ≤ 1048576 := by rw [fT_size]; omega
  have C2 := Lib.hid (fun W => implGetUint_any (fT s m) 0 m (by omega) hz W)
  have HV : Hid (∃ ok, getU (fT s m) 0 m = .tuple #[.int .i64 (nV s m), .bool ok]) := Lib.hid (by
    unfold nV
    by_cases h : m ≤ s.size
    · have e : fT s m = s.extract 0 m := by unfold fT; rw [Nat.min_eq_left h]
      have := getU_gV (fT s m) 0 m h1 h8 (by rw [fT_size]; omega)
      rw [if_pos h, ← gV_take, ← e]
      exact ⟨_, this⟩
    · rw [if_neg h]
      unfold getU
      rw [if_neg (by rw [fT_size]; omega)]
      exact ⟨_, rfl⟩)
  generalize nV s m = x at *
  generalize getU (fT s m) 0 m = y at *
  obtain ⟨ok, hy⟩ := HV.out
  clear HV
  subst hy
  clear hs hz
  generalize fT s m = t at *
  generalize fR s m = u at *
  go_enter Tryz.func159, Tryz.ntmps159
  go_wp2_with fail
  refine C1.out.mono ?_
  rintro e w1 ⟨rfl, hp⟩
  have Hp := Lib.hid hp; clear hp
  go_wp2_with ((go_at_call 183; refine (C2.out _).mono ?_; rintro e w' ⟨rfl, rfl⟩))
  go_ret
  exact ⟨rfl, Hp.out⟩
end Go.Proofs.YtplfnlalmcpcaaaGreat
namespace Go.Proofs.YtplfnlalmcpcaaaGreat
open Go.RowKit
set_option linter.unusedVariables false
set_option maxHeartbeats 4000000 in
set_option maxRecDepth 100000 in
theorem l13Area_any {B g : Nat} {w : World} {v0 v1 v10 v11 : Value} {ss : List ByteArray} {ps lg dt : List Pt} {fz b l q t sq at_ : Int} {off : Bool} (hg : w.heap[g]? = some (.cells #[v0, v1, .int .i64 fz, .bool off, .int .i64 b, .int .i64 l, .int .i64 q, .int .i64 t, .int .i64 sq, .int .i64 at_, v10, v11] 38 (0, 0))) (h0 : RiT B w v0 ss) (h1 : RiU B w v1 ps) (h10 : RiU B w v10 lg) (h11 : RiU B w v11 dt) (hB : B ≤ w.heap.size) (hok : pgrOk ss ps fz off b l q t sq at_ lg dt = true) :
    Calls Tryz.prog 57 #[.pointer (some ⟨g, 0, none⟩)] w (GivesB (.string (arS ss ps l lg dt)) w) := by
  have hgl : g < w.heap.size := by
    rcases Nat.lt_or_ge g w.heap.size with hl | hl
    · exact hl
    · rw [Array.getElem?_eq_none hl] at hg; cases hg
  have hb := pgrOk_b hok
  have HL := Lib.hid (supOk_l (pgrOk_t hok).1)
  have Hld := Lib.hid (run_load_cells (P := Tryz.prog) w g 4 35 _ [.int .i64 b, .int .i64 l, .int .i64 q, .int .i64 t] (row_part hg (by intro j u hj; rcases j with _ | _ | _ | _ | j; all_goals first | exact hj | simp at hj)) Tryz.underlying35 rfl)
  have C2 : Hid (∀ W, Below w.heap.size w W → _) := Lib.hid (fun W hW => l12Get_any (w := W) (k := 2 + l) (fz := fz) (off := off) (b := b) (l := l) (q := q) (t := t) (sq := sq) (at_ := at_) ((hW.block _ hgl).trans hg) (h0.at hB hW) (h1.at hB hW) (h10.at hB hW) (h11.at hB hW) (Nat.le_refl _) (by omega) (by omega))
  have HA : Hid (arS ss ps l lg dt = gtS ss ps lg dt (2 + l)) := Lib.hid rfl
  rw [← HA.out] at C2
  clear HA hb hg hok h0 h1 h10 h11
  generalize arS ss ps l lg dt = ar at *
  go_enter Tryz.func57, Tryz.ntmps57
  go_wp2_with (refine wpList_load_agg rfl 35 (.tmp 6) rfl _ rfl _ Hld.out ?_)
  refine (l10Area_any b l q t _ HL.out).mono ?_
  rintro e w1 ⟨rfl, g1⟩
  have Hg1 := Lib.hid g1; clear g1
  go_wp2_with fail
  refine (C2.out _ Hg1.out).mono ?_
  rintro e w2 ⟨rfl, g2⟩
  have Hg2 := Lib.hid (Hg1.out.trans (g2.mono Hg1.out.size)); clear g2
  go_wp2_with fail
  go_ret
  exact ⟨rfl, Hg2.out⟩
set_option maxHeartbeats 4000000 in
set_option maxRecDepth 100000 in
theorem l13First_any {g : Nat} {w : World} {v0 v1 v10 v11 : Value} {fz b l q t sq at_ : Int} {off : Bool} (hg : w.heap[g]? = some (.cells #[v0, v1, .int .i64 fz, .bool off, .int .i64 b, .int .i64 l, .int .i64 q, .int .i64 t, .int .i64 sq, .int .i64 at_, v10, v11] 38 (0, 0))) (hs : supOk b l q t = true) :
    Calls Tryz.prog 108 #[.pointer (some ⟨g, 0, none⟩)] w (GivesB (.int .i64 (2 + l + 1)) w) := by
  have hb := sup_b hs
  have HL := Lib.hid (supOk_l hs)
  have Hld := Lib.hid (run_load_cells (P := Tryz.prog) w g 4 35 _ [.int .i64 b, .int .i64 l, .int .i64 q, .int .i64 t] (row_part hg (by intro j u hj; rcases j with _ | _ | _ | _ | j; all_goals first | exact hj | simp at hj)) Tryz.underlying35 rfl)
  clear hg hs
  have hl := hb.2.2
  clear hb
  go_enter Tryz.func108, Tryz.ntmps108
  go_wp2_with (refine wpList_load_agg rfl 35 (.tmp 5) rfl _ rfl _ Hld.out ?_)
  refine (l10Area_any b l q t _ HL.out).mono ?_
  rintro e w1 ⟨rfl, g1⟩
  have Hg1 := Lib.hid g1; clear g1
  go_wp2_with fail
  go_ret
  exact ⟨rfl, Hg1.out⟩
set_option maxHeartbeats 4000000 in
set_option maxRecDepth 100000 in
theorem l13Data_any {g : Nat} {w : World} {v0 v1 v10 v11 : Value} {fz b l q t sq at_ : Int} {off : Bool} (x n : Int) (hg : w.heap[g]? = some (.cells #[v0, v1, .int .i64 fz, .bool off, .int .i64 b, .int .i64 l, .int .i64 q, .int .i64 t, .int .i64 sq, .int .i64 at_, v10, v11] 38 (0, 0))) (hs : supOk b l q t = true) (hx : InI x) :
    Calls Tryz.prog 54 #[.pointer (some ⟨g, 0, none⟩), .int .i64 x, .int .i64 n] w (GivesB (.bool (dtB b l x n)) w) := by
  have hgl : g < w.heap.size := by
    rcases Nat.lt_or_ge g w.heap.size with hl | hl
    · exact hl
    · rw [Array.getElem?_eq_none hl] at hg; cases hg
  have hb := sup_b hs
  have HV : Hid (dtB b l x n = (inB n 1 256 && (inB x (3 + l) (b - 1) && decide (x + n ≤ b)))) := Lib.hid rfl
  have HF : Hid (∀ W, Below w.heap.size w W → Calls Tryz.prog 108 #[.pointer (some ⟨g, 0, none⟩)] W (GivesB (.int .i64 (2 + l + 1)) W)) := Lib.hid (fun W hW => l13First_any ((hW.block _ hgl).trans hg) hs)
  have HS : Hid (∀ W, Below w.heap.size w W → W.cell? ⟨g, 4, none⟩ = some (.int .i64 b)) := Lib.hid (fun W hW => by rw [cell_of_row _ _ _ _ _ _ ((hW.block _ hgl).trans hg)]; rfl)
  have I1 := Lib.hid (fun W => l00In_any n 1 256 W)
  have I2 := Lib.hid (fun W => l00In_any x (2 + l + 1) (b - 1) W)
  have e3 : (2 + l + 1 : Int) = 3 + l := by omega
  rw [e3] at HF I2
  clear hg hs
  have hl := hb.2.2
  clear hb
  have HD : Hid (Below w.heap.size w w.drew) := Lib.hid (Below.refl _ _).drew
  have H1 := Lib.hid (@inB_iff n 1 256)
  have H2 := Lib.hid (@inB_iff x (3 + l) (b - 1))
  have hbw : IntKind.i64.wrap (b - 1) = b - 1 := IntWalk.i64_in _ (by omega)
  have Hl := Lib.hid hl
  generalize dtB b l x n = r at *
  generalize inB n 1 256 = y1 at *
  generalize inB x (3 + l) (b - 1) = y2 at *
  unfold InI at hx
  go_enter Tryz.func54, Tryz.ntmps54
  go_wp2
  refine wp_region_held_drew (S := (fun W => W.cell? ⟨g, 4, none⟩ = some (.int .i64 b))) (by kernel_rfl) (HS.out _ HD.out) (fun hHeld => ?_)
  refine held_yes 0 (some 7) rfl rfl (by kernel_rfl) (by kernel_rfl) (by kernel_rfl) (fun _ _ _ h => h) (by kernel_rfl) hHeld (v := ?_) (fun wz hSw => ?_) ?_
  rotate_left 1
  · (try dsimp only at hSw); go_simp; (try with_reducible rfl)
  try simp only [Act.put, List.setIfInBounds_toArray, List.set_cons_zero, List.set_cons_succ]
  refine wpAnyH_ready (rs := [1]) (by kernel_rfl) (by simp) ?_
  refine AllReadyH.cons rfl (fun K hK => ?_) AllReadyH.nil
  go_simp
  (go_at_call 62; go_fit (I1.out _); rintro e u0 ⟨rfl, rfl⟩)
  refine hK.out _ _ (HS.out _ HD.out) (fun hHeld => ?_)
  clear hK K
  try simp only [Act.put, List.setIfInBounds_toArray, List.set_cons_zero, List.set_cons_succ]
  cases y1
  · skip
    refine held_yes 2 (some 9) rfl rfl (by kernel_rfl) (by kernel_rfl) (by kernel_rfl) (fun _ _ _ h => h) (by kernel_rfl) hHeld (v := ?_) (fun wz hSw => ?_) ?_
    rotate_left 1
    · (try dsimp only at hSw); go_simp; (try with_reducible rfl)
    try simp only [Act.put, List.setIfInBounds_toArray, List.set_cons_zero, List.set_cons_succ]
    refine held_no 3 (some 10) rfl rfl (by kernel_rfl) (by kernel_rfl) (by kernel_rfl) (fun _ _ _ h => h) (by kernel_rfl) hHeld ?_
    try simp only [Act.put, List.setIfInBounds_toArray, List.set_cons_zero, List.set_cons_succ]
    refine held_no 4 (some 11) rfl rfl (by kernel_rfl) (by kernel_rfl) (by kernel_rfl) (fun _ _ _ h => h) (by kernel_rfl) hHeld ?_
    try simp only [Act.put, List.setIfInBounds_toArray, List.set_cons_zero, List.set_cons_succ]
    refine held_no 6 (some 13) rfl rfl (by kernel_rfl) (by kernel_rfl) (by kernel_rfl) (fun _ _ _ h => h) (by kernel_rfl) hHeld ?_
    try simp only [Act.put, List.setIfInBounds_toArray, List.set_cons_zero, List.set_cons_succ]
    refine held_no 7 (some 14) rfl rfl (by kernel_rfl) (by kernel_rfl) (by kernel_rfl) (fun _ _ _ h => h) (by kernel_rfl) hHeld ?_
    try simp only [Act.put, List.setIfInBounds_toArray, List.set_cons_zero, List.set_cons_succ]
    refine held_no 8 (some 15) rfl rfl (by kernel_rfl) (by kernel_rfl) (by kernel_rfl) (fun _ _ _ h => h) (by kernel_rfl) hHeld ?_
    try simp only [Act.put, List.setIfInBounds_toArray, List.set_cons_zero, List.set_cons_succ]
    refine held_no 9 (some 16) rfl rfl (by kernel_rfl) (by kernel_rfl) (by kernel_rfl) (fun _ _ _ h => h) (by kernel_rfl) hHeld ?_
    try simp only [Act.put, List.setIfInBounds_toArray, List.set_cons_zero, List.set_cons_succ]
    refine held_no 10 (some 17) rfl rfl (by kernel_rfl) (by kernel_rfl) (by kernel_rfl) (fun _ _ _ h => h) (by kernel_rfl) hHeld ?_
    try simp only [Act.put, List.setIfInBounds_toArray, List.set_cons_zero, List.set_cons_succ]
    refine held_no 11 (some 18) rfl rfl (by kernel_rfl) (by kernel_rfl) (by kernel_rfl) (fun _ _ _ h => h) (by kernel_rfl) hHeld ?_
    try simp only [Act.put, List.setIfInBounds_toArray, List.set_cons_zero, List.set_cons_succ]
    refine held_no 5 (some 12) rfl rfl (by kernel_rfl) (by kernel_rfl) (by kernel_rfl) (fun _ _ _ h => h) (by kernel_rfl) hHeld ?_
    try simp only [Act.put, List.setIfInBounds_toArray, List.set_cons_zero, List.set_cons_succ]
    refine held_no 12 (some 19) rfl rfl (by kernel_rfl) (by kernel_rfl) (by kernel_rfl) (fun _ _ _ h => h) (by kernel_rfl) hHeld ?_
    try simp only [Act.put, List.setIfInBounds_toArray, List.set_cons_zero, List.set_cons_succ]
    refine held_yes 13 (some 20) rfl rfl (by kernel_rfl) (by kernel_rfl) (by kernel_rfl) (fun _ _ _ h => h) (by kernel_rfl) hHeld (v := ?_) (fun wz hSw => ?_) ?_
    rotate_left 1
    · (try dsimp only at hSw); go_simp; (try with_reducible rfl)
    try simp only [Act.put, List.setIfInBounds_toArray, List.set_cons_zero, List.set_cons_succ]
    refine held_yes 14 (some 21) rfl rfl (by kernel_rfl) (by kernel_rfl) (by kernel_rfl) (fun _ _ _ h => h) (by kernel_rfl) hHeld (v := ?_) (fun wz hSw => ?_) ?_
    rotate_left 1
    · (try dsimp only at hSw); go_simp; (try with_reducible rfl)
    try simp only [Act.put, List.setIfInBounds_toArray, List.set_cons_zero, List.set_cons_succ]
    refine held_no 15 (some 22) rfl rfl (by kernel_rfl) (by kernel_rfl) (by kernel_rfl) (fun _ _ _ h => h) (by kernel_rfl) hHeld ?_
    try simp only [Act.put, List.setIfInBounds_toArray, List.set_cons_zero, List.set_cons_succ]
    refine held_no 16 (some 23) rfl rfl (by kernel_rfl) (by kernel_rfl) (by kernel_rfl) (fun _ _ _ h => h) (by kernel_rfl) hHeld ?_
    try simp only [Act.put, List.setIfInBounds_toArray, List.set_cons_zero, List.set_cons_succ]
    refine held_no 17 (some 24) rfl rfl (by kernel_rfl) (by kernel_rfl) (by kernel_rfl) (fun _ _ _ h => h) (by kernel_rfl) hHeld ?_
    try simp only [Act.put, List.setIfInBounds_toArray, List.set_cons_zero, List.set_cons_succ]
    refine held_no 18 (some 25) rfl rfl (by kernel_rfl) (by kernel_rfl) (by kernel_rfl) (fun _ _ _ h => h) (by kernel_rfl) hHeld ?_
    try simp only [Act.put, List.setIfInBounds_toArray, List.set_cons_zero, List.set_cons_succ]
    refine held_no 19 (some 26) rfl rfl (by kernel_rfl) (by kernel_rfl) (by kernel_rfl) (fun _ _ _ h => h) (by kernel_rfl) hHeld ?_
    try simp only [Act.put, List.setIfInBounds_toArray, List.set_cons_zero, List.set_cons_succ]
    refine held_no 20 (some 27) rfl rfl (by kernel_rfl) (by kernel_rfl) (by kernel_rfl) (fun _ _ _ h => h) (by kernel_rfl) hHeld ?_
    try simp only [Act.put, List.setIfInBounds_toArray, List.set_cons_zero, List.set_cons_succ]
    refine held_no 21 (some 28) rfl rfl (by kernel_rfl) (by kernel_rfl) (by kernel_rfl) (fun _ _ _ h => h) (by kernel_rfl) hHeld ?_
    try simp only [Act.put, List.setIfInBounds_toArray, List.set_cons_zero, List.set_cons_succ]
    refine held_no 22 (some 29) rfl rfl (by kernel_rfl) (by kernel_rfl) (by kernel_rfl) (fun _ _ _ h => h) (by kernel_rfl) hHeld ?_
    try simp only [Act.put, List.setIfInBounds_toArray, List.set_cons_zero, List.set_cons_succ]
    refine held_no 23 (some 30) rfl rfl (by kernel_rfl) (by kernel_rfl) (by kernel_rfl) (fun _ _ _ h => h) (by kernel_rfl) hHeld ?_
    try simp only [Act.put, List.setIfInBounds_toArray, List.set_cons_zero, List.set_cons_succ]
    refine held_yes 24 (some 31) rfl rfl (by kernel_rfl) (by kernel_rfl) (by kernel_rfl) (fun _ _ _ h => h) (by kernel_rfl) hHeld (v := ?_) (fun wz hSw => ?_) ?_
    rotate_left 1
    · (try dsimp only at hSw); go_simp; (try with_reducible rfl)
    try simp only [Act.put, List.setIfInBounds_toArray, List.set_cons_zero, List.set_cons_succ]
    refine held_yes 25 (some 6) rfl rfl (by kernel_rfl) (by kernel_rfl) (by kernel_rfl) (fun _ _ _ h => h) (by kernel_rfl) hHeld (v := ?_) (fun wz hSw => ?_) ?_
    rotate_left 1
    · (try dsimp only at hSw); go_simp; (try with_reducible rfl)
    try simp only [Act.put, List.setIfInBounds_toArray, List.set_cons_zero, List.set_cons_succ]
    refine wpAnyH_done (by kernel_rfl) ?_ _
    try simp only [Exit.then]
    have Hf : Hid (r = false) := Lib.hid (by rw [HV.out]; rfl)
    go_wp2_with fail
    go_ret
    exact ⟨by rw [Hf.out]; rfl, HD.out⟩
  refine held_yes 2 (some 9) rfl rfl (by kernel_rfl) (by kernel_rfl) (by kernel_rfl) (fun _ _ _ h => h) (by kernel_rfl) hHeld (v := ?_) (fun wz hSw => ?_) ?_
  rotate_left 1
  · (try dsimp only at hSw); go_simp; (try with_reducible rfl)
  try simp only [Act.put, List.setIfInBounds_toArray, List.set_cons_zero, List.set_cons_succ]
  refine held_yes 3 (some 10) rfl rfl (by kernel_rfl) (by kernel_rfl) (by kernel_rfl) (fun _ _ _ h => h) (by kernel_rfl) hHeld (v := ?_) (fun wz hSw => ?_) ?_
  rotate_left 1
  · (try dsimp only at hSw); go_simp; (try with_reducible rfl)
  try simp only [Act.put, List.setIfInBounds_toArray, List.set_cons_zero, List.set_cons_succ]
  refine held_yes 4 (some 11) rfl rfl (by kernel_rfl) (by kernel_rfl) (by kernel_rfl) (fun _ _ _ h => h) (by kernel_rfl) hHeld (v := ?_) (fun wz hSw => ?_) ?_
  rotate_left 1
  · (try dsimp only at hSw); go_simp; (try with_reducible rfl)
  try simp only [Act.put, List.setIfInBounds_toArray, List.set_cons_zero, List.set_cons_succ]
  refine held_yes 6 (some 13) rfl rfl (by kernel_rfl) (by kernel_rfl) (by kernel_rfl) (fun _ _ _ h => h) (by kernel_rfl) hHeld (v := ?_) (fun wz hSw => ?_) ?_
  rotate_left 1
  · (try dsimp only at hSw); go_simp; (try with_reducible rfl)
  try simp only [Act.put, List.setIfInBounds_toArray, List.set_cons_zero, List.set_cons_succ]
  refine held_yes 7 (some 14) rfl rfl (by kernel_rfl) (by kernel_rfl) (by kernel_rfl) (fun _ _ _ h => h) (by kernel_rfl) hHeld (v := ?_) (fun wz hSw => ?_) ?_
  rotate_left 1
  · (try dsimp only at hSw); go_simp; (try with_reducible rfl)
  try simp only [Act.put, List.setIfInBounds_toArray, List.set_cons_zero, List.set_cons_succ]
  refine held_yes 8 (some 15) rfl rfl (by kernel_rfl) (by kernel_rfl) (by kernel_rfl) (fun _ _ _ h => h) (by kernel_rfl) hHeld (v := ?_) (fun wz hSw => ?_) ?_
  rotate_left 1
  · (try dsimp only at hSw); go_simp; (try with_reducible rfl)
  try simp only [Act.put, List.setIfInBounds_toArray, List.set_cons_zero, List.set_cons_succ]
  refine held_yes 9 (some 16) rfl rfl (by kernel_rfl) (by kernel_rfl) (by kernel_rfl) (fun _ _ _ h => h) (by kernel_rfl) hHeld (v := ?_) (fun wz hSw => ?_) ?_
  rotate_left 1
  · (try dsimp only at hSw); go_simp; (try with_reducible rfl)
  try simp only [Act.put, List.setIfInBounds_toArray, List.set_cons_zero, List.set_cons_succ]
  refine held_yes 10 (some 17) rfl rfl (by kernel_rfl) (by kernel_rfl) (by kernel_rfl) (fun _ _ _ h => h) (by kernel_rfl) hHeld (v := ?_) (fun wz hSw => ?_) ?_
  rotate_left 1
  · (try dsimp only at hSw); go_simp; (try with_reducible rfl)
  try simp only [Act.put, List.setIfInBounds_toArray, List.set_cons_zero, List.set_cons_succ]
  refine held_yes 11 (some 18) rfl rfl (by kernel_rfl) (by kernel_rfl) (by kernel_rfl) (fun _ _ _ h => h) (by kernel_rfl) hHeld (v := ?_) (fun wz hSw => ?_) ?_
  rotate_left 1
  · (try dsimp only at hSw); go_simp; (try with_reducible rfl)
  try simp only [Act.put, List.setIfInBounds_toArray, List.set_cons_zero, List.set_cons_succ]
  refine wpAnyH_ready (rs := [5]) (by kernel_rfl) (by simp) ?_
  refine AllReadyH.cons rfl (fun K hK => ?_) AllReadyH.nil
  go_simp
  (go_at_call 108; go_fit (HF.out _ HD.out); rintro e u1 ⟨rfl, g1⟩; have kb1 : Below w.heap.size w u1 := HD.out.trans (g1.mono HD.out.size); clear g1)
  refine hK.out _ _ (HS.out _ kb1) (fun hHeld => ?_)
  clear hK K
  try simp only [Act.put, List.setIfInBounds_toArray, List.set_cons_zero, List.set_cons_succ]
  refine wpAnyH_ready (rs := [12]) (by kernel_rfl) (by simp) ?_
  refine AllReadyH.cons rfl (fun K hK => ?_) AllReadyH.nil
  go_simp
  (go_at_call 62; go_fit (I2.out _); rintro e u2 ⟨rfl, rfl⟩)
  refine hK.out _ _ (HS.out _ kb1) (fun hHeld => ?_)
  clear hK K
  try simp only [Act.put, List.setIfInBounds_toArray, List.set_cons_zero, List.set_cons_succ]
  have hn := H1.out.1 rfl
  cases y2
  · skip
    refine held_yes 13 (some 20) rfl rfl (by kernel_rfl) (by kernel_rfl) (by kernel_rfl) (fun _ _ _ h => h) (by kernel_rfl) hHeld (v := ?_) (fun wz hSw => ?_) ?_
    rotate_left 1
    · (try dsimp only at hSw); go_simp; (try with_reducible rfl)
    try simp only [Act.put, List.setIfInBounds_toArray, List.set_cons_zero, List.set_cons_succ]
    refine held_yes 14 (some 21) rfl rfl (by kernel_rfl) (by kernel_rfl) (by kernel_rfl) (fun _ _ _ h => h) (by kernel_rfl) hHeld (v := ?_) (fun wz hSw => ?_) ?_
    rotate_left 1
    · (try dsimp only at hSw); go_simp; (try with_reducible rfl)
    try simp only [Act.put, List.setIfInBounds_toArray, List.set_cons_zero, List.set_cons_succ]
    refine held_no 15 (some 22) rfl rfl (by kernel_rfl) (by kernel_rfl) (by kernel_rfl) (fun _ _ _ h => h) (by kernel_rfl) hHeld ?_
    try simp only [Act.put, List.setIfInBounds_toArray, List.set_cons_zero, List.set_cons_succ]
    refine held_no 16 (some 23) rfl rfl (by kernel_rfl) (by kernel_rfl) (by kernel_rfl) (fun _ _ _ h => h) (by kernel_rfl) hHeld ?_
    try simp only [Act.put, List.setIfInBounds_toArray, List.set_cons_zero, List.set_cons_succ]
    refine held_no 17 (some 24) rfl rfl (by kernel_rfl) (by kernel_rfl) (by kernel_rfl) (fun _ _ _ h => h) (by kernel_rfl) hHeld ?_
    try simp only [Act.put, List.setIfInBounds_toArray, List.set_cons_zero, List.set_cons_succ]
    refine held_no 18 (some 25) rfl rfl (by kernel_rfl) (by kernel_rfl) (by kernel_rfl) (fun _ _ _ h => h) (by kernel_rfl) hHeld ?_
    try simp only [Act.put, List.setIfInBounds_toArray, List.set_cons_zero, List.set_cons_succ]
    refine held_no 19 (some 26) rfl rfl (by kernel_rfl) (by kernel_rfl) (by kernel_rfl) (fun _ _ _ h => h) (by kernel_rfl) hHeld ?_
    try simp only [Act.put, List.setIfInBounds_toArray, List.set_cons_zero, List.set_cons_succ]
    refine held_no 20 (some 27) rfl rfl (by kernel_rfl) (by kernel_rfl) (by kernel_rfl) (fun _ _ _ h => h) (by kernel_rfl) hHeld ?_
    try simp only [Act.put, List.setIfInBounds_toArray, List.set_cons_zero, List.set_cons_succ]
    refine held_no 21 (some 28) rfl rfl (by kernel_rfl) (by kernel_rfl) (by kernel_rfl) (fun _ _ _ h => h) (by kernel_rfl) hHeld ?_
    try simp only [Act.put, List.setIfInBounds_toArray, List.set_cons_zero, List.set_cons_succ]
    refine held_no 22 (some 29) rfl rfl (by kernel_rfl) (by kernel_rfl) (by kernel_rfl) (fun _ _ _ h => h) (by kernel_rfl) hHeld ?_
    try simp only [Act.put, List.setIfInBounds_toArray, List.set_cons_zero, List.set_cons_succ]
    refine held_no 23 (some 30) rfl rfl (by kernel_rfl) (by kernel_rfl) (by kernel_rfl) (fun _ _ _ h => h) (by kernel_rfl) hHeld ?_
    try simp only [Act.put, List.setIfInBounds_toArray, List.set_cons_zero, List.set_cons_succ]
    refine held_yes 24 (some 31) rfl rfl (by kernel_rfl) (by kernel_rfl) (by kernel_rfl) (fun _ _ _ h => h) (by kernel_rfl) hHeld (v := ?_) (fun wz hSw => ?_) ?_
    rotate_left 1
    · (try dsimp only at hSw); go_simp; (try with_reducible rfl)
    try simp only [Act.put, List.setIfInBounds_toArray, List.set_cons_zero, List.set_cons_succ]
    refine held_yes 25 (some 6) rfl rfl (by kernel_rfl) (by kernel_rfl) (by kernel_rfl) (fun _ _ _ h => h) (by kernel_rfl) hHeld (v := ?_) (fun wz hSw => ?_) ?_
    rotate_left 1
    · (try dsimp only at hSw); go_simp; (try with_reducible rfl)
    try simp only [Act.put, List.setIfInBounds_toArray, List.set_cons_zero, List.set_cons_succ]
    refine wpAnyH_done (by kernel_rfl) ?_ _
    try simp only [Exit.then]
    have Hf : Hid (r = false) := Lib.hid (by rw [HV.out]; rfl)
    go_wp2_with fail
    go_ret
    exact ⟨by rw [Hf.out]; rfl, kb1⟩
  refine held_yes 13 (some 20) rfl rfl (by kernel_rfl) (by kernel_rfl) (by kernel_rfl) (fun _ _ _ h => h) (by kernel_rfl) hHeld (v := ?_) (fun wz hSw => ?_) ?_
  rotate_left 1
  · (try dsimp only at hSw); go_simp; (try with_reducible rfl)
  try simp only [Act.put, List.setIfInBounds_toArray, List.set_cons_zero, List.set_cons_succ]
  refine held_yes 14 (some 21) rfl rfl (by kernel_rfl) (by kernel_rfl) (by kernel_rfl) (fun _ _ _ h => h) (by kernel_rfl) hHeld (v := ?_) (fun wz hSw => ?_) ?_
  rotate_left 1
  · (try dsimp only at hSw); go_simp; (try with_reducible rfl)
  try simp only [Act.put, List.setIfInBounds_toArray, List.set_cons_zero, List.set_cons_succ]
  refine held_yes 15 (some 22) rfl rfl (by kernel_rfl) (by kernel_rfl) (by kernel_rfl) (fun _ _ _ h => h) (by kernel_rfl) hHeld (v := ?_) (fun wz hSw => ?_) ?_
  rotate_left 1
  · (try dsimp only at hSw); go_simp; (try with_reducible rfl)
  try simp only [Act.put, List.setIfInBounds_toArray, List.set_cons_zero, List.set_cons_succ]
  refine held_yes 16 (some 23) rfl rfl (by kernel_rfl) (by kernel_rfl) (by kernel_rfl) (fun _ _ _ h => h) (by kernel_rfl) hHeld (v := ?_) (fun wz hSw => ?_) ?_
  rotate_left 1
  · (try dsimp only at hSw); go_simp; (try with_reducible rfl)
  try simp only [Act.put, List.setIfInBounds_toArray, List.set_cons_zero, List.set_cons_succ]
  refine held_yes 17 (some 24) rfl rfl (by kernel_rfl) (by kernel_rfl) (by kernel_rfl) (fun _ _ _ h => h) (by kernel_rfl) hHeld (v := ?_) (fun wz hSw => ?_) ?_
  rotate_left 1
  · (try dsimp only at hSw); go_simp; (try with_reducible rfl)
  try simp only [Act.put, List.setIfInBounds_toArray, List.set_cons_zero, List.set_cons_succ]
  refine held_yes 18 (some 25) rfl rfl (by kernel_rfl) (by kernel_rfl) (by kernel_rfl) (fun _ _ _ h => h) (by kernel_rfl) hHeld (v := ?_) (fun wz hSw => ?_) ?_
  rotate_left 1
  · (try dsimp only at hSw); go_simp; (try with_reducible rfl)
  try simp only [Act.put, List.setIfInBounds_toArray, List.set_cons_zero, List.set_cons_succ]
  refine held_yes 19 (some 26) rfl rfl (by kernel_rfl) (by kernel_rfl) (by kernel_rfl) (fun _ _ _ h => h) (by kernel_rfl) hHeld (v := ?_) (fun wz hSw => ?_) ?_
  rotate_left 1
  · (try dsimp only at hSw); go_simp; (try with_reducible rfl)
  try simp only [Act.put, List.setIfInBounds_toArray, List.set_cons_zero, List.set_cons_succ]
  refine held_yes 20 (some 27) rfl rfl (by kernel_rfl) (by kernel_rfl) (by kernel_rfl) (fun _ _ _ h => h) (by kernel_rfl) hHeld (v := ?_) (fun wz hSw => ?_) ?_
  rotate_left 1
  · (try dsimp only at hSw); go_simp; (try with_reducible rfl)
  try simp only [Act.put, List.setIfInBounds_toArray, List.set_cons_zero, List.set_cons_succ]
  refine held_yes 21 (some 28) rfl rfl (by kernel_rfl) (by kernel_rfl) (by kernel_rfl) (fun _ _ _ h => h) (by kernel_rfl) hHeld (v := ?_) (fun wz hSw => ?_) ?_
  rotate_left 1
  · (try dsimp only at hSw); go_simp; (try with_reducible rfl)
  try simp only [Act.put, List.setIfInBounds_toArray, List.set_cons_zero, List.set_cons_succ]
  refine held_yes 22 (some 29) rfl rfl (by kernel_rfl) (by kernel_rfl) (by kernel_rfl) (fun _ _ _ h => h) (by kernel_rfl) hHeld (v := ?_) (fun wz hSw => ?_) ?_
  rotate_left 1
  · (try dsimp only at hSw); go_simp; (try with_reducible rfl)
  try simp only [Act.put, List.setIfInBounds_toArray, List.set_cons_zero, List.set_cons_succ]
  refine held_yes 23 (some 30) rfl rfl (by kernel_rfl) (by kernel_rfl) (by kernel_rfl) (fun _ _ _ h => h) (by kernel_rfl) hHeld (v := ?_) (fun wz hSw => ?_) ?_
  rotate_left 1
  · (try dsimp only at hSw); go_simp; (try with_reducible rfl)
  try simp only [Act.put, List.setIfInBounds_toArray, List.set_cons_zero, List.set_cons_succ]
  refine held_yes 24 (some 31) rfl rfl (by kernel_rfl) (by kernel_rfl) (by kernel_rfl) (fun _ _ _ h => h) (by kernel_rfl) hHeld (v := ?_) (fun wz hSw => ?_) ?_
  rotate_left 1
  · (try dsimp only at hSw); go_simp; (try with_reducible rfl)
  try simp only [Act.put, List.setIfInBounds_toArray, List.set_cons_zero, List.set_cons_succ]
  refine held_yes 25 (some 6) rfl rfl (by kernel_rfl) (by kernel_rfl) (by kernel_rfl) (fun _ _ _ h => h) (by kernel_rfl) hHeld (v := ?_) (fun wz hSw => ?_) ?_
  rotate_left 1
  · (try dsimp only at hSw); go_simp; (try with_reducible rfl)
  try simp only [Act.put, List.setIfInBounds_toArray, List.set_cons_zero, List.set_cons_succ]
  refine wpAnyH_done (by kernel_rfl) ?_ _
  try simp only [Exit.then]
  have Hf : Hid (r = decide (x + n ≤ b)) := Lib.hid (by rw [HV.out]; rfl)
  have hn2 := H1.out.1 rfl
  have hx2 := H2.out.1 rfl
  have hs9 := Hl.out
  have hw9 : IntKind.i64.wrap (x + n) = x + n := IntWalk.i64_in _ (by omega)
  go_wp2_with fail
  go_ret
  exact ⟨by rw [Hf.out]; first | rfl | (show Ending.returned (.bool (decide (IntKind.i64.wrap (x + n) ≤ b))) = _; rw [hw9]), kb1⟩
/-- The root, and the code. -/
def roV (ss : List ByteArray) (ps : List Pt) (fz : Int) (off : Bool) (b l q t sq at_ : Int) (lg dt : List Pt) : Int := if pgrOk ss ps fz off b l q t sq at_ lg dt then nV (arS ss ps l lg dt) 2 else 0
def roC (ss : List ByteArray) (ps : List Pt) (fz : Int) (off : Bool) (b l q t sq at_ : Int) (lg dt : List Pt) : Int := if pgrOk ss ps fz off b l q t sq at_ lg dt then 0 else 1
def iaV (ss : List ByteArray) (ps : List Pt) (fz : Int) (off : Bool) (b l q t sq at_ : Int) (lg dt : List Pt) (k : Int) : Bool := pgrOk ss ps fz off b l q t sq at_ lg dt && (dtB b l k 1 && aB (arS ss ps l lg dt) k.toNat)
theorem nV_get {s : ByteArray} (hs : s.size = 64) : ∃ ok, getU s 0 2 = .tuple #[.int .i64 (nV s 2), .bool ok] := by
  have h := getU_gV s 0 2 (by omega) (by omega) (by omega)
  unfold nV
  rw [if_pos (by omega)]
  exact ⟨_, h⟩
end Go.Proofs.YtplfnlalmcpcaaaGreat
namespace Go.Proofs
open Go.Shelf
def Tryz.lays105_ren : Go.Shelf.Ren := ⟨fun | 105 => 123 | 212 => 155 | 99 => 156 | 165 => 157 | 166 => 125 | 170 => 158 | 169 => 127 | 263 => 179 | 264 => 180 | 206 => 181 | 240 => 162 | 241 => 182 | 276 => 184 | 277 => 192 | n => n, fun | 9 => 9 | 3 => 3 | 4 => 4 | 20 => 20 | 0 => 0 | 46 => 191 | 109 => 192 | 5 => 5 | 72 => 159 | 76 => 166 | 51 => 215 | 146 => 216 | 53 => 140 | 148 => 218 | 70 => 157 | 37 => 88 | 75 => 165 | 127 => 202 | 164 => 221 | 80 => 170 | n => n, fun | n => n⟩
theorem Tryz.lays105 : Go.Proofs.Lays.n105 Tryz.prog Tryz.lays105_ren := {
  mixed := by kernel_rfl
  f99 := Tryz.func156.trans (congrArg some (by kernel_rfl))
  f105 := Tryz.func123.trans (congrArg some (by kernel_rfl))
  f165 := Tryz.func157.trans (congrArg some (by kernel_rfl))
  f166 := Tryz.func125.trans (congrArg some (by kernel_rfl))
  f169 := Tryz.func127.trans (congrArg some (by kernel_rfl))
  f170 := Tryz.func158.trans (congrArg some (by kernel_rfl))
  f206 := Tryz.func181.trans (congrArg some (by kernel_rfl))
  f212 := Tryz.func155.trans (congrArg some (by kernel_rfl))
  f240 := Tryz.func162.trans (congrArg some (by kernel_rfl))
  f241 := Tryz.func182.trans (congrArg some (by kernel_rfl))
  f263 := Tryz.func179.trans (congrArg some (by kernel_rfl))
  f264 := Tryz.func180.trans (congrArg some (by kernel_rfl))
  f276 := Tryz.func184.trans (congrArg some (by kernel_rfl))
  f277 := Tryz.func192.trans (congrArg some (by kernel_rfl))
  t0 := Tryz.underlying0
  a0 := Tryz.isAgg0
  z0 := Tryz.sizeOf0
  v0 := Tryz.zeroValue0
  t3 := Tryz.underlying3
  a3 := Tryz.isAgg3
  z3 := Tryz.sizeOf3
  v3 := Tryz.zeroValue3
  t4 := Tryz.underlying4
  a4 := Tryz.isAgg4
  z4 := Tryz.sizeOf4
  v4 := Tryz.zeroValue4
  t5 := Tryz.underlying5
  a5 := Tryz.isAgg5
  z5 := Tryz.sizeOf5
  v5 := Tryz.zeroValue5
  t9 := Tryz.underlying9
  a9 := Tryz.isAgg9
  z9 := Tryz.sizeOf9
  v9 := Tryz.zeroValue9
  t20 := Tryz.underlying20
  a20 := Tryz.isAgg20
  z20 := Tryz.sizeOf20
  v20 := Tryz.zeroValue20
  t37 := Tryz.underlying88
  a37 := Tryz.isAgg88
  z37 := Tryz.sizeOf88
  v37 := Tryz.zeroValue88
  t46 := Tryz.underlying191
  a46 := Tryz.isAgg191
  z46 := Tryz.sizeOf191
  v46 := Tryz.zeroValue191
  t51 := Tryz.underlying215
  a51 := Tryz.isAgg215
  z51 := Tryz.sizeOf215
  v51 := Tryz.zeroValue215
  t53 := Tryz.underlying140
  a53 := Tryz.isAgg140
  z53 := Tryz.sizeOf140
  v53 := Tryz.zeroValue140
  t70 := Tryz.underlying157
  a70 := Tryz.isAgg157
  z70 := Tryz.sizeOf157
  v70 := Tryz.zeroValue157
  t72 := Tryz.underlying159
  a72 := Tryz.isAgg159
  z72 := Tryz.sizeOf159
  v72 := Tryz.zeroValue159
  t75 := Tryz.underlying165
  a75 := Tryz.isAgg165
  z75 := Tryz.sizeOf165
  v75 := Tryz.zeroValue165
  t76 := Tryz.underlying166
  a76 := Tryz.isAgg166
  z76 := Tryz.sizeOf166
  v76 := Tryz.zeroValue166
  t109 := Tryz.underlying192
  a109 := Tryz.isAgg192
  z109 := Tryz.sizeOf192
  v109 := Tryz.zeroValue192
  t127 := Tryz.underlying202
  a127 := Tryz.isAgg202
  z127 := Tryz.sizeOf202
  v127 := Tryz.zeroValue202
  t146 := Tryz.underlying216
  a146 := Tryz.isAgg216
  z146 := Tryz.sizeOf216
  v146 := Tryz.zeroValue216
  t148 := Tryz.underlying218
  a148 := Tryz.isAgg218
  z148 := Tryz.sizeOf218
  v148 := Tryz.zeroValue218
  t164 := Tryz.underlying221
  a164 := Tryz.isAgg221
  z164 := Tryz.sizeOf221
  v164 := Tryz.zeroValue221 }
theorem Tryz.Builder_Extra_105 : Builder.Extra Tryz.prog Tryz.lays105_ren := {
  sizeBuilder := by kernel_rfl
  liesBuilder := by kernel_rfl
  t5 := Tryz.underlying5
  a5 := Tryz.isAgg5
  z5 := Tryz.sizeOf5
  v5 := Tryz.zeroValue5
  infoByte := by kernel_rfl
  cellsByte := by kernel_rfl
  sizeByte := by kernel_rfl
  neB5 := by decide }
open Go.RowKit Go.Lib in
/-- **strings.Repeat: count ≥ 0, the result within one allocation: count copies of s.** (LAID: no walk: one application.) -/
theorem Tryz.strings_Repeat (s : ByteArray) (c : Nat) (w : World) (hc : c ≤ 9223372036854775807) (hlen : s.size * c ≤ 140737488355328) :
    Calls Tryz.prog 123 #[.string s, .int .i64 c] w fun e w' => e = .returned (.string ⟨(Lib.repeatL s.data.toList c).toArray⟩) ∧ Below w.heap.size w w' := Any.strings_Repeat Tryz.lays105 Tryz.Builder_Extra_105 s c w hc hlen
end Go.Proofs
namespace Go.Proofs.YtplfnlalmcpcaaaGreat
open Go.RowKit
set_option linter.unusedVariables false
theorem repeat_zero : ∀ c, Lib.repeatL [0] c = List.replicate c (0 : UInt8)
  | 0 => rfl
  | c + 1 => by unfold Lib.repeatL; rw [repeat_zero c, List.replicate_succ]; rfl
def padV (s : ByteArray) (n : Int) : Value := if (s.size : Int) ≤ n ∧ n ≤ 65536 then .tuple #[.string (s ++ zeros (n.toNat - s.size)), .bool true] else .tuple #[.string ⟨#[]⟩, .bool false]
theorem padV_yes {s : ByteArray} {n : Int} (h : (s.size : Int) ≤ n ∧ n ≤ 65536) : padV s n = .tuple #[.string (s ++ zeros (n.toNat - s.size)), .bool true] := if_pos h
theorem padV_no {s : ByteArray} {n : Int} (h : ¬ ((s.size : Int) ≤ n ∧ n ≤ 65536)) : padV s n = .tuple #[.string ⟨#[]⟩, .bool false] := if_neg h
theorem implPad_any (s : ByteArray) (n : Int) (hb : -9223372036854775808 ≤ n ∧ n < 9223372036854775808) (hs : s.size ≤ 1048576) (w : World) :
    Calls Tryz.prog 71 #[.string s, .int .i64 n] w fun e w' => e = .returned (padV s n) ∧ Below w.heap.size w w' := by
  by_cases h1 : (s.size : Int) ≤ n
  · by_cases h2 : n ≤ 65536
    · have Hf := Lib.hid (padV_yes ⟨h1, h2⟩)
      obtain ⟨d, hd⟩ := Int.eq_ofNat_of_zero_le (show 0 ≤ n - (s.size : Int) by omega)
      have hrep := fun w1 => Tryz.strings_Repeat ⟨#[0]⟩ d w1 (by omega) (by show 1 * d ≤ _; omega)
      rw [show Lib.repeatL (⟨#[0]⟩ : ByteArray).data.toList d = List.replicate d 0 from repeat_zero d] at hrep
      have hz : (⟨(List.replicate d (0 : UInt8)).toArray⟩ : ByteArray) = zeros (n.toNat - s.size) := by unfold zeros; congr 3; omega
      rw [hz] at hrep
      have hzs : (zeros (n.toNat - s.size)).size ≤ 65536 := by show (List.replicate _ _).toArray.size ≤ _; simp; omega
      generalize zeros (n.toNat - s.size) = z at *
      have Hrep := Lib.hid hrep; clear hrep hz
      have hadd := fun w1 => run_string_add_sum (P := Tryz.prog) w1 s z (by omega)
      go_enter Tryz.func71, Tryz.ntmps71
      go_wp2_with (go_at_call 123; refine (Hrep.out _).mono ?_; rintro e w' ⟨rfl, hbel⟩)
      go_ret2
      exact ⟨by rw [Hf.out]; rfl, by assumption⟩
    · have Hf := Lib.hid (padV_no (s := s) (fun h => h2 h.2))
      go_enter Tryz.func71, Tryz.ntmps71
      go_wp2_with fail
      go_ret2
      exact ⟨by rw [Hf.out]; rfl, Below.refl _ _⟩
  · have Hf := Lib.hid (padV_no (s := s) (fun h => h1 h.1))
    go_enter Tryz.func71, Tryz.ntmps71
    go_wp2_with fail
    go_ret2
    exact ⟨by rw [Hf.out]; rfl, Below.refl _ _⟩
end Go.Proofs.YtplfnlalmcpcaaaGreat
namespace Go.Proofs.YtplfnlalmcpcaaaGreat
open Go.RowKit Go.ChangeShapes Go.WideShapes
set_option linter.unusedVariables false
def tmP : RT → Option TypeId
  | .str => some 9
  | .put => some 177
  | .pag => some 115
  | _ => none
theorem layStrP : layOk Tryz.prog tmP 8 9 (tab .str) = true := by kernel_rfl
theorem layPutP : layOk Tryz.prog tmP 8 177 (tab .put) = true := by kernel_rfl
theorem layPagP : layOk Tryz.prog tmP 8 115 (tab .pag) = true := by kernel_rfl
theorem layTabP : LayTab Tryz.prog tmP := by
  intro r e h
  cases r
  case str =>
    obtain rfl : 9 = e := Option.some.inj h
    exact ⟨by kernel_rfl, layStrP⟩
  case put =>
    obtain rfl : 177 = e := Option.some.inj h
    exact ⟨by kernel_rfl, layPutP⟩
  case pag =>
    obtain rfl : 115 = e := Option.some.inj h
    exact ⟨by kernel_rfl, layPagP⟩
  all_goals exact absurd h (by simp [tmP])
theorem lay_open_pages : layOk Tryz.prog tmP 8 28 [.sl .pag] = true := by kernel_rfl
set_option maxRecDepth 100000 in
theorem open_pages {H : Type} {enc : TypeId × Value → H} {w : World} {base : Nat} {spare : Nat → Bool} {held : Bool} {r : Reach} {b0 : Nat} {v : Value} {d : DataW H} {p : List MemPlace} (hv : Value.okWide Tryz.prog w r b0 28 v) (h : DataW.Trod enc Tryz.prog w base spare held 28 v d p) :
    ∃ bs : List Pt, RiU w.heap.size w v bs := by
  obtain ⟨a, len, cap, rfl⟩ := okWide_slice Tryz.underlying28 hv
  obtain ⟨fuel, hf⟩ := h
  obtain ⟨ds, hds⟩ := open_data layTabP fuel 8 28 [.sl .pag] _ _ lay_open_pages hf
  have hds' : Rds fuel w.heap.size w [.sl .pag] [.slice a len cap] ds := by simpa [Value.cells] using hds
  obtain ⟨v', d', _, _, h1, _, h2, _⟩ := RdsOf.cons hds'
  obtain ⟨rfl, _⟩ := List.cons.inj h1
  exact Rd.rig h2
theorem lay_open_pager : layOk Tryz.prog tmP 8 30 [.sl .str, .sl .put, .int, .bool, .int, .int, .int, .int, .int, .int, .sl .pag, .sl .pag] = true := by kernel_rfl
set_option maxRecDepth 100000 in
theorem open_pager {H : Type} {enc : TypeId × Value → H} {w : World} {base : Nat} {spare : Nat → Bool} {held : Bool} {r : Reach} {b0 : Nat} {v : Value} {d : DataW H} {p : List MemPlace} (hv : Value.okWide Tryz.prog w r b0 30 v) (h : DataW.Trod enc Tryz.prog w base spare held 30 v d p) :
    ∃ (v0 : Value) (xs0 : List ByteArray) (v1 : Value) (xs1 : List Pt) (n2 : Int) (n3 : Bool) (n4 : Int) (n5 : Int) (n6 : Int) (n7 : Int) (n8 : Int) (n9 : Int) (v10 : Value) (xs10 : List Pt) (v11 : Value) (xs11 : List Pt), v = .agg #[v0, v1, .int .i64 n2, .bool n3, .int .i64 n4, .int .i64 n5, .int .i64 n6, .int .i64 n7, .int .i64 n8, .int .i64 n9, v10, v11] ∧ RiT w.heap.size w v0 xs0 ∧ RiU w.heap.size w v1 xs1 ∧ InI n2 ∧ InI n4 ∧ InI n5 ∧ InI n6 ∧ InI n7 ∧ InI n8 ∧ InI n9 ∧ RiU w.heap.size w v10 xs10 ∧ RiU w.heap.size w v11 xs11 := by
  obtain ⟨cs, rfl, hsz⟩ := okWide_struct Tryz.underlying30 hv
  obtain ⟨fuel, hf⟩ := h
  obtain ⟨ds, hds⟩ := open_data layTabP fuel 8 30 [.sl .str, .sl .put, .int, .bool, .int, .int, .int, .int, .int, .int, .sl .pag, .sl .pag] _ _ lay_open_pager hf
  have hds' : Rds fuel w.heap.size w [.sl .str, .sl .put, .int, .bool, .int, .int, .int, .int, .int, .int, .sl .pag, .sl .pag] cs.toList ds := by simpa [Value.cells] using hds
  obtain ⟨u0, d0, us0, ds0, e1, rfl, h0, hr0⟩ := RdsOf.cons hds'
  obtain ⟨u1, d1, us1, ds1, rfl, rfl, h1, hr1⟩ := RdsOf.cons hr0
  obtain ⟨u2, d2, us2, ds2, rfl, rfl, h2, hr2⟩ := RdsOf.cons hr1
  obtain ⟨u3, d3, us3, ds3, rfl, rfl, h3, hr3⟩ := RdsOf.cons hr2
  obtain ⟨u4, d4, us4, ds4, rfl, rfl, h4, hr4⟩ := RdsOf.cons hr3
  obtain ⟨u5, d5, us5, ds5, rfl, rfl, h5, hr5⟩ := RdsOf.cons hr4
  obtain ⟨u6, d6, us6, ds6, rfl, rfl, h6, hr6⟩ := RdsOf.cons hr5
  obtain ⟨u7, d7, us7, ds7, rfl, rfl, h7, hr7⟩ := RdsOf.cons hr6
  obtain ⟨u8, d8, us8, ds8, rfl, rfl, h8, hr8⟩ := RdsOf.cons hr7
  obtain ⟨u9, d9, us9, ds9, rfl, rfl, h9, hr9⟩ := RdsOf.cons hr8
  obtain ⟨u10, d10, us10, ds10, rfl, rfl, h10, hr10⟩ := RdsOf.cons hr9
  obtain ⟨u11, d11, us11, ds11, rfl, rfl, h11, hr11⟩ := RdsOf.cons hr10
  obtain ⟨rfl, rfl⟩ := RdsOf.nil hr11
  obtain ⟨xs0, g0⟩ := Rd.rit h0
  obtain ⟨xs1, g1⟩ := Rd.riu h1
  obtain ⟨n2, rfl, rfl, g2⟩ := Rd.int h2
  obtain ⟨n3, rfl, rfl⟩ := Rd.bool h3
  obtain ⟨n4, rfl, rfl, g4⟩ := Rd.int h4
  obtain ⟨n5, rfl, rfl, g5⟩ := Rd.int h5
  obtain ⟨n6, rfl, rfl, g6⟩ := Rd.int h6
  obtain ⟨n7, rfl, rfl, g7⟩ := Rd.int h7
  obtain ⟨n8, rfl, rfl, g8⟩ := Rd.int h8
  obtain ⟨n9, rfl, rfl, g9⟩ := Rd.int h9
  obtain ⟨xs10, g10⟩ := Rd.rig h10
  obtain ⟨xs11, g11⟩ := Rd.rig h11
  refine ⟨u0, xs0, u1, xs1, n2, n3, n4, n5, n6, n7, n8, n9, u10, xs10, u11, xs11, ?_, g0, g1, g2, g4, g5, g6, g7, g8, g9, g10, g11⟩
  obtain ⟨l⟩ := cs
  simp at e1
  rw [e1]
end Go.Proofs.YtplfnlalmcpcaaaGreat
namespace Go.Proofs.YtplfnlalmcpcaaaGreat
open Go.RowKit Go.Maps
set_option linter.unusedVariables false
def paD (s : ByteArray) (n : Int) : ByteArray := s ++ zeros ((n * 64).toNat - s.size)
/-- The pages of a run from a block on. -/
def pgsP (a : Int) (s : ByteArray) (n : Nat) : List Pt := (List.range n).map (fun (j : Nat) => (a + (j : Int), s.extract (j * 64) ((j + 1) * 64)))
theorem pgsP_len (a : Int) (s : ByteArray) (n : Nat) : (pgsP a s n).length = n := by simp [pgsP]
theorem pgsP_at (a : Int) (s : ByteArray) (n j : Nat) (h : j < (pgsP a s n).length) : (pgsP a s n)[j] = (a + (j : Int), s.extract (j * 64) ((j + 1) * 64)) := by simp [pgsP]
theorem mg1_ge (L : List Pt) (k : Int) (s : ByteArray) : L.length ≤ (mg L [(k, s)]).length := by
  induction L with
  | nil => simp
  | cons a L ih =>
    rw [mg_one]
    split
    · simp only [List.length_cons]; omega
    · split <;> simp
theorem mgs_ge (qs : List Pt) : ∀ dt : List Pt, dt.length ≤ (mgs dt qs).length := by
  induction qs with
  | nil => intro dt; exact Nat.le_refl _
  | cons q qs ih =>
    intro dt
    have h1 := ih (mg dt [(q.1, q.2)])
    have h2 := mg1_ge dt q.1 q.2
    have h3 : mgs dt (q :: qs) = mgs (mg dt [(q.1, q.2)]) qs := rfl
    rw [h3]; omega
theorem mgs_up (dt qs : List Pt) (j : Nat) : (mgs dt (qs.take j)).length ≤ (mgs dt qs).length := by
  have h : mgs dt qs = mgs (mgs dt (qs.take j)) (qs.drop j) := by rw [mgs, mgs, mgs, ← List.foldl_append, List.take_append_drop]
  rw [h]; exact mgs_ge _ _
theorem mgs_mem (qs : List Pt) : ∀ (dt : List Pt) (p : Pt), p ∈ mgs dt qs → p ∈ qs ∨ p ∈ dt := by
  induction qs with
  | nil => intro dt p h; exact .inr h
  | cons q qs ih =>
    intro dt p h
    rcases ih (mg dt [(q.1, q.2)]) p h with h | h
    · exact .inl (List.mem_cons_of_mem _ h)
    · rcases mg1_mem h with h | h
      · exact .inl (by rw [h]; exact List.mem_cons_self)
      · exact .inr h
theorem ft_mono {l : Int} {m n : Nat} (h : m ≤ n) (hf : ftOk l (n : Int) = true) : ftOk l (m : Int) = true := by
  unfold ftOk tbN at *
  simp only [Bool.or_eq_true, Bool.and_eq_true, decide_eq_true_eq] at *
  rcases Nat.eq_zero_or_pos m with h0 | h0
  · left; omega
  · right
    rcases hf with h1 | h1
    · omega
    · refine ⟨by omega, ?_⟩
      have h2 := h1.2
      split <;> split at h2 <;> (try split) <;> (try split at h2) <;> omega
theorem ft_len {l : Int} {n : Nat} (hf : ftOk l (n : Int) = true) : n ≤ 60 := by
  unfold ftOk at hf
  simp only [Bool.or_eq_true, Bool.and_eq_true, decide_eq_true_eq] at hf
  omega
theorem paD_size {s : ByteArray} {n : Int} (h0 : 0 ≤ n) (h : (s.size : Int) ≤ n * 64) : ((paD s n).size : Int) = n * 64 := by
  unfold paD zeros; rw [ByteArray.size_append]; show ((s.size + (List.replicate _ _).toArray.size : Nat) : Int) = _; simp; omega
end Go.Proofs.YtplfnlalmcpcaaaGreat
namespace Go.Proofs.YtplfnlalmcpcaaaGreat
open Go.RowKit Go.Maps
set_option linter.unusedVariables false
def wrC (r : Bool) : Int := if r then 0 else 5
def wrT (r : Bool) (X : Prop) : Prop := r = true → X
def WrI (P dt : List Pt) (l : Int) (g : Nat) (v0 v1 v10 : Value) (fz b q t sq at_ : Int) (off : Bool) (w : World) (iv : Value) (wr : World) : Prop := ∃ j : Nat, j ≤ P.length ∧ iv = .int .i64 (j : Int) ∧ ∃ u, wr.heap[g]? = some (.cells #[v0, v1, .int .i64 fz, .bool off, .int .i64 b, .int .i64 l, .int .i64 q, .int .i64 t, .int .i64 sq, .int .i64 at_, v10, u] 38 (0, 0)) ∧ RiU wr.heap.size wr u (mgs dt (P.take j)) ∧ (0 < j → ftOk l ((mgs dt (P.take j)).length : Int) = true ∧ ∃ A c, u = .slice A (mgs dt (P.take j)).length c ∧ OG wr w.heap.size u (mgs dt (P.take j))) ∧ w.grownBy wr (some g)
set_option maxHeartbeats 4000000 in
set_option maxRecDepth 100000 in
theorem l13Write_any {g n : Nat} {w : World} {v0 v1 v10 v11 : Value} {fz b l q t sq at_ a : Int} {off : Bool} {dt : List Pt} {s : ByteArray} (hg : w.heap[g]? = some (.cells #[v0, v1, .int .i64 fz, .bool off, .int .i64 b, .int .i64 l, .int .i64 q, .int .i64 t, .int .i64 sq, .int .i64 at_, v10, v11] 38 (0, 0))) (h11 : RiU w.heap.size w v11 dt) (ld : dt.length ≤ 256) (hn : bkF (s.size : Int) = (n : Int)) (h1 : 1 ≤ n) (ha : 0 ≤ a) (hab : a + (n : Int) ≤ 256) (hsz : s.size ≤ 65536) :
    Calls Tryz.prog 69 #[.pointer (some ⟨g, 0, none⟩), .int .i64 a, .string s] w fun e w' => e = .returned (.int .i64 (wrC (ftOk l ((mgs dt (pgsP a (paD s n) n)).length : Int)))) ∧ w.grownBy w' (some g) ∧
      wrT (ftOk l ((mgs dt (pgsP a (paD s n) n)).length : Int)) (∃ A c, w'.heap[g]? = some (.cells #[v0, v1, .int .i64 fz, .bool off, .int .i64 b, .int .i64 l, .int .i64 q, .int .i64 t, .int .i64 sq, .int .i64 at_, v10, .slice A (mgs dt (pgsP a (paD s n) n)).length c] 38 (0, 0)) ∧ OG w' w.heap.size (.slice A (mgs dt (pgsP a (paD s n) n)).length c) (mgs dt (pgsP a (paD s n) n))) := by
  have hgl : g < w.heap.size := by
    rcases Nat.lt_or_ge g w.heap.size with hl | hl
    · exact hl
    · rw [Array.getElem?_eq_none hl] at hg; cases hg
  have GL := Lib.hid hgl
  have hb := bkN_b (n := (s.size : Int)) (by omega) (by omega)
  have hb2 : bkF (s.size : Int) = bkN (s.size : Int) := by have hi : inB (s.size : Int) 0 65536 = true := inB_iff.2 (by omega); unfold bkF; rw [hi]; rfl
  have HPS := Lib.hid (paD_size (s := s) (n := (n : Int)) (by omega) (by omega))
  have C0 := Lib.hid (fun W => specBlocksFor_any (n := (s.size : Int)) (w := W) (WalkArith.wf_i64 (by omega)) (Nat.le_refl _))
  rw [hn] at C0
  have C1 := Lib.hid (fun W => l01Pad_any s ((n : Int) * 64) (by omega) (by omega) W)
  have HP0 : Hid (s ++ zeros (((n : Int) * 64).toNat - s.size) = paD s (n : Int)) := Lib.hid rfl
  rw [HP0.out] at C1
  clear HP0 hb hb2
  have HPL := Lib.hid (pgsP_len a (paD s (n : Int)) n)
  have HPA := Lib.hid (pgsP_at a (paD s (n : Int)) n)
  generalize hP : pgsP a (paD s (n : Int)) n = P at *
  clear hP
  generalize paD s (n : Int) = x at *
  have HMU := Lib.hid (mgs_up dt P)
  have HMT := Lib.hid (fun (j : Nat) (hj : j < P.length) => mgs_take dt P hj)
  have HML := Lib.hid (mgs_len P dt)
  have HG := Lib.hid hg; have H11 := Lib.hid h11; clear hg h11
  generalize hR : ftOk l ((mgs dt P).length : Int) = r at *
  have HR := Lib.hid hR; clear hR
  go_enter Tryz.func69, Tryz.ntmps69
  go_wp2_with fail
  refine (C0.out _).mono ?_
  rintro e w1 ⟨rfl, g1⟩
  have B1 := Lib.hid g1; clear g1
  go_wp2_with fail
  refine (C1.out _).mono ?_
  rintro e w2 ⟨rfl, g2⟩
  have B2 := Lib.hid (B1.out.trans (g2.mono B1.out.size)); clear g2
  have hmx : (n : Int) * 64 ≤ 16384 := by omega
  go_wp2_with fail
  go_loopw [9] (fun iv wr => WrI P dt l g v0 v1 v10 fz b q t sq at_ off w iv wr) (fun iv _ => n - (intOf iv).toNat)
  case atStart => exact ⟨0, Nat.zero_le _, rfl, v11, (B2.out.block _ hgl).trans HG.out, by rw [List.take_zero]; exact H11.out.at (Nat.le_refl _) B2.out, fun h => absurd h (Nat.lt_irrefl _), Lib.grownBy_below (World.grownBy.refl w (some g)) B2.out⟩
  case round =>
    obtain ⟨j, hj, rfl, u, hrow, hri, hfin, hgr⟩ := hrel
    have Hr := Lib.hid hrow; have Hri := Lib.hid hri; have Hf := Lib.hid hfin; have Hg := Lib.hid hgr; clear hrow hri hfin hgr
    rw [HPL.out] at hj
    by_cases hlt : j < n
    · have d1 : decide ((j : Int) < (n : Int)) = true := decide_eq_true (by omega)
      have hPj : j < P.length := by rw [HPL.out]; exact hlt
      have HE := Lib.hid (HMT.out j hPj)
      have ePj := HPA.out j hPj
      rw [ePj] at HE
      have HT60 : Hid ((mgs dt (P.take j)).length ≤ 256) := Lib.hid (by
        rcases Nat.eq_zero_or_pos j with h0 | h0
        · subst h0; rw [List.take_zero]; exact ld
        · have := ft_len (Hf.out h0).1; omega)
      have HFa : Hid (ftOk l ((mgs dt (P.take (j + 1))).length : Int) = false → r = false) := Lib.hid (fun h => by
        rw [← HR.out]
        cases hx : ftOk l ((mgs dt P).length : Int)
        · rfl
        · rw [ft_mono (HMU.out (j + 1)) hx] at h; cases h)
      clear ePj
      have hzx : j * 64 ≤ (j + 1) * 64 ∧ (j + 1) * 64 ≤ x.size := by have := HPS.out; omega
      have hz1 : (0 : Int) ≤ (j : Int) * 64 := by omega
      have hz2 : (j : Int) * 64 ≤ ((j : Int) + 1) * 64 := by omega
      have hz3 : ((j : Int) + 1) * 64 ≤ (x.size : Int) := by omega
      go_wp2_with fail
      refine (l12Set_any Hr.out Hri.out (Nat.le_refl _) HT60.out (by unfold InI; omega) (by rw [ByteArray.size_extract]; unfold maxLen; omega)).mono ?_
      rintro e w3 ⟨rfl, g3, fin⟩
      rw [HE.out]
      have G3 := Lib.hid g3; have Fin := Lib.hid fin; clear g3 fin
      have Gw : Hid (w.grownBy w3 (some g)) := Lib.hid (Hg.out.trans G3.out)
      cases hr : ftOk l ((mgs dt (P.take (j + 1))).length : Int)
      · have Ef := Lib.hid (HFa.out hr); clear hr
        go_wp2_with fail
        go_ret
        have ef := Ef.out
        subst ef
        exact ⟨rfl, Gw.out, fun h => by cases h⟩
      · have Hr2 := Lib.hid hr; clear hr
        go_wp2_with fail
        go_roundw
        case rel =>
          obtain ⟨A, c, h1, h2⟩ := Fin.out (by rw [HE.out]; exact Hr2.out)
          rw [HE.out] at h1 h2
          exact ⟨j + 1, by rw [HPL.out]; omega, by go_num, _, h1, h2.riu (fun p hp => by
            rw [← HE.out] at hp
            rcases mg1_mem hp with h | h
            · rw [h]; exact ⟨by unfold InI; show _ ≤ a + (j : Int) ∧ a + (j : Int) < _; omega, by show (x.extract _ _).size ≤ _; rw [ByteArray.size_extract]; unfold maxLen; omega⟩
            · exact Hri.out.wf p h), fun _ => ⟨Hr2.out, A, c, rfl, own_lo h2 (by have := Hg.out.size; omega)⟩, Gw.out⟩
        case measure => simp [intOf]; omega
    · have d1 : decide ((j : Int) < (n : Int)) = false := decide_eq_false (by omega)
      obtain rfl : j = n := by omega
      obtain ⟨f1, A, c, rfl, f2⟩ := Hf.out (by omega)
      rw [List.take_of_length_le (by rw [HPL.out]; exact Nat.le_refl _)] at f1 f2 Hr
      have F1 := Lib.hid f1; have F2 := Lib.hid f2; clear f1 f2
      go_wp2_with fail
      go_ret
      have ef : r = true := by rw [← HR.out]; exact F1.out
      subst ef
      exact ⟨rfl, Hg.out, fun _ => ⟨A, c, Hr.out, F2.out⟩⟩
/-- What WriteRun answers: whether a Pager, the code, the pages. -/
def wrP (k : Int) (x : ByteArray) : List Pt := pgsP k (paD x (bkF (x.size : Int))) (bkF (x.size : Int)).toNat
def wrO (ss : List ByteArray) (ps : List Pt) (fz : Int) (off : Bool) (b l q t sq at_ : Int) (lg dt : List Pt) (k : Int) (x : ByteArray) : Bool := pgrOk ss ps fz off b l q t sq at_ lg dt && (dtB b l k (bkF (x.size : Int)) && ftOk l ((mgs dt (wrP k x)).length : Int))
def wrK (ss : List ByteArray) (ps : List Pt) (fz : Int) (off : Bool) (b l q t sq at_ : Int) (lg dt : List Pt) (k : Int) (x : ByteArray) : Int := if pgrOk ss ps fz off b l q t sq at_ lg dt then (if dtB b l k (bkF (x.size : Int)) then wrC (ftOk l ((mgs dt (wrP k x)).length : Int)) else 2) else 1
theorem bkF_big {n : Int} (h : 1 ≤ bkF n) : 0 ≤ n ∧ n ≤ 65536 := by
  unfold bkF at h
  cases hi : inB n 0 65536
  · rw [hi] at h; simp at h
  · exact inB_iff.1 hi
set_option maxHeartbeats 4000000 in
set_option maxRecDepth 100000 in
theorem specWriteRun_any {w : World} {A0 A1 A10 A11 : Option Addr} {ss : List ByteArray} {ps lg dt : List Pt} {fz b l q t sq at_ : Int} {off : Bool} {k : Int} {x : ByteArray} (h0 : RiT w.heap.size w (.slice A0 ss.length ss.length) ss) (h1 : RiU w.heap.size w (.slice A1 ps.length ps.length) ps) (h10 : RiU w.heap.size w (.slice A10 lg.length lg.length) lg) (h11 : RiU w.heap.size w (.slice A11 dt.length dt.length) dt) (z0 : ss.length ≤ 1048576) (z1 : ps.length ≤ 1048576) (i4 : InI b) (i5 : InI l) (hk : (Lit.int .i64 k).wf = true) (hx : x.size ≤ maxLen) (hx2 : x.size ≤ 1048576) :
    Calls Tryz.prog 23 #[.agg #[.slice A0 ss.length ss.length, .slice A1 ps.length ps.length, .int .i64 fz, .bool off, .int .i64 b, .int .i64 l, .int .i64 q, .int .i64 t, .int .i64 sq, .int .i64 at_, .slice A10 lg.length lg.length, .slice A11 dt.length dt.length], .int .i64 k, .string x] w (AnsP (mkC (wrK ss ps fz off b l q t sq at_ lg dt k x)) (sT (wrO ss ps fz off b l q t sq at_ lg dt k x) ss) (sT (wrO ss ps fz off b l q t sq at_ lg dt k x) ps) (sI (wrO ss ps fz off b l q t sq at_ lg dt k x) fz) (sB (wrO ss ps fz off b l q t sq at_ lg dt k x) off) (sI (wrO ss ps fz off b l q t sq at_ lg dt k x) b) (sI (wrO ss ps fz off b l q t sq at_ lg dt k x) l) (sI (wrO ss ps fz off b l q t sq at_ lg dt k x) q) (sI (wrO ss ps fz off b l q t sq at_ lg dt k x) t) (sI (wrO ss ps fz off b l q t sq at_ lg dt k x) sq) (sI (wrO ss ps fz off b l q t sq at_ lg dt k x) at_) (sT (wrO ss ps fz off b l q t sq at_ lg dt k x) lg) (sT (wrO ss ps fz off b l q t sq at_ lg dt k x) (mgs dt (wrP k x))) w) := by
  have ik : InI k := by unfold InI; simp [Lit.wf, IntKind.min, IntKind.max, IntKind.signed, IntKind.bits] at hk; omega
  have Ik := Lib.hid ik
  have HO : Hid ((wrO ss ps fz off b l q t sq at_ lg dt k x) = (pgrOk ss ps fz off b l q t sq at_ lg dt && (dtB b l k (bkF (x.size : Int)) && ftOk l ((mgs dt (wrP k x)).length : Int)))) := Lib.hid rfl
  have HC : Hid ((wrK ss ps fz off b l q t sq at_ lg dt k x) = if pgrOk ss ps fz off b l q t sq at_ lg dt then (if dtB b l k (bkF (x.size : Int)) then wrC (ftOk l ((mgs dt (wrP k x)).length : Int)) else 2) else 1) := Lib.hid rfl
  have HP1 : Hid (wrP k x = pgsP k (paD x (bkF (x.size : Int))) (bkF (x.size : Int)).toNat) := Lib.hid rfl
  generalize (wrO ss ps fz off b l q t sq at_ lg dt k x) = O at *
  generalize (wrK ss ps fz off b l q t sq at_ lg dt k x) = C at *
  generalize wrP k x = P at *
  have Hok := Lib.hid (pgrOk_t (ss := ss) (ps := ps) (fz := fz) (off := off) (b := b) (l := l) (q := q) (t := t) (sq := sq) (at_ := at_) (lg := lg) (dt := dt))
  have Hpb := Lib.hid (pgrOk_b (ss := ss) (ps := ps) (fz := fz) (off := off) (b := b) (l := l) (q := q) (t := t) (sq := sq) (at_ := at_) (lg := lg) (dt := dt))
  have Hpl := Lib.hid (pgrOk_l (ss := ss) (ps := ps) (fz := fz) (off := off) (b := b) (l := l) (q := q) (t := t) (sq := sq) (at_ := at_) (lg := lg) (dt := dt))
  have bw : InI (bkF (x.size : Int)) := by
    unfold InI bkF
    cases hi : inB (x.size : Int) 0 65536
    · simp
    · have h2 := inB_iff.1 hi; have := bkN_b h2.1 h2.2; simp; omega
  have Bw := Lib.hid bw; clear bw
  have xw : (Lit.int .i64 (x.size : Int)).wf = true := WalkArith.wf_i64 (by omega)
  have H0 := Lib.hid h0; have H1 := Lib.hid h1; have H10 := Lib.hid h10; have H11 := Lib.hid h11
  clear h0 h1 h10 h11
  have B0 : Hid (Below w.heap.size w ((w.alloc (.cells #[.slice A0 ss.length ss.length, .slice A1 ps.length ps.length, .int .i64 fz, .bool off, .int .i64 b, .int .i64 l, .int .i64 q, .int .i64 t, .int .i64 sq, .int .i64 at_, .slice A10 lg.length lg.length, .slice A11 dt.length dt.length] 38)).alloc (.cells #[.slice none 0 0, .slice none 0 0, .int .i64 0, .bool false, .int .i64 0, .int .i64 0, .int .i64 0, .int .i64 0, .int .i64 0, .int .i64 0, .slice none 0 0, .slice none 0 0] 38))) := Lib.hid (((Below.refl _ w).alloc (Nat.le_refl _) _).alloc (by simp) _)
  have R0 : Hid (((w.alloc (.cells #[.slice A0 ss.length ss.length, .slice A1 ps.length ps.length, .int .i64 fz, .bool off, .int .i64 b, .int .i64 l, .int .i64 q, .int .i64 t, .int .i64 sq, .int .i64 at_, .slice A10 lg.length lg.length, .slice A11 dt.length dt.length] 38)).alloc (.cells #[.slice none 0 0, .slice none 0 0, .int .i64 0, .bool false, .int .i64 0, .int .i64 0, .int .i64 0, .int .i64 0, .int .i64 0, .int .i64 0, .slice none 0 0, .slice none 0 0] 38)).heap[w.heap.size]? = some (.cells #[.slice A0 ss.length ss.length, .slice A1 ps.length ps.length, .int .i64 fz, .bool off, .int .i64 b, .int .i64 l, .int .i64 q, .int .i64 t, .int .i64 sq, .int .i64 at_, .slice A10 lg.length lg.length, .slice A11 dt.length dt.length] 38 (0, 0))) := Lib.hid (heap_alloc2_old w _ _)
  have Q0 : Hid (((w.alloc (.cells #[.slice A0 ss.length ss.length, .slice A1 ps.length ps.length, .int .i64 fz, .bool off, .int .i64 b, .int .i64 l, .int .i64 q, .int .i64 t, .int .i64 sq, .int .i64 at_, .slice A10 lg.length lg.length, .slice A11 dt.length dt.length] 38)).alloc (.cells #[.slice none 0 0, .slice none 0 0, .int .i64 0, .bool false, .int .i64 0, .int .i64 0, .int .i64 0, .int .i64 0, .int .i64 0, .int .i64 0, .slice none 0 0, .slice none 0 0] 38)).heap[w.heap.size + 1]? = some (.cells #[.slice none 0 0, .slice none 0 0, .int .i64 0, .bool false, .int .i64 0, .int .i64 0, .int .i64 0, .int .i64 0, .int .i64 0, .int .i64 0, .slice none 0 0, .slice none 0 0] 38 (0, 0))) := Lib.hid (heap_alloc2_new w _ _)
  have Z0 : Hid (w.heap.size + 2 ≤ ((w.alloc (.cells #[.slice A0 ss.length ss.length, .slice A1 ps.length ps.length, .int .i64 fz, .bool off, .int .i64 b, .int .i64 l, .int .i64 q, .int .i64 t, .int .i64 sq, .int .i64 at_, .slice A10 lg.length lg.length, .slice A11 dt.length dt.length] 38)).alloc (.cells #[.slice none 0 0, .slice none 0 0, .int .i64 0, .bool false, .int .i64 0, .int .i64 0, .int .i64 0, .int .i64 0, .int .i64 0, .int .i64 0, .slice none 0 0, .slice none 0 0] 38)).heap.size) := Lib.hid (by simp)
  have C1 := Lib.hid (l12Ok_any R0.out (H0.out.at (Nat.le_refl _) B0.out) (H1.out.at (Nat.le_refl _) B0.out) (H10.out.at (Nat.le_refl _) B0.out) (H11.out.at (Nat.le_refl _) B0.out) (Nat.le_refl _) i4 i5)
  generalize pgrOk ss ps fz off b l q t sq at_ lg dt = z at *
  go_enter Tryz.func23, Tryz.ntmps23
  go_wp2_with fail
  generalize ((w.alloc (.cells #[.slice A0 ss.length ss.length, .slice A1 ps.length ps.length, .int .i64 fz, .bool off, .int .i64 b, .int .i64 l, .int .i64 q, .int .i64 t, .int .i64 sq, .int .i64 at_, .slice A10 lg.length lg.length, .slice A11 dt.length dt.length] 38)).alloc (.cells #[.slice none 0 0, .slice none 0 0, .int .i64 0, .bool false, .int .i64 0, .int .i64 0, .int .i64 0, .int .i64 0, .int .i64 0, .int .i64 0, .slice none 0 0, .slice none 0 0] 38)) = w0 at *
  refine C1.out.mono ?_
  rintro e w1 ⟨rfl, g⟩
  have B1 := Lib.hid (B0.out.trans (g.mono B0.out.size))
  have R1 := Lib.hid ((g.block _ (by have := Z0.out; omega)).trans R0.out)
  have Q1 := Lib.hid ((g.block _ (by have := Z0.out; omega)).trans Q0.out)
  have Z1 : Hid (w.heap.size + 2 ≤ w1.heap.size) := Lib.hid (by have := Z0.out; have := g.size; omega)
  clear g
  cases z
  · skip
    go_wp2_with (refine wpList_store_row rfl 38 (.tmp 6) (.tmp 12) rfl (w.heap.size + 1) #[.slice none 0 0, .slice none 0 0, .int .i64 0, .bool false, .int .i64 0, .int .i64 0, .int .i64 0, .int .i64 0, .int .i64 0, .int .i64 0, .slice none 0 0, .slice none 0 0] rfl rfl 38 _ Q1.out infoP rfl (onePv ..) ?_)
    refine bodyPost_ret (v := .tuple #[.agg #[.slice none 0 0, .slice none 0 0, .int .i64 0, .bool false, .int .i64 0, .int .i64 0, .int .i64 0, .int .i64 0, .int .i64 0, .int .i64 0, .slice none 0 0, .slice none 0 0], .int .i64 1]) ?_ rfl ?_
    · exact results_cell_row2 rfl _ _ (w.heap.size + 1) 38 _ (0, 0) _ _ rfl rfl (setRow_heap _ _ _ _ _ _ Q1.out) Tryz.underlying38 rfl (by kernel_rfl)
    · rw [HC.out]; exact AnsP.zero (mk := mkC 1) (by rw [HO.out]; rfl) (by omega) (by have := Z1.out; omega) B1.out
  have HQ := Lib.hid (Hok.out rfl); have HP := Lib.hid (Hpl.out rfl); have HB := Lib.hid (Hpb.out rfl); clear Hok Hpl Hpb
  go_wp2_with fail
  refine (specBlocksFor_any (w := w1) xw (Nat.le_refl _)).mono ?_
  rintro e w2 ⟨rfl, g⟩
  have B2 := Lib.hid (B1.out.trans (g.mono B1.out.size))
  have R2 := Lib.hid ((g.block _ (by have := Z1.out; omega)).trans R1.out)
  have Q2 := Lib.hid ((g.block _ (by have := Z1.out; omega)).trans Q1.out)
  have Z2 : Hid (w.heap.size + 2 ≤ w2.heap.size) := Lib.hid (by have := Z1.out; have := g.size; omega)
  clear g
  have hdd := @dtB_iff b l k (bkF (x.size : Int)) HB.out.2.2.2.1 HB.out.1
  have C2 := Lib.hid (l13Data_any k (bkF (x.size : Int)) R2.out HQ.out.1 Ik.out)
  generalize hdt : dtB b l k (bkF (x.size : Int)) = y at *
  go_wp2_with fail
  refine C2.out.mono ?_
  rintro e w3 ⟨rfl, g⟩
  have B3 := Lib.hid (B2.out.trans (g.mono B2.out.size))
  have R3 := Lib.hid ((g.block _ (by have := Z2.out; omega)).trans R2.out)
  have Q3 := Lib.hid ((g.block _ (by have := Z2.out; omega)).trans Q2.out)
  have Z3 : Hid (w.heap.size + 2 ≤ w3.heap.size) := Lib.hid (by have := Z2.out; have := g.size; omega)
  clear g
  clear hdt
  cases y
  · skip
    go_wp2_with (refine wpList_store_row rfl 38 (.tmp 6) (.tmp 19) rfl (w.heap.size + 1) #[.slice none 0 0, .slice none 0 0, .int .i64 0, .bool false, .int .i64 0, .int .i64 0, .int .i64 0, .int .i64 0, .int .i64 0, .int .i64 0, .slice none 0 0, .slice none 0 0] rfl rfl 38 _ Q3.out infoP rfl (onePv ..) ?_)
    refine bodyPost_ret (v := .tuple #[.agg #[.slice none 0 0, .slice none 0 0, .int .i64 0, .bool false, .int .i64 0, .int .i64 0, .int .i64 0, .int .i64 0, .int .i64 0, .int .i64 0, .slice none 0 0, .slice none 0 0], .int .i64 2]) ?_ rfl ?_
    · exact results_cell_row2 rfl _ _ (w.heap.size + 1) 38 _ (0, 0) _ _ rfl rfl (setRow_heap _ _ _ _ _ _ Q3.out) Tryz.underlying38 rfl (by kernel_rfl)
    · rw [HC.out]; exact AnsP.zero (mk := mkC 2) (by rw [HO.out]; rfl) (by omega) (by have := Z3.out; omega) B3.out
  have hd2 := hdd.1 rfl
  have hbig := bkF_big hd2.1
  have Hn : Hid (∃ n : Nat, bkF (x.size : Int) = (n : Int) ∧ 1 ≤ n ∧ 0 ≤ k ∧ k + (n : Int) ≤ 256 ∧ x.size ≤ 65536) := Lib.hid ⟨(bkF (x.size : Int)).toNat, by omega, by omega, by have := HB.out; omega, by have := HB.out; omega, by omega⟩
  clear hdd hd2 hbig
  obtain ⟨n, en, n1, n2, n3, n4⟩ := Hn.out
  have HP2 : Hid (P = pgsP k (paD x (n : Int)) n) := Lib.hid (by rw [HP1.out, en, Int.toNat_natCast])
  go_wp2_with fail
  refine (l12Own_any R3.out (H0.out.at (Nat.le_refl _) B3.out) (H1.out.at (Nat.le_refl _) B3.out) (H10.out.at (Nat.le_refl _) B3.out) (H11.out.at (Nat.le_refl _) B3.out) z0 z1 (by have := HP.out.1; omega) (by have := HP.out.2.1; omega)).mono ?_
  rintro e w4 ⟨X0, X1, X10, X11, x0, x1, x10, x11, rfl, pg, g⟩
  have Pg := Lib.hid pg; clear pg
  have Zl : Hid (w3.heap.size ≤ w4.heap.size) := Lib.hid g.size
  have B4 := Lib.hid (B3.out.trans (g.mono B3.out.size))
  have R4 := Lib.hid ((g.block _ (by have := Z3.out; omega)).trans R3.out)
  have Q4 := Lib.hid ((g.block _ (by have := Z3.out; omega)).trans Q3.out)
  have Z4 : Hid (w.heap.size + 2 ≤ w4.heap.size) := Lib.hid (by have := Z3.out; have := g.size; omega)
  clear g
  have Rb : Hid ((w4.alloc (.cells #[.slice X0 ss.length x0, .slice X1 ps.length x1, .int .i64 fz, .bool off, .int .i64 b, .int .i64 l, .int .i64 q, .int .i64 t, .int .i64 sq, .int .i64 at_, .slice X10 lg.length x10, .slice X11 dt.length x11] 38)).heap[w4.heap.size]? = some (.cells #[.slice X0 ss.length x0, .slice X1 ps.length x1, .int .i64 fz, .bool off, .int .i64 b, .int .i64 l, .int .i64 q, .int .i64 t, .int .i64 sq, .int .i64 at_, .slice X10 lg.length x10, .slice X11 dt.length x11] 38 (0, 0))) := Lib.hid (heap_alloc_new w4 _)
  have Bb : Hid (Below w4.heap.size w4 (w4.alloc (.cells #[.slice X0 ss.length x0, .slice X1 ps.length x1, .int .i64 fz, .bool off, .int .i64 b, .int .i64 l, .int .i64 q, .int .i64 t, .int .i64 sq, .int .i64 at_, .slice X10 lg.length x10, .slice X11 dt.length x11] 38))) := Lib.hid ((Below.refl _ _).alloc (Nat.le_refl _) _)
  have Pb := Lib.hid (Pg.out.bel Bb.out)
  have Q5 := Lib.hid ((Bb.out.block _ (by have := Z4.out; omega)).trans Q4.out)
  have B5 := Lib.hid (B4.out.trans (Bb.out.mono B4.out.size))
  go_wp2_with fail
  generalize (w4.alloc (.cells #[.slice X0 ss.length x0, .slice X1 ps.length x1, .int .i64 fz, .bool off, .int .i64 b, .int .i64 l, .int .i64 q, .int .i64 t, .int .i64 sq, .int .i64 at_, .slice X10 lg.length x10, .slice X11 dt.length x11] 38)) = w5 at *
  have C3 := Lib.hid (l13Write_any (n := n) (a := k) (s := x) Rb.out ((Pb.out.2.2.2.1).riu H11.out.wf) HP.out.2.1 en n1 n2 n3 n4)
  rw [← HP2.out] at C3
  generalize mgs dt P = M at *
  generalize ftOk l (M.length : Int) = r at *
  refine C3.out.mono ?_
  rintro e w6 ⟨rfl, g6, fin⟩
  have Fin := Lib.hid fin; clear fin
  have Q6 := Lib.hid (grown_blk g6 (by have := Z4.out; have := Bb.out.size; omega) (by have := Z4.out; omega) Q5.out)
  have B6 : Hid (Below w.heap.size w w6) := Lib.hid (B5.out.grown g6 B5.out.size (fun j hj => by cases hj; have := Z4.out; omega))
  have Z6 : Hid (w.heap.size + 2 ≤ w6.heap.size) := Lib.hid (by have := Z4.out; have := g6.size; have := Bb.out.size; omega)
  cases r
  · have ec : wrC false = 5 := rfl
    rw [ec]
    go_wp2_with (refine wpList_store_row rfl 38 (.tmp 6) (.tmp 26) rfl (w.heap.size + 1) #[.slice none 0 0, .slice none 0 0, .int .i64 0, .bool false, .int .i64 0, .int .i64 0, .int .i64 0, .int .i64 0, .int .i64 0, .int .i64 0, .slice none 0 0, .slice none 0 0] rfl rfl 38 _ Q6.out infoP rfl (onePv ..) ?_)
    refine bodyPost_ret (v := .tuple #[.agg #[.slice none 0 0, .slice none 0 0, .int .i64 0, .bool false, .int .i64 0, .int .i64 0, .int .i64 0, .int .i64 0, .int .i64 0, .int .i64 0, .slice none 0 0, .slice none 0 0], .int .i64 5]) ?_ rfl ?_
    · exact results_cell_row2 rfl _ _ (w.heap.size + 1) 38 _ (0, 0) _ _ rfl rfl (setRow_heap _ _ _ _ _ _ Q6.out) Tryz.underlying38 rfl (by kernel_rfl)
    · rw [HC.out]; exact AnsP.zero (mk := mkC 5) (by rw [HO.out]; rfl) (by omega) (by have := Z6.out; omega) B6.out
  have ec : wrC true = 0 := rfl
  rw [ec]
  obtain ⟨Y, y, hrow, ho⟩ := Fin.out rfl
  have Hr := Lib.hid hrow
  have Pf : Hid (PgO w6 w3.heap.size (.slice X0 ss.length x0) (.slice X1 ps.length x1) (.slice X10 lg.length x10) (.slice Y M.length y) ss ps lg M) := Lib.hid (pgo_box Pb.out Pg.out g6 ho)
  clear hrow ho g6 Fin
  go_wp2_with (first | (refine wpList_load_row rfl 38 (.tmp 8) rfl _ rfl 38 _ (0, 0) _ Hr.out Tryz.underlying38 rfl (by kernel_rfl) ?_) | (refine wpList_store_row rfl 38 (.tmp 6) (.tmp 28) rfl (w.heap.size + 1) #[.slice X0 ss.length x0, .slice X1 ps.length x1, .int .i64 fz, .bool off, .int .i64 b, .int .i64 l, .int .i64 q, .int .i64 t, .int .i64 sq, .int .i64 at_, .slice X10 lg.length x10, .slice Y M.length y] rfl rfl 38 _ Q6.out infoP rfl (onePv ..) ?_))
  refine bodyPost_ret (v := .tuple #[.agg #[.slice X0 ss.length x0, .slice X1 ps.length x1, .int .i64 fz, .bool off, .int .i64 b, .int .i64 l, .int .i64 q, .int .i64 t, .int .i64 sq, .int .i64 at_, .slice X10 lg.length x10, .slice Y M.length y], .int .i64 0]) ?_ rfl ?_
  · exact results_cell_row2 rfl _ _ (w.heap.size + 1) 38 _ (0, 0) _ _ rfl rfl (setRow_heap _ _ _ _ _ _ Q6.out) Tryz.underlying38 rfl (by kernel_rfl)
  · rw [HC.out]; exact AnsP.full (by rw [HO.out]; rfl) (AnsP.end (mk := mkC 0) (lo := w3.heap.size) Pf.out (by have := Z3.out; omega) (by omega) B6.out)
end Go.Proofs.YtplfnlalmcpcaaaGreat
namespace Go.Proofs.YtplfnlalmcpcaaaGreat
open Go.RowKit Go.Maps
set_option linter.unusedVariables false
set_option maxHeartbeats 4000000 in
set_option maxRecDepth 100000 in
theorem implWriteRun_any {w : World} {A0 A1 A10 A11 : Option Addr} {ss : List ByteArray} {ps lg dt : List Pt} {fz b l q t sq at_ : Int} {off : Bool} {k : Int} {x : ByteArray} (h0 : RiT w.heap.size w (.slice A0 ss.length ss.length) ss) (h1 : RiU w.heap.size w (.slice A1 ps.length ps.length) ps) (h10 : RiU w.heap.size w (.slice A10 lg.length lg.length) lg) (h11 : RiU w.heap.size w (.slice A11 dt.length dt.length) dt) (z0 : ss.length ≤ 1048576) (z1 : ps.length ≤ 1048576) (i4 : InI b) (i5 : InI l) (hk : (Lit.int .i64 k).wf = true) (hx : x.size ≤ maxLen) (hx2 : x.size ≤ 1048576) :
    Calls Tryz.prog 24 #[.agg #[.slice A0 ss.length ss.length, .slice A1 ps.length ps.length, .int .i64 fz, .bool off, .int .i64 b, .int .i64 l, .int .i64 q, .int .i64 t, .int .i64 sq, .int .i64 at_, .slice A10 lg.length lg.length, .slice A11 dt.length dt.length], .int .i64 k, .string x] w (AnsP (mkC (wrK ss ps fz off b l q t sq at_ lg dt k x)) (sT (wrO ss ps fz off b l q t sq at_ lg dt k x) ss) (sT (wrO ss ps fz off b l q t sq at_ lg dt k x) ps) (sI (wrO ss ps fz off b l q t sq at_ lg dt k x) fz) (sB (wrO ss ps fz off b l q t sq at_ lg dt k x) off) (sI (wrO ss ps fz off b l q t sq at_ lg dt k x) b) (sI (wrO ss ps fz off b l q t sq at_ lg dt k x) l) (sI (wrO ss ps fz off b l q t sq at_ lg dt k x) q) (sI (wrO ss ps fz off b l q t sq at_ lg dt k x) t) (sI (wrO ss ps fz off b l q t sq at_ lg dt k x) sq) (sI (wrO ss ps fz off b l q t sq at_ lg dt k x) at_) (sT (wrO ss ps fz off b l q t sq at_ lg dt k x) lg) (sT (wrO ss ps fz off b l q t sq at_ lg dt k x) (mgs dt (wrP k x))) w) := by
  have ik : InI k := by unfold InI; simp [Lit.wf, IntKind.min, IntKind.max, IntKind.signed, IntKind.bits] at hk; omega
  have Ik := Lib.hid ik
  have HO : Hid ((wrO ss ps fz off b l q t sq at_ lg dt k x) = (pgrOk ss ps fz off b l q t sq at_ lg dt && (dtB b l k (bkF (x.size : Int)) && ftOk l ((mgs dt (wrP k x)).length : Int)))) := Lib.hid rfl
  have HC : Hid ((wrK ss ps fz off b l q t sq at_ lg dt k x) = if pgrOk ss ps fz off b l q t sq at_ lg dt then (if dtB b l k (bkF (x.size : Int)) then wrC (ftOk l ((mgs dt (wrP k x)).length : Int)) else 2) else 1) := Lib.hid rfl
  have HP1 : Hid (wrP k x = pgsP k (paD x (bkF (x.size : Int))) (bkF (x.size : Int)).toNat) := Lib.hid rfl
  generalize (wrO ss ps fz off b l q t sq at_ lg dt k x) = O at *
  generalize (wrK ss ps fz off b l q t sq at_ lg dt k x) = C at *
  generalize wrP k x = P at *
  have Hok := Lib.hid (pgrOk_t (ss := ss) (ps := ps) (fz := fz) (off := off) (b := b) (l := l) (q := q) (t := t) (sq := sq) (at_ := at_) (lg := lg) (dt := dt))
  have Hpb := Lib.hid (pgrOk_b (ss := ss) (ps := ps) (fz := fz) (off := off) (b := b) (l := l) (q := q) (t := t) (sq := sq) (at_ := at_) (lg := lg) (dt := dt))
  have Hpl := Lib.hid (pgrOk_l (ss := ss) (ps := ps) (fz := fz) (off := off) (b := b) (l := l) (q := q) (t := t) (sq := sq) (at_ := at_) (lg := lg) (dt := dt))
  have bw : InI (bkF (x.size : Int)) := by
    unfold InI bkF
    cases hi : inB (x.size : Int) 0 65536
    · simp
    · have h2 := inB_iff.1 hi; have := bkN_b h2.1 h2.2; simp; omega
  have Bw := Lib.hid bw; clear bw
  have xw : (Lit.int .i64 (x.size : Int)).wf = true := WalkArith.wf_i64 (by omega)
  have H0 := Lib.hid h0; have H1 := Lib.hid h1; have H10 := Lib.hid h10; have H11 := Lib.hid h11
  clear h0 h1 h10 h11
  have B0 : Hid (Below w.heap.size w ((w.alloc (.cells #[.slice A0 ss.length ss.length, .slice A1 ps.length ps.length, .int .i64 fz, .bool off, .int .i64 b, .int .i64 l, .int .i64 q, .int .i64 t, .int .i64 sq, .int .i64 at_, .slice A10 lg.length lg.length, .slice A11 dt.length dt.length] 38)).alloc (.cells #[.slice none 0 0, .slice none 0 0, .int .i64 0, .bool false, .int .i64 0, .int .i64 0, .int .i64 0, .int .i64 0, .int .i64 0, .int .i64 0, .slice none 0 0, .slice none 0 0] 38))) := Lib.hid (((Below.refl _ w).alloc (Nat.le_refl _) _).alloc (by simp) _)
  have R0 : Hid (((w.alloc (.cells #[.slice A0 ss.length ss.length, .slice A1 ps.length ps.length, .int .i64 fz, .bool off, .int .i64 b, .int .i64 l, .int .i64 q, .int .i64 t, .int .i64 sq, .int .i64 at_, .slice A10 lg.length lg.length, .slice A11 dt.length dt.length] 38)).alloc (.cells #[.slice none 0 0, .slice none 0 0, .int .i64 0, .bool false, .int .i64 0, .int .i64 0, .int .i64 0, .int .i64 0, .int .i64 0, .int .i64 0, .slice none 0 0, .slice none 0 0] 38)).heap[w.heap.size]? = some (.cells #[.slice A0 ss.length ss.length, .slice A1 ps.length ps.length, .int .i64 fz, .bool off, .int .i64 b, .int .i64 l, .int .i64 q, .int .i64 t, .int .i64 sq, .int .i64 at_, .slice A10 lg.length lg.length, .slice A11 dt.length dt.length] 38 (0, 0))) := Lib.hid (heap_alloc2_old w _ _)
  have Q0 : Hid (((w.alloc (.cells #[.slice A0 ss.length ss.length, .slice A1 ps.length ps.length, .int .i64 fz, .bool off, .int .i64 b, .int .i64 l, .int .i64 q, .int .i64 t, .int .i64 sq, .int .i64 at_, .slice A10 lg.length lg.length, .slice A11 dt.length dt.length] 38)).alloc (.cells #[.slice none 0 0, .slice none 0 0, .int .i64 0, .bool false, .int .i64 0, .int .i64 0, .int .i64 0, .int .i64 0, .int .i64 0, .int .i64 0, .slice none 0 0, .slice none 0 0] 38)).heap[w.heap.size + 1]? = some (.cells #[.slice none 0 0, .slice none 0 0, .int .i64 0, .bool false, .int .i64 0, .int .i64 0, .int .i64 0, .int .i64 0, .int .i64 0, .int .i64 0, .slice none 0 0, .slice none 0 0] 38 (0, 0))) := Lib.hid (heap_alloc2_new w _ _)
  have Z0 : Hid (w.heap.size + 2 ≤ ((w.alloc (.cells #[.slice A0 ss.length ss.length, .slice A1 ps.length ps.length, .int .i64 fz, .bool off, .int .i64 b, .int .i64 l, .int .i64 q, .int .i64 t, .int .i64 sq, .int .i64 at_, .slice A10 lg.length lg.length, .slice A11 dt.length dt.length] 38)).alloc (.cells #[.slice none 0 0, .slice none 0 0, .int .i64 0, .bool false, .int .i64 0, .int .i64 0, .int .i64 0, .int .i64 0, .int .i64 0, .int .i64 0, .slice none 0 0, .slice none 0 0] 38)).heap.size) := Lib.hid (by simp)
  have C1 := Lib.hid (implValidPager_any (fz := fz) (off := off) (b := b) (l := l) (q := q) (t := t) (sq := sq) (at_ := at_) (H0.out.at (Nat.le_refl _) B0.out) (H1.out.at (Nat.le_refl _) B0.out) (H10.out.at (Nat.le_refl _) B0.out) (H11.out.at (Nat.le_refl _) B0.out) (Nat.le_refl _) i4 i5)
  generalize pgrOk ss ps fz off b l q t sq at_ lg dt = z at *
  go_enter Tryz.func24, Tryz.ntmps24
  go_wp2_with (refine wpList_load_row rfl 38 (.tmp 3) rfl _ rfl 38 _ (0, 0) _ R0.out Tryz.underlying38 rfl (by kernel_rfl) ?_)
  generalize ((w.alloc (.cells #[.slice A0 ss.length ss.length, .slice A1 ps.length ps.length, .int .i64 fz, .bool off, .int .i64 b, .int .i64 l, .int .i64 q, .int .i64 t, .int .i64 sq, .int .i64 at_, .slice A10 lg.length lg.length, .slice A11 dt.length dt.length] 38)).alloc (.cells #[.slice none 0 0, .slice none 0 0, .int .i64 0, .bool false, .int .i64 0, .int .i64 0, .int .i64 0, .int .i64 0, .int .i64 0, .int .i64 0, .slice none 0 0, .slice none 0 0] 38)) = w0 at *
  refine C1.out.mono ?_
  rintro e w1 ⟨rfl, g⟩
  have B1 := Lib.hid (B0.out.trans (g.mono B0.out.size))
  have R1 := Lib.hid ((g.block _ (by have := Z0.out; omega)).trans R0.out)
  have Q1 := Lib.hid ((g.block _ (by have := Z0.out; omega)).trans Q0.out)
  have Z1 : Hid (w.heap.size + 2 ≤ w1.heap.size) := Lib.hid (by have := Z0.out; have := g.size; omega)
  clear g
  cases z
  · skip
    go_wp2_with (refine wpList_store_row rfl 38 (.tmp 6) (.tmp 16) rfl (w.heap.size + 1) #[.slice none 0 0, .slice none 0 0, .int .i64 0, .bool false, .int .i64 0, .int .i64 0, .int .i64 0, .int .i64 0, .int .i64 0, .int .i64 0, .slice none 0 0, .slice none 0 0] rfl rfl 38 _ Q1.out infoP rfl (onePv ..) ?_)
    refine bodyPost_ret (v := .tuple #[.agg #[.slice none 0 0, .slice none 0 0, .int .i64 0, .bool false, .int .i64 0, .int .i64 0, .int .i64 0, .int .i64 0, .int .i64 0, .int .i64 0, .slice none 0 0, .slice none 0 0], .int .i64 1]) ?_ rfl ?_
    · exact results_cell_row2 rfl _ _ (w.heap.size + 1) 38 _ (0, 0) _ _ rfl rfl (setRow_heap _ _ _ _ _ _ Q1.out) Tryz.underlying38 rfl (by kernel_rfl)
    · rw [HC.out]; exact AnsP.zero (mk := mkC 1) (by rw [HO.out]; rfl) (by omega) (by have := Z1.out; omega) B1.out
  have HQ := Lib.hid (Hok.out rfl); have HP := Lib.hid (Hpl.out rfl); have HB := Lib.hid (Hpb.out rfl); clear Hok Hpl Hpb
  go_wp2_with fail
  refine (implBlocksFor_any (w := w1) xw (Nat.le_refl _)).mono ?_
  rintro e w2 ⟨rfl, g⟩
  have B2 := Lib.hid (B1.out.trans (g.mono B1.out.size))
  have R2 := Lib.hid ((g.block _ (by have := Z1.out; omega)).trans R1.out)
  have Q2 := Lib.hid ((g.block _ (by have := Z1.out; omega)).trans Q1.out)
  have Z2 : Hid (w.heap.size + 2 ≤ w2.heap.size) := Lib.hid (by have := Z1.out; have := g.size; omega)
  clear g
  have hdd := @dtB_iff b l k (bkF (x.size : Int)) HB.out.2.2.2.1 HB.out.1
  have C2 := Lib.hid (hasRun_any (b := b) (l := l) (q := q) (t := t) k (bkF (x.size : Int)) w2 HQ.out.1 Bw.out)
  have Hld := Lib.hid (run_load_cells (P := Tryz.prog) w2 w.heap.size 4 35 _ [.int .i64 b, .int .i64 l, .int .i64 q, .int .i64 t] (row_part R2.out (by intro j u hj; rcases j with _ | _ | _ | _ | j; all_goals first | exact hj | simp at hj)) Tryz.underlying35 rfl)
  generalize hdt : dtB b l k (bkF (x.size : Int)) = y at *
  go_wp2_with (refine wpList_load_agg rfl 35 (.tmp 20) rfl _ rfl _ Hld.out ?_)
  clear Hld
  refine C2.out.mono ?_
  rintro e w3 ⟨rfl, g⟩
  have B3 := Lib.hid (B2.out.trans (g.mono B2.out.size))
  have R3 := Lib.hid ((g.block _ (by have := Z2.out; omega)).trans R2.out)
  have Q3 := Lib.hid ((g.block _ (by have := Z2.out; omega)).trans Q2.out)
  have Z3 : Hid (w.heap.size + 2 ≤ w3.heap.size) := Lib.hid (by have := Z2.out; have := g.size; omega)
  clear g
  clear hdt
  cases y
  · skip
    go_wp2_with (refine wpList_store_row rfl 38 (.tmp 6) (.tmp 26) rfl (w.heap.size + 1) #[.slice none 0 0, .slice none 0 0, .int .i64 0, .bool false, .int .i64 0, .int .i64 0, .int .i64 0, .int .i64 0, .int .i64 0, .int .i64 0, .slice none 0 0, .slice none 0 0] rfl rfl 38 _ Q3.out infoP rfl (onePv ..) ?_)
    refine bodyPost_ret (v := .tuple #[.agg #[.slice none 0 0, .slice none 0 0, .int .i64 0, .bool false, .int .i64 0, .int .i64 0, .int .i64 0, .int .i64 0, .int .i64 0, .int .i64 0, .slice none 0 0, .slice none 0 0], .int .i64 2]) ?_ rfl ?_
    · exact results_cell_row2 rfl _ _ (w.heap.size + 1) 38 _ (0, 0) _ _ rfl rfl (setRow_heap _ _ _ _ _ _ Q3.out) Tryz.underlying38 rfl (by kernel_rfl)
    · rw [HC.out]; exact AnsP.zero (mk := mkC 2) (by rw [HO.out]; rfl) (by omega) (by have := Z3.out; omega) B3.out
  have hd2 := hdd.1 rfl
  have hbig := bkF_big hd2.1
  have Hn : Hid (∃ n : Nat, bkF (x.size : Int) = (n : Int) ∧ 1 ≤ n ∧ 0 ≤ k ∧ k + (n : Int) ≤ 256 ∧ x.size ≤ 65536) := Lib.hid ⟨(bkF (x.size : Int)).toNat, by omega, by omega, by have := HB.out; omega, by have := HB.out; omega, by omega⟩
  clear hdd hd2 hbig
  obtain ⟨n, en, n1, n2, n3, n4⟩ := Hn.out
  have HP2 : Hid (P = pgsP k (paD x (n : Int)) n) := Lib.hid (by rw [HP1.out, en, Int.toNat_natCast])
  have hb := bkN_b (n := (x.size : Int)) (by omega) (by omega)
  have hb2 : bkF (x.size : Int) = bkN (x.size : Int) := by have hi : inB (x.size : Int) 0 65536 = true := inB_iff.2 (by omega); unfold bkF; rw [hi]; rfl
  have HPS := Lib.hid (paD_size (s := x) (n := (n : Int)) (by omega) (by omega))
  have HPV : Hid (padV x ((n : Int) * 64) = .tuple #[.string (paD x (n : Int)), .bool true]) := Lib.hid (padV_yes ⟨by omega, by omega⟩)
  have C3 := Lib.hid (implPad_any x ((n : Int) * 64) (by omega) hx2 w3)
  rw [HPV.out] at C3
  have l8 := (sup_b HQ.out.1).2.2.1
  clear hb hb2 HP1
  have EN := Lib.hid en
  rw [en]
  clear en
  have HPL : Hid (P.length = n) := Lib.hid (by rw [HP2.out]; exact pgsP_len _ _ _)
  have HPA : Hid (∀ (j : Nat) (hj : j < P.length), P[j] = (k + (j : Int), (paD x (n : Int)).extract (j * 64) ((j + 1) * 64))) := Lib.hid (by rw [HP2.out]; exact pgsP_at _ _ _)
  generalize paD x (n : Int) = xx at *
  have hmx : (n : Int) * 64 ≤ 16384 := by omega
  go_wp2_with fail
  refine C3.out.mono ?_
  rintro e w4 ⟨rfl, g⟩
  have B4 := Lib.hid (B3.out.trans (g.mono B3.out.size))
  have R4 := Lib.hid ((g.block _ (by have := Z3.out; omega)).trans R3.out)
  have Q4 := Lib.hid ((g.block _ (by have := Z3.out; omega)).trans Q3.out)
  have Z4 : Hid (w.heap.size + 2 ≤ w4.heap.size) := Lib.hid (by have := Z3.out; have := g.size; omega)
  clear g
  obtain ⟨Ca, hCa, hmk⟩ := make_all (P := Tryz.prog) 36 77 n 2 24 Tryz.underlying36 Tryz.infoG (by omega) (by omega)
  have HCa := Lib.hid hCa; clear hCa
  have Bm : Hid (Below w4.heap.size w4 (w4.alloc (.cells Ca 77))) := Lib.hid ((Below.refl _ _).alloc (Nat.le_refl _) _)
  have HR0 : Hid ((w4.alloc (.cells Ca 77)).heap[w4.heap.size]? = some (.cells Ca 77 (0, 0))) := Lib.hid (heap_alloc_new w4 _)
  have HZ0 : Hid (w4.heap.size < (w4.alloc (.cells Ca 77)).heap.size) := Lib.hid (by simp)
  go_wp2_with fail
  go_loopw [38] (fun i wr => ∃ j : Nat, ∃ C' : Array Value, j ≤ n ∧ i = .int .i64 j ∧ wr.heap[w4.heap.size]? = some (.cells C' 77 (0, 0)) ∧ C'.size = n * 2 ∧ (∀ m (hm : m < P.length), m < j → C'[m * 2]? = some (.int .i64 P[m].1) ∧ C'[m * 2 + 1]? = some (.string P[m].2)) ∧ w4.heap.size < wr.heap.size ∧ Below w4.heap.size w4 wr) (fun i _ => n - (intOf i).toNat)
  case atStart => exact ⟨0, Ca, Nat.zero_le _, rfl, HR0.out, HCa.out, fun j hj h => absurd h (by omega), HZ0.out, Bm.out⟩
  case round =>
    obtain ⟨j, C', hj, rfl, hrow, hsz, hall, hws, hbel⟩ := hrel
    have Hall := Lib.hid hall; have Hsz := Lib.hid hsz; have Hrow := Lib.hid hrow; have Hbel := Lib.hid hbel
    clear hall hsz hrow hbel
    by_cases hlt : j < n
    · have d1 : decide ((j : Int) < (n : Int)) = true := decide_eq_true (by omega)
      have hPj : j < P.length := by rw [HPL.out]; exact hlt
      have Hp := Lib.hid (HPA.out j hPj)
      have hz1 : (0 : Int) ≤ (j : Int) * 64 := by omega
      have hz2 : (j : Int) * 64 ≤ ((j : Int) + 1) * 64 := by omega
      have hz3 : ((j : Int) + 1) * 64 ≤ (xx.size : Int) := by have := HPS.out; omega
      have Hth : Hid (wr.there w4.heap.size (j * 2) 2) := Lib.hid (there_row Hrow.out (by rw [Hsz.out]; omega))
      have Hnew := Lib.hid (heap_setCells2 (o := j * 2) (.int .i64 (k + (j : Int))) (.string (xx.extract (j * 64) ((j + 1) * 64))) Hrow.out)
      have Hb2 : Hid (Below w4.heap.size w4 (wr.setCells w4.heap.size (j * 2) [.int .i64 (k + (j : Int)), .string (xx.extract (j * 64) ((j + 1) * 64))])) := Lib.hid (below_setCells (Nat.le_refl _) _ _ Hbel.out)
      have Hz2 : Hid (w4.heap.size < (wr.setCells w4.heap.size (j * 2) [.int .i64 (k + (j : Int)), .string (xx.extract (j * 64) ((j + 1) * 64))]).heap.size) := Lib.hid (by rw [size_setCells]; omega)
      have Hall2 : Hid (∀ m (hm : m < P.length), m < j + 1 → ((C'.setIfInBounds (j * 2) (.int .i64 (k + (j : Int)))).setIfInBounds (j * 2 + 1) (.string (xx.extract (j * 64) ((j + 1) * 64))))[m * 2]? = some (.int .i64 P[m].1) ∧ ((C'.setIfInBounds (j * 2) (.int .i64 (k + (j : Int)))).setIfInBounds (j * 2 + 1) (.string (xx.extract (j * 64) ((j + 1) * 64))))[m * 2 + 1]? = some (.string P[m].2)) := Lib.hid (fun m hm hmj => by
        have hsz := Hsz.out
        by_cases e : j = m
        · subst e
          rw [Hp.out]
          refine ⟨?_, ?_⟩
          · rw [Array.getElem?_setIfInBounds, if_neg (by omega), Array.getElem?_setIfInBounds, if_pos rfl, if_pos (by omega)]
          · rw [Array.getElem?_setIfInBounds, if_pos rfl, if_pos (by rw [Array.size_setIfInBounds]; omega)]
        · obtain ⟨h1, h2⟩ := Hall.out m hm (by omega)
          refine ⟨?_, ?_⟩
          · rw [Array.getElem?_setIfInBounds, if_neg (by omega), Array.getElem?_setIfInBounds, if_neg (by omega)]; exact h1
          · rw [Array.getElem?_setIfInBounds, if_neg (by omega), Array.getElem?_setIfInBounds, if_neg (by omega)]; exact h2)
      go_wp2_with (refine wpList_store_mid rfl 77 (.tmp 54) (.tmp 53) rfl _ (j * 2) #[.int .i64 (k + (j : Int)), .string (xx.extract (j * 64) ((j + 1) * 64))] rfl rfl Hth.out (by kernel_rfl) (by simp [Value.oneCell']) ?_)
      go_roundw
      case rel => exact ⟨j + 1, _, by omega, by go_num, Hnew.out, by simp [Hsz.out], Hall2.out, Hz2.out, Hb2.out⟩
      case measure => simp [intOf]; omega
    · have d1 : decide ((j : Int) < (n : Int)) = false := decide_eq_false (by omega)
      have HPr : Hid (RowG wr w4.heap.size P) := Lib.hid (by
        unfold RowG
        rw [← cellsU_of (by rw [HPL.out]; exact Hsz.out) (fun m hm => Hall.out m hm (by rw [HPL.out] at hm; omega))]; exact Hrow.out)
      have Bw5 := Lib.hid (B4.out.trans (Hbel.out.mono B4.out.size))
      have Q5 := Lib.hid ((Hbel.out.block _ (by have := Z4.out; omega)).trans Q4.out)
      have R5 := Lib.hid ((Hbel.out.block _ (by have := Z4.out; omega)).trans R4.out)
      have Z5 : Hid (w.heap.size + 2 ≤ wr.heap.size) := Lib.hid (by have := Z4.out; have := Hbel.out.size; omega)
      have HRi : Hid (RiU wr.heap.size wr (.slice (some ⟨w4.heap.size, 0, none⟩) n n) P) := Lib.hid (by
        have := (OG.of_row HPr.out (Nat.le_refl _) (by rw [HPL.out]; unfold maxLen; omega)).riu (fun p hp => by
          obtain ⟨m, hm, rfl⟩ := List.getElem_of_mem hp
          rw [HPA.out m hm]
          rw [HPL.out] at hm
          exact ⟨by unfold InI; show _ ≤ k + (m : Int) ∧ k + (m : Int) < _; omega, by show (xx.extract _ _).size ≤ _; rw [ByteArray.size_extract]; unfold maxLen; have := HPS.out; omega⟩)
        rwa [HPL.out] at this)
      have C5 := Lib.hid (changed_any (fz := fz) (off := off) (b := b) (l := l) (q := q) (t := t) (sq := sq) (at_ := at_) (H0.out.at (Nat.le_refl _) Bw5.out) (H1.out.at (Nat.le_refl _) Bw5.out) (H10.out.at (Nat.le_refl _) Bw5.out) (H11.out.at (Nat.le_refl _) Bw5.out) HRi.out (Nat.le_refl _) z0 z1 (by have := HP.out.1; omega) (by have := HP.out.2.1; omega) (by rw [HPL.out]; omega) (srt_of_pg HP.out.2.2.1) l8)
      generalize ftOk l ((mgs dt P).length : Int) = r at *
      have EO : Hid (O = r) := Lib.hid (by rw [HO.out]; rfl)
      have EC : Hid (C = if r then 0 else 5) := Lib.hid (by rw [HC.out]; rfl)
      clear HO HC Hall Hsz Hrow HPA
      generalize (if r = true then (0 : Int) else 5) = c at *
      go_wp2_with (refine wpList_load_row rfl 38 (.tmp 3) rfl _ rfl 38 _ (0, 0) _ R5.out Tryz.underlying38 rfl (by kernel_rfl) ?_)
      refine C5.out.mono ?_
      rintro e w6 ⟨X0, X1, X10, X11, x0, x1, x10, x11, rfl, pg, g⟩
      simp only [mkC]
      have Pg := Lib.hid pg
      have B6 := Lib.hid (Bw5.out.trans (g.mono Bw5.out.size))
      have Q6 := Lib.hid ((g.block _ (by have := Z5.out; omega)).trans Q5.out)
      clear pg g
      go_wp2_with (refine wpList_store_row rfl 38 (.tmp 6) (.tmp 59) rfl (w.heap.size + 1) #[.slice X0 (sT r ss).length x0, .slice X1 (sT r ps).length x1, .int .i64 (sI r fz), .bool (sB r off), .int .i64 (sI r b), .int .i64 (sI r l), .int .i64 (sI r q), .int .i64 (sI r t), .int .i64 (sI r sq), .int .i64 (sI r at_), .slice X10 (sT r lg).length x10, .slice X11 (sT r (mgs dt P)).length x11] rfl rfl 38 _ Q6.out infoP rfl (onePv ..) ?_)
      refine bodyPost_ret (v := .tuple #[.agg #[.slice X0 (sT r ss).length x0, .slice X1 (sT r ps).length x1, .int .i64 (sI r fz), .bool (sB r off), .int .i64 (sI r b), .int .i64 (sI r l), .int .i64 (sI r q), .int .i64 (sI r t), .int .i64 (sI r sq), .int .i64 (sI r at_), .slice X10 (sT r lg).length x10, .slice X11 (sT r (mgs dt P)).length x11], .int .i64 c]) ?_ rfl ?_
      · exact results_cell_row2 rfl _ _ (w.heap.size + 1) 38 _ (0, 0) _ _ rfl rfl (setRow_heap _ _ _ _ _ _ Q6.out) Tryz.underlying38 rfl (by kernel_rfl)
      · rw [EO.out, EC.out]; exact AnsP.end (mk := mkC c) (lo := wr.heap.size) Pg.out (by have := Z5.out; omega) (by omega) B6.out
theorem wr_ok {ss : List ByteArray} {ps lg dt : List Pt} {fz b l q t sq at_ : Int} {off : Bool} {k : Int} {x : ByteArray} (hO : wrO ss ps fz off b l q t sq at_ lg dt k x = true) (hd : ∀ p ∈ dt, InI p.1 ∧ p.2.size ≤ maxLen) (hx2 : x.size ≤ 1048576) (zdt : dt.length ≤ 1048576) :
    (∀ p ∈ mgs dt (wrP k x), InI p.1 ∧ p.2.size ≤ maxLen) ∧ (mgs dt (wrP k x)).length ≤ 1300000 := by
  simp only [wrO, Bool.and_eq_true] at hO
  obtain ⟨h1, h2, h3⟩ := hO
  have hb := pgrOk_b h1
  have hd2 := (dtB_iff (b := b) (l := l) (at_ := k) (n := bkF (x.size : Int)) hb.2.2.2.1 hb.1).1 h2
  have hbig := bkF_big hd2.1
  have hb1 := bkN_b (n := (x.size : Int)) (by omega) (by omega)
  have hb2 : bkF (x.size : Int) = bkN (x.size : Int) := by have hi : inB (x.size : Int) 0 65536 = true := inB_iff.2 (by omega); unfold bkF; rw [hi]; rfl
  have hps := paD_size (s := x) (n := bkF (x.size : Int)) (by omega) (by omega)
  refine ⟨fun p hp => ?_, by have := ft_len h3; omega⟩
  rcases mgs_mem _ _ _ hp with h | h
  · obtain ⟨m, hm, rfl⟩ := List.getElem_of_mem h
    have hm2 : m < (bkF (x.size : Int)).toNat := by have := hm; rwa [wrP, pgsP_len] at this
    have e : (wrP k x)[m] = (k + (m : Int), (paD x (bkF (x.size : Int))).extract (m * 64) ((m + 1) * 64)) := pgsP_at _ _ _ m hm
    rw [e]
    exact ⟨by unfold InI; show _ ≤ k + (m : Int) ∧ k + (m : Int) < _; omega, by show ((paD x (bkF (x.size : Int))).extract _ _).size ≤ _; rw [ByteArray.size_extract]; unfold maxLen; omega⟩
  · exact hd p h

end Go.Proofs.YtplfnlalmcpcaaaGreat
namespace Go.Proofs.YtplfnlalmcpcaaaGreat
open Go.RowKit
set_option linter.unusedVariables false
/-- A block that begins with the bytes of a string, and can be written there. -/
def ByR (w : World) (g : Nat) (s : ByteArray) : Prop := ∃ C : Array Value, w.heap[g]? = some (.cells C 5 (C.size, C.size + 1)) ∧ s.size ≤ C.size ∧ ∀ j, j < s.size → C[j]? = some (.int .u8 (s.data.toList.getD j 0).toNat)
theorem cell_row_fr {w : World} {g : Nat} {C : Array Value} {t : TypeId} {fr : Nat × Nat} (h : w.heap[g]? = some (.cells C t fr)) (j : Nat) : w.cell? ⟨g, j, none⟩ = C[j]? := by simp [World.cell?, h]
theorem ByR.a {w : World} {g : Nat} {s : ByteArray} (h : ByR w g s) : ByA w g s := fun j hj => by
  obtain ⟨C, h1, h2, h3⟩ := h
  rw [cell_row_fr h1, h3 j hj]
theorem ByR.same {w w' : World} {g : Nat} {s : ByteArray} (h : ByR w g s) (e : w'.heap[g]? = w.heap[g]?) : ByR w' g s := by
  obtain ⟨C, h1, h2⟩ := h; exact ⟨C, e.trans h1, h2⟩
theorem ByR.lt {w : World} {g : Nat} {s : ByteArray} (h : ByR w g s) : g < w.heap.size := by
  obtain ⟨C, h1, -⟩ := h
  rcases Nat.lt_or_ge g w.heap.size with hl | hl
  · exact hl
  · rw [Array.getElem?_eq_none hl] at h1; cases h1
theorem ByR.bel {w w' : World} {g : Nat} {s : ByteArray} (h : ByR w g s) (hb : Below w.heap.size w w') : ByR w' g s := h.same (hb.block g h.lt)
theorem byR_new (w : World) (s : ByteArray) : ByR (Lib.bytesWorld w 5 s) w.heap.size s := by
  have hr := Lib.bytesWorld_at_new w 5 s
  refine ⟨_, hr, by simp [Lib.bytesCells], fun j hj => ?_⟩
  rw [← cell_row_fr hr]
  exact Lib.bytesWorld_cell w 5 s j hj
theorem ByR.frozen {w : World} {g : Nat} {s : ByteArray} (h : ByR w g s) {j : Nat} (hj : j < s.size) : w.frozen? ⟨g, j, none⟩ = false := by
  obtain ⟨C, h1, h2, -⟩ := h
  simp only [World.frozen?, h1]
  simp; omega
/-- A byte put into a string of bytes. -/
def setB (s : ByteArray) (j : Nat) (b : UInt8) : ByteArray := ⟨s.data.setIfInBounds j b⟩
theorem setB_size (s : ByteArray) (j : Nat) (b : UInt8) : (setB s j b).size = s.size := by show (s.data.setIfInBounds j b).size = s.data.size; simp
theorem setB_at (s : ByteArray) (j : Nat) (b : UInt8) (i : Nat) (hj : j < s.size) (hi : i < s.size) : (setB s j b).data.toList.getD i 0 = if i = j then b else s.data.toList.getD i 0 := by
  have h1 : i < s.data.size := hi
  have h2 : j < s.data.size := hj
  simp only [setB, List.getD_eq_getElem?_getD, Array.getElem?_toList, Array.getElem?_setIfInBounds]
  by_cases e : j = i
  · subst e; rw [if_pos rfl, if_pos rfl, if_pos h1]; rfl
  · rw [if_neg e, if_neg (fun h => e h.symm)]
theorem heap_setCell_fr {w : World} {g j : Nat} {C : Array Value} {t : TypeId} {fr : Nat × Nat} (v : Value) (h : w.heap[g]? = some (.cells C t fr)) : (w.setCell ⟨g, j, none⟩ v).heap[g]? = some (.cells (C.setIfInBounds j v) t fr) := by
  simp only [World.setCell, Array.getElem?_modify, h]
  simp
theorem ByR.set {w : World} {g : Nat} {s : ByteArray} (h : ByR w g s) (j : Nat) (b : UInt8) (hj : j < s.size) {v : Value} (hv : v = .int .u8 b.toNat) : ByR (w.setCell ⟨g, j, none⟩ v) g (setB s j b) := by
  obtain ⟨C, h1, h2, h3⟩ := h
  refine ⟨C.setIfInBounds j v, ?_, by rw [setB_size, Array.size_setIfInBounds]; exact h2, fun i hi => ?_⟩
  · rw [Array.size_setIfInBounds]; exact heap_setCell_fr v h1
  · rw [setB_size] at hi
    rw [setB_at s j b i hj hi, Array.getElem?_setIfInBounds]
    by_cases e : j = i
    · subst e; rw [if_pos rfl, if_pos (by omega), if_pos rfl, hv]
    · rw [if_neg e, if_neg (fun h => e h.symm), h3 i hi]
/-- The space of a Pager: its page in new memory, with the bytes of the allocation page. -/
def SpB (ar : ByteArray) (b l q t : Int) (w : World) (e : Ending) (w' : World) : Prop := ∃ g cap : Nat, e = .returned (.agg #[.int .i64 b, .int .i64 l, .int .i64 q, .int .i64 t, .slice (some ⟨g, 0, none⟩) 64 cap, .slice (some ⟨g, 4, none⟩) 32 32]) ∧ 64 ≤ cap ∧ cap ≤ maxLen ∧ w.heap.size ≤ g ∧ g < w'.heap.size ∧ ByR w' g ar ∧ Below w.heap.size w w'
set_option maxHeartbeats 4000000 in
set_option maxRecDepth 100000 in
theorem spaceOfR_any {B : Nat} {w : World} {v0 v1 v10 v11 : Value} {ss : List ByteArray} {ps lg dt : List Pt} {fz b l q t sq at_ : Int} {off : Bool} (h0 : RiT B w v0 ss) (h1 : RiU B w v1 ps) (h10 : RiU B w v10 lg) (h11 : RiU B w v11 dt) (hB : B ≤ w.heap.size) (hok : pgrOk ss ps fz off b l q t sq at_ lg dt = true) :
    Calls Tryz.prog 59 #[.agg #[v0, v1, .int .i64 fz, .bool off, .int .i64 b, .int .i64 l, .int .i64 q, .int .i64 t, .int .i64 sq, .int .i64 at_, v10, v11]] w (SpB (arS ss ps l lg dt) b l q t w) := by
  have H0 := Lib.hid h0; obtain ⟨A0, c0, rfl, l0, m0, -⟩ := h0
  have H1 := Lib.hid h1; obtain ⟨A1, c1, rfl, l1, m1, -⟩ := h1
  have H10 := Lib.hid h10; obtain ⟨A10, c10, rfl, l10, m10, x10⟩ := h10
  have H11 := Lib.hid h11; obtain ⟨A11, c11, rfl, l11, m11, x11⟩ := h11
  unfold maxLen at m0 m1 m10 m11
  clear x10 x11
  have hb := pgrOk_b hok
  have HS := (pgrOk_t hok).1
  have HZ := Lib.hid (arS_64 hok)
  have HB2 := Lib.hid (boxes2Q w #[.slice A0 ss.length c0, .slice A1 ps.length c1, .int .i64 fz, .bool off, .int .i64 b, .int .i64 l, .int .i64 q, .int .i64 t, .int .i64 sq, .int .i64 at_, .slice A10 lg.length c10, .slice A11 dt.length c11] #[.int .i64 0, .int .i64 0, .int .i64 0, .int .i64 0, .slice none 0 0, .slice none 0 0] 38 91)
  have C1 := Lib.hid (fun W => by have := implAreaBlock_any b l q t W (sup_b HS).1 (sup_b HS).2.1; rwa [show arOf b l q t = 2 + l from by simp [arOf, HS]] at this)
  have C2 : Hid (∀ W, Below w.heap.size w W → _) := Lib.hid (fun W hW => current_any (w := W) (k := 2 + l) (fz := fz) (off := off) (b := b) (l := l) (q := q) (t := t) (sq := sq) (at_ := at_) (H0.out.at hB hW) (H1.out.at hB hW) (H10.out.at hB hW) (H11.out.at hB hW) (Nat.le_refl _) (by omega) (by omega) (WalkArith.wf_i64 (by omega)))
  have HA : Hid (arS ss ps l lg dt = gtS ss ps lg dt (2 + l)) := Lib.hid rfl
  rw [← HA.out] at C2
  clear HA
  generalize arS ss ps l lg dt = AR at *
  clear hok HS
  have HBB := Lib.hid hb; clear hb
  have HLP : Hid (∀ W, Below ((w.alloc (.cells #[.slice A0 ss.length c0, .slice A1 ps.length c1, .int .i64 fz, .bool off, .int .i64 b, .int .i64 l, .int .i64 q, .int .i64 t, .int .i64 sq, .int .i64 at_, .slice A10 lg.length c10, .slice A11 dt.length c11] 38)).alloc (.cells #[.int .i64 0, .int .i64 0, .int .i64 0, .int .i64 0, .slice none 0 0, .slice none 0 0] 91)).heap.size ((w.alloc (.cells #[.slice A0 ss.length c0, .slice A1 ps.length c1, .int .i64 fz, .bool off, .int .i64 b, .int .i64 l, .int .i64 q, .int .i64 t, .int .i64 sq, .int .i64 at_, .slice A10 lg.length c10, .slice A11 dt.length c11] 38)).alloc (.cells #[.int .i64 0, .int .i64 0, .int .i64 0, .int .i64 0, .slice none 0 0, .slice none 0 0] 91)) W → W.cell? ⟨w.heap.size, 0, none⟩ = some (.slice A0 ss.length c0) ∧ W.cell? ⟨w.heap.size, 1, none⟩ = some (.slice A1 ps.length c1) ∧ W.cell? ⟨w.heap.size, 2, none⟩ = some (.int .i64 fz) ∧ W.cell? ⟨w.heap.size, 3, none⟩ = some (.bool off) ∧ W.cell? ⟨w.heap.size, 4, none⟩ = some (.int .i64 b) ∧ W.cell? ⟨w.heap.size, 5, none⟩ = some (.int .i64 l) ∧ W.cell? ⟨w.heap.size, 6, none⟩ = some (.int .i64 q) ∧ W.cell? ⟨w.heap.size, 7, none⟩ = some (.int .i64 t) ∧ W.cell? ⟨w.heap.size, 8, none⟩ = some (.int .i64 sq) ∧ W.cell? ⟨w.heap.size, 9, none⟩ = some (.int .i64 at_) ∧ W.cell? ⟨w.heap.size, 10, none⟩ = some (.slice A10 lg.length c10) ∧ W.cell? ⟨w.heap.size, 11, none⟩ = some (.slice A11 dt.length c11)) := Lib.hid (fun W hW => by
    have R : W.heap[w.heap.size]? = some (.cells #[.slice A0 ss.length c0, .slice A1 ps.length c1, .int .i64 fz, .bool off, .int .i64 b, .int .i64 l, .int .i64 q, .int .i64 t, .int .i64 sq, .int .i64 at_, .slice A10 lg.length c10, .slice A11 dt.length c11] 38 (0, 0)) := (hW.block _ (by have := HB2.out.2.2.1; omega)).trans HB2.out.1
    exact ⟨by rw [cell_of_row _ _ _ _ _ _ R]; rfl, by rw [cell_of_row _ _ _ _ _ _ R]; rfl, by rw [cell_of_row _ _ _ _ _ _ R]; rfl, by rw [cell_of_row _ _ _ _ _ _ R]; rfl, by rw [cell_of_row _ _ _ _ _ _ R]; rfl, by rw [cell_of_row _ _ _ _ _ _ R]; rfl, by rw [cell_of_row _ _ _ _ _ _ R]; rfl, by rw [cell_of_row _ _ _ _ _ _ R]; rfl, by rw [cell_of_row _ _ _ _ _ _ R]; rfl, by rw [cell_of_row _ _ _ _ _ _ R]; rfl, by rw [cell_of_row _ _ _ _ _ _ R]; rfl, by rw [cell_of_row _ _ _ _ _ _ R]; rfl⟩)
  have HRS : Hid (∀ W, Below ((w.alloc (.cells #[.slice A0 ss.length c0, .slice A1 ps.length c1, .int .i64 fz, .bool off, .int .i64 b, .int .i64 l, .int .i64 q, .int .i64 t, .int .i64 sq, .int .i64 at_, .slice A10 lg.length c10, .slice A11 dt.length c11] 38)).alloc (.cells #[.int .i64 0, .int .i64 0, .int .i64 0, .int .i64 0, .slice none 0 0, .slice none 0 0] 91)).heap.size ((w.alloc (.cells #[.slice A0 ss.length c0, .slice A1 ps.length c1, .int .i64 fz, .bool off, .int .i64 b, .int .i64 l, .int .i64 q, .int .i64 t, .int .i64 sq, .int .i64 at_, .slice A10 lg.length c10, .slice A11 dt.length c11] 38)).alloc (.cells #[.int .i64 0, .int .i64 0, .int .i64 0, .int .i64 0, .slice none 0 0, .slice none 0 0] 91)) W → W.heap[w.heap.size + 1]? = some (.cells #[.int .i64 0, .int .i64 0, .int .i64 0, .int .i64 0, .slice none 0 0, .slice none 0 0] 91 (0, 0)) ∧ Below w.heap.size w W ∧ w.heap.size + 2 ≤ W.heap.size) := Lib.hid (fun W hW => ⟨(hW.block _ (by have := HB2.out.2.2.1; omega)).trans HB2.out.2.1, HB2.out.2.2.2.trans (hW.mono (by have := HB2.out.2.2.1; omega)), by have := HB2.out.2.2.1; have := hW.size; omega⟩)
  clear HB2
  have hcv := fun W => Lib.run_convert_string_bytes (P := Tryz.prog) W 9 88 5 AR Tryz.underlying9 Tryz.underlying88 Tryz.underlying5
  rw [HZ.out] at hcv
  go_enter Tryz.func59, Tryz.ntmps59
  go_wp2_with fail
  generalize ((w.alloc (.cells #[.slice A0 ss.length c0, .slice A1 ps.length c1, .int .i64 fz, .bool off, .int .i64 b, .int .i64 l, .int .i64 q, .int .i64 t, .int .i64 sq, .int .i64 at_, .slice A10 lg.length c10, .slice A11 dt.length c11] 38)).alloc (.cells #[.int .i64 0, .int .i64 0, .int .i64 0, .int .i64 0, .slice none 0 0, .slice none 0 0] 91)) = w0 at *
  have HD : Hid (Below w0.heap.size w0 w0.drew) := Lib.hid (Below.refl _ _).drew
  refine wp_region_held_drew (S := (fun W => W.cell? ⟨w.heap.size, 0, none⟩ = some (.slice A0 ss.length c0) ∧ W.cell? ⟨w.heap.size, 1, none⟩ = some (.slice A1 ps.length c1) ∧ W.cell? ⟨w.heap.size, 2, none⟩ = some (.int .i64 fz) ∧ W.cell? ⟨w.heap.size, 3, none⟩ = some (.bool off) ∧ W.cell? ⟨w.heap.size, 4, none⟩ = some (.int .i64 b) ∧ W.cell? ⟨w.heap.size, 5, none⟩ = some (.int .i64 l) ∧ W.cell? ⟨w.heap.size, 6, none⟩ = some (.int .i64 q) ∧ W.cell? ⟨w.heap.size, 7, none⟩ = some (.int .i64 t) ∧ W.cell? ⟨w.heap.size, 8, none⟩ = some (.int .i64 sq) ∧ W.cell? ⟨w.heap.size, 9, none⟩ = some (.int .i64 at_) ∧ W.cell? ⟨w.heap.size, 10, none⟩ = some (.slice A10 lg.length c10) ∧ W.cell? ⟨w.heap.size, 11, none⟩ = some (.slice A11 dt.length c11))) (by kernel_rfl) (HLP.out _ HD.out) (fun hHeld => ?_)
  refine held_yes 0 (some 4) rfl rfl (by kernel_rfl) (by kernel_rfl) (by kernel_rfl) (fun _ _ _ h => h) (by kernel_rfl) hHeld (v := ?_) (fun wz hSw => ?_) ?_
  rotate_left 1
  · (try dsimp only at hSw); go_simp; (try with_reducible rfl)
  try simp only [Act.put, List.setIfInBounds_toArray, List.set_cons_zero, List.set_cons_succ]
  refine held_yes 1 (some 5) rfl rfl (by kernel_rfl) (by kernel_rfl) (by kernel_rfl) (fun _ _ _ h => h) (by kernel_rfl) hHeld (v := ?_) (fun wz hSw => ?_) ?_
  rotate_left 1
  · (try dsimp only at hSw); go_simp; (try with_reducible rfl)
  try simp only [Act.put, List.setIfInBounds_toArray, List.set_cons_zero, List.set_cons_succ]
  refine held_yes 2 (some 6) rfl rfl (by kernel_rfl) (by kernel_rfl) (by kernel_rfl) (fun _ _ _ h => h) (by kernel_rfl) hHeld (v := ?_) (fun wz hSw => ?_) ?_
  rotate_left 1
  · (try dsimp only at hSw); go_simp; (try with_reducible rfl)
  try simp only [Act.put, List.setIfInBounds_toArray, List.set_cons_zero, List.set_cons_succ]
  refine wpAnyH_ready (rs := [3]) (by kernel_rfl) (by simp) ?_
  refine AllReadyH.cons rfl (fun K hK => ?_) AllReadyH.nil
  go_simp
  (go_at_call 97; go_fit (C1.out _); rintro e u1 ⟨rfl, g1⟩; have kb1 : Below w0.heap.size w0 u1 := HD.out.trans (g1.mono HD.out.size))
  refine hK.out _ _ (HLP.out _ kb1) (fun hHeld => ?_)
  clear hK K
  try simp only [Act.put, List.setIfInBounds_toArray, List.set_cons_zero, List.set_cons_succ]
  refine wpAnyH_ready (rs := [4]) (by kernel_rfl) (by simp) ?_
  refine AllReadyH.cons rfl (fun K hK => ?_) AllReadyH.nil
  go_simp
  (go_at_call 111; go_fit (C2.out _ (HRS.out _ kb1).2.1); rintro e u2 ⟨rfl, g2⟩; have kb2 : Below w0.heap.size w0 u2 := kb1.trans (g2.mono kb1.size))
  refine hK.out _ _ (HLP.out _ kb2) (fun hHeld => ?_)
  clear hK K
  try simp only [Act.put, List.setIfInBounds_toArray, List.set_cons_zero, List.set_cons_succ]
  refine wpAnyH_ready (rs := [5]) (by kernel_rfl) (by simp) ?_
  refine AllReadyH.cons rfl (fun K hK => ?_) AllReadyH.nil
  go_simp
  skip
  refine hK.out _ _ (HLP.out _ (kb2.trans ((bw_below u2 AR).mono kb2.size))) (fun hHeld => ?_)
  clear hK K
  try simp only [Act.put, List.setIfInBounds_toArray, List.set_cons_zero, List.set_cons_succ]
  refine held_yes 6 (some 3) rfl rfl (by kernel_rfl) (by kernel_rfl) (by kernel_rfl) (fun _ _ _ h => h) (by kernel_rfl) hHeld (v := ?_) (fun wz hSw => ?_) ?_
  rotate_left 1
  · (try dsimp only at hSw); go_simp; (try with_reducible rfl)
  try simp only [Act.put, List.setIfInBounds_toArray, List.set_cons_zero, List.set_cons_succ]
  refine wpAnyH_done (by kernel_rfl) ?_ _
  try simp only [Exit.then]
  have hc1 := grownCap_ge u2 64 0 5
  have hc2 := grownCap_le_maxLen u2 64 0 5 (by unfold maxLen; omega)
  have HBy : Hid (ByR (Lib.bytesWorld u2 5 AR) u2.heap.size AR) := Lib.hid (byR_new u2 AR)
  have Hk3 : Hid (Below w0.heap.size w0 (Lib.bytesWorld u2 5 AR)) := Lib.hid (kb2.trans ((bw_below u2 AR).mono kb2.size))
  have Hz3 : Hid ((Lib.bytesWorld u2 5 AR).heap.size = u2.heap.size + 1 ∧ w.heap.size + 2 ≤ u2.heap.size) := Lib.hid ⟨Lib.bytesWorld_size _ _ _, (HRS.out _ kb2).2.2⟩
  clear kb1 kb2 g1 g2 hcv
  generalize grownCap u2 64 0 5 = cap at *
  generalize Lib.bytesWorld u2 5 AR = w3 at *
  generalize u2.heap.size = g at *
  unfold maxLen at hc2
  have Hc2 := Lib.hid hc2; clear hc2
  have G1 := Lib.hid (run_load_cells (P := Tryz.prog) w3.drew w.heap.size 4 35 _ [.int .i64 b, .int .i64 l, .int .i64 q, .int .i64 t] (fun j u hj => by
    have h := HLP.out w3.drew (Hk3.out.drew)
    rcases j with _ | _ | _ | _ | j
    · obtain rfl := Option.some.inj hj; exact h.2.2.2.2.1
    · obtain rfl := Option.some.inj hj; exact h.2.2.2.2.2.1
    · obtain rfl := Option.some.inj hj; exact h.2.2.2.2.2.2.1
    · obtain rfl := Option.some.inj hj; exact h.2.2.2.2.2.2.2.1
    · simp at hj) Tryz.underlying35 rfl)
  have hc3 : (36 : Int) ≤ (cap : Int) := by omega
  go_wp2_with fail
  refine wp_region_still_tail 6 (by kernel_rfl) (by kernel_rfl) ?_
  simp only [List.take_succ_cons, List.take_zero, List.drop_succ_cons, List.drop_zero]
  still_step
  refine wpStill_load rfl 35 (.tmp 10) rfl _ rfl _ G1.out ?_
  still_step
  still_step
  still_step
  still_step
  refine wpStill_nil ?_
  have RS := Lib.hid (HRS.out w3.drew Hk3.out.drew)
  have HBy2 : Hid (ByR w3.drew g AR) := Lib.hid HBy.out
  have Hz4 : Hid (w3.drew.heap.size = g + 1) := Lib.hid Hz3.out.1
  change wpList _ _ _ _ _ w3.drew
  clear G1
  generalize w3.drew = wd at *
  have Hi9 : Hid ((Tryz.prog.info? 91).map (·.size) = some (#[.int .i64 b, .int .i64 l, .int .i64 q, .int .i64 t, .slice (some ⟨g, 0, none⟩) 64 cap, .slice (some ⟨g, 4, none⟩) 32 32] : Array Value).size) := Lib.hid (by kernel_rfl)
  have H19 : Hid ((#[.int .i64 b, .int .i64 l, .int .i64 q, .int .i64 t, .slice (some ⟨g, 0, none⟩) 64 cap, .slice (some ⟨g, 4, none⟩) 32 32] : Array Value).all (·.oneCell') = true) := Lib.hid (by simp [Value.oneCell'])
  go_wp2_with (refine wpList_store_row rfl 91 (.tmp 2) (.tmp 15) rfl (w.heap.size + 1) #[.int .i64 b, .int .i64 l, .int .i64 q, .int .i64 t, .slice (some ⟨g, 0, none⟩) 64 cap, .slice (some ⟨g, 4, none⟩) 32 32] rfl rfl 91 _ RS.out.1 Hi9.out rfl H19.out ?_)
  refine bodyPost_ret (v := .agg #[.int .i64 b, .int .i64 l, .int .i64 q, .int .i64 t, .slice (some ⟨g, 0, none⟩) 64 cap, .slice (some ⟨g, 4, none⟩) 32 32]) ?_ rfl ?_
  · exact results_cell_row rfl _ _ (w.heap.size + 1) 91 _ (0, 0) _ rfl (setRow_heap _ _ _ _ _ _ RS.out.1) Tryz.underlying91 rfl (by kernel_rfl)
  · have hz := Hz3.out.2
    have hne : g ≠ w.heap.size + 1 := by omega
    refine ⟨g, cap, rfl, by omega, by unfold maxLen; have := Hc2.out; omega, by omega, ?_, ?_, below_setRow RS.out.2.1 (by omega) _⟩
    · have := Hz4.out; rw [setRow_size]; omega
    · exact HBy2.out.same (setRow_other _ _ _ _ hne)
end Go.Proofs.YtplfnlalmcpcaaaGreat
namespace Go.Proofs.YtplfnlalmcpcaaaGreat
open Go.RowKit
set_option linter.unusedVariables false

theorem OwnB.set {w : World} {B g n cap : Nat} {l : List UInt8} (h : OwnB w B (.slice (some ⟨g, 0, none⟩) n cap) l) (hn : n = l.length) (j : Nat) (b : UInt8) :
    OwnB (w.setCell ⟨g, j, none⟩ (bv b)) B (.slice (some ⟨g, 0, none⟩) n cap) (l.set j b) := by
  subst hn
  have := (World.ownsRow.stored h j (bv b)).1
  unfold OwnB
  rw [List.map_set, List.length_set]
  exact this
theorem le_step (n : Int) (k m : Nat) (h : k < m) : (leL n k ++ List.replicate (m - k) (0 : UInt8)).set k (byteOf n k) = leL n (k + 1) ++ List.replicate (m - (k + 1)) (0 : UInt8) := by
  have : m - k = (m - (k + 1)) + 1 := by omega
  rw [this, List.replicate_succ, List.set_append_right _ _ (by rw [leL_length]; exact Nat.le_refl _), leL_length, leL_succ]
  simp
theorem le_any (n : Int) (s : Int) (h0 : 0 ≤ n) (hn : n < 18446744073709551616) (h1 : 1 ≤ s) (h8 : s ≤ 8) (w : World) :
    Calls Tryz.prog 152 #[.int .u64 n, .int .i64 s] w fun e w' => e = .returned (.string (leS n s.toNat)) ∧ Below w.heap.size w w' := by
  obtain ⟨m, rfl⟩ := Int.eq_ofNat_of_zero_le (by omega : 0 ≤ s)
  obtain ⟨i0, hi, hz0, hz1, hz2⟩ := info_parts Tryz.infoB
  obtain ⟨w1, hrun, hown, hg⟩ := run_make_full (P := Tryz.prog) w w.heap.size 88 5 i0 (.int .u8 0) 1 Tryz.underlying88 hi hz0 hz1 .i64 .i64 m (by rw [hz2]; omega) (by unfold maxLen; omega) (Nat.le_refl _)
  rw [made_zero] at hown
  have hown : OwnB w1 w.heap.size (.slice (some ⟨w.heap.size, 0, none⟩) m m) (leL n 0 ++ List.replicate (m - 0) (0 : UInt8)) := by
    have e : (leL n 0 ++ List.replicate (m - 0) (0 : UInt8)) = List.replicate m 0 := by simp [leL]
    rw [e]; unfold OwnB; rw [List.length_replicate]; exact hown
  have hbel : Below w.heap.size w w1 := (Below.refl _ _).grown hg (Nat.le_refl _) (fun k hk => by cases hk)
  clear hi hz0 hz1 hz2 hg
  have Hown := Lib.hid hown; clear hown
  go_enter Tryz.func152, Tryz.ntmps152
  go_wp2
  go_loopw [6, 11] (fun _ i wr => ∃ k : Nat, k ≤ m ∧ i = .int .i64 k ∧ OwnB wr w.heap.size (.slice (some ⟨w.heap.size, 0, none⟩) m m) (leL n k ++ List.replicate (m - k) (0 : UInt8)) ∧ Below w.heap.size w wr) (fun _ i _ => m - (intOf i).toNat)
  case atStart => exact ⟨0, Nat.zero_le _, rfl, Hown.out, hbel⟩
  case round =>
    obtain ⟨k, hk, rfl, hown, hbel⟩ := hrel
    have hl : (leL n k ++ List.replicate (m - k) (0 : UInt8)).length = m := by simp [leL_length]; omega
    by_cases hlt : k < m
    · have hfz : wr.frozen? ⟨w.heap.size, k, none⟩ = false := by
        unfold OwnB at hown; rw [hl] at hown; exact World.ownsRow.frozenAt hown k
      have hc0 : wr.cell? ⟨w.heap.size, k, none⟩ = some (.int .u8 0) := by
        have := World.ownsRow.cells (g := w.heap.size) hown rfl k (.int .u8 0) (by
          rw [List.map_append, List.getElem?_append_right (by rw [List.length_map, leL_length]; exact Nat.le_refl _), List.length_map, leL_length, Nat.sub_self]
          simp [bv, List.getElem?_replicate]; omega)
        rwa [add_none] at this
      have hset := OwnB.set hown hl.symm k (byteOf n k)
      rw [le_step n k m hlt] at hset
      have ebv : bv (byteOf n k) = .int .u8 (n / 2 ^ (8 * k) % 256) := by simp [bv, byteOf_toNat]
      rw [ebv] at hset
      clear ebv
      have Hset := Lib.hid hset; have Hown2 := Lib.hid hown; have Hl := Lib.hid hl
      clear hset hown hl
      go_wp2
      go_roundw
      case rel => exact ⟨k + 1, by omega, by go_num, Hset.out, hbel.setCell (Nat.le_refl _) _⟩
      case measure => simp [intOf]; omega
    · have hkm : k = m := by omega
      subst hkm
      have e : leL n k ++ List.replicate (k - k) (0 : UInt8) = leL n k := by simp
      rw [e] at hown
      have hc := conv_own hown
      have Hown := Lib.hid hown; clear hown e hl
      go_wp2
      go_ret
      refine ⟨?_, hbel⟩
      simp [leS]
def putU (n s : Int) : ByteArray := if 1 ≤ s ∧ s ≤ 8 ∧ 0 ≤ n ∧ n / 2 ^ (8 * s.toNat) = 0 then leS n s.toNat else ⟨#[]⟩
theorem putU_no {n s : Int} (h : ¬ (1 ≤ s ∧ s ≤ 8 ∧ 0 ≤ n ∧ n / 2 ^ (8 * s.toNat) = 0)) : putU n s = ⟨#[]⟩ := if_neg h
theorem putU_yes {n s : Int} (h : 1 ≤ s ∧ s ≤ 8 ∧ 0 ≤ n ∧ n / 2 ^ (8 * s.toNat) = 0) : putU n s = leS n s.toNat := if_pos h
theorem implPutUint_any (n s : Int) (hn : n < 9223372036854775808) (w : World) :
    Calls Tryz.prog 112 #[.int .i64 n, .int .i64 s] w fun e w' => e = .returned (.string (putU n s)) ∧ Below w.heap.size w w' := by
  by_cases h1 : 1 ≤ s
  · by_cases h8 : s ≤ 8
    · obtain ⟨m, rfl⟩ := Int.eq_ofNat_of_zero_le (by omega : 0 ≤ s)
      by_cases h0 : 0 ≤ n
      · by_cases hz : n / 2 ^ (8 * m) = 0
        · have Hf := Lib.hid (putU_yes (n := n) (s := m) ⟨h1, h8, h0, hz⟩)
          have hz'' : (n / 2 ^ (8 * m) != 0) = false := by simp [hz]
          clear hz
          go_enter Tryz.func112, Tryz.ntmps112
          go_wp2_with (first | (go_at_call 152; refine (le_any n m h0 (by omega) h1 h8 _).mono ?_; rintro e w' ⟨rfl, hb⟩) | go_in)
          go_ret
          exact ⟨by rw [Hf.out]; rfl, by assumption⟩
        · have Hf := Lib.hid (putU_no (n := n) (s := m) (fun h => hz h.2.2.2))
          have hz'' : (n / 2 ^ (8 * m) != 0) = true := by simp [hz]
          clear hz
          go_enter Tryz.func112, Tryz.ntmps112
          go_wp2_with (first | go_in)
          go_ret
          exact ⟨by rw [Hf.out]; rfl, Below.refl _ _⟩
      · have Hf := Lib.hid (putU_no (n := n) (s := m) (fun h => h0 h.2.2.1))
        go_enter Tryz.func112, Tryz.ntmps112
        go_wp2_with (first | go_in)
        go_ret
        exact ⟨by rw [Hf.out]; rfl, Below.refl _ _⟩
    · have Hf := Lib.hid (putU_no (n := n) (s := s) (fun h => h8 h.2.1))
      go_enter Tryz.func112, Tryz.ntmps112
      go_wp2_with (first | go_in)
      go_ret
      exact ⟨by rw [Hf.out]; rfl, Below.refl _ _⟩
  · have Hf := Lib.hid (putU_no (n := n) (s := s) (fun h => h1 h.1))
    go_enter Tryz.func112, Tryz.ntmps112
    go_wp2_with (first | go_in)
    go_ret
    exact ⟨by rw [Hf.out]; rfl, Below.refl _ _⟩

end Go.Proofs.YtplfnlalmcpcaaaGreat
namespace Go.Proofs.YtplfnlalmcpcaaaGreat
open Go.RowKit
set_option linter.unusedVariables false
theorem run_copy2 {w : World} {g cap : Nat} {ar s : ByteArray} (ty : TypeId) (h : ByR w g ar) (hz : ar.size = 64) (b0 b1 : UInt8) (hs : s.data.toList = [b0, b1]) :
    (Builtin.copy_ #[88, 9] ty #[.slice (some ⟨g, 0, none⟩) 64 cap, .string s]).run Tryz.prog w = .ok (.int .i64 2) ((w.setCell ⟨g, 0, none⟩ (.int .u8 b0.toNat)).setCell ⟨g, 1, none⟩ (.int .u8 b1.toNat)) := by
  have h1 := h.set 0 b0 (by omega) rfl
  have f0 := h.frozen (j := 0) (by omega)
  have f1 := h1.frozen (j := 1) (by rw [setB_size]; omega)
  have c0 := h.a 0 (by omega)
  have c1 := h1.a 1 (by rw [setB_size]; omega)
  have hz2 : s.size = 2 := by have := congrArg List.length hs; simpa using this
  have hi : (Tryz.prog.info? 5).map (·.size) = some 1 := by kernel_rfl
  cases hq : Tryz.prog.info? 5 with
  | none => rw [hq] at hi; cases hi
  | some i =>
    have e1 : (⟨g, 0, none⟩ : Addr).add 0 = ⟨g, 0, none⟩ := rfl
    have e2 : (⟨g, 0, none⟩ : Addr).add 1 = ⟨g, 1, none⟩ := rfl
    have s0 : (store ⟨g, 0, none⟩ (.int .u8 b0.toNat)).run Tryz.prog w = .ok () (w.setCell ⟨g, 0, none⟩ (.int .u8 b0.toNat)) := by
      rw [run_store Tryz.prog w _ _ _ rfl, c0]; simp [f0]
    have s1 : (store ⟨g, 1, none⟩ (.int .u8 b1.toNat)).run Tryz.prog (w.setCell ⟨g, 0, none⟩ (.int .u8 b0.toNat)) = .ok () ((w.setCell ⟨g, 0, none⟩ (.int .u8 b0.toNat)).setCell ⟨g, 1, none⟩ (.int .u8 b1.toNat)) := by
      rw [run_store Tryz.prog _ _ _ _ rfl, c1]; simp [f1]
    simp [Builtin.copy_, run_underlying Tryz.underlying88, Builtin.lenOf, Builtin.firstCells, sizeOf, typeInfo, hq, hz2, hs, storeCells, e1, e2, s0, s1, Sem.run_bind, Result.andThen, goInt]
theorem byR_conv {W : World} {g cap : Nat} {s : ByteArray} (hz : s.size = 64) (h : ByR W g s) : (convert 88 9 (.slice (some ⟨g, 0, none⟩) 64 cap)).run Tryz.prog W = .ok (.string s) W := by
  have hb : Lib.Bytes W g 0 s := fun i hi => by
    rw [Nat.zero_add, h.a i hi, getD_byte s i hi]
  have := Lib.run_convert_whole (P := Tryz.prog) W 88 5 9 Tryz.underlying88 Tryz.underlying5 Tryz.underlying9 g 0 s hb cap
  rw [hz] at this
  exact this
/-- The allocation page with another root. -/
def rtS (ar : ByteArray) (x : Int) : ByteArray := setB (setB ar 0 (byteOf x 0)) 1 (byteOf x 1)
theorem leL2 (x : Int) : leL x 2 = [byteOf x 0, byteOf x 1] := rfl
theorem rtS_size (ar : ByteArray) (x : Int) : (rtS ar x).size = ar.size := by unfold rtS; rw [setB_size, setB_size]
set_option maxHeartbeats 4000000 in
set_option maxRecDepth 100000 in
theorem setRoot_any {w : World} {g cap : Nat} {ar : ByteArray} {b l q t x : Int} (hz : ar.size = 64) (h : ByR w g ar) (x0 : 0 ≤ x) (x1 : x < 65536) :
    Calls Tryz.prog 60 #[.agg #[.int .i64 b, .int .i64 l, .int .i64 q, .int .i64 t, .slice (some ⟨g, 0, none⟩) 64 cap, .slice (some ⟨g, 4, none⟩) 32 32], .int .i64 x] w fun e w' => e = .returned (.tuple #[]) ∧ ByR w' g (rtS ar x) ∧ w.grownBy w' (some g) := by
  have HR := Lib.hid h; have HZ := Lib.hid hz; have GL := Lib.hid h.lt; clear h hz
  have B0 : Hid (Below w.heap.size w (w.alloc (.cells #[.int .i64 b, .int .i64 l, .int .i64 q, .int .i64 t, .slice (some ⟨g, 0, none⟩) 64 cap, .slice (some ⟨g, 4, none⟩) 32 32] 91))) := Lib.hid ((Below.refl _ w).alloc (Nat.le_refl _) _)
  have Lt0 : Hid (w.heap.size < (w.alloc (.cells #[.int .i64 b, .int .i64 l, .int .i64 q, .int .i64 t, .slice (some ⟨g, 0, none⟩) 64 cap, .slice (some ⟨g, 4, none⟩) 32 32] 91)).heap.size) := Lib.hid (by simp)
  have R0 : Hid ((w.alloc (.cells #[.int .i64 b, .int .i64 l, .int .i64 q, .int .i64 t, .slice (some ⟨g, 0, none⟩) 64 cap, .slice (some ⟨g, 4, none⟩) 32 32] 91)).heap[w.heap.size]? = some (.cells #[.int .i64 b, .int .i64 l, .int .i64 q, .int .i64 t, .slice (some ⟨g, 0, none⟩) 64 cap, .slice (some ⟨g, 4, none⟩) 32 32] 91 (0, 0))) := Lib.hid (heap_alloc_new w _)
  have hpu : putU x 2 = leS x 2 := putU_yes ⟨by omega, by omega, by omega, by simp; omega⟩
  have C1 := Lib.hid (fun W => implPutUint_any x 2 (by omega) W)
  rw [hpu] at C1
  have HL : Hid ((leS x 2).data.toList = [byteOf x 0, byteOf x 1]) := Lib.hid (by simp [leS, leL2])
  clear hpu
  have HF : Hid (rtS ar x = setB (setB ar 0 (byteOf x 0)) 1 (byteOf x 1)) := Lib.hid rfl
  generalize rtS ar x = ar2 at *
  generalize leS x 2 = sx at *
  generalize byteOf x 0 = b0 at *
  generalize byteOf x 1 = b1 at *
  go_enter Tryz.func60, Tryz.ntmps60
  go_wp2_with fail
  generalize (w.alloc (.cells #[.int .i64 b, .int .i64 l, .int .i64 q, .int .i64 t, .slice (some ⟨g, 0, none⟩) 64 cap, .slice (some ⟨g, 4, none⟩) 32 32] 91)) = w0 at *
  have HSx : Hid (∀ W, Below w0.heap.size w0 W → W.cell? ⟨w.heap.size, 0, none⟩ = some (.int .i64 b) ∧ W.cell? ⟨w.heap.size, 1, none⟩ = some (.int .i64 l) ∧ W.cell? ⟨w.heap.size, 2, none⟩ = some (.int .i64 q) ∧ W.cell? ⟨w.heap.size, 3, none⟩ = some (.int .i64 t) ∧ W.cell? ⟨w.heap.size, 4, none⟩ = some (.slice (some ⟨g, 0, none⟩) 64 cap) ∧ W.cell? ⟨w.heap.size, 5, none⟩ = some (.slice (some ⟨g, 4, none⟩) 32 32)) := Lib.hid (fun W hW => by
    have r1 := (hW.block _ Lt0.out).trans R0.out
    exact ⟨by rw [cell_of_row _ _ _ _ _ _ r1]; rfl, by rw [cell_of_row _ _ _ _ _ _ r1]; rfl, by rw [cell_of_row _ _ _ _ _ _ r1]; rfl, by rw [cell_of_row _ _ _ _ _ _ r1]; rfl, by rw [cell_of_row _ _ _ _ _ _ r1]; rfl, by rw [cell_of_row _ _ _ _ _ _ r1]; rfl⟩)
  have HD : Hid (Below w0.heap.size w0 w0.drew) := Lib.hid (Below.refl _ _).drew
  refine wp_region_held_drew (S := fun W => W.cell? ⟨w.heap.size, 0, none⟩ = some (.int .i64 b) ∧ W.cell? ⟨w.heap.size, 1, none⟩ = some (.int .i64 l) ∧ W.cell? ⟨w.heap.size, 2, none⟩ = some (.int .i64 q) ∧ W.cell? ⟨w.heap.size, 3, none⟩ = some (.int .i64 t) ∧ W.cell? ⟨w.heap.size, 4, none⟩ = some (.slice (some ⟨g, 0, none⟩) 64 cap) ∧ W.cell? ⟨w.heap.size, 5, none⟩ = some (.slice (some ⟨g, 4, none⟩) 32 32)) (by kernel_rfl) (HSx.out _ HD.out) (fun hHeld => ?_)
  refine held_yes 0 (some 4) rfl rfl (by kernel_rfl) (by kernel_rfl) (by kernel_rfl) (fun _ _ _ h => h) (by kernel_rfl) hHeld (v := ?_) (fun wz hSw => ?_) ?_
  rotate_left 1
  · (try dsimp only at hSw); go_simp; (try with_reducible rfl)
  try simp only [Act.put, List.setIfInBounds_toArray, List.set_cons_zero, List.set_cons_succ]
  refine held_yes 1 (some 5) rfl rfl (by kernel_rfl) (by kernel_rfl) (by kernel_rfl) (fun _ _ _ h => h) (by kernel_rfl) hHeld (v := ?_) (fun wz hSw => ?_) ?_
  rotate_left 1
  · (try dsimp only at hSw); go_simp; (try with_reducible rfl)
  try simp only [Act.put, List.setIfInBounds_toArray, List.set_cons_zero, List.set_cons_succ]
  refine held_yes 2 (some 6) rfl rfl (by kernel_rfl) (by kernel_rfl) (by kernel_rfl) (fun _ _ _ h => h) (by kernel_rfl) hHeld (v := ?_) (fun wz hSw => ?_) ?_
  rotate_left 1
  · (try dsimp only at hSw); go_simp; (try with_reducible rfl)
  try simp only [Act.put, List.setIfInBounds_toArray, List.set_cons_zero, List.set_cons_succ]
  refine wpAnyH_ready (rs := [3]) (by kernel_rfl) (by simp) ?_
  refine AllReadyH.cons rfl (fun K hK => ?_) AllReadyH.nil
  go_simp
  go_at_call 112
  go_fit (C1.out _)
  rintro e u1 ⟨rfl, g1⟩
  have K1 := Lib.hid (HD.out.trans (g1.mono HD.out.size))
  have HR1 : Hid (ByR u1 g ar) := Lib.hid (HR.out.bel (B0.out.trans ((K1.out).mono B0.out.size)))
  clear g1
  refine hK.out _ _ (HSx.out _ K1.out) (fun hHeld => ?_)
  clear hK K
  try simp only [Act.put, List.setIfInBounds_toArray, List.set_cons_zero, List.set_cons_succ]
  refine wpAnyH_ready (rs := [4]) (by kernel_rfl) (by simp) ?_
  refine AllReadyH.cons rfl (fun K hK => ?_) AllReadyH.nil
  have hcp := fun ty => run_copy2 (cap := cap) ty HR1.out HZ.out b0 b1 HL.out
  go_simp
  clear hcp
  refine hK.out _ _ ((by
      have hb : ∀ j, j ≠ g → ((u1.setCell ⟨g, 0, none⟩ (.int .u8 b0.toNat)).setCell ⟨g, 1, none⟩ (.int .u8 b1.toNat)).heap[j]? = u1.heap[j]? := fun j hj => (heap_setCell_other _ ⟨g, 1, none⟩ j _ hj).trans (heap_setCell_other _ ⟨g, 0, none⟩ j _ hj)
      have r1 := (hb w.heap.size (by have := GL.out; omega)).trans ((K1.out.block _ Lt0.out).trans R0.out)
      exact ⟨by rw [cell_of_row _ _ _ _ _ _ r1]; rfl, by rw [cell_of_row _ _ _ _ _ _ r1]; rfl, by rw [cell_of_row _ _ _ _ _ _ r1]; rfl, by rw [cell_of_row _ _ _ _ _ _ r1]; rfl, by rw [cell_of_row _ _ _ _ _ _ r1]; rfl, by rw [cell_of_row _ _ _ _ _ _ r1]; rfl⟩)) (fun hHeld => ?_)
  clear hK K
  try simp only [Act.put, List.setIfInBounds_toArray, List.set_cons_zero, List.set_cons_succ]
  refine wpAnyH_done (by kernel_rfl) ?_ _
  try simp only [Exit.then]
  have Fin : Hid (ByR ((u1.setCell ⟨g, 0, none⟩ (.int .u8 b0.toNat)).setCell ⟨g, 1, none⟩ (.int .u8 b1.toNat)) g ar2) := Lib.hid (by rw [HF.out]; exact (HR1.out.set 0 b0 (by rw [HZ.out]; omega) rfl).set 1 b1 (by rw [setB_size, HZ.out]; omega) rfl)
  have Gr : Hid (w.grownBy ((u1.setCell ⟨g, 0, none⟩ (.int .u8 b0.toNat)).setCell ⟨g, 1, none⟩ (.int .u8 b1.toNat)) (some g)) := Lib.hid ((Lib.grownBy_below (World.grownBy.refl w (some g)) (B0.out.trans ((K1.out).mono B0.out.size))).trans ((Lib.grownBy_setCell u1 g 0 _).trans (Lib.grownBy_setCell _ g 1 _)))
  go_wp2
  refine bodyPost_end (results_none rfl _ _ _) rfl ?_
  exact ⟨rfl, Fin.out, Gr.out⟩
set_option maxHeartbeats 4000000 in
set_option maxRecDepth 100000 in
theorem areaPage_any {w : World} {g cap : Nat} {ar : ByteArray} {b l q t : Int} (hs : supOk b l q t = true) (hz : ar.size = 64) (h : ByR w g ar) :
    Calls Tryz.prog 61 #[.agg #[.int .i64 b, .int .i64 l, .int .i64 q, .int .i64 t, .slice (some ⟨g, 0, none⟩) 64 cap, .slice (some ⟨g, 4, none⟩) 32 32]] w (GivesB (.agg #[.int .i64 (2 + l), .string ar]) w) := by
  have HR := Lib.hid h; have HZ := Lib.hid hz; have GL := Lib.hid h.lt; clear h hz
  have B0 : Hid (Below w.heap.size w (w.alloc (.cells #[.int .i64 b, .int .i64 l, .int .i64 q, .int .i64 t, .slice (some ⟨g, 0, none⟩) 64 cap, .slice (some ⟨g, 4, none⟩) 32 32] 91))) := Lib.hid ((Below.refl _ w).alloc (Nat.le_refl _) _)
  have Lt0 : Hid (w.heap.size < (w.alloc (.cells #[.int .i64 b, .int .i64 l, .int .i64 q, .int .i64 t, .slice (some ⟨g, 0, none⟩) 64 cap, .slice (some ⟨g, 4, none⟩) 32 32] 91)).heap.size) := Lib.hid (by simp)
  have R0 : Hid ((w.alloc (.cells #[.int .i64 b, .int .i64 l, .int .i64 q, .int .i64 t, .slice (some ⟨g, 0, none⟩) 64 cap, .slice (some ⟨g, 4, none⟩) 32 32] 91)).heap[w.heap.size]? = some (.cells #[.int .i64 b, .int .i64 l, .int .i64 q, .int .i64 t, .slice (some ⟨g, 0, none⟩) 64 cap, .slice (some ⟨g, 4, none⟩) 32 32] 91 (0, 0))) := Lib.hid (heap_alloc_new w _)
  have C1 := Lib.hid (fun W => by have := implAreaBlock_any b l q t W (sup_b hs).1 (sup_b hs).2.1; rwa [show arOf b l q t = 2 + l from by simp [arOf, hs]] at this)
  have Rz : Hid (((w.alloc (.cells #[.int .i64 b, .int .i64 l, .int .i64 q, .int .i64 t, .slice (some ⟨g, 0, none⟩) 64 cap, .slice (some ⟨g, 4, none⟩) 32 32] 91)).alloc (.cells #[.int .i64 0, .string ⟨#[]⟩] 77)).heap[w.heap.size + 1]? = some (.cells #[.int .i64 0, .string ⟨#[]⟩] 77 (0, 0)) ∧ ((w.alloc (.cells #[.int .i64 b, .int .i64 l, .int .i64 q, .int .i64 t, .slice (some ⟨g, 0, none⟩) 64 cap, .slice (some ⟨g, 4, none⟩) 32 32] 91)).alloc (.cells #[.int .i64 0, .string ⟨#[]⟩] 77)).heap.size = w.heap.size + 2 ∧ ((w.alloc (.cells #[.int .i64 b, .int .i64 l, .int .i64 q, .int .i64 t, .slice (some ⟨g, 0, none⟩) 64 cap, .slice (some ⟨g, 4, none⟩) 32 32] 91)).alloc (.cells #[.int .i64 0, .string ⟨#[]⟩] 77)).heap[w.heap.size]? = some (.cells #[.int .i64 b, .int .i64 l, .int .i64 q, .int .i64 t, .slice (some ⟨g, 0, none⟩) 64 cap, .slice (some ⟨g, 4, none⟩) 32 32] 91 (0, 0)) ∧ Below w.heap.size w ((w.alloc (.cells #[.int .i64 b, .int .i64 l, .int .i64 q, .int .i64 t, .slice (some ⟨g, 0, none⟩) 64 cap, .slice (some ⟨g, 4, none⟩) 32 32] 91)).alloc (.cells #[.int .i64 0, .string ⟨#[]⟩] 77))) := Lib.hid ⟨heap_alloc2_new w _ _, by simp, heap_alloc2_old w _ _, ((Below.refl _ w).alloc (Nat.le_refl _) _).alloc (by simp) _⟩
  clear R0 Lt0 B0
  go_enter Tryz.func61, Tryz.ntmps61
  go_wp2_with fail
  generalize ((w.alloc (.cells #[.int .i64 b, .int .i64 l, .int .i64 q, .int .i64 t, .slice (some ⟨g, 0, none⟩) 64 cap, .slice (some ⟨g, 4, none⟩) 32 32] 91)).alloc (.cells #[.int .i64 0, .string ⟨#[]⟩] 77)) = w0 at *
  have Lt0 : Hid (w.heap.size < w0.heap.size) := Lib.hid (by have := Rz.out.2.1; omega)
  have R0 := Lib.hid Rz.out.2.2.1
  have HSx : Hid (∀ W, Below w0.heap.size w0 W → W.cell? ⟨w.heap.size, 0, none⟩ = some (.int .i64 b) ∧ W.cell? ⟨w.heap.size, 1, none⟩ = some (.int .i64 l) ∧ W.cell? ⟨w.heap.size, 2, none⟩ = some (.int .i64 q) ∧ W.cell? ⟨w.heap.size, 3, none⟩ = some (.int .i64 t) ∧ W.cell? ⟨w.heap.size, 4, none⟩ = some (.slice (some ⟨g, 0, none⟩) 64 cap) ∧ W.cell? ⟨w.heap.size, 5, none⟩ = some (.slice (some ⟨g, 4, none⟩) 32 32) ∧ (convert 88 9 (.slice (some ⟨g, 0, none⟩) 64 cap)).run Tryz.prog W = .ok (.string ar) W) := Lib.hid (fun W hW => by
    have r1 := (hW.block _ Lt0.out).trans R0.out
    exact ⟨by rw [cell_of_row _ _ _ _ _ _ r1]; rfl, by rw [cell_of_row _ _ _ _ _ _ r1]; rfl, by rw [cell_of_row _ _ _ _ _ _ r1]; rfl, by rw [cell_of_row _ _ _ _ _ _ r1]; rfl, by rw [cell_of_row _ _ _ _ _ _ r1]; rfl, by rw [cell_of_row _ _ _ _ _ _ r1]; rfl, byR_conv HZ.out (HR.out.bel (Rz.out.2.2.2.trans (hW.mono Rz.out.2.2.2.size)))⟩)
  have HD : Hid (Below w0.heap.size w0 w0.drew) := Lib.hid (Below.refl _ _).drew
  refine wp_region_held_drew (S := fun W => W.cell? ⟨w.heap.size, 0, none⟩ = some (.int .i64 b) ∧ W.cell? ⟨w.heap.size, 1, none⟩ = some (.int .i64 l) ∧ W.cell? ⟨w.heap.size, 2, none⟩ = some (.int .i64 q) ∧ W.cell? ⟨w.heap.size, 3, none⟩ = some (.int .i64 t) ∧ W.cell? ⟨w.heap.size, 4, none⟩ = some (.slice (some ⟨g, 0, none⟩) 64 cap) ∧ W.cell? ⟨w.heap.size, 5, none⟩ = some (.slice (some ⟨g, 4, none⟩) 32 32) ∧ (convert 88 9 (.slice (some ⟨g, 0, none⟩) 64 cap)).run Tryz.prog W = .ok (.string ar) W) (by kernel_rfl) (HSx.out _ HD.out) (fun hHeld => ?_)
  refine held_yes 0 (some 3) rfl rfl (by kernel_rfl) (by kernel_rfl) (by kernel_rfl) (fun _ _ _ h => h) (by kernel_rfl) hHeld (v := ?_) (fun wz hSw => ?_) ?_
  rotate_left 1
  · (try dsimp only at hSw); go_simp; (try with_reducible rfl)
  try simp only [Act.put, List.setIfInBounds_toArray, List.set_cons_zero, List.set_cons_succ]
  refine held_yes 1 (some 4) rfl rfl (by kernel_rfl) (by kernel_rfl) (by kernel_rfl) (fun _ _ _ h => h) (by kernel_rfl) hHeld (v := ?_) (fun wz hSw => ?_) ?_
  rotate_left 1
  · (try dsimp only at hSw); go_simp; (try with_reducible rfl)
  try simp only [Act.put, List.setIfInBounds_toArray, List.set_cons_zero, List.set_cons_succ]
  refine held_yes 3 (some 6) rfl rfl (by kernel_rfl) (by kernel_rfl) (by kernel_rfl) (fun _ _ _ h => h) (by kernel_rfl) hHeld (v := ?_) (fun wz hSw => ?_) ?_
  rotate_left 1
  · (try dsimp only at hSw); go_simp; (try with_reducible rfl)
  try simp only [Act.put, List.setIfInBounds_toArray, List.set_cons_zero, List.set_cons_succ]
  refine held_yes 4 (some 7) rfl rfl (by kernel_rfl) (by kernel_rfl) (by kernel_rfl) (fun _ _ _ h => h) (by kernel_rfl) hHeld (v := ?_) (fun wz hSw => ?_) ?_
  rotate_left 1
  · (try dsimp only at hSw); go_simp; (try with_reducible rfl)
  try simp only [Act.put, List.setIfInBounds_toArray, List.set_cons_zero, List.set_cons_succ]
  refine held_yes 5 (some 8) rfl rfl (by kernel_rfl) (by kernel_rfl) (by kernel_rfl) (fun _ _ _ h => h) (by kernel_rfl) hHeld (v := ?_) (fun wz hSw => ?_) ?_
  rotate_left 1
  · (try dsimp only at hSw); go_simp; (try with_reducible rfl)
  try simp only [Act.put, List.setIfInBounds_toArray, List.set_cons_zero, List.set_cons_succ]
  refine wpAnyH_ready (rs := [2]) (by kernel_rfl) (by simp) ?_
  refine AllReadyH.cons rfl (fun K hK => ?_) AllReadyH.nil
  go_simp
  go_at_call 97
  go_fit (C1.out _)
  rintro e u1 ⟨rfl, g1⟩
  have K1 := Lib.hid (HD.out.trans (g1.mono HD.out.size))
  have HR1 : Hid (ByR u1 g ar) := Lib.hid (HR.out.bel (Rz.out.2.2.2.trans ((K1.out).mono Rz.out.2.2.2.size)))
  clear g1
  refine hK.out _ _ (HSx.out _ K1.out) (fun hHeld => ?_)
  clear hK K
  try simp only [Act.put, List.setIfInBounds_toArray, List.set_cons_zero, List.set_cons_succ]
  refine held_yes 6 (some 9) rfl rfl (by kernel_rfl) (by kernel_rfl) (by kernel_rfl) (fun _ _ _ h => h) (by kernel_rfl) hHeld (v := ?_) (fun wz hSw => ?_) ?_
  rotate_left 1
  · (try dsimp only at hSw); go_simp; (try with_reducible rfl)
  try simp only [Act.put, List.setIfInBounds_toArray, List.set_cons_zero, List.set_cons_succ]
  refine wpAnyH_ready (rs := [7]) (by kernel_rfl) (by simp) ?_
  refine AllReadyH.cons rfl (fun K hK => ?_) AllReadyH.nil
  have Rq : Hid (u1.heap[w.heap.size + 1]? = some (.cells #[.int .i64 0, .string ⟨#[]⟩] 77 (0, 0))) := Lib.hid ((K1.out.block _ (by have := Rz.out.2.1; omega)).trans Rz.out.1)
  refine wp_store_rowd none (by kernel_rfl) rfl 77 (.tmp 2) (.tmp 9) rfl (w.heap.size + 1) #[.int .i64 (2 + l), .string ar] rfl rfl 77 _ Rq.out (by kernel_rfl) rfl (by simp [Value.oneCell']) ?_
  refine hK.out _ _ ((by
      have r1 := (setRow_other u1 (w.heap.size + 1) w.heap.size #[.int .i64 (2 + l), .string ar] (by omega)).trans ((K1.out.block _ Lt0.out).trans R0.out)
      exact ⟨by rw [cell_of_row _ _ _ _ _ _ r1]; rfl, by rw [cell_of_row _ _ _ _ _ _ r1]; rfl, by rw [cell_of_row _ _ _ _ _ _ r1]; rfl, by rw [cell_of_row _ _ _ _ _ _ r1]; rfl, by rw [cell_of_row _ _ _ _ _ _ r1]; rfl, by rw [cell_of_row _ _ _ _ _ _ r1]; rfl, byR_conv HZ.out (HR1.out.same (setRow_other u1 (w.heap.size + 1) g _ (by have := GL.out; omega)))⟩)) (fun hHeld => ?_)
  clear hK K
  try simp only [Act.put]
  refine wpAnyH_done (by kernel_rfl) ?_ _
  have Rf : Hid ((u1.setRow (w.heap.size + 1) #[.int .i64 (2 + l), .string ar]).heap[w.heap.size + 1]? = some (.cells #[.int .i64 (2 + l), .string ar] 77 (0, 0))) := Lib.hid (setRow_heap _ _ _ _ _ _ Rq.out)
  have Fin : Hid (Below w.heap.size w (u1.setRow (w.heap.size + 1) #[.int .i64 (2 + l), .string ar])) := Lib.hid (below_setRow (Rz.out.2.2.2.trans ((K1.out).mono Rz.out.2.2.2.size)) (by omega) _)
  try simp only [Exit.then]
  generalize (u1.setRow (w.heap.size + 1) #[.int .i64 (2 + l), .string ar]) = xf at *
  go_wp2
  refine bodyPost_ret (v := .agg #[.int .i64 (2 + l), .string ar]) ?_ rfl ?_
  exact results_cell_row rfl _ _ (w.heap.size + 1) 77 _ (0, 0) _ rfl Rf.out Tryz.underlying77 rfl (by kernel_rfl)
  exact ⟨rfl, Fin.out⟩
set_option maxHeartbeats 2000000 in
set_option maxRecDepth 100000 in
theorem l13Put_any {B g : Nat} {w : World} {v0 v1 v10 v11 : Value} {fz b l q t sq at_ : Int} {off : Bool} {dt : List Pt} {ar : ByteArray} (hg : w.heap[g]? = some (.cells #[v0, v1, .int .i64 fz, .bool off, .int .i64 b, .int .i64 l, .int .i64 q, .int .i64 t, .int .i64 sq, .int .i64 at_, v10, v11] 38 (0, 0))) (h11 : RiU B w v11 dt) (hB : B ≤ w.heap.size) (ld : dt.length ≤ 256) (hs : supOk b l q t = true) (har : ar.size ≤ maxLen) :
    Calls Tryz.prog 55 #[.pointer (some ⟨g, 0, none⟩), .string ar] w fun e w' => e = .returned (.int .i64 (wrC (ftOk l ((mg dt [(2 + l, ar)]).length : Int)))) ∧ w.grownBy w' (some g) ∧
      wrT (ftOk l ((mg dt [(2 + l, ar)]).length : Int)) (∃ A c, w'.heap[g]? = some (.cells #[v0, v1, .int .i64 fz, .bool off, .int .i64 b, .int .i64 l, .int .i64 q, .int .i64 t, .int .i64 sq, .int .i64 at_, v10, .slice A (mg dt [(2 + l, ar)]).length c] 38 (0, 0)) ∧ OG w' w.heap.size (.slice A (mg dt [(2 + l, ar)]).length c) (mg dt [(2 + l, ar)])) := by
  have hgl : g < w.heap.size := by
    rcases Nat.lt_or_ge g w.heap.size with hl | hl
    · exact hl
    · rw [Array.getElem?_eq_none hl] at hg; cases hg
  have HG := Lib.hid hg; have H11 := Lib.hid h11; clear hg h11
  have hb := sup_b hs
  have Hld := Lib.hid (run_load_cells (P := Tryz.prog) w g 4 35 _ [.int .i64 b, .int .i64 l, .int .i64 q, .int .i64 t] (row_part HG.out (by intro j u hj; rcases j with _ | _ | _ | _ | j; all_goals first | exact hj | simp at hj)) Tryz.underlying35 rfl)
  have C0 := Lib.hid (l10Area_any b l q t w (supOk_l hs))
  have C1 := Lib.hid (fun (W : World) (hW : Below w.heap.size w W) => l12Set_any (g := g) (w := W) (v0 := v0) (v1 := v1) (v10 := v10) (fz := fz) (off := off) (b := b) (l := l) (q := q) (t := t) (sq := sq) (at_ := at_) (k := 2 + l) (s := ar) ((hW.block _ hgl).trans HG.out) (H11.out.at hB hW) (Nat.le_refl _) ld (by unfold InI; omega) har)
  generalize mg dt [(2 + l, ar)] = M at *
  generalize ftOk l (M.length : Int) = r at *
  go_enter Tryz.func55, Tryz.ntmps55
  go_wp2_with (refine wpList_load_agg rfl 35 (.tmp 8) rfl _ rfl _ Hld.out ?_)
  clear Hld
  refine C0.out.mono ?_
  rintro e w1 ⟨rfl, g1⟩
  have B1 := Lib.hid g1; clear g1
  go_wp2_with fail
  refine (C1.out w1 B1.out).mono ?_
  rintro e w2 ⟨rfl, g2, fin⟩
  have G2 : Hid (w.grownBy w2 (some g)) := Lib.hid ((Lib.grownBy_below (World.grownBy.refl w (some g)) B1.out).trans g2)
  have Fin := Lib.hid fin; clear g2 fin
  cases r
  · go_wp2_with fail
    go_ret
    exact ⟨rfl, G2.out, fun h => by cases h⟩
  · go_wp2_with fail
    go_ret
    refine ⟨rfl, G2.out, fun _ => ?_⟩
    obtain ⟨A, c, h1, h2⟩ := Fin.out (by first | rfl | trivial)
    exact ⟨A, c, h1, own_lo h2 B1.out.size⟩
end Go.Proofs.YtplfnlalmcpcaaaGreat
namespace Go.Proofs.YtplfnlalmcpcaaaGreat
open Go.RowKit Go.Maps
set_option linter.unusedVariables false
theorem rtS_eq {ar : ByteArray} (hz : ar.size = 64) (x : Int) : leS x 2 ++ ar.extract 2 64 = rtS ar x := by
  have h1 : ar.data.toList.length = 64 := by simpa using hz
  apply ByteArray.ext
  apply Array.ext'
  have e1 : (leS x 2 ++ ar.extract 2 64).data.toList = [byteOf x 0, byteOf x 1] ++ (ar.data.toList.drop 2).take 62 := by
    rw [ByteArray.data_append]
    simp [leS, leL2, ByteArray.data_extract]
  have e2 : (rtS ar x).data.toList = (ar.data.toList.set 0 (byteOf x 0)).set 1 (byteOf x 1) := by simp [rtS, setB]
  rw [e1, e2, List.take_of_length_le (by simp; omega)]
  rcases hl : ar.data.toList with _ | ⟨a, _ | ⟨c, rest⟩⟩
  · rw [hl] at h1; simp at h1
  · rw [hl] at h1; simp at h1
  · rfl
/-- What SetRoot answers: whether a Pager, and the code. -/
def roX (b l x : Int) : Bool := decide (x = 0) || dtB b l x 1
def roO (ss : List ByteArray) (ps : List Pt) (fz : Int) (off : Bool) (b l q t sq at_ : Int) (lg dt : List Pt) (x : Int) : Bool := pgrOk ss ps fz off b l q t sq at_ lg dt && (roX b l x && ftOk l ((mg dt [(2 + l, rtS (arS ss ps l lg dt) x)]).length : Int))
def roK (ss : List ByteArray) (ps : List Pt) (fz : Int) (off : Bool) (b l q t sq at_ : Int) (lg dt : List Pt) (x : Int) : Int := if pgrOk ss ps fz off b l q t sq at_ lg dt then (if roX b l x then wrC (ftOk l ((mg dt [(2 + l, rtS (arS ss ps l lg dt) x)]).length : Int)) else 2) else 1
set_option maxHeartbeats 8000000 in
set_option maxRecDepth 100000 in
theorem specSetRoot_any {w : World} {A0 A1 A10 A11 : Option Addr} {ss : List ByteArray} {ps lg dt : List Pt} {fz b l q t sq at_ : Int} {off : Bool} {x : Int} (h0 : RiT w.heap.size w (.slice A0 ss.length ss.length) ss) (h1 : RiU w.heap.size w (.slice A1 ps.length ps.length) ps) (h10 : RiU w.heap.size w (.slice A10 lg.length lg.length) lg) (h11 : RiU w.heap.size w (.slice A11 dt.length dt.length) dt) (z0 : ss.length ≤ 1048576) (z1 : ps.length ≤ 1048576) (i4 : InI b) (i5 : InI l) (hx : (Lit.int .i64 x).wf = true) :
    Calls Tryz.prog 17 #[.agg #[.slice A0 ss.length ss.length, .slice A1 ps.length ps.length, .int .i64 fz, .bool off, .int .i64 b, .int .i64 l, .int .i64 q, .int .i64 t, .int .i64 sq, .int .i64 at_, .slice A10 lg.length lg.length, .slice A11 dt.length dt.length], .int .i64 x] w (AnsP (mkC (roK ss ps fz off b l q t sq at_ lg dt x)) (sT (roO ss ps fz off b l q t sq at_ lg dt x) ss) (sT (roO ss ps fz off b l q t sq at_ lg dt x) ps) (sI (roO ss ps fz off b l q t sq at_ lg dt x) fz) (sB (roO ss ps fz off b l q t sq at_ lg dt x) off) (sI (roO ss ps fz off b l q t sq at_ lg dt x) b) (sI (roO ss ps fz off b l q t sq at_ lg dt x) l) (sI (roO ss ps fz off b l q t sq at_ lg dt x) q) (sI (roO ss ps fz off b l q t sq at_ lg dt x) t) (sI (roO ss ps fz off b l q t sq at_ lg dt x) sq) (sI (roO ss ps fz off b l q t sq at_ lg dt x) at_) (sT (roO ss ps fz off b l q t sq at_ lg dt x) lg) (sT (roO ss ps fz off b l q t sq at_ lg dt x) (mg dt [(2 + l, rtS (arS ss ps l lg dt) x)])) w) := by
  have ik : InI x := by unfold InI; simp [Lit.wf, IntKind.min, IntKind.max, IntKind.signed, IntKind.bits] at hx; omega
  have Ik := Lib.hid ik
  have HO : Hid ((roO ss ps fz off b l q t sq at_ lg dt x) = (pgrOk ss ps fz off b l q t sq at_ lg dt && (roX b l x && ftOk l ((mg dt [(2 + l, rtS (arS ss ps l lg dt) x)]).length : Int)))) := Lib.hid rfl
  have HC : Hid ((roK ss ps fz off b l q t sq at_ lg dt x) = if pgrOk ss ps fz off b l q t sq at_ lg dt then (if roX b l x then wrC (ftOk l ((mg dt [(2 + l, rtS (arS ss ps l lg dt) x)]).length : Int)) else 2) else 1) := Lib.hid rfl
  generalize (roO ss ps fz off b l q t sq at_ lg dt x) = O at *
  generalize (roK ss ps fz off b l q t sq at_ lg dt x) = C at *
  have Hok := Lib.hid (pgrOk_t (ss := ss) (ps := ps) (fz := fz) (off := off) (b := b) (l := l) (q := q) (t := t) (sq := sq) (at_ := at_) (lg := lg) (dt := dt))
  have Hpb := Lib.hid (pgrOk_b (ss := ss) (ps := ps) (fz := fz) (off := off) (b := b) (l := l) (q := q) (t := t) (sq := sq) (at_ := at_) (lg := lg) (dt := dt))
  have Hpl := Lib.hid (pgrOk_l (ss := ss) (ps := ps) (fz := fz) (off := off) (b := b) (l := l) (q := q) (t := t) (sq := sq) (at_ := at_) (lg := lg) (dt := dt))
  have Har := Lib.hid (arS_64 (ss := ss) (ps := ps) (fz := fz) (off := off) (b := b) (l := l) (q := q) (t := t) (sq := sq) (at_ := at_) (lg := lg) (dt := dt))
  have HX : Hid (roX b l x = (decide (x = 0) || dtB b l x 1)) := Lib.hid rfl
  generalize roX b l x = y at *
  obtain ⟨sx, hsx⟩ : ∃ s, s = leS x 2 := ⟨_, rfl⟩
  have HSX := Lib.hid hsx
  have CB := Lib.hid (fun W => l01Bytes_any x 2 (by omega) (by omega) W)
  rw [show leS x (Int.toNat 2) = sx from hsx.symm] at CB
  clear hsx
  have H0 := Lib.hid h0; have H1 := Lib.hid h1; have H10 := Lib.hid h10; have H11 := Lib.hid h11
  clear h0 h1 h10 h11
  have B0 : Hid (Below w.heap.size w ((w.alloc (.cells #[.slice A0 ss.length ss.length, .slice A1 ps.length ps.length, .int .i64 fz, .bool off, .int .i64 b, .int .i64 l, .int .i64 q, .int .i64 t, .int .i64 sq, .int .i64 at_, .slice A10 lg.length lg.length, .slice A11 dt.length dt.length] 38)).alloc (.cells #[.slice none 0 0, .slice none 0 0, .int .i64 0, .bool false, .int .i64 0, .int .i64 0, .int .i64 0, .int .i64 0, .int .i64 0, .int .i64 0, .slice none 0 0, .slice none 0 0] 38))) := Lib.hid (((Below.refl _ w).alloc (Nat.le_refl _) _).alloc (by simp) _)
  have R0 : Hid (((w.alloc (.cells #[.slice A0 ss.length ss.length, .slice A1 ps.length ps.length, .int .i64 fz, .bool off, .int .i64 b, .int .i64 l, .int .i64 q, .int .i64 t, .int .i64 sq, .int .i64 at_, .slice A10 lg.length lg.length, .slice A11 dt.length dt.length] 38)).alloc (.cells #[.slice none 0 0, .slice none 0 0, .int .i64 0, .bool false, .int .i64 0, .int .i64 0, .int .i64 0, .int .i64 0, .int .i64 0, .int .i64 0, .slice none 0 0, .slice none 0 0] 38)).heap[w.heap.size]? = some (.cells #[.slice A0 ss.length ss.length, .slice A1 ps.length ps.length, .int .i64 fz, .bool off, .int .i64 b, .int .i64 l, .int .i64 q, .int .i64 t, .int .i64 sq, .int .i64 at_, .slice A10 lg.length lg.length, .slice A11 dt.length dt.length] 38 (0, 0))) := Lib.hid (heap_alloc2_old w _ _)
  have Q0 : Hid (((w.alloc (.cells #[.slice A0 ss.length ss.length, .slice A1 ps.length ps.length, .int .i64 fz, .bool off, .int .i64 b, .int .i64 l, .int .i64 q, .int .i64 t, .int .i64 sq, .int .i64 at_, .slice A10 lg.length lg.length, .slice A11 dt.length dt.length] 38)).alloc (.cells #[.slice none 0 0, .slice none 0 0, .int .i64 0, .bool false, .int .i64 0, .int .i64 0, .int .i64 0, .int .i64 0, .int .i64 0, .int .i64 0, .slice none 0 0, .slice none 0 0] 38)).heap[w.heap.size + 1]? = some (.cells #[.slice none 0 0, .slice none 0 0, .int .i64 0, .bool false, .int .i64 0, .int .i64 0, .int .i64 0, .int .i64 0, .int .i64 0, .int .i64 0, .slice none 0 0, .slice none 0 0] 38 (0, 0))) := Lib.hid (heap_alloc2_new w _ _)
  have Z0 : Hid (w.heap.size + 2 ≤ ((w.alloc (.cells #[.slice A0 ss.length ss.length, .slice A1 ps.length ps.length, .int .i64 fz, .bool off, .int .i64 b, .int .i64 l, .int .i64 q, .int .i64 t, .int .i64 sq, .int .i64 at_, .slice A10 lg.length lg.length, .slice A11 dt.length dt.length] 38)).alloc (.cells #[.slice none 0 0, .slice none 0 0, .int .i64 0, .bool false, .int .i64 0, .int .i64 0, .int .i64 0, .int .i64 0, .int .i64 0, .int .i64 0, .slice none 0 0, .slice none 0 0] 38)).heap.size) := Lib.hid (by simp)
  have C1 := Lib.hid (l12Ok_any R0.out (H0.out.at (Nat.le_refl _) B0.out) (H1.out.at (Nat.le_refl _) B0.out) (H10.out.at (Nat.le_refl _) B0.out) (H11.out.at (Nat.le_refl _) B0.out) (Nat.le_refl _) i4 i5)
  generalize hz : pgrOk ss ps fz off b l q t sq at_ lg dt = z at *
  have HK0 := Lib.hid hz; clear hz
  go_enter Tryz.func17, Tryz.ntmps17
  go_wp2_with fail
  generalize ((w.alloc (.cells #[.slice A0 ss.length ss.length, .slice A1 ps.length ps.length, .int .i64 fz, .bool off, .int .i64 b, .int .i64 l, .int .i64 q, .int .i64 t, .int .i64 sq, .int .i64 at_, .slice A10 lg.length lg.length, .slice A11 dt.length dt.length] 38)).alloc (.cells #[.slice none 0 0, .slice none 0 0, .int .i64 0, .bool false, .int .i64 0, .int .i64 0, .int .i64 0, .int .i64 0, .int .i64 0, .int .i64 0, .slice none 0 0, .slice none 0 0] 38)) = w0 at *
  refine C1.out.mono ?_
  rintro e w1 ⟨rfl, g⟩
  have B1 := Lib.hid (B0.out.trans (g.mono B0.out.size))
  have R1 := Lib.hid ((g.block _ (by have := Z0.out; omega)).trans R0.out)
  have Q1 := Lib.hid ((g.block _ (by have := Z0.out; omega)).trans Q0.out)
  have Z1 : Hid (w.heap.size + 2 ≤ w1.heap.size) := Lib.hid (by have := Z0.out; have := g.size; omega)
  clear g
  cases z
  · skip
    go_wp2_with (refine wpList_store_row rfl 38 (.tmp 4) (.tmp 10) rfl (w.heap.size + 1) #[.slice none 0 0, .slice none 0 0, .int .i64 0, .bool false, .int .i64 0, .int .i64 0, .int .i64 0, .int .i64 0, .int .i64 0, .int .i64 0, .slice none 0 0, .slice none 0 0] rfl rfl 38 _ Q1.out infoP rfl (onePv ..) ?_)
    refine bodyPost_ret (v := .tuple #[.agg #[.slice none 0 0, .slice none 0 0, .int .i64 0, .bool false, .int .i64 0, .int .i64 0, .int .i64 0, .int .i64 0, .int .i64 0, .int .i64 0, .slice none 0 0, .slice none 0 0], .int .i64 1]) ?_ rfl ?_
    · exact results_cell_row2 rfl _ _ (w.heap.size + 1) 38 _ (0, 0) _ _ rfl rfl (setRow_heap _ _ _ _ _ _ Q1.out) Tryz.underlying38 rfl (by kernel_rfl)
    · rw [HC.out]; exact AnsP.zero (mk := mkC 1) (by rw [HO.out]; rfl) (by omega) (by have := Z1.out; omega) B1.out
  have HQ := Lib.hid (Hok.out rfl); have HP := Lib.hid (Hpl.out rfl); have HB := Lib.hid (Hpb.out rfl); have HK := HK0; clear Hok Hpl Hpb
  have Har2 := Har; clear Har
  have Har : Hid (pgrOk ss ps fz off b l q t sq at_ lg dt = true → (arS ss ps l lg dt).size = 64) := Lib.hid (fun _ => Har2.out rfl)
  clear Har2
  by_cases hx0 : x = 0
  · have ey : y = true := by rw [HX.out, hx0]; rfl
    subst ey
    subst hx0
    go_wp2_with fail
    refine (l12Own_any R1.out (H0.out.at (Nat.le_refl _) B1.out) (H1.out.at (Nat.le_refl _) B1.out) (H10.out.at (Nat.le_refl _) B1.out) (H11.out.at (Nat.le_refl _) B1.out) z0 z1 (by have := HP.out.1; omega) (by have := HP.out.2.1; omega)).mono ?_
    rintro e w2 ⟨X0, X1, X10, X11, x0, x1, x10, x11, rfl, pg, g⟩
    have Pg := Lib.hid pg; clear pg
    have Zl : Hid (w1.heap.size ≤ w2.heap.size) := Lib.hid g.size
    have B2 := Lib.hid (B1.out.trans (g.mono B1.out.size))
    have R2 := Lib.hid ((g.block _ (by have := Z1.out; omega)).trans R1.out)
    have Q2 := Lib.hid ((g.block _ (by have := Z1.out; omega)).trans Q1.out)
    have Z2 : Hid (w.heap.size + 2 ≤ w2.heap.size) := Lib.hid (by have := Z1.out; have := g.size; omega)
    clear g
    have Rb : Hid ((w2.alloc (.cells #[.slice X0 ss.length x0, .slice X1 ps.length x1, .int .i64 fz, .bool off, .int .i64 b, .int .i64 l, .int .i64 q, .int .i64 t, .int .i64 sq, .int .i64 at_, .slice X10 lg.length x10, .slice X11 dt.length x11] 38)).heap[w2.heap.size]? = some (.cells #[.slice X0 ss.length x0, .slice X1 ps.length x1, .int .i64 fz, .bool off, .int .i64 b, .int .i64 l, .int .i64 q, .int .i64 t, .int .i64 sq, .int .i64 at_, .slice X10 lg.length x10, .slice X11 dt.length x11] 38 (0, 0))) := Lib.hid (heap_alloc_new w2 _)
    have Bb : Hid (Below w2.heap.size w2 (w2.alloc (.cells #[.slice X0 ss.length x0, .slice X1 ps.length x1, .int .i64 fz, .bool off, .int .i64 b, .int .i64 l, .int .i64 q, .int .i64 t, .int .i64 sq, .int .i64 at_, .slice X10 lg.length x10, .slice X11 dt.length x11] 38))) := Lib.hid ((Below.refl _ _).alloc (Nat.le_refl _) _)
    have Pb := Lib.hid (Pg.out.bel Bb.out)
    have Zbb : Hid (w2.heap.size < (w2.alloc (.cells #[.slice X0 ss.length x0, .slice X1 ps.length x1, .int .i64 fz, .bool off, .int .i64 b, .int .i64 l, .int .i64 q, .int .i64 t, .int .i64 sq, .int .i64 at_, .slice X10 lg.length x10, .slice X11 dt.length x11] 38)).heap.size) := Lib.hid (by simp)
    have R3 := Lib.hid ((Bb.out.block _ (by have := Z2.out; omega)).trans R2.out)
    have Q3 := Lib.hid ((Bb.out.block _ (by have := Z2.out; omega)).trans Q2.out)
    have B3 := Lib.hid (B2.out.trans (Bb.out.mono B2.out.size))
    have Z3 : Hid (w.heap.size + 2 ≤ (w2.alloc (.cells #[.slice X0 ss.length x0, .slice X1 ps.length x1, .int .i64 fz, .bool off, .int .i64 b, .int .i64 l, .int .i64 q, .int .i64 t, .int .i64 sq, .int .i64 at_, .slice X10 lg.length x10, .slice X11 dt.length x11] 38)).heap.size) := Lib.hid (by have := Z2.out; have := Zbb.out; omega)
    go_wp2_with fail
    generalize (w2.alloc (.cells #[.slice X0 ss.length x0, .slice X1 ps.length x1, .int .i64 fz, .bool off, .int .i64 b, .int .i64 l, .int .i64 q, .int .i64 t, .int .i64 sq, .int .i64 at_, .slice X10 lg.length x10, .slice X11 dt.length x11] 38)) = w3 at *
    refine (CB.out _).mono ?_
    rintro e w4 ⟨rfl, g⟩
    have Bc := Lib.hid g
    have Bk := Lib.hid (Bb.out.trans (g.mono Bb.out.size))
    have B4 := Lib.hid (B3.out.trans (g.mono B3.out.size))
    have R4 := Lib.hid ((g.block _ (by have := Z3.out; omega)).trans R3.out)
    have Q4 := Lib.hid ((g.block _ (by have := Z3.out; omega)).trans Q3.out)
    have Z4 : Hid (w.heap.size + 2 ≤ w4.heap.size) := Lib.hid (by have := Z3.out; have := g.size; omega)
    clear g
    have Rb2 := Lib.hid ((Bc.out.block _ Zbb.out).trans Rb.out)
    have Pb2 := Lib.hid (Pb.out.bel Bc.out)
    have Zk : Hid (w2.heap.size < w4.heap.size) := Lib.hid (by have := Zbb.out; have := Bc.out.size; omega)
    go_wp2_with fail
    have CA := Lib.hid (l13Area_any R4.out (H0.out.at (Nat.le_refl _) B4.out) (H1.out.at (Nat.le_refl _) B4.out) (H10.out.at (Nat.le_refl _) B4.out) (H11.out.at (Nat.le_refl _) B4.out) (Nat.le_refl _) HK.out)
    have HZa := Lib.hid (Har.out HK.out)
    have HZs : Hid ((rtS (arS ss ps l lg dt) 0).size ≤ maxLen) := Lib.hid (by rw [rtS_size, HZa.out]; decide)
    have HEq := Lib.hid (rtS_eq HZa.out 0)
    rw [← HSX.out] at HEq
    generalize hrt : rtS (arS ss ps l lg dt) 0 = ar2 at *
    generalize (arS ss ps l lg dt) = ar at *
    refine CA.out.mono ?_
    rintro e w5 ⟨rfl, g⟩
    have Bd := Lib.hid g
    have B5 := Lib.hid (B4.out.trans (g.mono B4.out.size))
    have R5 := Lib.hid ((g.block _ (by have := Z4.out; omega)).trans R4.out)
    have Q5 := Lib.hid ((g.block _ (by have := Z4.out; omega)).trans Q4.out)
    have Z5 : Hid (w.heap.size + 2 ≤ w5.heap.size) := Lib.hid (by have := Z4.out; have := g.size; omega)
    clear g
    have Rb3 := Lib.hid ((Bd.out.block _ Zk.out).trans Rb2.out)
    have Pb3 := Lib.hid (Pb2.out.bel Bd.out)
    have s1 : (2 : Int) ≤ (ar.size : Int) := by have := HZa.out; omega
    have s2 : (ar.size : Int) = 64 := by have := HZa.out; omega
    have s3 : ar.size = 64 := HZa.out
    have s4 : sx.size = 2 := by rw [HSX.out]; simp [leS, leL2, ByteArray.size]
    have hadd := fun w1 => run_string_add_sum (P := Tryz.prog) w1 sx (ar.extract 2 64) (by rw [ByteArray.size_extract]; omega)
    rw [HEq.out] at hadd
    go_wp2_with fail
    clear hadd
    have C3 := Lib.hid (l13Put_any (ar := ar2) Rb3.out ((Pb3.out.2.2.2.1).riu H11.out.wf) (Nat.le_refl _) HP.out.2.1 HQ.out.1 HZs.out)
    generalize mg dt [(2 + l, ar2)] = M at *
    generalize ftOk l (M.length : Int) = r at *
    refine C3.out.mono ?_
    rintro e wf ⟨rfl, g6, fin⟩
    have Fin := Lib.hid fin; clear fin
    have Zz : Hid (w2.heap.size < w5.heap.size) := Lib.hid (by have := Zk.out; have := Bd.out.size; omega)
    have Qf := Lib.hid (grown_blk g6 (by have := Z5.out; omega) (by have := Z2.out; omega) Q5.out)
    have Bf : Hid (Below w.heap.size w wf) := Lib.hid (B5.out.grown g6 B5.out.size (fun j hj => by cases hj; have := Z2.out; omega))
    have Zf : Hid (w.heap.size + 2 ≤ wf.heap.size) := Lib.hid (by have := Z5.out; have := g6.size; omega)
    cases r
    · have ec : wrC false = 5 := rfl
      rw [ec]
      go_wp2_with (refine wpList_store_row rfl 38 (.tmp 4) (.tmp 28) rfl (w.heap.size + 1) #[.slice none 0 0, .slice none 0 0, .int .i64 0, .bool false, .int .i64 0, .int .i64 0, .int .i64 0, .int .i64 0, .int .i64 0, .int .i64 0, .slice none 0 0, .slice none 0 0] rfl rfl 38 _ Qf.out infoP rfl (onePv ..) ?_)
      refine bodyPost_ret (v := .tuple #[.agg #[.slice none 0 0, .slice none 0 0, .int .i64 0, .bool false, .int .i64 0, .int .i64 0, .int .i64 0, .int .i64 0, .int .i64 0, .int .i64 0, .slice none 0 0, .slice none 0 0], .int .i64 5]) ?_ rfl ?_
      · exact results_cell_row2 rfl _ _ (w.heap.size + 1) 38 _ (0, 0) _ _ rfl rfl (setRow_heap _ _ _ _ _ _ Qf.out) Tryz.underlying38 rfl (by kernel_rfl)
      · rw [HC.out]; exact AnsP.zero (mk := mkC 5) (by rw [HO.out]; rfl) (by omega) (by have := Zf.out; omega) Bf.out
    have ec : wrC true = 0 := rfl
    rw [ec]
    obtain ⟨Y, y', hrow, ho⟩ := Fin.out rfl
    have Hr := Lib.hid hrow
    have Pf : Hid (PgO wf w1.heap.size (.slice X0 ss.length x0) (.slice X1 ps.length x1) (.slice X10 lg.length x10) (.slice Y M.length y') ss ps lg M) := Lib.hid (pgo_box Pb3.out Pg.out g6 ho)
    clear hrow ho g6 Fin
    go_wp2_with (first | (refine wpList_load_row rfl 38 (.tmp 6) rfl _ rfl 38 _ (0, 0) _ Hr.out Tryz.underlying38 rfl (by kernel_rfl) ?_) | (refine wpList_store_row rfl 38 (.tmp 4) (.tmp 30) rfl (w.heap.size + 1) #[.slice X0 ss.length x0, .slice X1 ps.length x1, .int .i64 fz, .bool off, .int .i64 b, .int .i64 l, .int .i64 q, .int .i64 t, .int .i64 sq, .int .i64 at_, .slice X10 lg.length x10, .slice Y M.length y'] rfl rfl 38 _ Qf.out infoP rfl (onePv ..) ?_))
    refine bodyPost_ret (v := .tuple #[.agg #[.slice X0 ss.length x0, .slice X1 ps.length x1, .int .i64 fz, .bool off, .int .i64 b, .int .i64 l, .int .i64 q, .int .i64 t, .int .i64 sq, .int .i64 at_, .slice X10 lg.length x10, .slice Y M.length y'], .int .i64 0]) ?_ rfl ?_
    · exact results_cell_row2 rfl _ _ (w.heap.size + 1) 38 _ (0, 0) _ _ rfl rfl (setRow_heap _ _ _ _ _ _ Qf.out) Tryz.underlying38 rfl (by kernel_rfl)
    · rw [HC.out]; exact AnsP.full (by rw [HO.out]; rfl) (AnsP.end (mk := mkC 0) (lo := w1.heap.size) Pf.out (by have := Z1.out; omega) (by omega) Bf.out)
  have d0 : (x == 0) = false := by simp [hx0]
  have HY : Hid (y = dtB b l x 1) := Lib.hid (by rw [HX.out]; simp [hx0])
  clear HX
  have C2 := Lib.hid (l13Data_any x 1 R1.out HQ.out.1 Ik.out)
  rw [← HY.out] at C2
  go_wp2_with fail
  refine C2.out.mono ?_
  rintro e w2 ⟨rfl, g⟩
  have B2 := Lib.hid (B1.out.trans (g.mono B1.out.size))
  have R2 := Lib.hid ((g.block _ (by have := Z1.out; omega)).trans R1.out)
  have Q2 := Lib.hid ((g.block _ (by have := Z1.out; omega)).trans Q1.out)
  have Z2 : Hid (w.heap.size + 2 ≤ w2.heap.size) := Lib.hid (by have := Z1.out; have := g.size; omega)
  clear g
  cases y
  · skip
    go_wp2_with (refine wpList_store_row rfl 38 (.tmp 4) (.tmp 18) rfl (w.heap.size + 1) #[.slice none 0 0, .slice none 0 0, .int .i64 0, .bool false, .int .i64 0, .int .i64 0, .int .i64 0, .int .i64 0, .int .i64 0, .int .i64 0, .slice none 0 0, .slice none 0 0] rfl rfl 38 _ Q2.out infoP rfl (onePv ..) ?_)
    refine bodyPost_ret (v := .tuple #[.agg #[.slice none 0 0, .slice none 0 0, .int .i64 0, .bool false, .int .i64 0, .int .i64 0, .int .i64 0, .int .i64 0, .int .i64 0, .int .i64 0, .slice none 0 0, .slice none 0 0], .int .i64 2]) ?_ rfl ?_
    · exact results_cell_row2 rfl _ _ (w.heap.size + 1) 38 _ (0, 0) _ _ rfl rfl (setRow_heap _ _ _ _ _ _ Q2.out) Tryz.underlying38 rfl (by kernel_rfl)
    · rw [HC.out]; exact AnsP.zero (mk := mkC 2) (by rw [HO.out]; rfl) (by omega) (by have := Z2.out; omega) B2.out
  go_wp2_with fail
  refine (l12Own_any R2.out (H0.out.at (Nat.le_refl _) B2.out) (H1.out.at (Nat.le_refl _) B2.out) (H10.out.at (Nat.le_refl _) B2.out) (H11.out.at (Nat.le_refl _) B2.out) z0 z1 (by have := HP.out.1; omega) (by have := HP.out.2.1; omega)).mono ?_
  rintro e w3 ⟨X0, X1, X10, X11, x0, x1, x10, x11, rfl, pg, g⟩
  have Pg := Lib.hid pg; clear pg
  have Zl : Hid (w2.heap.size ≤ w3.heap.size) := Lib.hid g.size
  have B3 := Lib.hid (B2.out.trans (g.mono B2.out.size))
  have R3 := Lib.hid ((g.block _ (by have := Z2.out; omega)).trans R2.out)
  have Q3 := Lib.hid ((g.block _ (by have := Z2.out; omega)).trans Q2.out)
  have Z3 : Hid (w.heap.size + 2 ≤ w3.heap.size) := Lib.hid (by have := Z2.out; have := g.size; omega)
  clear g
  have Rb : Hid ((w3.alloc (.cells #[.slice X0 ss.length x0, .slice X1 ps.length x1, .int .i64 fz, .bool off, .int .i64 b, .int .i64 l, .int .i64 q, .int .i64 t, .int .i64 sq, .int .i64 at_, .slice X10 lg.length x10, .slice X11 dt.length x11] 38)).heap[w3.heap.size]? = some (.cells #[.slice X0 ss.length x0, .slice X1 ps.length x1, .int .i64 fz, .bool off, .int .i64 b, .int .i64 l, .int .i64 q, .int .i64 t, .int .i64 sq, .int .i64 at_, .slice X10 lg.length x10, .slice X11 dt.length x11] 38 (0, 0))) := Lib.hid (heap_alloc_new w3 _)
  have Bb : Hid (Below w3.heap.size w3 (w3.alloc (.cells #[.slice X0 ss.length x0, .slice X1 ps.length x1, .int .i64 fz, .bool off, .int .i64 b, .int .i64 l, .int .i64 q, .int .i64 t, .int .i64 sq, .int .i64 at_, .slice X10 lg.length x10, .slice X11 dt.length x11] 38))) := Lib.hid ((Below.refl _ _).alloc (Nat.le_refl _) _)
  have Pb := Lib.hid (Pg.out.bel Bb.out)
  have Zbb : Hid (w3.heap.size < (w3.alloc (.cells #[.slice X0 ss.length x0, .slice X1 ps.length x1, .int .i64 fz, .bool off, .int .i64 b, .int .i64 l, .int .i64 q, .int .i64 t, .int .i64 sq, .int .i64 at_, .slice X10 lg.length x10, .slice X11 dt.length x11] 38)).heap.size) := Lib.hid (by simp)
  have R4 := Lib.hid ((Bb.out.block _ (by have := Z3.out; omega)).trans R3.out)
  have Q4 := Lib.hid ((Bb.out.block _ (by have := Z3.out; omega)).trans Q3.out)
  have B4 := Lib.hid (B3.out.trans (Bb.out.mono B3.out.size))
  have Z4 : Hid (w.heap.size + 2 ≤ (w3.alloc (.cells #[.slice X0 ss.length x0, .slice X1 ps.length x1, .int .i64 fz, .bool off, .int .i64 b, .int .i64 l, .int .i64 q, .int .i64 t, .int .i64 sq, .int .i64 at_, .slice X10 lg.length x10, .slice X11 dt.length x11] 38)).heap.size) := Lib.hid (by have := Z3.out; have := Zbb.out; omega)
  go_wp2_with fail
  generalize (w3.alloc (.cells #[.slice X0 ss.length x0, .slice X1 ps.length x1, .int .i64 fz, .bool off, .int .i64 b, .int .i64 l, .int .i64 q, .int .i64 t, .int .i64 sq, .int .i64 at_, .slice X10 lg.length x10, .slice X11 dt.length x11] 38)) = w4 at *
  refine (CB.out _).mono ?_
  rintro e w5 ⟨rfl, g⟩
  have Bc := Lib.hid g
  have Bk := Lib.hid (Bb.out.trans (g.mono Bb.out.size))
  have B5 := Lib.hid (B4.out.trans (g.mono B4.out.size))
  have R5 := Lib.hid ((g.block _ (by have := Z4.out; omega)).trans R4.out)
  have Q5 := Lib.hid ((g.block _ (by have := Z4.out; omega)).trans Q4.out)
  have Z5 : Hid (w.heap.size + 2 ≤ w5.heap.size) := Lib.hid (by have := Z4.out; have := g.size; omega)
  clear g
  have Rb2 := Lib.hid ((Bc.out.block _ Zbb.out).trans Rb.out)
  have Pb2 := Lib.hid (Pb.out.bel Bc.out)
  have Zk : Hid (w3.heap.size < w5.heap.size) := Lib.hid (by have := Zbb.out; have := Bc.out.size; omega)
  go_wp2_with fail
  have CA := Lib.hid (l13Area_any R5.out (H0.out.at (Nat.le_refl _) B5.out) (H1.out.at (Nat.le_refl _) B5.out) (H10.out.at (Nat.le_refl _) B5.out) (H11.out.at (Nat.le_refl _) B5.out) (Nat.le_refl _) HK.out)
  have HZa := Lib.hid (Har.out HK.out)
  have HZs : Hid ((rtS (arS ss ps l lg dt) x).size ≤ maxLen) := Lib.hid (by rw [rtS_size, HZa.out]; decide)
  have HEq := Lib.hid (rtS_eq HZa.out x)
  rw [← HSX.out] at HEq
  generalize hrt : rtS (arS ss ps l lg dt) x = ar2 at *
  generalize (arS ss ps l lg dt) = ar at *
  refine CA.out.mono ?_
  rintro e w6 ⟨rfl, g⟩
  have Bd := Lib.hid g
  have B6 := Lib.hid (B5.out.trans (g.mono B5.out.size))
  have R6 := Lib.hid ((g.block _ (by have := Z5.out; omega)).trans R5.out)
  have Q6 := Lib.hid ((g.block _ (by have := Z5.out; omega)).trans Q5.out)
  have Z6 : Hid (w.heap.size + 2 ≤ w6.heap.size) := Lib.hid (by have := Z5.out; have := g.size; omega)
  clear g
  have Rb3 := Lib.hid ((Bd.out.block _ Zk.out).trans Rb2.out)
  have Pb3 := Lib.hid (Pb2.out.bel Bd.out)
  have s1 : (2 : Int) ≤ (ar.size : Int) := by have := HZa.out; omega
  have s2 : (ar.size : Int) = 64 := by have := HZa.out; omega
  have s3 : ar.size = 64 := HZa.out
  have s4 : sx.size = 2 := by rw [HSX.out]; simp [leS, leL2, ByteArray.size]
  have hadd := fun w1 => run_string_add_sum (P := Tryz.prog) w1 sx (ar.extract 2 64) (by rw [ByteArray.size_extract]; omega)
  rw [HEq.out] at hadd
  go_wp2_with fail
  clear hadd
  have C3 := Lib.hid (l13Put_any (ar := ar2) Rb3.out ((Pb3.out.2.2.2.1).riu H11.out.wf) (Nat.le_refl _) HP.out.2.1 HQ.out.1 HZs.out)
  generalize mg dt [(2 + l, ar2)] = M at *
  generalize ftOk l (M.length : Int) = r at *
  refine C3.out.mono ?_
  rintro e wf ⟨rfl, g6, fin⟩
  have Fin := Lib.hid fin; clear fin
  have Zz : Hid (w3.heap.size < w6.heap.size) := Lib.hid (by have := Zk.out; have := Bd.out.size; omega)
  have Qf := Lib.hid (grown_blk g6 (by have := Z6.out; omega) (by have := Z3.out; omega) Q6.out)
  have Bf : Hid (Below w.heap.size w wf) := Lib.hid (B6.out.grown g6 B6.out.size (fun j hj => by cases hj; have := Z3.out; omega))
  have Zf : Hid (w.heap.size + 2 ≤ wf.heap.size) := Lib.hid (by have := Z6.out; have := g6.size; omega)
  cases r
  · have ec : wrC false = 5 := rfl
    rw [ec]
    go_wp2_with (refine wpList_store_row rfl 38 (.tmp 4) (.tmp 28) rfl (w.heap.size + 1) #[.slice none 0 0, .slice none 0 0, .int .i64 0, .bool false, .int .i64 0, .int .i64 0, .int .i64 0, .int .i64 0, .int .i64 0, .int .i64 0, .slice none 0 0, .slice none 0 0] rfl rfl 38 _ Qf.out infoP rfl (onePv ..) ?_)
    refine bodyPost_ret (v := .tuple #[.agg #[.slice none 0 0, .slice none 0 0, .int .i64 0, .bool false, .int .i64 0, .int .i64 0, .int .i64 0, .int .i64 0, .int .i64 0, .int .i64 0, .slice none 0 0, .slice none 0 0], .int .i64 5]) ?_ rfl ?_
    · exact results_cell_row2 rfl _ _ (w.heap.size + 1) 38 _ (0, 0) _ _ rfl rfl (setRow_heap _ _ _ _ _ _ Qf.out) Tryz.underlying38 rfl (by kernel_rfl)
    · rw [HC.out]; exact AnsP.zero (mk := mkC 5) (by rw [HO.out]; rfl) (by omega) (by have := Zf.out; omega) Bf.out
  have ec : wrC true = 0 := rfl
  rw [ec]
  obtain ⟨Y, y', hrow, ho⟩ := Fin.out rfl
  have Hr := Lib.hid hrow
  have Pf : Hid (PgO wf w2.heap.size (.slice X0 ss.length x0) (.slice X1 ps.length x1) (.slice X10 lg.length x10) (.slice Y M.length y') ss ps lg M) := Lib.hid (pgo_box Pb3.out Pg.out g6 ho)
  clear hrow ho g6 Fin
  go_wp2_with (first | (refine wpList_load_row rfl 38 (.tmp 6) rfl _ rfl 38 _ (0, 0) _ Hr.out Tryz.underlying38 rfl (by kernel_rfl) ?_) | (refine wpList_store_row rfl 38 (.tmp 4) (.tmp 30) rfl (w.heap.size + 1) #[.slice X0 ss.length x0, .slice X1 ps.length x1, .int .i64 fz, .bool off, .int .i64 b, .int .i64 l, .int .i64 q, .int .i64 t, .int .i64 sq, .int .i64 at_, .slice X10 lg.length x10, .slice Y M.length y'] rfl rfl 38 _ Qf.out infoP rfl (onePv ..) ?_))
  refine bodyPost_ret (v := .tuple #[.agg #[.slice X0 ss.length x0, .slice X1 ps.length x1, .int .i64 fz, .bool off, .int .i64 b, .int .i64 l, .int .i64 q, .int .i64 t, .int .i64 sq, .int .i64 at_, .slice X10 lg.length x10, .slice Y M.length y'], .int .i64 0]) ?_ rfl ?_
  · exact results_cell_row2 rfl _ _ (w.heap.size + 1) 38 _ (0, 0) _ _ rfl rfl (setRow_heap _ _ _ _ _ _ Qf.out) Tryz.underlying38 rfl (by kernel_rfl)
  · rw [HC.out]; exact AnsP.full (by rw [HO.out]; rfl) (AnsP.end (mk := mkC 0) (lo := w2.heap.size) Pf.out (by have := Z2.out; omega) (by omega) Bf.out)
end Go.Proofs.YtplfnlalmcpcaaaGreat
namespace Go.Proofs.YtplfnlalmcpcaaaGreat
open Go.RowKit Go.Maps
set_option linter.unusedVariables false
set_option maxHeartbeats 8000000 in
set_option maxRecDepth 100000 in
theorem implSetRoot_any {w : World} {A0 A1 A10 A11 : Option Addr} {ss : List ByteArray} {ps lg dt : List Pt} {fz b l q t sq at_ : Int} {off : Bool} {x : Int} (h0 : RiT w.heap.size w (.slice A0 ss.length ss.length) ss) (h1 : RiU w.heap.size w (.slice A1 ps.length ps.length) ps) (h10 : RiU w.heap.size w (.slice A10 lg.length lg.length) lg) (h11 : RiU w.heap.size w (.slice A11 dt.length dt.length) dt) (z0 : ss.length ≤ 1048576) (z1 : ps.length ≤ 1048576) (i4 : InI b) (i5 : InI l) (hx : (Lit.int .i64 x).wf = true) :
    Calls Tryz.prog 18 #[.agg #[.slice A0 ss.length ss.length, .slice A1 ps.length ps.length, .int .i64 fz, .bool off, .int .i64 b, .int .i64 l, .int .i64 q, .int .i64 t, .int .i64 sq, .int .i64 at_, .slice A10 lg.length lg.length, .slice A11 dt.length dt.length], .int .i64 x] w (AnsP (mkC (roK ss ps fz off b l q t sq at_ lg dt x)) (sT (roO ss ps fz off b l q t sq at_ lg dt x) ss) (sT (roO ss ps fz off b l q t sq at_ lg dt x) ps) (sI (roO ss ps fz off b l q t sq at_ lg dt x) fz) (sB (roO ss ps fz off b l q t sq at_ lg dt x) off) (sI (roO ss ps fz off b l q t sq at_ lg dt x) b) (sI (roO ss ps fz off b l q t sq at_ lg dt x) l) (sI (roO ss ps fz off b l q t sq at_ lg dt x) q) (sI (roO ss ps fz off b l q t sq at_ lg dt x) t) (sI (roO ss ps fz off b l q t sq at_ lg dt x) sq) (sI (roO ss ps fz off b l q t sq at_ lg dt x) at_) (sT (roO ss ps fz off b l q t sq at_ lg dt x) lg) (sT (roO ss ps fz off b l q t sq at_ lg dt x) (mg dt [(2 + l, rtS (arS ss ps l lg dt) x)])) w) := by
  have ik : InI x := by unfold InI; simp [Lit.wf, IntKind.min, IntKind.max, IntKind.signed, IntKind.bits] at hx; omega
  have Ik := Lib.hid ik
  have HO : Hid ((roO ss ps fz off b l q t sq at_ lg dt x) = (pgrOk ss ps fz off b l q t sq at_ lg dt && (roX b l x && ftOk l ((mg dt [(2 + l, rtS (arS ss ps l lg dt) x)]).length : Int)))) := Lib.hid rfl
  have HC : Hid ((roK ss ps fz off b l q t sq at_ lg dt x) = if pgrOk ss ps fz off b l q t sq at_ lg dt then (if roX b l x then wrC (ftOk l ((mg dt [(2 + l, rtS (arS ss ps l lg dt) x)]).length : Int)) else 2) else 1) := Lib.hid rfl
  generalize (roO ss ps fz off b l q t sq at_ lg dt x) = O at *
  generalize (roK ss ps fz off b l q t sq at_ lg dt x) = C at *
  have Hok := Lib.hid (pgrOk_t (ss := ss) (ps := ps) (fz := fz) (off := off) (b := b) (l := l) (q := q) (t := t) (sq := sq) (at_ := at_) (lg := lg) (dt := dt))
  have Hpb := Lib.hid (pgrOk_b (ss := ss) (ps := ps) (fz := fz) (off := off) (b := b) (l := l) (q := q) (t := t) (sq := sq) (at_ := at_) (lg := lg) (dt := dt))
  have Hpl := Lib.hid (pgrOk_l (ss := ss) (ps := ps) (fz := fz) (off := off) (b := b) (l := l) (q := q) (t := t) (sq := sq) (at_ := at_) (lg := lg) (dt := dt))
  have Har := Lib.hid (arS_64 (ss := ss) (ps := ps) (fz := fz) (off := off) (b := b) (l := l) (q := q) (t := t) (sq := sq) (at_ := at_) (lg := lg) (dt := dt))
  have HX : Hid (roX b l x = (decide (x = 0) || dtB b l x 1)) := Lib.hid rfl
  generalize roX b l x = y at *
  obtain ⟨sx, hsx⟩ : ∃ s, s = leS x 2 := ⟨_, rfl⟩
  have HSX := Lib.hid hsx
  have CB := Lib.hid (fun W => l01Bytes_any x 2 (by omega) (by omega) W)
  rw [show leS x (Int.toNat 2) = sx from hsx.symm] at CB
  clear hsx
  have H0 := Lib.hid h0; have H1 := Lib.hid h1; have H10 := Lib.hid h10; have H11 := Lib.hid h11
  clear h0 h1 h10 h11
  have B0 : Hid (Below w.heap.size w ((w.alloc (.cells #[.slice A0 ss.length ss.length, .slice A1 ps.length ps.length, .int .i64 fz, .bool off, .int .i64 b, .int .i64 l, .int .i64 q, .int .i64 t, .int .i64 sq, .int .i64 at_, .slice A10 lg.length lg.length, .slice A11 dt.length dt.length] 38)).alloc (.cells #[.slice none 0 0, .slice none 0 0, .int .i64 0, .bool false, .int .i64 0, .int .i64 0, .int .i64 0, .int .i64 0, .int .i64 0, .int .i64 0, .slice none 0 0, .slice none 0 0] 38))) := Lib.hid (((Below.refl _ w).alloc (Nat.le_refl _) _).alloc (by simp) _)
  have R0 : Hid (((w.alloc (.cells #[.slice A0 ss.length ss.length, .slice A1 ps.length ps.length, .int .i64 fz, .bool off, .int .i64 b, .int .i64 l, .int .i64 q, .int .i64 t, .int .i64 sq, .int .i64 at_, .slice A10 lg.length lg.length, .slice A11 dt.length dt.length] 38)).alloc (.cells #[.slice none 0 0, .slice none 0 0, .int .i64 0, .bool false, .int .i64 0, .int .i64 0, .int .i64 0, .int .i64 0, .int .i64 0, .int .i64 0, .slice none 0 0, .slice none 0 0] 38)).heap[w.heap.size]? = some (.cells #[.slice A0 ss.length ss.length, .slice A1 ps.length ps.length, .int .i64 fz, .bool off, .int .i64 b, .int .i64 l, .int .i64 q, .int .i64 t, .int .i64 sq, .int .i64 at_, .slice A10 lg.length lg.length, .slice A11 dt.length dt.length] 38 (0, 0))) := Lib.hid (heap_alloc2_old w _ _)
  have Q0 : Hid (((w.alloc (.cells #[.slice A0 ss.length ss.length, .slice A1 ps.length ps.length, .int .i64 fz, .bool off, .int .i64 b, .int .i64 l, .int .i64 q, .int .i64 t, .int .i64 sq, .int .i64 at_, .slice A10 lg.length lg.length, .slice A11 dt.length dt.length] 38)).alloc (.cells #[.slice none 0 0, .slice none 0 0, .int .i64 0, .bool false, .int .i64 0, .int .i64 0, .int .i64 0, .int .i64 0, .int .i64 0, .int .i64 0, .slice none 0 0, .slice none 0 0] 38)).heap[w.heap.size + 1]? = some (.cells #[.slice none 0 0, .slice none 0 0, .int .i64 0, .bool false, .int .i64 0, .int .i64 0, .int .i64 0, .int .i64 0, .int .i64 0, .int .i64 0, .slice none 0 0, .slice none 0 0] 38 (0, 0))) := Lib.hid (heap_alloc2_new w _ _)
  have Z0 : Hid (w.heap.size + 2 ≤ ((w.alloc (.cells #[.slice A0 ss.length ss.length, .slice A1 ps.length ps.length, .int .i64 fz, .bool off, .int .i64 b, .int .i64 l, .int .i64 q, .int .i64 t, .int .i64 sq, .int .i64 at_, .slice A10 lg.length lg.length, .slice A11 dt.length dt.length] 38)).alloc (.cells #[.slice none 0 0, .slice none 0 0, .int .i64 0, .bool false, .int .i64 0, .int .i64 0, .int .i64 0, .int .i64 0, .int .i64 0, .int .i64 0, .slice none 0 0, .slice none 0 0] 38)).heap.size) := Lib.hid (by simp)
  have C1 := Lib.hid (implValidPager_any (fz := fz) (off := off) (b := b) (l := l) (q := q) (t := t) (sq := sq) (at_ := at_) (H0.out.at (Nat.le_refl _) B0.out) (H1.out.at (Nat.le_refl _) B0.out) (H10.out.at (Nat.le_refl _) B0.out) (H11.out.at (Nat.le_refl _) B0.out) (Nat.le_refl _) i4 i5)
  generalize hz : pgrOk ss ps fz off b l q t sq at_ lg dt = z at *
  have HK0 := Lib.hid hz; clear hz HSX CB
  go_enter Tryz.func18, Tryz.ntmps18
  go_wp2_with (refine wpList_load_row rfl 38 (.tmp 2) rfl _ rfl 38 _ (0, 0) _ R0.out Tryz.underlying38 rfl (by kernel_rfl) ?_)
  generalize ((w.alloc (.cells #[.slice A0 ss.length ss.length, .slice A1 ps.length ps.length, .int .i64 fz, .bool off, .int .i64 b, .int .i64 l, .int .i64 q, .int .i64 t, .int .i64 sq, .int .i64 at_, .slice A10 lg.length lg.length, .slice A11 dt.length dt.length] 38)).alloc (.cells #[.slice none 0 0, .slice none 0 0, .int .i64 0, .bool false, .int .i64 0, .int .i64 0, .int .i64 0, .int .i64 0, .int .i64 0, .int .i64 0, .slice none 0 0, .slice none 0 0] 38)) = w0 at *
  refine C1.out.mono ?_
  rintro e w1 ⟨rfl, g⟩
  have B1 := Lib.hid (B0.out.trans (g.mono B0.out.size))
  have R1 := Lib.hid ((g.block _ (by have := Z0.out; omega)).trans R0.out)
  have Q1 := Lib.hid ((g.block _ (by have := Z0.out; omega)).trans Q0.out)
  have Z1 : Hid (w.heap.size + 2 ≤ w1.heap.size) := Lib.hid (by have := Z0.out; have := g.size; omega)
  clear g
  cases z
  · skip
    go_wp2_with (refine wpList_store_row rfl 38 (.tmp 4) (.tmp 10) rfl (w.heap.size + 1) #[.slice none 0 0, .slice none 0 0, .int .i64 0, .bool false, .int .i64 0, .int .i64 0, .int .i64 0, .int .i64 0, .int .i64 0, .int .i64 0, .slice none 0 0, .slice none 0 0] rfl rfl 38 _ Q1.out infoP rfl (onePv ..) ?_)
    refine bodyPost_ret (v := .tuple #[.agg #[.slice none 0 0, .slice none 0 0, .int .i64 0, .bool false, .int .i64 0, .int .i64 0, .int .i64 0, .int .i64 0, .int .i64 0, .int .i64 0, .slice none 0 0, .slice none 0 0], .int .i64 1]) ?_ rfl ?_
    · exact results_cell_row2 rfl _ _ (w.heap.size + 1) 38 _ (0, 0) _ _ rfl rfl (setRow_heap _ _ _ _ _ _ Q1.out) Tryz.underlying38 rfl (by kernel_rfl)
    · rw [HC.out]; exact AnsP.zero (mk := mkC 1) (by rw [HO.out]; rfl) (by omega) (by have := Z1.out; omega) B1.out
  have HQ := Lib.hid (Hok.out rfl); have HP := Lib.hid (Hpl.out rfl); have HB := Lib.hid (Hpb.out rfl); have HK := HK0; clear Hok Hpl Hpb
  have Har2 := Har; clear Har
  have Har : Hid (pgrOk ss ps fz off b l q t sq at_ lg dt = true → (arS ss ps l lg dt).size = 64) := Lib.hid (fun _ => Har2.out rfl)
  clear Har2
  have l8 := (sup_b HQ.out.1).2.2.1
  have l64 := (sup_b HQ.out.1).2.2.2.1
  by_cases hx0 : x = 0
  · have ey : y = true := by rw [HX.out, hx0]; rfl
    subst ey
    subst hx0
    go_wp2_with (refine wpList_load_row rfl 38 (.tmp 2) rfl _ rfl 38 _ (0, 0) _ R1.out Tryz.underlying38 rfl (by kernel_rfl) ?_)
    refine (spaceOfR_any (H0.out.at (Nat.le_refl _) B1.out) (H1.out.at (Nat.le_refl _) B1.out) (H10.out.at (Nat.le_refl _) B1.out) (H11.out.at (Nat.le_refl _) B1.out) (Nat.le_refl _) HK.out).mono ?_
    rintro e w2 ⟨g, cap, rfl, hc1, hc2, hg1, hg2, hby, gg⟩
    have HY0 := Lib.hid hby; have Gb := Lib.hid (And.intro hg1 hg2); clear hby hg1 hg2 hc1 hc2
    have B2 := Lib.hid (B1.out.trans (gg.mono B1.out.size))
    have R2 := Lib.hid ((gg.block _ (by have := Z1.out; omega)).trans R1.out)
    have Q2 := Lib.hid ((gg.block _ (by have := Z1.out; omega)).trans Q1.out)
    have Z2 : Hid (w.heap.size + 2 ≤ w2.heap.size) := Lib.hid (by have := Z1.out; have := gg.size; omega)
    clear gg
    have HZa := Lib.hid (Har.out HK.out)
    have HF1 : Hid (rtS (arS ss ps l lg dt) 0 = rtS (arS ss ps l lg dt) 0) := Lib.hid rfl
    generalize hrt : rtS (arS ss ps l lg dt) 0 = ar2 at HF1
    have Bs : Hid (Below w2.heap.size w2 (w2.alloc (.cells #[.int .i64 b, .int .i64 l, .int .i64 q, .int .i64 t, .slice (some ⟨g, 0, none⟩) 64 cap, .slice (some ⟨g, 4, none⟩) 32 32] 91))) := Lib.hid ((Below.refl _ _).alloc (Nat.le_refl _) _)
    have Rs0 : Hid ((w2.alloc (.cells #[.int .i64 b, .int .i64 l, .int .i64 q, .int .i64 t, .slice (some ⟨g, 0, none⟩) 64 cap, .slice (some ⟨g, 4, none⟩) 32 32] 91)).heap[w2.heap.size]? = some (.cells #[.int .i64 b, .int .i64 l, .int .i64 q, .int .i64 t, .slice (some ⟨g, 0, none⟩) 64 cap, .slice (some ⟨g, 4, none⟩) 32 32] 91 (0, 0))) := Lib.hid (heap_alloc_new w2 _)
    have Ls0 : Hid (w2.heap.size < (w2.alloc (.cells #[.int .i64 b, .int .i64 l, .int .i64 q, .int .i64 t, .slice (some ⟨g, 0, none⟩) 64 cap, .slice (some ⟨g, 4, none⟩) 32 32] 91)).heap.size) := Lib.hid (by simp)
    have HY1 := Lib.hid (HY0.out.bel Bs.out)
    have R3 := Lib.hid ((Bs.out.block _ (by have := Z2.out; omega)).trans R2.out)
    have Q3 := Lib.hid ((Bs.out.block _ (by have := Z2.out; omega)).trans Q2.out)
    have B3 := Lib.hid (B2.out.trans (Bs.out.mono B2.out.size))
    have Z3 : Hid (w.heap.size + 2 ≤ (w2.alloc (.cells #[.int .i64 b, .int .i64 l, .int .i64 q, .int .i64 t, .slice (some ⟨g, 0, none⟩) 64 cap, .slice (some ⟨g, 4, none⟩) 32 32] 91)).heap.size) := Lib.hid (by have := Z2.out; have := Ls0.out; omega)
    go_wp2_with (refine wpList_load_row rfl 91 (.tmp 6) rfl _ rfl 91 _ (0, 0) _ Rs0.out Tryz.underlying91 rfl (by kernel_rfl) ?_)
    generalize (w2.alloc (.cells #[.int .i64 b, .int .i64 l, .int .i64 q, .int .i64 t, .slice (some ⟨g, 0, none⟩) 64 cap, .slice (some ⟨g, 4, none⟩) 32 32] 91)) = w3 at *
    refine (setRoot_any HZa.out HY1.out (by omega) (by omega)).mono ?_
    rintro e w4 ⟨rfl, hy2, g2⟩
    rw [hrt] at hy2
    have HZ2 : Hid (ar2.size = 64) := Lib.hid (by rw [← hrt, rtS_size]; exact HZa.out)
    have HY := Lib.hid hy2; clear hy2
    have Rs := Lib.hid (grown_blk g2 Ls0.out (by have := Gb.out; omega) Rs0.out)
    have Ls : Hid (w2.heap.size < w4.heap.size) := Lib.hid (by have := Ls0.out; have := g2.size; omega)
    have Ls2 : Hid (w.heap.size + 2 ≤ w2.heap.size) := Z2
    have R4 := Lib.hid (grown_blk g2 (by have := Z3.out; omega) (by have := Gb.out; have := Z1.out; omega) R3.out)
    have Q4 := Lib.hid (grown_blk g2 (by have := Z3.out; omega) (by have := Gb.out; have := Z1.out; omega) Q3.out)
    have B4 : Hid (Below w.heap.size w w4) := Lib.hid (B3.out.grown g2 B3.out.size (fun j hj => by cases hj; have := Gb.out; have := Z1.out; omega))
    have Z4 : Hid (w.heap.size + 2 ≤ w4.heap.size) := Lib.hid (by have := Z3.out; have := g2.size; omega)
    have Hrt := Lib.hid hrt
    clear g2 HF1 hrt Rs0 HY1
    have HSx : Hid (∀ W, Below w4.heap.size w4 W → W.cell? ⟨w.heap.size, 0, none⟩ = some (.slice A0 ss.length ss.length) ∧ W.cell? ⟨w.heap.size, 1, none⟩ = some (.slice A1 ps.length ps.length) ∧ W.cell? ⟨w.heap.size, 2, none⟩ = some (.int .i64 fz) ∧ W.cell? ⟨w.heap.size, 3, none⟩ = some (.bool off) ∧ W.cell? ⟨w.heap.size, 4, none⟩ = some (.int .i64 b) ∧ W.cell? ⟨w.heap.size, 5, none⟩ = some (.int .i64 l) ∧ W.cell? ⟨w.heap.size, 6, none⟩ = some (.int .i64 q) ∧ W.cell? ⟨w.heap.size, 7, none⟩ = some (.int .i64 t) ∧ W.cell? ⟨w.heap.size, 8, none⟩ = some (.int .i64 sq) ∧ W.cell? ⟨w.heap.size, 9, none⟩ = some (.int .i64 at_) ∧ W.cell? ⟨w.heap.size, 10, none⟩ = some (.slice A10 lg.length lg.length) ∧ W.cell? ⟨w.heap.size, 11, none⟩ = some (.slice A11 dt.length dt.length) ∧ W.cell? ⟨w2.heap.size, 0, none⟩ = some (.int .i64 b) ∧ W.cell? ⟨w2.heap.size, 1, none⟩ = some (.int .i64 l) ∧ W.cell? ⟨w2.heap.size, 2, none⟩ = some (.int .i64 q) ∧ W.cell? ⟨w2.heap.size, 3, none⟩ = some (.int .i64 t) ∧ W.cell? ⟨w2.heap.size, 4, none⟩ = some (.slice (some ⟨g, 0, none⟩) 64 cap) ∧ W.cell? ⟨w2.heap.size, 5, none⟩ = some (.slice (some ⟨g, 4, none⟩) 32 32)) := Lib.hid (fun W hW => by
      have r1 := (hW.block _ (by have := Z4.out; omega)).trans R4.out
      have r2 := (hW.block _ Ls.out).trans Rs.out
      exact ⟨by rw [cell_of_row _ _ _ _ _ _ r1]; rfl, by rw [cell_of_row _ _ _ _ _ _ r1]; rfl, by rw [cell_of_row _ _ _ _ _ _ r1]; rfl, by rw [cell_of_row _ _ _ _ _ _ r1]; rfl, by rw [cell_of_row _ _ _ _ _ _ r1]; rfl, by rw [cell_of_row _ _ _ _ _ _ r1]; rfl, by rw [cell_of_row _ _ _ _ _ _ r1]; rfl, by rw [cell_of_row _ _ _ _ _ _ r1]; rfl, by rw [cell_of_row _ _ _ _ _ _ r1]; rfl, by rw [cell_of_row _ _ _ _ _ _ r1]; rfl, by rw [cell_of_row _ _ _ _ _ _ r1]; rfl, by rw [cell_of_row _ _ _ _ _ _ r1]; rfl, by rw [cell_of_row _ _ _ _ _ _ r2]; rfl, by rw [cell_of_row _ _ _ _ _ _ r2]; rfl, by rw [cell_of_row _ _ _ _ _ _ r2]; rfl, by rw [cell_of_row _ _ _ _ _ _ r2]; rfl, by rw [cell_of_row _ _ _ _ _ _ r2]; rfl, by rw [cell_of_row _ _ _ _ _ _ r2]; rfl⟩)
    have HD : Hid (Below w4.heap.size w4 w4.drew) := Lib.hid (Below.refl _ _).drew
    have CP : Hid (∀ W, Below w4.heap.size w4 W → _) := Lib.hid (fun W (hW : Below w4.heap.size w4 W) => areaPage_any (cap := cap) (w := W) (b := b) (l := l) (q := q) (t := t) HQ.out.1 HZ2.out (HY.out.bel hW))
    go_wp2
    refine wp_region_held_drew (S := fun W => W.cell? ⟨w.heap.size, 0, none⟩ = some (.slice A0 ss.length ss.length) ∧ W.cell? ⟨w.heap.size, 1, none⟩ = some (.slice A1 ps.length ps.length) ∧ W.cell? ⟨w.heap.size, 2, none⟩ = some (.int .i64 fz) ∧ W.cell? ⟨w.heap.size, 3, none⟩ = some (.bool off) ∧ W.cell? ⟨w.heap.size, 4, none⟩ = some (.int .i64 b) ∧ W.cell? ⟨w.heap.size, 5, none⟩ = some (.int .i64 l) ∧ W.cell? ⟨w.heap.size, 6, none⟩ = some (.int .i64 q) ∧ W.cell? ⟨w.heap.size, 7, none⟩ = some (.int .i64 t) ∧ W.cell? ⟨w.heap.size, 8, none⟩ = some (.int .i64 sq) ∧ W.cell? ⟨w.heap.size, 9, none⟩ = some (.int .i64 at_) ∧ W.cell? ⟨w.heap.size, 10, none⟩ = some (.slice A10 lg.length lg.length) ∧ W.cell? ⟨w.heap.size, 11, none⟩ = some (.slice A11 dt.length dt.length) ∧ W.cell? ⟨w2.heap.size, 0, none⟩ = some (.int .i64 b) ∧ W.cell? ⟨w2.heap.size, 1, none⟩ = some (.int .i64 l) ∧ W.cell? ⟨w2.heap.size, 2, none⟩ = some (.int .i64 q) ∧ W.cell? ⟨w2.heap.size, 3, none⟩ = some (.int .i64 t) ∧ W.cell? ⟨w2.heap.size, 4, none⟩ = some (.slice (some ⟨g, 0, none⟩) 64 cap) ∧ W.cell? ⟨w2.heap.size, 5, none⟩ = some (.slice (some ⟨g, 4, none⟩) 32 32)) (by kernel_rfl) (HSx.out _ HD.out) (fun hHeld => ?_)
    refine held_yes 0 (some 26) rfl rfl (by kernel_rfl) (by kernel_rfl) (by kernel_rfl) (fun _ _ _ h => h) (by kernel_rfl) hHeld (v := ?_) (fun wz hSw => ?_) ?_
    rotate_left 1
    · (try dsimp only at hSw); go_simp; (try with_reducible rfl)
    try simp only [Act.put, List.setIfInBounds_toArray, List.set_cons_zero, List.set_cons_succ]
    refine held_yes 1 (some 27) rfl rfl (by kernel_rfl) (by kernel_rfl) (by kernel_rfl) (fun _ _ _ h => h) (by kernel_rfl) hHeld (v := ?_) (fun wz hSw => ?_) ?_
    rotate_left 1
    · (try dsimp only at hSw); go_simp; (try with_reducible rfl)
    try simp only [Act.put, List.setIfInBounds_toArray, List.set_cons_zero, List.set_cons_succ]
    refine wpAnyH_ready (rs := [2]) (by kernel_rfl) (by simp) ?_
    refine AllReadyH.cons rfl (fun K hK => ?_) AllReadyH.nil
    go_simp
    go_at_call 61
    go_fit (CP.out _ HD.out)
    rintro e u1 ⟨rfl, g1⟩
    have K1 := Lib.hid (HD.out.trans (g1.mono HD.out.size))
    clear g1
    refine hK.out _ _ (HSx.out _ K1.out) (fun hHeld => ?_)
    clear hK K
    try simp only [Act.put, List.setIfInBounds_toArray, List.set_cons_zero, List.set_cons_succ]
    refine wpAnyH_ready (rs := [3]) (by kernel_rfl) (by simp) ?_
    refine AllReadyH.cons rfl (fun K hK => ?_) AllReadyH.nil
    go_simp
    have K2 : Hid (Below w4.heap.size w4 (u1.alloc (.cells #[.int .i64 (2 + l), .string ar2] 77))) := Lib.hid (K1.out.alloc K1.out.size _)
    refine hK.out _ _ (HSx.out _ K2.out) (fun hHeld => ?_)
    clear hK K
    try simp only [Act.put, List.setIfInBounds_toArray, List.set_cons_zero, List.set_cons_succ]
    have Bp := Lib.hid (B4.out.trans (K2.out.mono B4.out.size))
    have Rp : Hid (RiU (u1.alloc (.cells #[.int .i64 (2 + l), .string ar2] 77)).heap.size (u1.alloc (.cells #[.int .i64 (2 + l), .string ar2] 77)) (.slice (some ⟨u1.heap.size, 0, none⟩) 1 1) [(2 + l, ar2)]) := Lib.hid (onePage u1 (by unfold InI; omega) (by rw [HZ2.out]; decide))
    have C3 := Lib.hid (changed_any (fz := fz) (off := off) (b := b) (l := l) (q := q) (t := t) (sq := sq) (at_ := at_) (H0.out.at (Nat.le_refl _) Bp.out) (H1.out.at (Nat.le_refl _) Bp.out) (H10.out.at (Nat.le_refl _) Bp.out) (H11.out.at (Nat.le_refl _) Bp.out) Rp.out (Nat.le_refl _) z0 z1 (by have := HP.out.1; omega) (by have := HP.out.2.1; omega) (by simp) (srt_of_pg HP.out.2.2.1) l8)
    rw [mgs_one] at C3
    clear Rp
    generalize hr : ftOk l ((mg dt [(2 + l, ar2)]).length : Int) = r at *
    have Hr := Lib.hid hr; clear hr
    generalize hc : (if r = true then (0 : Int) else 5) = c at *
    have Hc := Lib.hid hc; clear hc
    generalize (u1.alloc (.cells #[.int .i64 (2 + l), .string ar2] 77)) = u2 at *
    refine wpAnyH_ready (rs := [4]) (by kernel_rfl) (by simp) ?_
    refine AllReadyH.cons rfl (fun K hK => ?_) AllReadyH.nil
    go_simp
    go_at_call 46
    go_fit C3.out
    rintro e u3 ⟨X0, X1, X10, X11, x0, x1, x10, x11, rfl, pg, g3⟩
    simp only [mkC]
    have Pg := Lib.hid pg
    have K3 := Lib.hid (K2.out.trans (g3.mono K2.out.size))
    have Z3x : Hid (u2.heap.size ≤ u3.heap.size) := Lib.hid g3.size
    clear pg g3
    refine hK.out _ _ (HSx.out _ K3.out) (fun hHeld => ?_)
    clear hK K
    try simp only [Act.put, List.setIfInBounds_toArray, List.set_cons_zero, List.set_cons_succ]
    refine held_yes 5 (some 31) rfl rfl (by kernel_rfl) (by kernel_rfl) (by kernel_rfl) (fun _ _ _ h => h) (by kernel_rfl) hHeld (v := ?_) (fun wz hSw => ?_) ?_
    rotate_left 1
    · (try dsimp only at hSw); go_simp; (try with_reducible rfl)
    try simp only [Act.put, List.setIfInBounds_toArray, List.set_cons_zero, List.set_cons_succ]
    refine held_yes 6 (some 32) rfl rfl (by kernel_rfl) (by kernel_rfl) (by kernel_rfl) (fun _ _ _ h => h) (by kernel_rfl) hHeld (v := ?_) (fun wz hSw => ?_) ?_
    rotate_left 1
    · (try dsimp only at hSw); go_simp; (try with_reducible rfl)
    try simp only [Act.put, List.setIfInBounds_toArray, List.set_cons_zero, List.set_cons_succ]
    refine wpAnyH_ready (rs := [7]) (by kernel_rfl) (by simp) ?_
    refine AllReadyH.cons rfl (fun K hK => ?_) AllReadyH.nil
    have Qu : Hid (u3.heap[w.heap.size + 1]? = some (.cells #[.slice none 0 0, .slice none 0 0, .int .i64 0, .bool false, .int .i64 0, .int .i64 0, .int .i64 0, .int .i64 0, .int .i64 0, .int .i64 0, .slice none 0 0, .slice none 0 0] 38 (0, 0))) := Lib.hid ((K3.out.block _ (by have := Z4.out; omega)).trans Q4.out)
    refine wp_store_rowd none (by kernel_rfl) rfl 38 (.tmp 4) (.tmp 31) rfl (w.heap.size + 1) #[.slice X0 (sT r ss).length x0, .slice X1 (sT r ps).length x1, .int .i64 (sI r fz), .bool (sB r off), .int .i64 (sI r b), .int .i64 (sI r l), .int .i64 (sI r q), .int .i64 (sI r t), .int .i64 (sI r sq), .int .i64 (sI r at_), .slice X10 (sT r lg).length x10, .slice X11 (sT r (mg dt [(2 + l, ar2)])).length x11] rfl rfl 38 _ Qu.out infoP rfl (onePv ..) ?_
    refine hK.out _ _ ((by
          have r1 := (setRow_other u3 (w.heap.size + 1) w.heap.size #[.slice X0 (sT r ss).length x0, .slice X1 (sT r ps).length x1, .int .i64 (sI r fz), .bool (sB r off), .int .i64 (sI r b), .int .i64 (sI r l), .int .i64 (sI r q), .int .i64 (sI r t), .int .i64 (sI r sq), .int .i64 (sI r at_), .slice X10 (sT r lg).length x10, .slice X11 (sT r (mg dt [(2 + l, ar2)])).length x11] (by omega)).trans ((K3.out.block _ (by have := Z4.out; omega)).trans R4.out)
          have r2 := (setRow_other u3 (w.heap.size + 1) (w2.heap.size) #[.slice X0 (sT r ss).length x0, .slice X1 (sT r ps).length x1, .int .i64 (sI r fz), .bool (sB r off), .int .i64 (sI r b), .int .i64 (sI r l), .int .i64 (sI r q), .int .i64 (sI r t), .int .i64 (sI r sq), .int .i64 (sI r at_), .slice X10 (sT r lg).length x10, .slice X11 (sT r (mg dt [(2 + l, ar2)])).length x11] (by have := Ls2.out; omega)).trans ((K3.out.block _ Ls.out).trans Rs.out)
          exact ⟨by rw [cell_of_row _ _ _ _ _ _ r1]; rfl, by rw [cell_of_row _ _ _ _ _ _ r1]; rfl, by rw [cell_of_row _ _ _ _ _ _ r1]; rfl, by rw [cell_of_row _ _ _ _ _ _ r1]; rfl, by rw [cell_of_row _ _ _ _ _ _ r1]; rfl, by rw [cell_of_row _ _ _ _ _ _ r1]; rfl, by rw [cell_of_row _ _ _ _ _ _ r1]; rfl, by rw [cell_of_row _ _ _ _ _ _ r1]; rfl, by rw [cell_of_row _ _ _ _ _ _ r1]; rfl, by rw [cell_of_row _ _ _ _ _ _ r1]; rfl, by rw [cell_of_row _ _ _ _ _ _ r1]; rfl, by rw [cell_of_row _ _ _ _ _ _ r1]; rfl, by rw [cell_of_row _ _ _ _ _ _ r2]; rfl, by rw [cell_of_row _ _ _ _ _ _ r2]; rfl, by rw [cell_of_row _ _ _ _ _ _ r2]; rfl, by rw [cell_of_row _ _ _ _ _ _ r2]; rfl, by rw [cell_of_row _ _ _ _ _ _ r2]; rfl, by rw [cell_of_row _ _ _ _ _ _ r2]; rfl⟩)) (fun hHeld => ?_)
    clear hK K
    try simp only [Act.put]
    refine held_yes 8 (some 5) rfl rfl (by kernel_rfl) (by kernel_rfl) (by kernel_rfl) (fun _ _ _ h => h) (by kernel_rfl) hHeld (v := ?_) (fun wz hSw => ?_) ?_
    rotate_left 1
    · (try dsimp only at hSw); go_simp; (try with_reducible rfl)
    try simp only [Act.put, List.setIfInBounds_toArray, List.set_cons_zero, List.set_cons_succ]
    refine wpAnyH_done (by kernel_rfl) ?_ _
    have Rf : Hid ((u3.setRow (w.heap.size + 1) #[.slice X0 (sT r ss).length x0, .slice X1 (sT r ps).length x1, .int .i64 (sI r fz), .bool (sB r off), .int .i64 (sI r b), .int .i64 (sI r l), .int .i64 (sI r q), .int .i64 (sI r t), .int .i64 (sI r sq), .int .i64 (sI r at_), .slice X10 (sT r lg).length x10, .slice X11 (sT r (mg dt [(2 + l, ar2)])).length x11]).heap[w.heap.size + 1]? = some (.cells #[.slice X0 (sT r ss).length x0, .slice X1 (sT r ps).length x1, .int .i64 (sI r fz), .bool (sB r off), .int .i64 (sI r b), .int .i64 (sI r l), .int .i64 (sI r q), .int .i64 (sI r t), .int .i64 (sI r sq), .int .i64 (sI r at_), .slice X10 (sT r lg).length x10, .slice X11 (sT r (mg dt [(2 + l, ar2)])).length x11] 38 (0, 0))) := Lib.hid (setRow_heap _ _ _ _ _ _ Qu.out)
    have Fin := Lib.hid (AnsP.end (mk := mkC c) (fz := sI r fz) (off := sB r off) (b := sI r b) (l := sI r l) (q := sI r q) (t := sI r t) (sq := sI r sq) (at_ := sI r at_) (lo := u2.heap.size) (w := w) (r := w.heap.size + 1) (cs := #[.slice X0 (sT r ss).length x0, .slice X1 (sT r ps).length x1, .int .i64 (sI r fz), .bool (sB r off), .int .i64 (sI r b), .int .i64 (sI r l), .int .i64 (sI r q), .int .i64 (sI r t), .int .i64 (sI r sq), .int .i64 (sI r at_), .slice X10 (sT r lg).length x10, .slice X11 (sT r (mg dt [(2 + l, ar2)])).length x11]) Pg.out (by have := Z4.out; have := K2.out.size; omega) (by omega) (B4.out.trans (K3.out.mono B4.out.size)))
    try simp only [Exit.then]
    generalize (u3.setRow (w.heap.size + 1) #[.slice X0 (sT r ss).length x0, .slice X1 (sT r ps).length x1, .int .i64 (sI r fz), .bool (sB r off), .int .i64 (sI r b), .int .i64 (sI r l), .int .i64 (sI r q), .int .i64 (sI r t), .int .i64 (sI r sq), .int .i64 (sI r at_), .slice X10 (sT r lg).length x10, .slice X11 (sT r (mg dt [(2 + l, ar2)])).length x11]) = xf at *
    go_wp2
    refine bodyPost_ret (v := .tuple #[.agg #[.slice X0 (sT r ss).length x0, .slice X1 (sT r ps).length x1, .int .i64 (sI r fz), .bool (sB r off), .int .i64 (sI r b), .int .i64 (sI r l), .int .i64 (sI r q), .int .i64 (sI r t), .int .i64 (sI r sq), .int .i64 (sI r at_), .slice X10 (sT r lg).length x10, .slice X11 (sT r (mg dt [(2 + l, ar2)])).length x11], .int .i64 c]) ?_ rfl ?_
    exact results_cell_row2 rfl _ _ (w.heap.size + 1) 38 _ (0, 0) _ _ rfl rfl Rf.out Tryz.underlying38 rfl (by kernel_rfl)
    have eO : O = r := by rw [HO.out, Hrt.out, Hr.out]; rfl
    have eC : C = c := by rw [HC.out, Hrt.out, Hr.out, ← Hc.out]; rfl
    rw [eO, eC, Hrt.out]; exact Fin.out
  have d0 : (x == 0) = false := by simp [hx0]
  have HYy : Hid (y = dtB b l x 1) := Lib.hid (by rw [HX.out]; simp [hx0])
  clear HX
  have hdd := @dtB_iff b l x 1 HB.out.2.2.2.1 HB.out.1
  have C2 := Lib.hid (hasRun_any (b := b) (l := l) (q := q) (t := t) x 1 w1 HQ.out.1 (by unfold InI; omega))
  rw [← HYy.out] at C2 hdd
  have d1 : (x != 0) = true := by simp [hx0]
  have c4 : w1.cell? ⟨w.heap.size, 4, none⟩ = some (.int .i64 b) := by rw [cell_of_row _ _ _ _ _ _ R1.out]; rfl
  have c5 : w1.cell? ⟨w.heap.size, 5, none⟩ = some (.int .i64 l) := by rw [cell_of_row _ _ _ _ _ _ R1.out]; rfl
  have c6 : w1.cell? ⟨w.heap.size, 6, none⟩ = some (.int .i64 q) := by rw [cell_of_row _ _ _ _ _ _ R1.out]; rfl
  have c7 : w1.cell? ⟨w.heap.size, 7, none⟩ = some (.int .i64 t) := by rw [cell_of_row _ _ _ _ _ _ R1.out]; rfl
  go_wp2_with fail
  clear c4 c5 c6 c7
  refine C2.out.mono ?_
  rintro e w2 ⟨rfl, g⟩
  have B2 := Lib.hid (B1.out.trans (g.mono B1.out.size))
  have R2 := Lib.hid ((g.block _ (by have := Z1.out; omega)).trans R1.out)
  have Q2 := Lib.hid ((g.block _ (by have := Z1.out; omega)).trans Q1.out)
  have Z2 : Hid (w.heap.size + 2 ≤ w2.heap.size) := Lib.hid (by have := Z1.out; have := g.size; omega)
  clear g
  cases y
  · skip
    go_wp2_with (refine wpList_store_row rfl 38 (.tmp 4) (.tmp 20) rfl (w.heap.size + 1) #[.slice none 0 0, .slice none 0 0, .int .i64 0, .bool false, .int .i64 0, .int .i64 0, .int .i64 0, .int .i64 0, .int .i64 0, .int .i64 0, .slice none 0 0, .slice none 0 0] rfl rfl 38 _ Q2.out infoP rfl (onePv ..) ?_)
    refine bodyPost_ret (v := .tuple #[.agg #[.slice none 0 0, .slice none 0 0, .int .i64 0, .bool false, .int .i64 0, .int .i64 0, .int .i64 0, .int .i64 0, .int .i64 0, .int .i64 0, .slice none 0 0, .slice none 0 0], .int .i64 2]) ?_ rfl ?_
    · exact results_cell_row2 rfl _ _ (w.heap.size + 1) 38 _ (0, 0) _ _ rfl rfl (setRow_heap _ _ _ _ _ _ Q2.out) Tryz.underlying38 rfl (by kernel_rfl)
    · rw [HC.out]; exact AnsP.zero (mk := mkC 2) (by rw [HO.out]; rfl) (by omega) (by have := Z2.out; omega) B2.out
  have hd2 := hdd.1 rfl
  have hbb := HB.out
  have hxr : 0 ≤ x ∧ x < 65536 := by omega
  clear hdd hd2 hbb
  obtain ⟨hxa, hxb⟩ := hxr
  go_wp2_with (refine wpList_load_row rfl 38 (.tmp 2) rfl _ rfl 38 _ (0, 0) _ R2.out Tryz.underlying38 rfl (by kernel_rfl) ?_)
  refine (spaceOfR_any (H0.out.at (Nat.le_refl _) B2.out) (H1.out.at (Nat.le_refl _) B2.out) (H10.out.at (Nat.le_refl _) B2.out) (H11.out.at (Nat.le_refl _) B2.out) (Nat.le_refl _) HK.out).mono ?_
  rintro e w3 ⟨g, cap, rfl, hc1, hc2, hg1, hg2, hby, gg⟩
  have HY0 := Lib.hid hby; have Gb := Lib.hid (And.intro hg1 hg2); clear hby hg1 hg2 hc1 hc2
  have B3 := Lib.hid (B2.out.trans (gg.mono B2.out.size))
  have R3 := Lib.hid ((gg.block _ (by have := Z2.out; omega)).trans R2.out)
  have Q3 := Lib.hid ((gg.block _ (by have := Z2.out; omega)).trans Q2.out)
  have Z3 : Hid (w.heap.size + 2 ≤ w3.heap.size) := Lib.hid (by have := Z2.out; have := gg.size; omega)
  clear gg
  have HZa := Lib.hid (Har.out HK.out)
  have HF1 : Hid (rtS (arS ss ps l lg dt) x = rtS (arS ss ps l lg dt) x) := Lib.hid rfl
  generalize hrt : rtS (arS ss ps l lg dt) x = ar2 at HF1
  have Bs : Hid (Below w3.heap.size w3 (w3.alloc (.cells #[.int .i64 b, .int .i64 l, .int .i64 q, .int .i64 t, .slice (some ⟨g, 0, none⟩) 64 cap, .slice (some ⟨g, 4, none⟩) 32 32] 91))) := Lib.hid ((Below.refl _ _).alloc (Nat.le_refl _) _)
  have Rs0 : Hid ((w3.alloc (.cells #[.int .i64 b, .int .i64 l, .int .i64 q, .int .i64 t, .slice (some ⟨g, 0, none⟩) 64 cap, .slice (some ⟨g, 4, none⟩) 32 32] 91)).heap[w3.heap.size]? = some (.cells #[.int .i64 b, .int .i64 l, .int .i64 q, .int .i64 t, .slice (some ⟨g, 0, none⟩) 64 cap, .slice (some ⟨g, 4, none⟩) 32 32] 91 (0, 0))) := Lib.hid (heap_alloc_new w3 _)
  have Ls0 : Hid (w3.heap.size < (w3.alloc (.cells #[.int .i64 b, .int .i64 l, .int .i64 q, .int .i64 t, .slice (some ⟨g, 0, none⟩) 64 cap, .slice (some ⟨g, 4, none⟩) 32 32] 91)).heap.size) := Lib.hid (by simp)
  have HY1 := Lib.hid (HY0.out.bel Bs.out)
  have R4 := Lib.hid ((Bs.out.block _ (by have := Z3.out; omega)).trans R3.out)
  have Q4 := Lib.hid ((Bs.out.block _ (by have := Z3.out; omega)).trans Q3.out)
  have B4 := Lib.hid (B3.out.trans (Bs.out.mono B3.out.size))
  have Z4 : Hid (w.heap.size + 2 ≤ (w3.alloc (.cells #[.int .i64 b, .int .i64 l, .int .i64 q, .int .i64 t, .slice (some ⟨g, 0, none⟩) 64 cap, .slice (some ⟨g, 4, none⟩) 32 32] 91)).heap.size) := Lib.hid (by have := Z3.out; have := Ls0.out; omega)
  go_wp2_with (refine wpList_load_row rfl 91 (.tmp 6) rfl _ rfl 91 _ (0, 0) _ Rs0.out Tryz.underlying91 rfl (by kernel_rfl) ?_)
  generalize (w3.alloc (.cells #[.int .i64 b, .int .i64 l, .int .i64 q, .int .i64 t, .slice (some ⟨g, 0, none⟩) 64 cap, .slice (some ⟨g, 4, none⟩) 32 32] 91)) = w4 at *
  refine (setRoot_any HZa.out HY1.out (by omega) (by omega)).mono ?_
  rintro e w5 ⟨rfl, hy2, g2⟩
  rw [hrt] at hy2
  have HZ2 : Hid (ar2.size = 64) := Lib.hid (by rw [← hrt, rtS_size]; exact HZa.out)
  have HY := Lib.hid hy2; clear hy2
  have Rs := Lib.hid (grown_blk g2 Ls0.out (by have := Gb.out; omega) Rs0.out)
  have Ls : Hid (w3.heap.size < w5.heap.size) := Lib.hid (by have := Ls0.out; have := g2.size; omega)
  have Ls2 : Hid (w.heap.size + 2 ≤ w3.heap.size) := Z3
  have R5 := Lib.hid (grown_blk g2 (by have := Z4.out; omega) (by have := Gb.out; have := Z2.out; omega) R4.out)
  have Q5 := Lib.hid (grown_blk g2 (by have := Z4.out; omega) (by have := Gb.out; have := Z2.out; omega) Q4.out)
  have B5 : Hid (Below w.heap.size w w5) := Lib.hid (B4.out.grown g2 B4.out.size (fun j hj => by cases hj; have := Gb.out; have := Z2.out; omega))
  have Z5 : Hid (w.heap.size + 2 ≤ w5.heap.size) := Lib.hid (by have := Z4.out; have := g2.size; omega)
  have Hrt := Lib.hid hrt
  clear g2 HF1 hrt Rs0 HY1
  have HSx : Hid (∀ W, Below w5.heap.size w5 W → W.cell? ⟨w.heap.size, 0, none⟩ = some (.slice A0 ss.length ss.length) ∧ W.cell? ⟨w.heap.size, 1, none⟩ = some (.slice A1 ps.length ps.length) ∧ W.cell? ⟨w.heap.size, 2, none⟩ = some (.int .i64 fz) ∧ W.cell? ⟨w.heap.size, 3, none⟩ = some (.bool off) ∧ W.cell? ⟨w.heap.size, 4, none⟩ = some (.int .i64 b) ∧ W.cell? ⟨w.heap.size, 5, none⟩ = some (.int .i64 l) ∧ W.cell? ⟨w.heap.size, 6, none⟩ = some (.int .i64 q) ∧ W.cell? ⟨w.heap.size, 7, none⟩ = some (.int .i64 t) ∧ W.cell? ⟨w.heap.size, 8, none⟩ = some (.int .i64 sq) ∧ W.cell? ⟨w.heap.size, 9, none⟩ = some (.int .i64 at_) ∧ W.cell? ⟨w.heap.size, 10, none⟩ = some (.slice A10 lg.length lg.length) ∧ W.cell? ⟨w.heap.size, 11, none⟩ = some (.slice A11 dt.length dt.length) ∧ W.cell? ⟨w3.heap.size, 0, none⟩ = some (.int .i64 b) ∧ W.cell? ⟨w3.heap.size, 1, none⟩ = some (.int .i64 l) ∧ W.cell? ⟨w3.heap.size, 2, none⟩ = some (.int .i64 q) ∧ W.cell? ⟨w3.heap.size, 3, none⟩ = some (.int .i64 t) ∧ W.cell? ⟨w3.heap.size, 4, none⟩ = some (.slice (some ⟨g, 0, none⟩) 64 cap) ∧ W.cell? ⟨w3.heap.size, 5, none⟩ = some (.slice (some ⟨g, 4, none⟩) 32 32)) := Lib.hid (fun W hW => by
    have r1 := (hW.block _ (by have := Z5.out; omega)).trans R5.out
    have r2 := (hW.block _ Ls.out).trans Rs.out
    exact ⟨by rw [cell_of_row _ _ _ _ _ _ r1]; rfl, by rw [cell_of_row _ _ _ _ _ _ r1]; rfl, by rw [cell_of_row _ _ _ _ _ _ r1]; rfl, by rw [cell_of_row _ _ _ _ _ _ r1]; rfl, by rw [cell_of_row _ _ _ _ _ _ r1]; rfl, by rw [cell_of_row _ _ _ _ _ _ r1]; rfl, by rw [cell_of_row _ _ _ _ _ _ r1]; rfl, by rw [cell_of_row _ _ _ _ _ _ r1]; rfl, by rw [cell_of_row _ _ _ _ _ _ r1]; rfl, by rw [cell_of_row _ _ _ _ _ _ r1]; rfl, by rw [cell_of_row _ _ _ _ _ _ r1]; rfl, by rw [cell_of_row _ _ _ _ _ _ r1]; rfl, by rw [cell_of_row _ _ _ _ _ _ r2]; rfl, by rw [cell_of_row _ _ _ _ _ _ r2]; rfl, by rw [cell_of_row _ _ _ _ _ _ r2]; rfl, by rw [cell_of_row _ _ _ _ _ _ r2]; rfl, by rw [cell_of_row _ _ _ _ _ _ r2]; rfl, by rw [cell_of_row _ _ _ _ _ _ r2]; rfl⟩)
  have HD : Hid (Below w5.heap.size w5 w5.drew) := Lib.hid (Below.refl _ _).drew
  have CP : Hid (∀ W, Below w5.heap.size w5 W → _) := Lib.hid (fun W (hW : Below w5.heap.size w5 W) => areaPage_any (cap := cap) (w := W) (b := b) (l := l) (q := q) (t := t) HQ.out.1 HZ2.out (HY.out.bel hW))
  go_wp2
  refine wp_region_held_drew (S := fun W => W.cell? ⟨w.heap.size, 0, none⟩ = some (.slice A0 ss.length ss.length) ∧ W.cell? ⟨w.heap.size, 1, none⟩ = some (.slice A1 ps.length ps.length) ∧ W.cell? ⟨w.heap.size, 2, none⟩ = some (.int .i64 fz) ∧ W.cell? ⟨w.heap.size, 3, none⟩ = some (.bool off) ∧ W.cell? ⟨w.heap.size, 4, none⟩ = some (.int .i64 b) ∧ W.cell? ⟨w.heap.size, 5, none⟩ = some (.int .i64 l) ∧ W.cell? ⟨w.heap.size, 6, none⟩ = some (.int .i64 q) ∧ W.cell? ⟨w.heap.size, 7, none⟩ = some (.int .i64 t) ∧ W.cell? ⟨w.heap.size, 8, none⟩ = some (.int .i64 sq) ∧ W.cell? ⟨w.heap.size, 9, none⟩ = some (.int .i64 at_) ∧ W.cell? ⟨w.heap.size, 10, none⟩ = some (.slice A10 lg.length lg.length) ∧ W.cell? ⟨w.heap.size, 11, none⟩ = some (.slice A11 dt.length dt.length) ∧ W.cell? ⟨w3.heap.size, 0, none⟩ = some (.int .i64 b) ∧ W.cell? ⟨w3.heap.size, 1, none⟩ = some (.int .i64 l) ∧ W.cell? ⟨w3.heap.size, 2, none⟩ = some (.int .i64 q) ∧ W.cell? ⟨w3.heap.size, 3, none⟩ = some (.int .i64 t) ∧ W.cell? ⟨w3.heap.size, 4, none⟩ = some (.slice (some ⟨g, 0, none⟩) 64 cap) ∧ W.cell? ⟨w3.heap.size, 5, none⟩ = some (.slice (some ⟨g, 4, none⟩) 32 32)) (by kernel_rfl) (HSx.out _ HD.out) (fun hHeld => ?_)
  refine held_yes 0 (some 26) rfl rfl (by kernel_rfl) (by kernel_rfl) (by kernel_rfl) (fun _ _ _ h => h) (by kernel_rfl) hHeld (v := ?_) (fun wz hSw => ?_) ?_
  rotate_left 1
  · (try dsimp only at hSw); go_simp; (try with_reducible rfl)
  try simp only [Act.put, List.setIfInBounds_toArray, List.set_cons_zero, List.set_cons_succ]
  refine held_yes 1 (some 27) rfl rfl (by kernel_rfl) (by kernel_rfl) (by kernel_rfl) (fun _ _ _ h => h) (by kernel_rfl) hHeld (v := ?_) (fun wz hSw => ?_) ?_
  rotate_left 1
  · (try dsimp only at hSw); go_simp; (try with_reducible rfl)
  try simp only [Act.put, List.setIfInBounds_toArray, List.set_cons_zero, List.set_cons_succ]
  refine wpAnyH_ready (rs := [2]) (by kernel_rfl) (by simp) ?_
  refine AllReadyH.cons rfl (fun K hK => ?_) AllReadyH.nil
  go_simp
  go_at_call 61
  go_fit (CP.out _ HD.out)
  rintro e u1 ⟨rfl, g1⟩
  have K1 := Lib.hid (HD.out.trans (g1.mono HD.out.size))
  clear g1
  refine hK.out _ _ (HSx.out _ K1.out) (fun hHeld => ?_)
  clear hK K
  try simp only [Act.put, List.setIfInBounds_toArray, List.set_cons_zero, List.set_cons_succ]
  refine wpAnyH_ready (rs := [3]) (by kernel_rfl) (by simp) ?_
  refine AllReadyH.cons rfl (fun K hK => ?_) AllReadyH.nil
  go_simp
  have K2 : Hid (Below w5.heap.size w5 (u1.alloc (.cells #[.int .i64 (2 + l), .string ar2] 77))) := Lib.hid (K1.out.alloc K1.out.size _)
  refine hK.out _ _ (HSx.out _ K2.out) (fun hHeld => ?_)
  clear hK K
  try simp only [Act.put, List.setIfInBounds_toArray, List.set_cons_zero, List.set_cons_succ]
  have Bp := Lib.hid (B5.out.trans (K2.out.mono B5.out.size))
  have Rp : Hid (RiU (u1.alloc (.cells #[.int .i64 (2 + l), .string ar2] 77)).heap.size (u1.alloc (.cells #[.int .i64 (2 + l), .string ar2] 77)) (.slice (some ⟨u1.heap.size, 0, none⟩) 1 1) [(2 + l, ar2)]) := Lib.hid (onePage u1 (by unfold InI; omega) (by rw [HZ2.out]; decide))
  have C3 := Lib.hid (changed_any (fz := fz) (off := off) (b := b) (l := l) (q := q) (t := t) (sq := sq) (at_ := at_) (H0.out.at (Nat.le_refl _) Bp.out) (H1.out.at (Nat.le_refl _) Bp.out) (H10.out.at (Nat.le_refl _) Bp.out) (H11.out.at (Nat.le_refl _) Bp.out) Rp.out (Nat.le_refl _) z0 z1 (by have := HP.out.1; omega) (by have := HP.out.2.1; omega) (by simp) (srt_of_pg HP.out.2.2.1) l8)
  rw [mgs_one] at C3
  clear Rp
  generalize hr : ftOk l ((mg dt [(2 + l, ar2)]).length : Int) = r at *
  have Hr := Lib.hid hr; clear hr
  generalize hc : (if r = true then (0 : Int) else 5) = c at *
  have Hc := Lib.hid hc; clear hc
  generalize (u1.alloc (.cells #[.int .i64 (2 + l), .string ar2] 77)) = u2 at *
  refine wpAnyH_ready (rs := [4]) (by kernel_rfl) (by simp) ?_
  refine AllReadyH.cons rfl (fun K hK => ?_) AllReadyH.nil
  go_simp
  go_at_call 46
  go_fit C3.out
  rintro e u3 ⟨X0, X1, X10, X11, x0, x1, x10, x11, rfl, pg, g3⟩
  simp only [mkC]
  have Pg := Lib.hid pg
  have K3 := Lib.hid (K2.out.trans (g3.mono K2.out.size))
  have Z3x : Hid (u2.heap.size ≤ u3.heap.size) := Lib.hid g3.size
  clear pg g3
  refine hK.out _ _ (HSx.out _ K3.out) (fun hHeld => ?_)
  clear hK K
  try simp only [Act.put, List.setIfInBounds_toArray, List.set_cons_zero, List.set_cons_succ]
  refine held_yes 5 (some 31) rfl rfl (by kernel_rfl) (by kernel_rfl) (by kernel_rfl) (fun _ _ _ h => h) (by kernel_rfl) hHeld (v := ?_) (fun wz hSw => ?_) ?_
  rotate_left 1
  · (try dsimp only at hSw); go_simp; (try with_reducible rfl)
  try simp only [Act.put, List.setIfInBounds_toArray, List.set_cons_zero, List.set_cons_succ]
  refine held_yes 6 (some 32) rfl rfl (by kernel_rfl) (by kernel_rfl) (by kernel_rfl) (fun _ _ _ h => h) (by kernel_rfl) hHeld (v := ?_) (fun wz hSw => ?_) ?_
  rotate_left 1
  · (try dsimp only at hSw); go_simp; (try with_reducible rfl)
  try simp only [Act.put, List.setIfInBounds_toArray, List.set_cons_zero, List.set_cons_succ]
  refine wpAnyH_ready (rs := [7]) (by kernel_rfl) (by simp) ?_
  refine AllReadyH.cons rfl (fun K hK => ?_) AllReadyH.nil
  have Qu : Hid (u3.heap[w.heap.size + 1]? = some (.cells #[.slice none 0 0, .slice none 0 0, .int .i64 0, .bool false, .int .i64 0, .int .i64 0, .int .i64 0, .int .i64 0, .int .i64 0, .int .i64 0, .slice none 0 0, .slice none 0 0] 38 (0, 0))) := Lib.hid ((K3.out.block _ (by have := Z5.out; omega)).trans Q5.out)
  refine wp_store_rowd none (by kernel_rfl) rfl 38 (.tmp 4) (.tmp 31) rfl (w.heap.size + 1) #[.slice X0 (sT r ss).length x0, .slice X1 (sT r ps).length x1, .int .i64 (sI r fz), .bool (sB r off), .int .i64 (sI r b), .int .i64 (sI r l), .int .i64 (sI r q), .int .i64 (sI r t), .int .i64 (sI r sq), .int .i64 (sI r at_), .slice X10 (sT r lg).length x10, .slice X11 (sT r (mg dt [(2 + l, ar2)])).length x11] rfl rfl 38 _ Qu.out infoP rfl (onePv ..) ?_
  refine hK.out _ _ ((by
        have r1 := (setRow_other u3 (w.heap.size + 1) w.heap.size #[.slice X0 (sT r ss).length x0, .slice X1 (sT r ps).length x1, .int .i64 (sI r fz), .bool (sB r off), .int .i64 (sI r b), .int .i64 (sI r l), .int .i64 (sI r q), .int .i64 (sI r t), .int .i64 (sI r sq), .int .i64 (sI r at_), .slice X10 (sT r lg).length x10, .slice X11 (sT r (mg dt [(2 + l, ar2)])).length x11] (by omega)).trans ((K3.out.block _ (by have := Z5.out; omega)).trans R5.out)
        have r2 := (setRow_other u3 (w.heap.size + 1) (w3.heap.size) #[.slice X0 (sT r ss).length x0, .slice X1 (sT r ps).length x1, .int .i64 (sI r fz), .bool (sB r off), .int .i64 (sI r b), .int .i64 (sI r l), .int .i64 (sI r q), .int .i64 (sI r t), .int .i64 (sI r sq), .int .i64 (sI r at_), .slice X10 (sT r lg).length x10, .slice X11 (sT r (mg dt [(2 + l, ar2)])).length x11] (by have := Ls2.out; omega)).trans ((K3.out.block _ Ls.out).trans Rs.out)
        exact ⟨by rw [cell_of_row _ _ _ _ _ _ r1]; rfl, by rw [cell_of_row _ _ _ _ _ _ r1]; rfl, by rw [cell_of_row _ _ _ _ _ _ r1]; rfl, by rw [cell_of_row _ _ _ _ _ _ r1]; rfl, by rw [cell_of_row _ _ _ _ _ _ r1]; rfl, by rw [cell_of_row _ _ _ _ _ _ r1]; rfl, by rw [cell_of_row _ _ _ _ _ _ r1]; rfl, by rw [cell_of_row _ _ _ _ _ _ r1]; rfl, by rw [cell_of_row _ _ _ _ _ _ r1]; rfl, by rw [cell_of_row _ _ _ _ _ _ r1]; rfl, by rw [cell_of_row _ _ _ _ _ _ r1]; rfl, by rw [cell_of_row _ _ _ _ _ _ r1]; rfl, by rw [cell_of_row _ _ _ _ _ _ r2]; rfl, by rw [cell_of_row _ _ _ _ _ _ r2]; rfl, by rw [cell_of_row _ _ _ _ _ _ r2]; rfl, by rw [cell_of_row _ _ _ _ _ _ r2]; rfl, by rw [cell_of_row _ _ _ _ _ _ r2]; rfl, by rw [cell_of_row _ _ _ _ _ _ r2]; rfl⟩)) (fun hHeld => ?_)
  clear hK K
  try simp only [Act.put]
  refine held_yes 8 (some 5) rfl rfl (by kernel_rfl) (by kernel_rfl) (by kernel_rfl) (fun _ _ _ h => h) (by kernel_rfl) hHeld (v := ?_) (fun wz hSw => ?_) ?_
  rotate_left 1
  · (try dsimp only at hSw); go_simp; (try with_reducible rfl)
  try simp only [Act.put, List.setIfInBounds_toArray, List.set_cons_zero, List.set_cons_succ]
  refine wpAnyH_done (by kernel_rfl) ?_ _
  have Rf : Hid ((u3.setRow (w.heap.size + 1) #[.slice X0 (sT r ss).length x0, .slice X1 (sT r ps).length x1, .int .i64 (sI r fz), .bool (sB r off), .int .i64 (sI r b), .int .i64 (sI r l), .int .i64 (sI r q), .int .i64 (sI r t), .int .i64 (sI r sq), .int .i64 (sI r at_), .slice X10 (sT r lg).length x10, .slice X11 (sT r (mg dt [(2 + l, ar2)])).length x11]).heap[w.heap.size + 1]? = some (.cells #[.slice X0 (sT r ss).length x0, .slice X1 (sT r ps).length x1, .int .i64 (sI r fz), .bool (sB r off), .int .i64 (sI r b), .int .i64 (sI r l), .int .i64 (sI r q), .int .i64 (sI r t), .int .i64 (sI r sq), .int .i64 (sI r at_), .slice X10 (sT r lg).length x10, .slice X11 (sT r (mg dt [(2 + l, ar2)])).length x11] 38 (0, 0))) := Lib.hid (setRow_heap _ _ _ _ _ _ Qu.out)
  have Fin := Lib.hid (AnsP.end (mk := mkC c) (fz := sI r fz) (off := sB r off) (b := sI r b) (l := sI r l) (q := sI r q) (t := sI r t) (sq := sI r sq) (at_ := sI r at_) (lo := u2.heap.size) (w := w) (r := w.heap.size + 1) (cs := #[.slice X0 (sT r ss).length x0, .slice X1 (sT r ps).length x1, .int .i64 (sI r fz), .bool (sB r off), .int .i64 (sI r b), .int .i64 (sI r l), .int .i64 (sI r q), .int .i64 (sI r t), .int .i64 (sI r sq), .int .i64 (sI r at_), .slice X10 (sT r lg).length x10, .slice X11 (sT r (mg dt [(2 + l, ar2)])).length x11]) Pg.out (by have := Z5.out; have := K2.out.size; omega) (by omega) (B5.out.trans (K3.out.mono B5.out.size)))
  try simp only [Exit.then]
  generalize (u3.setRow (w.heap.size + 1) #[.slice X0 (sT r ss).length x0, .slice X1 (sT r ps).length x1, .int .i64 (sI r fz), .bool (sB r off), .int .i64 (sI r b), .int .i64 (sI r l), .int .i64 (sI r q), .int .i64 (sI r t), .int .i64 (sI r sq), .int .i64 (sI r at_), .slice X10 (sT r lg).length x10, .slice X11 (sT r (mg dt [(2 + l, ar2)])).length x11]) = xf at *
  go_wp2
  refine bodyPost_ret (v := .tuple #[.agg #[.slice X0 (sT r ss).length x0, .slice X1 (sT r ps).length x1, .int .i64 (sI r fz), .bool (sB r off), .int .i64 (sI r b), .int .i64 (sI r l), .int .i64 (sI r q), .int .i64 (sI r t), .int .i64 (sI r sq), .int .i64 (sI r at_), .slice X10 (sT r lg).length x10, .slice X11 (sT r (mg dt [(2 + l, ar2)])).length x11], .int .i64 c]) ?_ rfl ?_
  exact results_cell_row2 rfl _ _ (w.heap.size + 1) 38 _ (0, 0) _ _ rfl rfl Rf.out Tryz.underlying38 rfl (by kernel_rfl)
  have eO : O = r := by rw [HO.out, Hrt.out, Hr.out]; rfl
  have eC : C = c := by rw [HC.out, Hrt.out, Hr.out, ← Hc.out]; rfl
  rw [eO, eC, Hrt.out]; exact Fin.out
theorem ro_ok {ss : List ByteArray} {ps lg dt : List Pt} {fz b l q t sq at_ x : Int} {off : Bool} (hO : roO ss ps fz off b l q t sq at_ lg dt x = true) (hd : ∀ p ∈ dt, InI p.1 ∧ p.2.size ≤ maxLen) (zdt : dt.length ≤ 1048576) :
    (∀ p ∈ mg dt [(2 + l, rtS (arS ss ps l lg dt) x)], InI p.1 ∧ p.2.size ≤ maxLen) ∧ (mg dt [(2 + l, rtS (arS ss ps l lg dt) x)]).length ≤ 1300000 := by
  simp only [roO, Bool.and_eq_true] at hO
  have hb := pgrOk_b hO.1
  refine ⟨fun p hp => ?_, by have := mg1_len dt (2 + l) (rtS (arS ss ps l lg dt) x); omega⟩
  rcases mg1_mem hp with h | h
  · rw [h]; exact ⟨by unfold InI; show _ ≤ 2 + l ∧ 2 + l < _; omega, by show (rtS _ _).size ≤ _; rw [rtS_size, arS_64 hO.1]; decide⟩
  · exact hd p h

end Go.Proofs.YtplfnlalmcpcaaaGreat
