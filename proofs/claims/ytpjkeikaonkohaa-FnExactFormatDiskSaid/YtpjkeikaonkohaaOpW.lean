/- The contract of the program's operate with the operation write. No statement is proved here. -/
import Derived.Test.YtpjkeikaonkohaaOpD
namespace Go.Proofs.Ytpjkeikaonkohaa
open Go.RowKit
set_option linter.unusedVariables false
theorem Drv.other {w : World} {lo D S : Nat} {v2 : Value} {ss : List ByteArray} {ps : List Pt} {fz : Int} {off : Bool} (h : Drv w lo D S v2 ss ps fz off) (q : Nat) (hq : w.heap.size ≤ q) : q ≠ D ∧ q ≠ S ∧ v2.ownBlock ≠ some q :=
  ⟨by have := h.ltD; omega, by have := h.sec.lt; omega, fun e => by have := (own_wi h.pend q e).2; omega⟩
theorem Drv.setO {w : World} {lo D S : Nat} {v2 : Value} {ss : List ByteArray} {ps : List Pt} {fz : Int} {off : Bool} (h : Drv w lo D S v2 ss ps fz off) {q : Nat} (hq : q ≠ D ∧ q ≠ S ∧ v2.ownBlock ≠ some q) (j : Nat) (u : Value) : Drv (w.setCell ⟨q, j, none⟩ u) lo D S v2 ss ps fz off :=
  ⟨(heap_setCell_other _ ⟨q, j, none⟩ _ _ (fun e => hq.1 e.symm)).trans h.box, h.sec.same (heap_setCell_other _ ⟨q, j, none⟩ _ _ (fun e => hq.2.1 e.symm)), own_same h.pend fun g hg => heap_setCell_other _ ⟨q, j, none⟩ _ _ (fun e => hq.2.2 (by rw [hg, e])), h.loD, h.loS, h.hn⟩
/-- The boxes of a run of operate: the drive, the code, the fuse as it was. -/
def OpB (W : World) (n D : Nat) (c fz : Int) : Prop := W.heap[n]? = some (.cells #[.pointer (some ⟨D, 0, none⟩)] 89 (0, 0)) ∧ W.heap[n + 1]? = some (.cells #[.int .i64 c] 2 (0, 0)) ∧ W.heap[n + 1 + 1]? = some (.cells #[.int .i64 fz] 2 (0, 0))
theorem OpB.setD {W : World} {n D : Nat} {c fz : Int} (h : OpB W n D c fz) (hD : D < n) (j : Nat) (u : Value) : OpB (W.setCell ⟨D, j, none⟩ u) n D c fz :=
  ⟨(heap_setCell_other _ ⟨D, j, none⟩ _ _ (show n ≠ D by omega)).trans h.1, (heap_setCell_other _ ⟨D, j, none⟩ _ _ (show n + 1 ≠ D by omega)).trans h.2.1, (heap_setCell_other _ ⟨D, j, none⟩ _ _ (show n + 1 + 1 ≠ D by omega)).trans h.2.2⟩
theorem OpB.setC {W : World} {n D : Nat} {c fz : Int} (h : OpB W n D c fz) (c' : Int) : OpB (W.setCell ⟨n + 1, 0, none⟩ (.int .i64 c')) n D c' fz :=
  ⟨(heap_setCell_other _ ⟨n + 1, 0, none⟩ _ _ (show n ≠ n + 1 by omega)).trans h.1, heap_setCell_same W (n + 1) 0 #[.int .i64 c] 2 (.int .i64 c') h.2.1, (heap_setCell_other _ ⟨n + 1, 0, none⟩ _ _ (show n + 1 + 1 ≠ n + 1 by omega)).trans h.2.2⟩
theorem OpB.keep {W W' : World} {n D : Nat} {c fz : Int} (h : OpB W n D c fz) (hk : ∀ g, n ≤ g → g < W.heap.size → W'.heap[g]? = W.heap[g]?) : OpB W' n D c fz :=
  ⟨(hk n (Nat.le_refl _) (Array.getElem?_eq_some_iff.1 h.1).1).trans h.1, (hk (n + 1) (by omega) (Array.getElem?_eq_some_iff.1 h.2.1).1).trans h.2.1, (hk (n + 1 + 1) (by omega) (Array.getElem?_eq_some_iff.1 h.2.2).1).trans h.2.2⟩
theorem OpB.c0 {W : World} {n D : Nat} {c fz : Int} (h : OpB W n D c fz) : W.cell? ⟨n, 0, none⟩ = some (.pointer (some ⟨D, 0, none⟩)) := by rw [cell_of_row _ _ _ _ _ _ h.1]; rfl
theorem OpB.c1 {W : World} {n D : Nat} {c fz : Int} (h : OpB W n D c fz) : W.cell? ⟨n + 1, 0, none⟩ = some (.int .i64 c) := by rw [cell_of_row _ _ _ _ _ _ h.2.1]; rfl
theorem OpB.c2 {W : World} {n D : Nat} {c fz : Int} (h : OpB W n D c fz) : W.cell? ⟨n + 1 + 1, 0, none⟩ = some (.int .i64 fz) := by rw [cell_of_row _ _ _ _ _ _ h.2.2]; rfl
theorem OpB.f1 {W : World} {n D : Nat} {c fz : Int} (h : OpB W n D c fz) : W.frozen? ⟨n + 1, 0, none⟩ = false := frozen_of_row _ _ _ _ _ h.2.1
/-- The door, where the fuse is given back. -/
theorem opEnd_yes {W : World} {n D : Nat} {v1 v2 : Value} {c f0 f1 : Int} {off : Bool} {tmps : Array Value} {R : Ending → World → Prop} (hb : OpB W n D c f0) (hd : VB W D v1 v2 f1 off) (hD : D < n) (h : c ≠ 0 ∨ f0 = -1)
    (ht : ∀ w : World, w.cell? ⟨n + 1, 0, none⟩ = some (.int .i64 c) → (results Try.f108 tmps).run Try.prog w = .ok (.int .i64 c) w) (hR : R (.returned (.int .i64 c)) (W.setCell ⟨D, 2, none⟩ (.int .i64 f0))) :
    Leaves Try.prog Try.f108 tmps R [{ target := .fn (.func 120) #[.pointer (some ⟨n + 1, 0, none⟩), .pointer (some ⟨n + 1 + 1, 0, none⟩), .pointer (some ⟨n, 0, none⟩)], args := #[] }] .returning W := by
  refine leaves_cons (f := 120) (args := #[.pointer (some ⟨n + 1, 0, none⟩), .pointer (some ⟨n + 1 + 1, 0, none⟩), .pointer (some ⟨n, 0, none⟩)]) (by simp) (by simp [go_sem]) ?_
  refine (operateD_yes .returning hb.c1 hb.c2 hb.c0 hd h).mono ?_
  rintro e u' w'' ⟨rfl, rfl, rfl⟩
  exact ⟨_, ht _ (hb.setD hD 2 _).c1, hR⟩
theorem opEnd_no {W : World} {n D : Nat} {f0 : Int} {tmps : Array Value} {R : Ending → World → Prop} (hb : OpB W n D 0 f0) (h : f0 ≠ -1)
    (ht : ∀ w : World, w.cell? ⟨n + 1, 0, none⟩ = some (.int .i64 0) → (results Try.f108 tmps).run Try.prog w = .ok (.int .i64 0) w) (hR : R (.returned (.int .i64 0)) W) :
    Leaves Try.prog Try.f108 tmps R [{ target := .fn (.func 120) #[.pointer (some ⟨n + 1, 0, none⟩), .pointer (some ⟨n + 1 + 1, 0, none⟩), .pointer (some ⟨n, 0, none⟩)], args := #[] }] .returning W := by
  refine leaves_cons (f := 120) (args := #[.pointer (some ⟨n + 1, 0, none⟩), .pointer (some ⟨n + 1 + 1, 0, none⟩), .pointer (some ⟨n, 0, none⟩)]) (by simp) (by simp [go_sem]) ?_
  refine (operateD_no .returning hb.c1 hb.c2 h).mono ?_
  rintro e u' w'' ⟨rfl, rfl, rfl⟩
  exact ⟨_, ht _ hb.c1, hR⟩
set_option maxHeartbeats 4000000 in
set_option maxRecDepth 100000 in
theorem operateW_any {w : World} {lo D S Vw Pb : Nat} {v2 : Value} {ss : List ByteArray} {ps : List Pt} {fz k : Int} {off : Bool} {x : ByteArray} (hd : Drv w lo D S v2 ss ps fz off) (hV : w.heap[Vw]? = some (.cells #[.pointer (some ⟨D, 0, none⟩)] 89 (0, 0)))
    (hP : w.heap[Pb]? = some (.cells #[.int .i64 k, .string x] 77 (0, 0))) (nV : v2.ownBlock ≠ some Vw) (nP : v2.ownBlock ≠ some Pb) (hlo : lo ≤ w.heap.size) (hl : ps.length ≤ 600) (hf : -1 ≤ fz ∧ fz ≤ 100000) :
    Calls Try.prog 108 #[.pointer (some ⟨D, 0, none⟩), .func (.func 109) #[] #[.pointer (some ⟨Vw, 0, none⟩), .pointer (some ⟨Pb, 0, none⟩)]] w fun e w' =>
      e = .returned (.int .i64 (wrC ps fz off)) ∧ ∃ A m c, Drv w' lo D S (.slice A m c) ss (wrP ps fz off k x) (wrF ps fz off) (wrO ps fz off) ∧ Below lo w w' := by
  have HW := Lib.hid (rows3 w (.cells #[.pointer (some ⟨D, 0, none⟩)] 89) (.cells #[.int .i64 0] 2) (.cells #[.int .i64 fz] 2))
  have Hd0 : Hid (Drv (((w.alloc (.cells #[.pointer (some ⟨D, 0, none⟩)] 89)).alloc (.cells #[.int .i64 0] 2)).alloc (.cells #[.int .i64 fz] 2)) lo D S v2 ss ps fz off) := Lib.hid (hd.keep HW.out.2.2.2.2)
  have Hd := Lib.hid hd; have HV := Lib.hid hV; have HP := Lib.hid hP; have Hl := Lib.hid hl; have Hlo := Lib.hid hlo
  have wf : IntKind.i64.wrap (fz - 1) = fz - 1 := IntWalk.i64_in _ (by omega)
  have hmf : ∀ (fn : Fn) (first cap : Array Value) (w : World), (Instr.makeFunc fn first cap).run Try.prog w = .ok (.func fn first cap) w := fun _ _ _ _ => rfl
  have q1 := (hd.keep ((((Below.refl _ w).alloc (Nat.le_refl _) (.cells #[.pointer (some ⟨D, 0, none⟩)] 89))).alloc (by simp) (.cells #[.int .i64 0] 2))).box.c2
  have q2 := Hd0.out.box.c2
  have f2 := Hd0.out.box.f 2
  have q3 := Hd0.out.box.c3
  have f3 := Hd0.out.box.f 3
  clear hd hV hP hl hlo
  have HB0 : Hid (OpB (((w.alloc (.cells #[.pointer (some ⟨D, 0, none⟩)] 89)).alloc (.cells #[.int .i64 0] 2)).alloc (.cells #[.int .i64 fz] 2)) w.heap.size D 0 fz) := Lib.hid ⟨HW.out.1, HW.out.2.1, HW.out.2.2.1⟩
  have HDn : Hid (D < w.heap.size ∧ lo ≤ D) := Lib.hid ⟨Hd.out.ltD, Hd.out.loD⟩
  have HBl : Hid (Below lo w (((w.alloc (.cells #[.pointer (some ⟨D, 0, none⟩)] 89)).alloc (.cells #[.int .i64 0] 2)).alloc (.cells #[.int .i64 fz] 2))) := Lib.hid (HW.out.2.2.2.2.mono Hlo.out)
  have hq1 : w.heap.size + 1 ≠ D ∧ w.heap.size + 1 ≠ S ∧ v2.ownBlock ≠ some (w.heap.size + 1) := Hd.out.other _ (Nat.le_succ _)
  have Hq1 := Lib.hid hq1; clear hq1
  obtain ⟨A, m, c, rfl⟩ := OU.slv Hd.out.pend
  have hoff : (off = true ∨ fz = 0) ∨ (off = false ∧ fz ≠ 0) := by
    cases off
    · by_cases h : fz = 0
      · exact .inl (.inr h)
      · exact .inr ⟨rfl, h⟩
    · exact .inl (.inl rfl)
  rcases hoff with hoff | ⟨rfl, hz⟩
  · have hy : pwY fz off = false := by rcases hoff with rfl | rfl <;> simp [pwY]
    have E : Hid (wrC ps fz off = 13 ∧ wrP ps fz off k x = ps ∧ wrF ps fz off = fz ∧ wrO ps fz off = true) := Lib.hid ⟨by simp [wrC, hy], by simp [wrP, wrC, hy], by simp [wrF, wrC, hy], by simp [wrO, wrC, pwO, hy]⟩
    clear hy
    have HE := Lib.hid (((HB0.out.setD HDn.out.1 2 (.int .i64 (fz - 1))).setD HDn.out.1 3 (.bool true)).setC 13)
    have HDr := Lib.hid ((((Hd0.out.fuse (fz - 1)).power true).setO Hq1.out 0 (.int .i64 13)))
    have HBe := Lib.hid (((HBl.out.setCell (p := ⟨D, 2, none⟩) HDn.out.2 (.int .i64 (fz - 1))).setCell (p := ⟨D, 3, none⟩) HDn.out.2 (.bool true)).setCell (p := ⟨w.heap.size + 1, 0, none⟩) (by have := Hlo.out; show lo ≤ w.heap.size + 1; omega) (.int .i64 13))
    cases off
    rotate_left
    · clear hoff
      go_enter_defers Try.func108, Try.ntmps108
      go_wp2_with fail
      refine opEnd_yes HE.out HDr.out.box HDn.out.1 (.inl (by decide)) (fun w h => by simp [results, Try.results108, go_sem, h]) ⟨by rw [E.out.1], _, _, _, by rw [E.out.2.1, E.out.2.2.1, E.out.2.2.2]; exact HDr.out.fuse fz, HBe.out.setCell (p := ⟨D, 2, none⟩) HDn.out.2 _⟩
    · obtain rfl : fz = 0 := hoff.resolve_left (by decide)
      clear hoff
      go_enter_defers Try.func108, Try.ntmps108
      go_wp2_with fail
      refine opEnd_yes HE.out HDr.out.box HDn.out.1 (.inl (by decide)) (fun w h => by simp [results, Try.results108, go_sem, h]) ⟨by rw [E.out.1], _, _, _, by rw [E.out.2.1, E.out.2.2.1, E.out.2.2.2]; exact HDr.out.fuse 0, HBe.out.setCell (p := ⟨D, 2, none⟩) HDn.out.2 _⟩
  have hy : pwY fz false = true := by simp [pwY, hz]
  have e1 : (fz == 0) = false := beq_eq_false_iff_ne.2 hz
  have Hd1 := Lib.hid (Hd0.out.fuse (fz - 1))
  have HB1 := Lib.hid (HB0.out.setD HDn.out.1 2 (.int .i64 (fz - 1)))
  have HBl1 := Lib.hid (HBl.out.setCell (p := ⟨D, 2, none⟩) HDn.out.2 (.int .i64 (fz - 1)))
  have HV1 : Hid (((((w.alloc (.cells #[.pointer (some ⟨D, 0, none⟩)] 89)).alloc (.cells #[.int .i64 0] 2)).alloc (.cells #[.int .i64 fz] 2)).setCell ⟨D, 2, none⟩ (.int .i64 (fz - 1))).heap[Vw]? = some (.cells #[.pointer (some ⟨D, 0, none⟩)] 89 (0, 0))) := Lib.hid (by
    rw [heap_setCell_other _ ⟨D, 2, none⟩ _ _ (show Vw ≠ D by rintro rfl; have hb := Hd.out.box; unfold VB at hb; rw [HV.out] at hb; cases hb)]
    exact (HW.out.2.2.2.2.block _ (Array.getElem?_eq_some_iff.1 HV.out).1).trans HV.out)
  have HP1 : Hid (((((w.alloc (.cells #[.pointer (some ⟨D, 0, none⟩)] 89)).alloc (.cells #[.int .i64 0] 2)).alloc (.cells #[.int .i64 fz] 2)).setCell ⟨D, 2, none⟩ (.int .i64 (fz - 1))).heap[Pb]? = some (.cells #[.int .i64 k, .string x] 77 (0, 0))) := Lib.hid (by
    rw [heap_setCell_other _ ⟨D, 2, none⟩ _ _ (show Pb ≠ D by rintro rfl; have hb := Hd.out.box; unfold VB at hb; rw [HP.out] at hb; cases hb)]
    exact (HW.out.2.2.2.2.block _ (Array.getElem?_eq_some_iff.1 HP.out).1).trans HP.out)
  have Hlo1 : Hid (lo ≤ ((((w.alloc (.cells #[.pointer (some ⟨D, 0, none⟩)] 89)).alloc (.cells #[.int .i64 0] 2)).alloc (.cells #[.int .i64 fz] 2)).setCell ⟨D, 2, none⟩ (.int .i64 (fz - 1))).heap.size) := Lib.hid (Nat.le_trans Hlo.out HBl1.out.size)
  have HE : Hid ((600 ≤ ps.length → wrC ps fz false = 5 ∧ wrP ps fz false k x = ps ∧ wrF ps fz false = fz ∧ wrO ps fz false = false) ∧ (¬ 600 ≤ ps.length → wrC ps fz false = 0 ∧ wrP ps fz false k x = ps ++ [(k, x)] ∧ wrF ps fz false = (if 0 < fz then fz - 1 else fz) ∧ wrO ps fz false = false)) := Lib.hid ⟨fun h => ⟨by simp [wrC, hy, h], by simp [wrP, wrC, hy, h], by simp [wrF, wrC, hy, h], by simp [wrO, wrC, pwO, hy, h]⟩, fun h => ⟨by simp [wrC, hy, h], by simp [wrP, wrC, hy, h], by simp [wrF, wrC, pwF, hy, h], by simp [wrO, wrC, hy, h]⟩⟩
  clear hy
  go_enter_defers Try.func108, Try.ntmps108
  go_wp2_with fail
  have q4 := HB1.out.c1
  have f4 := HB1.out.f1
  generalize ((((w.alloc (.cells #[.pointer (some ⟨D, 0, none⟩)] 89)).alloc (.cells #[.int .i64 0] 2)).alloc (.cells #[.int .i64 fz] 2)).setCell ⟨D, 2, none⟩ (.int .i64 (fz - 1))) = W1 at *
  clear q1 q2 f2 q3 f3 wf hmf
  refine (opWrite_any Hd1.out HV1.out HP1.out nV nP Hlo1.out Hl.out).mono ?_
  rintro e w2 (⟨h6, rfl, rfl⟩ | ⟨h6, rfl, hw⟩)
  · have E := Lib.hid (HE.out.1 h6)
    have HE2 := Lib.hid (HB1.out.setC 5)
    have HDr := Lib.hid (Hd1.out.setO Hq1.out 0 (.int .i64 5))
    have HBe := Lib.hid (HBl1.out.setCell (p := ⟨w.heap.size + 1, 0, none⟩) (by have := Hlo.out; show lo ≤ w.heap.size + 1; omega) (.int .i64 5))
    clear h6
    go_wp2_with fail
    refine opEnd_yes HE2.out HDr.out.box HDn.out.1 (.inl (by decide)) (fun w h => by simp [results, Try.results108, go_sem, h]) ⟨by rw [E.out.1], _, _, _, by rw [E.out.2.1, E.out.2.2.1, E.out.2.2.2]; exact HDr.out.fuse fz, HBe.out.setCell (p := ⟨D, 2, none⟩) HDn.out.2 _⟩
  · have E := Lib.hid (HE.out.2 h6)
    have Hw := Lib.hid hw
    obtain ⟨A', m', c', hd2, hb2, hk2⟩ := hw
    have Hd2 := Lib.hid hd2; have Hb2 := Lib.hid (HBl1.out.trans hb2)
    have HB2 := Lib.hid (HB1.out.keep (W' := w2) fun g hg hl => hk2 g hl (Hd.out.other g hg).1 (Hd.out.other g hg).2.2)
    have Hq2 : Hid (w.heap.size + 1 ≠ D ∧ w.heap.size + 1 ≠ S ∧ (Value.slice A' m' c').ownBlock ≠ some (w.heap.size + 1)) := Lib.hid ⟨Hq1.out.1, Hq1.out.2.1, fun e => by
      obtain ⟨C, hC⟩ := OU.blk hd2.pend e
      rw [HB2.out.2.1] at hC
      cases hC⟩
    have q5 := HB2.out.c1
    have f5 := HB2.out.f1
    have HE2 := Lib.hid (HB2.out.setC 0)
    have HDr := Lib.hid (Hd2.out.setO Hq2.out 0 (.int .i64 0))
    have HBe := Lib.hid (Hb2.out.setCell (p := ⟨w.heap.size + 1, 0, none⟩) (by have := Hlo.out; show lo ≤ w.heap.size + 1; omega) (.int .i64 0))
    clear h6 hd2 hb2 hk2 q4 f4
    go_wp2_with fail
    by_cases hm : fz = -1
    · refine opEnd_yes HE2.out HDr.out.box HDn.out.1 (.inr hm) (fun w h => by simp [results, Try.results108, go_sem, h]) ⟨by rw [E.out.1], _, _, _, by rw [E.out.2.1, E.out.2.2.1, E.out.2.2.2, if_neg (by omega)]; exact HDr.out.fuse fz, HBe.out.setCell (p := ⟨D, 2, none⟩) HDn.out.2 _⟩
    · refine opEnd_no HE2.out hm (fun w h => by simp [results, Try.results108, go_sem, h]) ⟨by rw [E.out.1], _, _, _, by rw [E.out.2.1, E.out.2.2.1, E.out.2.2.2, if_pos (by omega)]; exact HDr.out, HBe.out⟩
end Go.Proofs.Ytpjkeikaonkohaa
