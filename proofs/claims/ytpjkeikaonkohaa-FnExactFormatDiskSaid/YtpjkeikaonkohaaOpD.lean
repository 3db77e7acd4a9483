/- Contracts of the deferred function of the program's operate, and of the operation write. No statement is proved here. -/
import Derived.Test.YtpjkeikaonkohaaSfI
import Derived.Test.YtpjkeikaonkohaaDkW
import Derived.Defers
import Derived.Test.YtpjkeikaonkohaaHeld
namespace Go.Proofs.Ytpjkeikaonkohaa
open Go.RowKit
set_option linter.unusedVariables false
/-- The deferred function gives the fuse back. -/
theorem operateD_yes {w : World} {Cc Fc Vb D : Nat} {v1 v2 : Value} {c f0 f1 : Int} {off : Bool} (u : FrameMode) (hc : w.cell? ⟨Cc, 0, none⟩ = some (.int .i64 c)) (hf : w.cell? ⟨Fc, 0, none⟩ = some (.int .i64 f0)) (hv : w.cell? ⟨Vb, 0, none⟩ = some (.pointer (some ⟨D, 0, none⟩))) (hd : VB w D v1 v2 f1 off) (h : c ≠ 0 ∨ f0 = -1) :
    CallsD Try.prog 120 #[.pointer (some ⟨Cc, 0, none⟩), .pointer (some ⟨Fc, 0, none⟩), .pointer (some ⟨Vb, 0, none⟩)] u w fun e u' w' => u' = u ∧ (e = .returned (.tuple #[]) ∧ w' = w.setCell ⟨D, 2, none⟩ (.int .i64 f0)) := by
  have q2 := hd.c2
  have f2 := hd.f 2
  by_cases h0 : c = 0
  · have e1 : f0 = -1 := h.resolve_left (fun x => x h0)
    subst h0
    subst e1
    clear h
    go_enter_d Try.func120, Try.ntmps120
    go_wp2
    go_end0
    exact ⟨rfl, rfl⟩
  · have e1 : (c != 0) = true := by simpa using h0
    clear h
    go_enter_d Try.func120, Try.ntmps120
    go_wp2
    go_end0
    exact ⟨rfl, rfl⟩
/-- The deferred function changes nothing. -/
theorem operateD_no {w : World} {Cc Fc : Nat} {Vb : Value} {f0 : Int} (u : FrameMode) (hc : w.cell? ⟨Cc, 0, none⟩ = some (.int .i64 0)) (hf : w.cell? ⟨Fc, 0, none⟩ = some (.int .i64 f0)) (h : f0 ≠ -1) :
    CallsD Try.prog 120 #[.pointer (some ⟨Cc, 0, none⟩), .pointer (some ⟨Fc, 0, none⟩), Vb] u w fun e u' w' => u' = u ∧ (e = .returned (.tuple #[]) ∧ w' = w) := by
  have e1 : (f0 == -1) = false := beq_eq_false_iff_ne.2 h
  clear h
  go_enter_d Try.func120, Try.ntmps120
  go_wp2
  go_end0
  exact ⟨rfl, rfl⟩
/-- append of one pair that was just laid into a block of its own, its slot named. -/
theorem wp_pushU (d : Option Tmp) {o : Oper} {a : Act} {K : Act → World → Prop} {Q : Exit → Act → World → Prop} {W : World} {lo B : Nat} {v : Value} {ps : List Pt} {k : Int} {x : ByteArray} {E : Prop} {ops : Array Oper} (hw : Region.wanted o (yielded ops a.tmps) = true) (s y : Operand) (hd : o.dst = d)
    (ho : o.op = .call { callee := .builtin .append, args := #[s, y], argTypes := #[28, 28] }) (hs : a.eval s = v) (hx : a.eval y = .slice (some ⟨B, 0, none⟩) 1 1) (hB : W.heap.size = B)
    (hown : OU W lo v ps) (hlo : lo ≤ W.heap.size) (hlen : ps.length ≤ 1048576)
    (h : ∀ g cap w', OU w' lo (.slice (some ⟨g, 0, none⟩) (ps.length + 1) cap) (ps ++ [(k, x)]) → (W.alloc (.cells #[.int .i64 k, .string x] 77)).grownBy w' v.ownBlock → (v.ownBlock = some g ∨ g = W.heap.size + 1) → g < w'.heap.size →
      K (a.put d (.slice (some ⟨g, 0, none⟩) (ps.length + 1) cap)) w') : if Region.wanted o (yielded ops a.tmps) = true then Oper.wp Try.prog o a (W.alloc (.cells #[.int .i64 k, .string x] 77)) K Q else E := by
  subst hd
  rw [if_pos hw]
  obtain ⟨i0, hi, hz0, hz1, hz2⟩ := info_parts infoUz
  subst hB
  refine wp_append_lies _ s y 28 ho lo 77 i0 (.agg #[.int .i64 0, .string ⟨#[]⟩]) 2 24 Try.underlying28 hi hz0 hz1 hz2 rfl (by decide) v ps.length (flatP ps) hs (own_bel hown ((Below.refl _ W).alloc (Nat.le_refl _) _))
    ⟨W.heap.size, 0, none⟩ 1 1 [.int .i64 k, .string x] hx rfl (fun j u hu => ?_) (fun u hu => ?_) (by decide) (by unfold maxLen; omega) (by omega) (by simp; omega) (W.heap.size + 1) (by simp) (fun g cap w' h1 h2 h3 h4 => h g cap w' ?_ h2 h3 h4)
  · rcases j with _ | _ | j
    · obtain rfl := Option.some.inj hu
      rw [add_at, cell_of_row _ _ _ _ _ _ (heap_alloc_new W _)]; rfl
    · obtain rfl := Option.some.inj hu
      rw [add_at, cell_of_row _ _ _ _ _ _ (heap_alloc_new W _)]; rfl
    · simp at hu
  · simp only [List.mem_cons, List.not_mem_nil, or_false] at hu
    rcases hu with rfl | rfl <;> rfl
  · unfold OU; rw [List.length_append, flatP_append]; exact h1
theorem grown_blk {W w' : World} {o : Obj} {v : Value} (hg : (W.alloc o).grownBy w' v.ownBlock) (g : Nat) (hl : g < W.heap.size) (hn : v.ownBlock ≠ some g) : w'.heap[g]? = W.heap[g]? :=
  (hg.block g (by simp; omega) (fun e => hn e.symm)).trans (heap_alloc_old W _ hl)
theorem Drv.drew {w : World} {lo D S : Nat} {v2 : Value} {ss : List ByteArray} {ps : List Pt} {fz : Int} {off : Bool} (h : Drv w lo D S v2 ss ps fz off) : Drv w.drew lo D S v2 ss ps fz off := ⟨h.box, h.sec, h.pend, h.loD, h.loS, h.hn⟩
/-- One pair more is pending. -/
def WrtK (w : World) (lo D S : Nat) (v2 : Value) (ss : List ByteArray) (ps : List Pt) (fz : Int) (off : Bool) (w' : World) : Prop :=
  ∃ A m c, Drv w' lo D S (.slice A m c) ss ps fz off ∧ Below lo w w' ∧ ∀ g, g < w.heap.size → g ≠ D → v2.ownBlock ≠ some g → w'.heap[g]? = w.heap[g]?
theorem Drv.push {W w' : World} {lo D S g cap : Nat} {v2 : Value} {ss : List ByteArray} {ps : List Pt} {fz k : Int} {off : Bool} {x : ByteArray} (h : Drv W lo D S v2 ss ps fz off)
    (ho : OU w' lo (.slice (some ⟨g, 0, none⟩) (ps.length + 1) cap) (ps ++ [(k, x)])) (hg : (W.alloc (.cells #[.int .i64 k, .string x] 77)).grownBy w' v2.ownBlock) (hlo : lo ≤ W.heap.size) :
    VB w' D (.slice (some ⟨S, 0, none⟩) ss.length ss.length) v2 fz off ∧ WrtK W lo D S v2 ss (ps ++ [(k, x)]) fz off (w'.setCell ⟨D, 1, none⟩ (.slice (some ⟨g, 0, none⟩) (ps.length + 1) cap)) := by
  have hD : w'.heap[D]? = W.heap[D]? := grown_blk hg D h.ltD (fun e => h.neD D e rfl)
  have hS : w'.heap[S]? = W.heap[S]? := grown_blk hg S h.sec.lt (fun e => h.neS S e rfl)
  have hv : VB w' D (.slice (some ⟨S, 0, none⟩) ss.length ss.length) v2 fz off := hD.trans h.box
  have hbel : Below lo W w' := ((Below.refl lo W).alloc hlo _).grown hg (by simp; omega) (fun q hq => (own_wi h.pend q hq).1)
  have hgD : g ≠ D := by
    rintro rfl
    obtain ⟨C, hC⟩ := OU.blk ho rfl
    unfold VB at hv
    rw [hC] at hv
    cases hv
  refine ⟨hv, _, _, _, ⟨heap_setCell_same _ _ _ _ _ _ hv, (h.sec.same hS).same (heap_setCell_other _ ⟨D, 1, none⟩ _ _ h.neSD), own_same ho fun q hq => heap_setCell_other _ ⟨D, 1, none⟩ _ _ ?_, h.loD, h.loS, h.hn⟩, hbel.setCell (p := ⟨D, 1, none⟩) h.loD _, fun q hq hqD hqv => ?_⟩
  · simp only [Value.ownBlock, Option.some.injEq] at hq
    show q ≠ D
    omega
  · exact (heap_setCell_other _ ⟨D, 1, none⟩ _ _ hqD).trans (grown_blk hg q hq hqv)
theorem WrtK.undrew {w w' : World} {lo D S : Nat} {v2 : Value} {ss : List ByteArray} {ps : List Pt} {fz : Int} {off : Bool} (h : WrtK w.drew lo D S v2 ss ps fz off w') : WrtK w lo D S v2 ss ps fz off w' := by
  obtain ⟨A, m, c, h1, h2, h3⟩ := h
  exact ⟨A, m, c, h1, (Below.refl _ w).drew.trans h2, h3⟩
set_option maxHeartbeats 2000000 in
set_option maxRecDepth 100000 in
theorem opWrite_any {w : World} {lo D S Vb Pb : Nat} {v2 : Value} {ss : List ByteArray} {ps : List Pt} {fz k : Int} {off : Bool} {x : ByteArray} (hd : Drv w lo D S v2 ss ps fz off) (hV : w.heap[Vb]? = some (.cells #[.pointer (some ⟨D, 0, none⟩)] 89 (0, 0)))
    (hP : w.heap[Pb]? = some (.cells #[.int .i64 k, .string x] 77 (0, 0))) (nV : v2.ownBlock ≠ some Vb) (nP : v2.ownBlock ≠ some Pb) (hlo : lo ≤ w.heap.size) (hl : ps.length ≤ 600) :
    Calls Try.prog 109 #[.pointer (some ⟨Vb, 0, none⟩), .pointer (some ⟨Pb, 0, none⟩)] w fun e w' =>
      (600 ≤ ps.length ∧ e = .returned (.int .i64 5) ∧ w' = w) ∨ (¬ 600 ≤ ps.length ∧ e = .returned (.int .i64 0) ∧ WrtK w lo D S v2 ss (ps ++ [(k, x)]) fz off w') := by
  obtain ⟨A, cap, hv2⟩ := OU.ex hd.pend
  subst hv2
  have Hd := Lib.hid hd; have HV := Lib.hid hV; have HP := Lib.hid hP; have Hl := Lib.hid hl
  have q0 : w.cell? ⟨Vb, 0, none⟩ = some (.pointer (some ⟨D, 0, none⟩)) := by rw [cell_of_row _ _ _ _ _ _ hV]; rfl
  have q1 := hd.box.c1
  by_cases h6 : 600 ≤ ps.length
  · have h6b : ((ps.length : Int) == 600) = true := by simp; omega
    have h6c : (ps.length : Int) = 600 := by omega
    have H6 := Lib.hid h6
    clear hd hV hP hl h6
    go_enter Try.func109, Try.ntmps109
    go_wp2
    go_ret
    exact .inl ⟨H6.out, rfl, rfl⟩
  · have h6b : ((ps.length : Int) == 600) = false := by simp; omega
    have h6c : ¬ (ps.length : Int) = 600 := by omega
    have H6 := Lib.hid h6
    clear hd hV hP hl h6
    go_enter Try.func109, Try.ntmps109
    go_wp2
    clear q0 q1
    have HS : Hid (∀ W : World, W.heap[Vb]? = w.heap[Vb]? → W.heap[D]? = w.heap[D]? → W.heap[Pb]? = w.heap[Pb]? → W.cell? ⟨Vb, 0, none⟩ = some (.pointer (some ⟨D, 0, none⟩)) ∧ W.cell? ⟨D, 1, none⟩ = some (.slice A ps.length cap) ∧ W.cell? ⟨Pb, 0, none⟩ = some (.int .i64 k) ∧ W.cell? ⟨Pb, 1, none⟩ = some (.string x)) := Lib.hid (fun W e1 e2 e3 => by
      have hb : VB W D (.slice (some ⟨S, 0, none⟩) ss.length ss.length) (.slice A ps.length cap) fz off := e2.trans Hd.out.box
      exact ⟨by rw [cell_of_row _ _ _ _ _ _ (e1.trans HV.out)]; rfl, hb.c1, by rw [cell_of_row _ _ _ _ _ _ (e3.trans HP.out)]; rfl, by rw [cell_of_row _ _ _ _ _ _ (e3.trans HP.out)]; rfl⟩)
    have HS2 : Hid (∀ W : World, (W.cell? ⟨Vb, 0, none⟩ = some (.pointer (some ⟨D, 0, none⟩)) ∧ W.cell? ⟨D, 1, none⟩ = some (.slice A ps.length cap) ∧ W.cell? ⟨Pb, 0, none⟩ = some (.int .i64 k) ∧ W.cell? ⟨Pb, 1, none⟩ = some (.string x)) → W.cell? ⟨Vb, 0, none⟩ = some (.pointer (some ⟨D, 0, none⟩)) ∧ W.cell? ⟨Pb, 0, none⟩ = some (.int .i64 k) ∧ W.cell? ⟨Pb, 1, none⟩ = some (.string x)) := Lib.hid (fun W h => ⟨h.1, h.2.2.1, h.2.2.2⟩)
    have HS3 : Hid (∀ W : World, WrtK w.drew lo D S (.slice A ps.length cap) ss (ps ++ [(k, x)]) fz off W → W.cell? ⟨Vb, 0, none⟩ = some (.pointer (some ⟨D, 0, none⟩)) ∧ W.cell? ⟨Pb, 0, none⟩ = some (.int .i64 k) ∧ W.cell? ⟨Pb, 1, none⟩ = some (.string x)) := Lib.hid (fun W h => by
      obtain ⟨_, _, _, _, _, hk⟩ := h
      have e1 := (hk Vb (Array.getElem?_eq_some_iff.1 HV.out).1 (by rintro rfl; have hb := Hd.out.box; unfold VB at hb; rw [HV.out] at hb; cases hb) nV).trans HV.out
      have e2 := (hk Pb (Array.getElem?_eq_some_iff.1 HP.out).1 (by rintro rfl; have hb := Hd.out.box; unfold VB at hb; rw [HP.out] at hb; cases hb) nP).trans HP.out
      exact ⟨by rw [cell_of_row _ _ _ _ _ _ e1]; rfl, by rw [cell_of_row _ _ _ _ _ _ e2]; rfl, by rw [cell_of_row _ _ _ _ _ _ e2]; rfl⟩)
    have HA : Hid (∀ W : World, ∀ o, W.heap = w.heap → (W.alloc o).heap[Vb]? = w.heap[Vb]? ∧ (W.alloc o).heap[D]? = w.heap[D]? ∧ (W.alloc o).heap[Pb]? = w.heap[Pb]?) := Lib.hid (fun W o e => by
      have l1 := (Array.getElem?_eq_some_iff.1 HV.out).1; have l2 := Hd.out.ltD; have l3 := (Array.getElem?_eq_some_iff.1 HP.out).1
      exact ⟨by rw [heap_alloc_old _ _ (by rw [e]; exact l1), e], by rw [heap_alloc_old _ _ (by rw [e]; exact l2), e], by rw [heap_alloc_old _ _ (by rw [e]; exact l3), e]⟩)
    have HLd : Hid (∀ (a : Act) (oi : Oper), oi = { dst := some 14, op := .load 77 (.tmp 1), type := 77, pos := oi.pos, after := #[], guard := none } → a.eval (.tmp 1) = .pointer (some ⟨Pb, 0, none⟩) → ∀ wz : World, wz.cell? ⟨Pb, 0, none⟩ = some (.int .i64 k) → wz.cell? ⟨Pb, 1, none⟩ = some (.string x) → (execOp a.eval oi).run Try.prog wz = .ok (.value (.agg #[.int .i64 k, .string x])) wz) := Lib.hid (fun a oi he ha wz h1 h2 => by
      have := run_load_cells (P := Try.prog) wz Pb 0 77 _ [.int .i64 k, .string x] (two_cells h1 h2) Try.underlying77 rfl
      rw [he]
      unfold execOp
      simp only [ha, Instr.loadAt, Instr.sureAddr, Sem.run_bind, Sem.run_pure, Result.andThen_ok, this])
    refine wp_region_held_drew (S := fun W => W.cell? ⟨Vb, 0, none⟩ = some (.pointer (some ⟨D, 0, none⟩)) ∧ W.cell? ⟨Pb, 0, none⟩ = some (.int .i64 k) ∧ W.cell? ⟨Pb, 1, none⟩ = some (.string x)) (by kernel_rfl) (HS2.out _ (HS.out _ rfl rfl rfl)) (fun hHeld => ?_)
    refine held_yes 0 (some 9) rfl rfl (by kernel_rfl) (by kernel_rfl) (by kernel_rfl) (fun _ _ _ h => h) (by kernel_rfl) hHeld (v := ?_) (fun wz hSw => ?_) ?_
    rotate_left 1
    · (try dsimp only at hSw); go_simp; (try with_reducible rfl)
    try simp only [Act.put, List.setIfInBounds_toArray, List.set_cons_zero, List.set_cons_succ]
    refine held_yes 1 (some 10) rfl rfl (by kernel_rfl) (by kernel_rfl) (by kernel_rfl) (fun _ _ _ h => h) (by kernel_rfl) hHeld (v := ?_) (fun wz hSw => ?_) ?_
    rotate_left 1
    · (try dsimp only at hSw); go_simp; (try with_reducible rfl)
    try simp only [Act.put, List.setIfInBounds_toArray, List.set_cons_zero, List.set_cons_succ]
    refine held_yes 2 (some 11) rfl rfl (by kernel_rfl) (by kernel_rfl) (by kernel_rfl) (fun _ _ _ h => h) (by kernel_rfl) hHeld (v := ?_) (fun wz hSw => ?_) ?_
    rotate_left 1
    · (try dsimp only at hSw); go_simp; (try with_reducible rfl)
    try simp only [Act.put, List.setIfInBounds_toArray, List.set_cons_zero, List.set_cons_succ]
    refine held_yes 3 (some 12) rfl rfl (by kernel_rfl) (by kernel_rfl) (by kernel_rfl) (fun _ _ _ h => h) (by kernel_rfl) hHeld (v := ?_) (fun wz hSw => ?_) ?_
    rotate_left 1
    · (try dsimp only at hSw); go_simp; (try with_reducible rfl)
    try simp only [Act.put, List.setIfInBounds_toArray, List.set_cons_zero, List.set_cons_succ]
    refine held_yes 5 (some 14) rfl rfl (by kernel_rfl) (by kernel_rfl) (by kernel_rfl) (fun _ _ _ h => h) (by kernel_rfl) hHeld (v := .agg #[.int .i64 k, .string x]) (fun wz hSw => ?_) ?_
    · exact HLd.out _ _ rfl rfl wz hSw.2.1 hSw.2.2
    try simp only [Act.put, List.setIfInBounds_toArray, List.set_cons_zero, List.set_cons_succ]
    refine wpAnyH_ready (rs := [4, 6]) (by kernel_rfl) (by simp) ?_
    refine AllReadyH.cons rfl (fun K hK => ?_) (AllReadyH.cons rfl (fun K hK => ?_) AllReadyH.nil)
    have qld : w.drew.cell? ⟨D, 1, none⟩ = some (.slice A ps.length cap) := Hd.out.box.c1
    go_simp
    refine hK.out _ _ (HS2.out _ (HS.out _ rfl rfl rfl)) (fun hHeld => ?_)
    clear hK K qld
    try simp only [Act.put, List.setIfInBounds_toArray, List.set_cons_zero, List.set_cons_succ]
    refine wpAnyH_ready (rs := [6]) (by kernel_rfl) (by simp) ?_
    refine AllReadyH.cons rfl (fun K hK => ?_) AllReadyH.nil
    go_simp
    refine hK.out _ _ (HS2.out _ (HS.out _ (HA.out w.drew _ rfl).1 (HA.out w.drew _ rfl).2.1 (HA.out w.drew _ rfl).2.2)) (fun hHeld => ?_)
    clear hK K
    try simp only [Act.put, List.setIfInBounds_toArray, List.set_cons_zero, List.set_cons_succ]
    refine wpAnyH_ready (rs := [7]) (by kernel_rfl) (by simp) ?_
    refine AllReadyH.cons rfl (fun K hK => ?_) AllReadyH.nil
    refine wp_pushU (W := w.drew) (v := .slice A ps.length cap) (lo := lo) (ps := ps) (k := k) (x := x) (some 16) (by kernel_rfl) (.tmp 13) (.tmp 15) rfl rfl rfl rfl rfl Hd.out.drew.pend hlo (by have := Hl.out; omega) ?_
    intro g gcap w2 ow gr at1 lt1
    have HPU := Lib.hid (Hd.out.drew.push ow gr hlo)
    have HG := Lib.hid (HS2.out w2 (HS.out w2 (grown_blk gr Vb (Array.getElem?_eq_some_iff.1 HV.out).1 nV) (grown_blk gr D Hd.out.ltD (fun e => Hd.out.neD D e rfl)) (grown_blk gr Pb (Array.getElem?_eq_some_iff.1 HP.out).1 nP)))
    have hfz := HPU.out.1.f 1
    have hcz := HPU.out.1.c1
    clear ow gr at1 lt1
    refine hK.out _ _ HG.out (fun hHeld => ?_)
    clear hK K
    try simp only [Act.put, List.setIfInBounds_toArray, List.set_cons_zero, List.set_cons_succ]
    refine held_yes 8 (some 17) rfl rfl (by kernel_rfl) (by kernel_rfl) (by kernel_rfl) (fun _ _ _ h => h) (by kernel_rfl) hHeld (v := ?_) (fun wz hSw => ?_) ?_
    rotate_left 1
    · (try dsimp only at hSw); go_simp; (try with_reducible rfl)
    try simp only [Act.put, List.setIfInBounds_toArray, List.set_cons_zero, List.set_cons_succ]
    refine held_yes 9 (some 18) rfl rfl (by kernel_rfl) (by kernel_rfl) (by kernel_rfl) (fun _ _ _ h => h) (by kernel_rfl) hHeld (v := ?_) (fun wz hSw => ?_) ?_
    rotate_left 1
    · (try dsimp only at hSw); go_simp; (try with_reducible rfl)
    try simp only [Act.put, List.setIfInBounds_toArray, List.set_cons_zero, List.set_cons_succ]
    refine wpAnyH_ready (rs := [10]) (by kernel_rfl) (by simp) ?_
    refine AllReadyH.cons rfl (fun K hK => ?_) AllReadyH.nil
    go_simp
    refine hK.out _ _ (HS3.out _ HPU.out.2) (fun hHeld => ?_)
    clear hK K hHeld hfz hcz
    try simp only [Act.put, List.setIfInBounds_toArray, List.set_cons_zero, List.set_cons_succ]
    refine wpAnyH_done (by kernel_rfl) ?_ _
    generalize (w2.setCell ⟨D, 1, none⟩ (.slice (some ⟨g, 0, none⟩) (ps.length + 1) gcap)) = w3 at *
    simp only [Exit.then]
    go_wp2
    go_ret
    exact .inr ⟨H6.out, rfl, HPU.out.2.undrew⟩
    go_simp
    refine hK.out _ _ (HS2.out _ (HS.out _ (HA.out w.drew _ rfl).1 (HA.out w.drew _ rfl).2.1 (HA.out w.drew _ rfl).2.2)) (fun hHeld => ?_)
    clear hK K
    try simp only [Act.put, List.setIfInBounds_toArray, List.set_cons_zero, List.set_cons_succ]
    refine wpAnyH_ready (rs := [4]) (by kernel_rfl) (by simp) ?_
    refine AllReadyH.cons rfl (fun K hK => ?_) AllReadyH.nil
    have qld : (w.alloc (.cells #[.int .i64 k, .string x] 77)).drew.cell? ⟨D, 1, none⟩ = some (.slice A ps.length cap) := (HS.out _ (HA.out w _ rfl).1 (HA.out w _ rfl).2.1 (HA.out w _ rfl).2.2).2.1
    go_simp
    refine hK.out _ _ (HS2.out _ (HS.out _ (HA.out w.drew _ rfl).1 (HA.out w.drew _ rfl).2.1 (HA.out w.drew _ rfl).2.2)) (fun hHeld => ?_)
    clear hK K qld
    try simp only [Act.put, List.setIfInBounds_toArray, List.set_cons_zero, List.set_cons_succ]
    refine wpAnyH_ready (rs := [7]) (by kernel_rfl) (by simp) ?_
    refine AllReadyH.cons rfl (fun K hK => ?_) AllReadyH.nil
    refine wp_pushU (W := w.drew) (v := .slice A ps.length cap) (lo := lo) (ps := ps) (k := k) (x := x) (some 16) (by kernel_rfl) (.tmp 13) (.tmp 15) rfl rfl rfl rfl rfl Hd.out.drew.pend hlo (by have := Hl.out; omega) ?_
    intro g gcap w2 ow gr at1 lt1
    have HPU := Lib.hid (Hd.out.drew.push ow gr hlo)
    have HG := Lib.hid (HS2.out w2 (HS.out w2 (grown_blk gr Vb (Array.getElem?_eq_some_iff.1 HV.out).1 nV) (grown_blk gr D Hd.out.ltD (fun e => Hd.out.neD D e rfl)) (grown_blk gr Pb (Array.getElem?_eq_some_iff.1 HP.out).1 nP)))
    have hfz := HPU.out.1.f 1
    have hcz := HPU.out.1.c1
    clear ow gr at1 lt1
    refine hK.out _ _ HG.out (fun hHeld => ?_)
    clear hK K
    try simp only [Act.put, List.setIfInBounds_toArray, List.set_cons_zero, List.set_cons_succ]
    refine held_yes 8 (some 17) rfl rfl (by kernel_rfl) (by kernel_rfl) (by kernel_rfl) (fun _ _ _ h => h) (by kernel_rfl) hHeld (v := ?_) (fun wz hSw => ?_) ?_
    rotate_left 1
    · (try dsimp only at hSw); go_simp; (try with_reducible rfl)
    try simp only [Act.put, List.setIfInBounds_toArray, List.set_cons_zero, List.set_cons_succ]
    refine held_yes 9 (some 18) rfl rfl (by kernel_rfl) (by kernel_rfl) (by kernel_rfl) (fun _ _ _ h => h) (by kernel_rfl) hHeld (v := ?_) (fun wz hSw => ?_) ?_
    rotate_left 1
    · (try dsimp only at hSw); go_simp; (try with_reducible rfl)
    try simp only [Act.put, List.setIfInBounds_toArray, List.set_cons_zero, List.set_cons_succ]
    refine wpAnyH_ready (rs := [10]) (by kernel_rfl) (by simp) ?_
    refine AllReadyH.cons rfl (fun K hK => ?_) AllReadyH.nil
    go_simp
    refine hK.out _ _ (HS3.out _ HPU.out.2) (fun hHeld => ?_)
    clear hK K hHeld hfz hcz
    try simp only [Act.put, List.setIfInBounds_toArray, List.set_cons_zero, List.set_cons_succ]
    refine wpAnyH_done (by kernel_rfl) ?_ _
    generalize (w2.setCell ⟨D, 1, none⟩ (.slice (some ⟨g, 0, none⟩) (ps.length + 1) gcap)) = w3 at *
    simp only [Exit.then]
    go_wp2
    go_ret
    exact .inr ⟨H6.out, rfl, HPU.out.2.undrew⟩
end Go.Proofs.Ytpjkeikaonkohaa
