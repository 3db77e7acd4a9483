/- The contracts of the program's storeAll and of operate with it. No statement is proved here. -/
import Derived.Test.YtpjkeikaonkohaaStR
import Derived.Test.YtpjkeikaonkohaaDkB
namespace Go.Proofs.Ytpjkeikaonkohaa
open Go.RowKit Go.Shelf
set_option linter.unusedVariables false
set_option maxHeartbeats 1000000 in
set_option maxRecDepth 100000 in
theorem storeAll_any {w : World} {lo D S : Nat} {v2 : Value} {ss : List ByteArray} {ps : List Pt} {fz : Int} {off : Bool} (hd : Drv w lo D S v2 ss ps fz off) (hlo : lo ≤ w.heap.size) (hl : ps.length ≤ 600) (hall : ∀ p ∈ ps, (0 ≤ p.1 ∧ p.1 < (ss.length : Int)) ∧ p.2.size ≤ 64) :
    Calls Try.prog 110 #[.pointer (some ⟨D, 0, none⟩)] w fun e w' => e = .returned (.int .i64 0) ∧ Drv w' lo D S (.slice none 0 0) (putAll ss ps) [] fz off ∧ Below lo w w' ∧ ∀ g, g < w.heap.size → g ≠ D → g ≠ S → w'.heap[g]? = w.heap[g]? := by
  obtain ⟨A, cap, hv2⟩ := OU.ex hd.pend
  subst hv2
  have Hd := Lib.hid hd; have Hlo := Lib.hid hlo; have Hall := Lib.hid hall
  have q1 := hd.box.c1
  have Hcap : Hid (ps.length ≤ cap ∧ cap ≤ maxLen) := Lib.hid (by
    rcases OU.sl hd.pend with ⟨h1, h2⟩ | ⟨g, c, h1, -, -, h3, h4⟩
    · have e := (Value.slice.inj h1)
      rw [← e.2.1.symm] at *
      subst h2
      exact ⟨by have := e.2.2; omega, by rw [e.2.2]; exact Nat.zero_le _⟩
    · have e := (Value.slice.inj h1).2.2
      subst e
      exact ⟨h3, h4⟩)
  have HW : Hid (Below w.heap.size w (w.alloc (.cells #[.slice A ps.length cap] 28)) ∧ (w.alloc (.cells #[.slice A ps.length cap] 28)).heap[w.heap.size]? = some (.cells #[.slice A ps.length cap] 28 (0, 0)) ∧ (w.alloc (.cells #[.slice A ps.length cap] 28)).heap.size = w.heap.size + 1) := Lib.hid ⟨(Below.refl _ w).alloc (Nat.le_refl _) _, heap_alloc_new w _, by simp⟩
  have Hb : Hid (∃ b0, (b0 < w.heap.size + 1 ∧ b0 ≠ S) ∧ ∀ j (hj : j < ps.length), ∃ o, A = some ⟨b0, o, none⟩ ∧ b0 < w.heap.size ∧ w.cell? ⟨b0, o + j * 2, none⟩ = some (.int .i64 ps[j].1) ∧ w.cell? ⟨b0, o + j * 2 + 1, none⟩ = some (.string ps[j].2)) := Lib.hid (by
    have hS := hd.sec.lt
    rcases OU.sl hd.pend with ⟨h1, h2⟩ | ⟨g, c, h1, -, h5, -, -⟩
    · subst h2
      exact ⟨w.heap.size, ⟨by omega, by omega⟩, fun j hj => absurd hj (by simp)⟩
    · have e := (Value.slice.inj h1)
      obtain ⟨rfl, -, rfl⟩ := e
      refine ⟨g, ⟨by omega, hd.neS g rfl⟩, fun j hj => ⟨0, rfl, h5, ?_, ?_⟩⟩
      · rw [Nat.zero_add]; exact (hd.pend.cell j hj).1
      · rw [Nat.zero_add]; exact (hd.pend.cell j hj).2)
  have HSl : Hid (S < w.heap.size) := Lib.hid hd.sec.lt
  clear hd hlo hall
  go_enter Try.func110, Try.ntmps110
  go_wp2_with fail
  refine (callsIn_wide.1 (valP_in Fence.wide 3 trivial rfl _ _ _ _)).mono ?_
  rintro e w1 ⟨rfl, rfl⟩
  go_wp2_with fail
  generalize (w.alloc (.cells #[.slice A ps.length cap] 28)) = w1 at *
  have HD1 := Lib.hid (Hd.out.keep HW.out.1)
  have HB1 : Hid (Below w1.heap.size w1 (w1.alloc (.cells #[.pointer (some ⟨D, 0, none⟩)] 89))) := Lib.hid ((Below.refl _ w1).alloc (Nat.le_refl _) _)
  obtain ⟨b0, hb0, hbc⟩ := Hb.out
  have hseq := valP_stops Fence.wide (3 - 1) trivial rfl (by omega) w.heap.size cap b0 w1.heap.size S ss.length A ps Hcap.out.1 Hcap.out.2 Hall.out ⟨by rw [HW.out.2.2]; omega, by have := HSl.out; omega⟩ ⟨by rw [HW.out.2.2]; exact hb0.1, hb0.2⟩ (w1.alloc (.cells #[.pointer (some ⟨D, 0, none⟩)] 89)) HB1.out.size
    (by rw [cell_of_row _ _ _ _ _ _ ((HB1.out.block _ (by rw [HW.out.2.2]; omega)).trans HW.out.2.1)]; rfl)
    (fun j hj => by
      obtain ⟨o, e1, e2, e3, e4⟩ := hbc j hj
      have hbb : Below w.heap.size w (w1.alloc (.cells #[.pointer (some ⟨D, 0, none⟩)] 89)) := HW.out.1.trans (HB1.out.mono HW.out.1.size)
      exact ⟨o, e1, (hbb.cell (p := ⟨b0, o + j * 2, none⟩) e2).trans e3, (hbb.cell (p := ⟨b0, o + j * 2 + 1, none⟩) e2).trans e4⟩)
  refine (callsIn_wide.1 (store_in Fence.wide 3 trivial rfl (by omega) trivial (enters_of Try.func125 (by kernel_rfl) rfl) HD1.out (by rw [HW.out.2.2]; have := Hlo.out; omega) hseq)).mono ?_
  rintro e w2 ⟨rfl, hd2, hb2, hk2⟩
  have HF : Hid (Drv w2 lo D S (.slice none 0 0) (putAll ss ps) [] fz off ∧ Below lo w w2 ∧ ∀ g, g < w.heap.size → g ≠ D → g ≠ S → w2.heap[g]? = w.heap[g]?) := Lib.hid ⟨hd2, (HW.out.1.mono Hlo.out).trans hb2, fun g h1 h2 h3 => (hk2 g (by rw [HW.out.2.2]; omega) h2 h3).trans (HW.out.1.block g h1)⟩
  clear hd2 hb2 hk2 hseq hbc
  go_wp2_with fail
  go_ret
  exact ⟨rfl, HF.out⟩
/-- The sectors after a barrier. -/
def barS (ss : List ByteArray) (ps : List Pt) (fz : Int) (off : Bool) : List ByteArray := if pwY fz off then putAll ss ps else ss
set_option maxHeartbeats 4000000 in
set_option maxRecDepth 100000 in
theorem operateB_any {w : World} {lo D S : Nat} {v2 : Value} {ss : List ByteArray} {ps : List Pt} {fz : Int} {off : Bool} (hd : Drv w lo D S v2 ss ps fz off) (hlo : lo ≤ w.heap.size) (hl : ps.length ≤ 600) (hf : -1 ≤ fz ∧ fz ≤ 100000) (hall : ∀ p ∈ ps, (0 ≤ p.1 ∧ p.1 < (ss.length : Int)) ∧ p.2.size ≤ 64) :
    Calls Try.prog 108 #[.pointer (some ⟨D, 0, none⟩), .func (.func 110) #[.pointer (some ⟨D, 0, none⟩)] #[]] w fun e w' =>
      e = .returned (.int .i64 (brC fz off)) ∧ ∃ A m c, Drv w' lo D S (.slice A m c) (barS ss ps fz off) (brP ps fz off) (pwF fz off) (pwO fz off) ∧ Below lo w w' := by
  have HW := Lib.hid (rows3 w (.cells #[.pointer (some ⟨D, 0, none⟩)] 89) (.cells #[.int .i64 0] 2) (.cells #[.int .i64 fz] 2))
  have Hd0 : Hid (Drv (((w.alloc (.cells #[.pointer (some ⟨D, 0, none⟩)] 89)).alloc (.cells #[.int .i64 0] 2)).alloc (.cells #[.int .i64 fz] 2)) lo D S v2 ss ps fz off) := Lib.hid (hd.keep HW.out.2.2.2.2)
  have Hd := Lib.hid hd; have Hall := Lib.hid hall; have Hl := Lib.hid hl; have Hlo := Lib.hid hlo
  have wf : IntKind.i64.wrap (fz - 1) = fz - 1 := IntWalk.i64_in _ (by omega)
  have hmf : ∀ (fn : Fn) (first cap : Array Value) (w : World), (Instr.makeFunc fn first cap).run Try.prog w = .ok (.func fn first cap) w := fun _ _ _ _ => rfl
  have q1 := (hd.keep ((((Below.refl _ w).alloc (Nat.le_refl _) (.cells #[.pointer (some ⟨D, 0, none⟩)] 89))).alloc (by simp) (.cells #[.int .i64 0] 2))).box.c2
  have q2 := Hd0.out.box.c2
  have f2 := Hd0.out.box.f 2
  have q3 := Hd0.out.box.c3
  have f3 := Hd0.out.box.f 3
  clear hd hl hlo hall
  have HB0 : Hid (OpB (((w.alloc (.cells #[.pointer (some ⟨D, 0, none⟩)] 89)).alloc (.cells #[.int .i64 0] 2)).alloc (.cells #[.int .i64 fz] 2)) w.heap.size D 0 fz) := Lib.hid ⟨HW.out.1, HW.out.2.1, HW.out.2.2.1⟩
  have HDn : Hid (D < w.heap.size ∧ lo ≤ D) := Lib.hid ⟨Hd.out.ltD, Hd.out.loD⟩
  have HBl : Hid (Below lo w (((w.alloc (.cells #[.pointer (some ⟨D, 0, none⟩)] 89)).alloc (.cells #[.int .i64 0] 2)).alloc (.cells #[.int .i64 fz] 2))) := Lib.hid (HW.out.2.2.2.2.mono Hlo.out)
  have hq1 : w.heap.size + 1 ≠ D ∧ w.heap.size + 1 ≠ S ∧ v2.ownBlock ≠ some (w.heap.size + 1) := Hd.out.other _ (Nat.le_succ _)
  have Hq1 := Lib.hid hq1; clear hq1
  obtain ⟨A, m, c, rfl⟩ := OU.slv Hd.out.pend
  have hoff : (off = true ∨ fz = 0) ∨ (off = false ∧ fz ≠ 0) := by
    cases off
    · by_cases h : fz = 0
      · exact .inl (.inr h)
      · exact .inr ⟨rfl, h⟩
    · exact .inl (.inl rfl)
  rcases hoff with hoff | ⟨rfl, hz⟩
  · have hy : pwY fz off = false := by rcases hoff with rfl | rfl <;> simp [pwY]
    have E : Hid (brC fz off = 13 ∧ brP ps fz off = ps ∧ pwF fz off = fz ∧ pwO fz off = true ∧ barS ss ps fz off = ss) := Lib.hid ⟨by simp [brC, hy], by simp [brP, hy], by simp [pwF, hy], by simp [pwO, hy], by simp [barS, hy]⟩
    clear hy
    have HE := Lib.hid (((HB0.out.setD HDn.out.1 2 (.int .i64 (fz - 1))).setD HDn.out.1 3 (.bool true)).setC 13)
    have HDr := Lib.hid ((((Hd0.out.fuse (fz - 1)).power true).setO Hq1.out 0 (.int .i64 13)))
    have HBe := Lib.hid (((HBl.out.setCell (p := ⟨D, 2, none⟩) HDn.out.2 (.int .i64 (fz - 1))).setCell (p := ⟨D, 3, none⟩) HDn.out.2 (.bool true)).setCell (p := ⟨w.heap.size + 1, 0, none⟩) (by have := Hlo.out; show lo ≤ w.heap.size + 1; omega) (.int .i64 13))
    cases off
    rotate_left
    · clear hoff
      go_enter_defers Try.func108, Try.ntmps108
      go_wp2_with fail
      refine opEnd_yes HE.out HDr.out.box HDn.out.1 (.inl (by decide)) (fun w h => by simp [results, Try.results108, go_sem, h]) ⟨by rw [E.out.1], _, _, _, by rw [E.out.2.1, E.out.2.2.1, E.out.2.2.2.1, E.out.2.2.2.2]; exact HDr.out.fuse fz, HBe.out.setCell (p := ⟨D, 2, none⟩) HDn.out.2 _⟩
    · obtain rfl : fz = 0 := hoff.resolve_left (by decide)
      clear hoff
      go_enter_defers Try.func108, Try.ntmps108
      go_wp2_with fail
      refine opEnd_yes HE.out HDr.out.box HDn.out.1 (.inl (by decide)) (fun w h => by simp [results, Try.results108, go_sem, h]) ⟨by rw [E.out.1], _, _, _, by rw [E.out.2.1, E.out.2.2.1, E.out.2.2.2.1, E.out.2.2.2.2]; exact HDr.out.fuse 0, HBe.out.setCell (p := ⟨D, 2, none⟩) HDn.out.2 _⟩
  have hy : pwY fz false = true := by simp [pwY, hz]
  have e1 : (fz == 0) = false := beq_eq_false_iff_ne.2 hz
  have Hd1 := Lib.hid (Hd0.out.fuse (fz - 1))
  have HB1 := Lib.hid (HB0.out.setD HDn.out.1 2 (.int .i64 (fz - 1)))
  have HBl1 := Lib.hid (HBl.out.setCell (p := ⟨D, 2, none⟩) HDn.out.2 (.int .i64 (fz - 1)))
  have Hlo1 : Hid (lo ≤ ((((w.alloc (.cells #[.pointer (some ⟨D, 0, none⟩)] 89)).alloc (.cells #[.int .i64 0] 2)).alloc (.cells #[.int .i64 fz] 2)).setCell ⟨D, 2, none⟩ (.int .i64 (fz - 1))).heap.size) := Lib.hid (Nat.le_trans Hlo.out HBl1.out.size)
  have E : Hid (brC fz false = 0 ∧ brP ps fz false = [] ∧ pwF fz false = (if 0 < fz then fz - 1 else fz) ∧ pwO fz false = false ∧ barS ss ps fz false = putAll ss ps) := Lib.hid ⟨by simp [brC, hy], by simp [brP, hy], by simp [pwF, hy], by simp [pwO, hy], by simp [barS, hy]⟩
  clear hy
  go_enter_defers Try.func108, Try.ntmps108
  go_wp2_with fail
  have q4 := HB1.out.c1
  have f4 := HB1.out.f1
  generalize ((((w.alloc (.cells #[.pointer (some ⟨D, 0, none⟩)] 89)).alloc (.cells #[.int .i64 0] 2)).alloc (.cells #[.int .i64 fz] 2)).setCell ⟨D, 2, none⟩ (.int .i64 (fz - 1))) = W1 at *
  clear q1 q2 f2 q3 f3 wf hmf
  refine (storeAll_any Hd1.out Hlo1.out Hl.out Hall.out).mono ?_
  rintro e w2 ⟨rfl, hd2, hb2, hk2⟩
  have Hd2 := Lib.hid hd2; have Hb2 := Lib.hid (HBl1.out.trans hb2)
  have HB2 := Lib.hid (HB1.out.keep (W' := w2) fun g hg hl => hk2 g hl (Hd.out.other g hg).1 (Hd.out.other g hg).2.1)
  have Hq2 : Hid (w.heap.size + 1 ≠ D ∧ w.heap.size + 1 ≠ S ∧ (Value.slice none 0 0).ownBlock ≠ some (w.heap.size + 1)) := Lib.hid ⟨Hq1.out.1, Hq1.out.2.1, fun e => by simp [Value.ownBlock] at e⟩
  have q5 := HB2.out.c1
  have f5 := HB2.out.f1
  have HE2 := Lib.hid (HB2.out.setC 0)
  have HDr := Lib.hid (Hd2.out.setO Hq2.out 0 (.int .i64 0))
  have HBe := Lib.hid (Hb2.out.setCell (p := ⟨w.heap.size + 1, 0, none⟩) (by have := Hlo.out; show lo ≤ w.heap.size + 1; omega) (.int .i64 0))
  clear hd2 hb2 hk2 q4 f4
  go_wp2_with fail
  by_cases hm : fz = -1
  · refine opEnd_yes HE2.out HDr.out.box HDn.out.1 (.inr hm) (fun w h => by simp [results, Try.results108, go_sem, h]) ⟨by rw [E.out.1], _, _, _, by rw [E.out.2.1, E.out.2.2.1, E.out.2.2.2.1, E.out.2.2.2.2, if_neg (by omega)]; exact HDr.out.fuse fz, HBe.out.setCell (p := ⟨D, 2, none⟩) HDn.out.2 _⟩
  · refine opEnd_no HE2.out hm (fun w h => by simp [results, Try.results108, go_sem, h]) ⟨by rw [E.out.1], _, _, _, by rw [E.out.2.1, E.out.2.2.1, E.out.2.2.2.1, E.out.2.2.2.2, if_pos (by omega)]; exact HDr.out, HBe.out⟩
set_option maxHeartbeats 1000000 in
set_option maxRecDepth 100000 in
theorem barrier_any {w : World} {lo D S : Nat} {v2 : Value} {ss : List ByteArray} {ps : List Pt} {fz : Int} {off : Bool} (hd : Drv w lo D S v2 ss ps fz off) (hlo : lo ≤ w.heap.size) (hl : ps.length ≤ 600) (hf : -1 ≤ fz ∧ fz ≤ 100000) (hall : ∀ p ∈ ps, (0 ≤ p.1 ∧ p.1 < (ss.length : Int)) ∧ p.2.size ≤ 64) :
    Calls Try.prog 87 #[.pointer (some ⟨D, 0, none⟩)] w fun e w' =>
      e = .returned (.int .i64 (brC fz off)) ∧ ∃ A m c, Drv w' lo D S (.slice A m c) (barS ss ps fz off) (brP ps fz off) (pwF fz off) (pwO fz off) ∧ Below lo w w' := by
  have Hd := Lib.hid hd; have Hl := Lib.hid hl; have Hlo := Lib.hid hlo; have Hf := Lib.hid hf; have Hall := Lib.hid hall
  have hmf : ∀ (fn : Fn) (first cap : Array Value) (w : World), (Instr.makeFunc fn first cap).run Try.prog w = .ok (.func fn first cap) w := fun _ _ _ _ => rfl
  clear hd hl hlo hf hall
  go_enter Try.func87, Try.ntmps87
  go_wp2_with fail
  refine (operateB_any Hd.out Hlo.out Hl.out Hf.out Hall.out).mono ?_
  rintro e w1 ⟨rfl, h1⟩
  have H1 := Lib.hid h1
  clear h1
  go_wp2_with fail
  go_ret
  exact ⟨rfl, H1.out⟩
theorem tornB_full (s t : ByteArray) (hs : s.size = 64) (ht : t.size = 64) : tornB s t = t := by
  have h1 : s.data.toList.drop t.size = [] := List.drop_eq_nil_of_le (by simp; omega)
  unfold tornB
  rw [h1, List.append_nil]
theorem putAll_br {ss : List ByteArray} {ps : List Pt} (h1 : ∀ x ∈ ss, x.size = 64) (h2 : ∀ p ∈ ps, (0 ≤ p.1 ∧ p.1 < (ss.length : Int)) ∧ p.2.size = 64) : ∀ k, k ≤ ps.length → putAll ss (ps.take k) = brS ss ps k
  | 0, _ => by simp [putAll, brS]
  | k + 1, hk => by
    have ih := putAll_br h1 h2 k (by omega)
    have hp := h2 ps[k] (List.getElem_mem _)
    rw [← take_snoc ps k (by omega), putAll_snoc, ih, ← brS_step ss ps k (by omega), putS]
    have hlt : ps[k].1.toNat < (brS ss ps k).length := by rw [brS_len]; omega
    rw [List.getD_eq_getElem?_getD, List.getElem?_eq_getElem hlt]
    show List.set _ _ (tornB ((brS ss ps k)[ps[k].1.toNat]) _) = _
    rw [tornB_full _ _ ?_ hp.2]
    rcases brS_in ss ps k (by omega) _ (List.getElem_mem hlt) with h | ⟨p, hpm, h⟩
    · exact h1 _ h
    · rw [← h]; exact (h2 p hpm).2
theorem dskOk_all {ss : List ByteArray} {ps : List Pt} {fz : Int} (h : dskOk ss ps fz = true) : (∀ x ∈ ss, x.size = 64) ∧ ∀ p ∈ ps, (0 ≤ p.1 ∧ p.1 < (ss.length : Int)) ∧ p.2.size = 64 := by
  obtain ⟨-, -, -, -, -, h1, h2⟩ := dskOk_iff.1 h
  refine ⟨fun x hx => ?_, fun p hp => ?_⟩
  · obtain ⟨i, hi, rfl⟩ := List.getElem_of_mem hx
    have := allTo_at h1 hi
    rw [bkAt_at ss i hi] at this
    exact of_decide_eq_true this
  · obtain ⟨i, hi, rfl⟩ := List.getElem_of_mem hp
    have := allTo_at h2 hi
    rw [pdAt_at _ ps i hi, Bool.and_eq_true, inB_iff] at this
    exact ⟨⟨this.1.1, by omega⟩, of_decide_eq_true this.2⟩
end Go.Proofs.Ytpjkeikaonkohaa
