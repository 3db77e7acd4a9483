/- The contract of the program's store over any iterator. No statement is proved here. -/
import Derived.Test.YtpjkeikaonkohaaPln
namespace Go.Proofs.Ytpjkeikaonkohaa
open Go.RowKit Go.Shelf
attribute [local go_sem] Oper.semAt_some
set_option linter.unusedVariables false
/-- A run of store between two rounds. -/
structure StB (w : World) (lo D S : Nat) (v2 : Value) (ss : List ByteArray) (fz : Int) (off : Bool) (L : List Pt) (W : World) : Prop where
  box : VB W D (.slice (some ⟨S, 0, none⟩) ss.length ss.length) v2 fz off
  sec : Sec W S (putAll ss L)
  var : W.heap[w.heap.size]? = some (.cells #[.pointer (some ⟨D, 0, none⟩)] 89 (0, 0))
  keep : KpB w.heap.size S w W
  below : Below lo w W
theorem StB.own {β : Type} {w : World} {lo D S : Nat} {v2 : Value} {ss : List ByteArray} {fz : Int} {off : Bool} {L : β → List Pt} {K : Nat} (hK : w.heap.size < K) (hlo : lo ≤ w.heap.size) : OwnFrom K (fun s W => StB w lo D S v2 ss fz off (L s) W) := fun s X Y row hs hg hr => by
  have hr2 : ∀ r, row = some r → ∃ o : Obj, X.heap[r]? = some o ∧ o.isCells = false := fun r e => (hr r e).2
  obtain ⟨C, hC, h2⟩ := hs.sec
  refine ⟨(grownBy_keeps_cells hg hr2 hs.box rfl).trans hs.box, ⟨C, (grownBy_keeps_cells hg hr2 hC rfl).trans hC, h2⟩, (grownBy_keeps_cells hg hr2 hs.var rfl).trans hs.var, ⟨Nat.le_trans hs.keep.1 hg.size, fun g h1 h2 => ?_⟩, ownFrom_below (β := Unit) hlo (show lo ≤ K by omega) () X Y row hs.below hg hr⟩
  have h3 := hs.keep.2 g h1 h2
  refine (hg.block g (Nat.lt_of_lt_of_le h1 hs.keep.1) (fun e => ?_)).trans h3
  have := (hr g e.symm).1
  omega
theorem StB.ltV {w : World} {lo D S : Nat} {v2 : Value} {ss : List ByteArray} {fz : Int} {off : Bool} {L : List Pt} {W : World} (h : StB w lo D S v2 ss fz off L W) : w.heap.size < W.heap.size := (Array.getElem?_eq_some_iff.1 h.var).1
theorem StB.alloc {w : World} {lo D S : Nat} {v2 : Value} {ss : List ByteArray} {fz : Int} {off : Bool} {L : List Pt} {W : World} (h : StB w lo D S v2 ss fz off L W) (hlo : lo ≤ w.heap.size) (o : Obj) : StB w lo D S v2 ss fz off L (W.alloc o) :=
  StB.own (β := Unit) (L := fun _ => L) (K := w.heap.size + 1) (by omega) hlo () W _ none h (World.grownBy_alloc W o none) (fun r e => by cases e)
set_option maxRecDepth 100000 in
set_option maxHeartbeats 4000000 in
theorem store_in (F : Fence) (n : Nat) (h89 : F.fn 89) (hro : F.round = none) (hn : 3 ≤ n) {gf : Nat} {lb : Array Value} (hg : F.fn gf) (hent : ∀ args w, (callFunc gf args).run Try.prog w = .ok (.enter gf args) w)
    {w : World} {lo D S : Nat} {v2 : Value} {ss : List ByteArray} {ps : List Pt} {fz : Int} {off : Bool} (hd : Drv w lo D S v2 ss ps fz off) (hlo : lo ≤ w.heap.size) {L : List Pt} {N : Nat}
    (hseq : SeqStopsK F (n - 1) Try.prog gf lb (wxE (n := ss.length)) (KpB w.heap.size S) (fun ys => ys.map (·.1) = L) (fun _ => True) N (w.alloc (.cells #[.pointer (some ⟨D, 0, none⟩)] 89))) :
    CallsIn F n Try.prog 89 #[.pointer (some ⟨D, 0, none⟩), .func (.func gf) #[] lb] w fun e w' => e = .returned (.tuple #[]) ∧ Drv w' lo D S (.slice none 0 0) (putAll ss L) [] fz off ∧ Below lo w w' ∧ ∀ g, g < w.heap.size → g ≠ D → g ≠ S → w'.heap[g]? = w.heap[g]? := by
  have hn1 : 1 ≤ n := by omega
  have Hd := Lib.hid hd
  have HSD := Lib.hid hd.neSD
  have HDl : Hid (D < w.heap.size ∧ S < w.heap.size ∧ lo ≤ D ∧ lo ≤ S ∧ ss.length ≤ 256) := Lib.hid ⟨hd.ltD, hd.sec.lt, hd.loD, hd.loS, hd.hn⟩
  have HW0 : Hid (StB w lo D S v2 ss fz off [] (w.alloc (.cells #[.pointer (some ⟨D, 0, none⟩)] 89))) := Lib.hid (by
    have hb : Below w.heap.size w (w.alloc (.cells #[.pointer (some ⟨D, 0, none⟩)] 89)) := (Below.refl _ w).alloc (Nat.le_refl _) _
    exact ⟨hd.box.keep hb, hd.sec.keep hb, heap_alloc_new w _, ⟨hb.size, fun g h1 _ => hb.block g h1⟩, hb.mono hlo⟩)
  clear hd
  refine callsIn_of_wp_marks Try.func89 rfl h89 ?_ hro
  simp only [Try.ntmps89, List.size_toArray, List.length_cons, List.length_nil, Nat.reduceAdd, Nat.reduceSub, Array.replicate_succ, Array.replicate_zero, List.push_toArray, List.append_toArray, List.nil_append, List.cons_append]
  gi_wp2
  have Hz : Hid ((w.alloc (.cells #[.pointer (some ⟨D, 0, none⟩)] 89)).heap.size = w.heap.size + 1) := Lib.hid (by simp)
  generalize (w.alloc (.cells #[.pointer (some ⟨D, 0, none⟩)] 89)) = w1 at *
  refine wpIn_rangeFunc_ownH hro hn1 (gf := gf) (lb := lb) rfl hg hent hseq kpB_t (kpB_b (by rw [Hz.out]; omega)) (Below.refl _ _) (fun _ => rfl)
    (fun pre W => StB w lo D S v2 ss fz off (pre.map (·.1)) W) (fun _ _ _ => False)
    (StB.own (L := fun pre : List (Wx ss.length) => pre.map (·.1)) (by rw [Hz.out]; omega) hlo) (fun _ _ _ _ _ hs _ _ => hs.elim) HW0.out
    (fun x a' W => ∃ Bx, w.heap.size + 1 ≤ Bx ∧ W.heap[Bx]? = some (.cells #[.int .i64 x.1.1, .string x.1.2] 77 (0, 0)) ∧ a' = { tmps := #[.pointer (some ⟨D, 0, none⟩), .func (.func gf) #[] lb, .pointer (some ⟨w.heap.size, 0, none⟩), undef, .pointer (some ⟨Bx, 0, none⟩), .func (.func gf) #[] lb, .agg #[.int .i64 x.1.1, .string x.1.2], undef, undef, undef, undef, undef, undef, undef, undef, undef, undef, undef, undef, undef, undef], defers := [] })
    (fun x a' _ X Y row hs hg hr => by obtain ⟨Bx, e1, e2, e3⟩ := hs; exact ⟨Bx, e1, row_own Bx 77 (fun (_ : Unit) => #[Value.int .i64 x.1.1, .string x.1.2]) () X Y row e2 hg (fun r e => (hr r e).2), e3⟩)
    ?assign ?body ?done ?stop
  case assign =>
    rintro l pre x W K hi hK
    have hlt := hi.ltV
    unfold wxE
    gi_wp2
    exact hK _ _ ((KeepsOthers.alloc _ _).from _) ⟨by simp, fun g h1 _ => heap_alloc_old _ _ _ (by omega)⟩ (hi.alloc hlo _) ⟨W.heap.size, by omega, heap_alloc_new _ _, rfl⟩
  case body =>
    rintro l pre x a' W hl ⟨r, hr⟩ hi ⟨Bx, hBx, bX, rfl⟩ hlt
    obtain ⟨⟨k, t⟩, ⟨hk0, hk1⟩, ht⟩ := x
    dsimp only at hk0 hk1 ht bX ⊢
    obtain ⟨m, rfl⟩ := Int.eq_ofNat_of_zero_le hk0
    have hm : m < ss.length := by omega
    have Hi := Lib.hid hi
    obtain ⟨C, hC, -⟩ := hi.sec
    have hml : m < (putAll ss (pre.map (·.1))).length := by rw [putAll_len]; exact hm
    have Hput := Lib.hid (hi.sec.put hml ht hC)
    have HputL : Hid ((putAll ss (pre.map (·.1))).set m (tornB ((putAll ss (pre.map (·.1)))[m]) t) = putAll ss ((pre ++ [(⟨((m : Int), t), ⟨hk0, hk1⟩, ht⟩ : Wx ss.length)]).map (fun x : Wx ss.length => x.1))) := Lib.hid (by
      rw [List.map_append, List.map_cons, List.map_nil, putAll_snoc, putS]
      simp only [Int.toNat_natCast]
      rw [List.getD_eq_getElem?_getD, List.getElem?_eq_getElem hml]; rfl)
    have HC := Lib.hid hC
    have x0 : W.cell? ⟨Bx, 0, none⟩ = some (.int .i64 (m : Int)) := by rw [cell_of_row _ _ _ _ _ _ bX]; rfl
    have x1 : W.cell? ⟨Bx, 1, none⟩ = some (.string t) := by rw [cell_of_row _ _ _ _ _ _ bX]; rfl
    have b0 : W.cell? ⟨w.heap.size, 0, none⟩ = some (.pointer (some ⟨D, 0, none⟩)) := by rw [cell_of_row _ _ _ _ _ _ hi.var]; rfl
    have d0 := hi.box.c0
    have hcp : (Builtin.copy_ #[106, 9] 3 #[.slice (some ⟨S, m * 64, none⟩) 64 64, .string t]).run Try.prog W.drew = .ok (goInt t.size) (W.drew.setRow S (putC C (m * 64) t.data.toList)) := by
      have hsz : t.data.toList.length = t.size := by simp
      have hz := Hput.out.1
      rw [putAll_len] at hz
      have := Lib.run_copy_row_string (P := Try.prog) W.drew 106 9 3 5 S (m * 64) 64 64 t C 123 Try.underlying106 (by kernel_rfl) hC ht (by rw [hz]; omega)
      rw [this, putC, hsz]
    have hm2 : 0 ≤ (m : Int) ∧ (m : Int) < (ss.length : Int) := ⟨hk0, hk1⟩
    have Hend : Hid (KeepsFrom w1.heap.size W (W.drew.setRow S (putC C (m * 64) t.data.toList)) ∧ KpB w.heap.size S W (W.drew.setRow S (putC C (m * 64) t.data.toList)) ∧ StB w lo D S v2 ss fz off ((pre ++ [(⟨((m : Int), t), ⟨hk0, hk1⟩, ht⟩ : Wx ss.length)]).map (fun x : Wx ss.length => x.1)) (W.drew.setRow S (putC C (m * 64) t.data.toList))) := Lib.hid (by
      have hset : ∀ g, g ≠ S → (W.drew.setRow S (putC C (m * 64) t.data.toList)).heap[g]? = W.heap[g]? := fun g hg => setRow_other W.drew S g _ hg
      have hsize : (W.drew.setRow S (putC C (m * 64) t.data.toList)).heap.size = W.heap.size := by simp [World.setRow]
      have hkb : KpB w.heap.size S W (W.drew.setRow S (putC C (m * 64) t.data.toList)) := ⟨by rw [hsize]; exact Nat.le_refl _, fun g _ hg => hset g hg⟩
      refine ⟨⟨by rw [hsize]; exact Nat.le_refl _, fun g o hg h0 ho => ?_⟩, hkb, ⟨(hset D (fun e => HSD.out e.symm)).trans Hi.out.box, ?_, (hset _ (by have := HDl.out; omega)).trans Hi.out.var, kpB_t Hi.out.keep hkb, below_setRow Hi.out.below.drew HDl.out.2.2.2.1 _⟩⟩
      · exact (hset g (by rintro rfl; rw [HC.out] at h0; cases h0; cases ho)).trans h0
      · rw [← HputL.out]; exact Hput.out.2)
    clear hi hC bX hlt Hput HputL
    gi_wp2
    refine wpIn_region_still_tail 10 (by kernel_rfl) (by kernel_rfl) (fun i o ho hi => ?_) ?_
    · rcases i with _ | _ | _ | _ | _ | _ | _ | _ | _ | _ | i
      all_goals first | omega | (simp only [List.getElem?_toArray, List.getElem?_cons_zero, List.getElem?_cons_succ, Option.some.injEq] at ho; subst ho; first | exact pln_load rfl | exact pln_nilCheck rfl | exact pln_fieldAddr rfl | exact pln_indexAddr rfl | exact pln_slice rfl)
    simp only [List.take_succ_cons, List.take_zero, List.drop_succ_cons, List.drop_zero]
    repeat still_step
    refine wpStill_nil ?_
    gi_wp2
    exact Hend.out
  case done =>
    rintro D' ys W hD hys hi hK
    rw [hys] at hi
    have Hi := Lib.hid hi
    have HDz : Hid (w.heap.size + 1 ≤ D') := Lib.hid (by have := Hz.out; omega)
    have b0 : W.cell? ⟨w.heap.size, 0, none⟩ = some (.pointer (some ⟨D, 0, none⟩)) := by rw [cell_of_row _ _ _ _ _ _ hi.var]; rfl
    have d1 := hi.box.c1
    have f1 := hi.box.f 1
    have Hk' := Lib.hid ((KeepsOthers.setCell W ⟨D, 1, none⟩ (.slice none 0 0)).same D' _ hK rfl)
    have Hend : Hid (Drv (W.setCell ⟨D, 1, none⟩ (.slice none 0 0)) lo D S (.slice none 0 0) (putAll ss L) [] fz off ∧ Below lo w (W.setCell ⟨D, 1, none⟩ (.slice none 0 0)) ∧ ∀ g, g < w.heap.size → g ≠ D → g ≠ S → (W.setCell ⟨D, 1, none⟩ (.slice none 0 0)).heap[g]? = w.heap[g]?) := Lib.hid (by
      refine ⟨⟨?_, hi.sec.same (heap_setCell_other _ ⟨D, 1, none⟩ _ _ HSD.out), ou_none _ _, HDl.out.2.2.1, HDl.out.2.2.2.1, by rw [putAll_len]; exact HDl.out.2.2.2.2⟩, hi.below.setCell (p := ⟨D, 1, none⟩) HDl.out.2.2.1 _, fun g h1 h2 h3 => (heap_setCell_other _ ⟨D, 1, none⟩ _ _ h2).trans (hi.keep.2 g h1 h3)⟩
      have := heap_setCell_same W D 1 _ 85 (.slice none 0 0) hi.box
      unfold VB
      rw [putAll_len]
      exact this)
    clear hi hK hD hys
    gi_wp2
    have hput : ∀ g, g < w.heap.size + 1 → ((W.setCell ⟨D, 1, none⟩ (.slice none 0 0)).putObj D' (.deferred none)).heap[g]? = (W.setCell ⟨D, 1, none⟩ (.slice none 0 0)).heap[g]? := fun g hg => World.putObj_heap_other (by have := HDz.out; omega)
    refine ⟨by simp, .inl ⟨_, _, rfl, run_takeDeferred Hk'.out, ?_⟩⟩
    obtain ⟨e1, e2, e3⟩ := Hend.out
    refine ⟨_, results_none rfl _ _ _, rfl, ?_, e2.trans (belowK_b (w := w) hlo _ D' _ _ (by have := HDz.out; omega) Hk'.out rfl rfl), fun g h1 h2 h3 => (hput g (by omega)).trans (e3 g h1 h2 h3)⟩
    exact ⟨(hput D (by have := HDl.out; omega)).trans e1.box, e1.sec.same (hput S (by have := HDl.out; omega)), ou_none _ _, e1.loD, e1.loS, e1.hn⟩
  case stop =>
    rintro D' c pre W hD hpre hi hK
    exact hi.elim
end Go.Proofs.Ytpjkeikaonkohaa
