/- The contracts of the program's contentsOf and ReadBlock. No statement is proved here. -/
import Derived.Test.YtlickjmdlooapaaBwP
import Derived.Test.YtlickjmdlooapaaVdI
namespace Go.Proofs.Ytlickjmdlooapaa
open Go.RowKit Go.Shelf
attribute [local go_sem] Oper.semAt_some
set_option linter.unusedVariables false
theorem row_own {β : Type} (B : Nat) (t : TypeId) (f : β → Array Value) : Own (fun s W => W.heap[B]? = some (.cells (f s) t (0, 0))) := fun s X Y row hs hg hrow => (grownBy_keeps_cells hg hrow hs rfl).trans hs
theorem rows4 (w : World) (o0 o1 o2 o3 : Obj) : ((((w.alloc o0).alloc o1).alloc o2).alloc o3).heap[w.heap.size]? = some o0 ∧ ((((w.alloc o0).alloc o1).alloc o2).alloc o3).heap[w.heap.size + 1]? = some o1 ∧ ((((w.alloc o0).alloc o1).alloc o2).alloc o3).heap[w.heap.size + 2]? = some o2 ∧
    ((((w.alloc o0).alloc o1).alloc o2).alloc o3).heap[w.heap.size + 3]? = some o3 ∧ ((((w.alloc o0).alloc o1).alloc o2).alloc o3).heap.size = w.heap.size + 4 ∧ Below w.heap.size w ((((w.alloc o0).alloc o1).alloc o2).alloc o3) := by
  have z1 : (w.alloc o0).heap.size = w.heap.size + 1 := by simp
  have z2 : ((w.alloc o0).alloc o1).heap.size = w.heap.size + 2 := by simp
  have z3 : (((w.alloc o0).alloc o1).alloc o2).heap.size = w.heap.size + 3 := by simp
  have z4 : ((((w.alloc o0).alloc o1).alloc o2).alloc o3).heap.size = w.heap.size + 4 := by simp
  refine ⟨?_, ?_, ?_, ?_, z4, ((((Below.refl _ w).alloc (Nat.le_refl _) _).alloc (by omega) _).alloc (by omega) _).alloc (by omega) _⟩
  · rw [heap_alloc_old _ _ _ (by omega), heap_alloc_old _ _ _ (by omega), heap_alloc_old _ _ _ (by omega)]; exact heap_alloc_new _ _
  · rw [heap_alloc_old _ _ _ (by omega), heap_alloc_old _ _ _ (by omega), ← z1]; exact heap_alloc_new _ _
  · rw [heap_alloc_old _ _ _ (by omega), ← z2]; exact heap_alloc_new _ _
  · rw [← z3]; exact heap_alloc_new _ _
/-- The four boxes between two rounds. -/
def CtB (w : World) (v1 v2 : Value) (fz : Int) (off : Bool) (k : Nat) (s : ByteArray) (W : World) : Prop :=
  (W.heap[w.heap.size]? = some (.cells #[v1, v2, .int .i64 fz, .bool off] 38 (0, 0)) ∧ W.heap[w.heap.size + 1]? = some (.cells #[.int .i64 (k : Int)] 2 (0, 0)) ∧ W.heap[w.heap.size + 2]? = some (.cells #[.string s] 9 (0, 0)) ∧ W.heap[w.heap.size + 3]? = some (.cells #[v2] 36 (0, 0))) ∧ Below w.heap.size w W
theorem ctB_own {β : Type} (w : World) (v1 v2 : Value) (fz : Int) (off : Bool) (k : Nat) (s : ByteArray) (K : Nat) (hK : w.heap.size ≤ K) : OwnFrom K (fun (_ : β) W => CtB w v1 v2 fz off k s W) :=
  OwnFrom.and (OwnFrom.and (Own.from (row_own _ _ _) _) (OwnFrom.and (Own.from (row_own _ _ _) _) (OwnFrom.and (Own.from (row_own _ _ _) _) (Own.from (row_own _ _ _) _)))) (ownFrom_below (Nat.le_refl _) hK)
theorem CtB.lt {w : World} {v1 v2 : Value} {fz : Int} {off : Bool} {k : Nat} {s : ByteArray} {W : World} (h : CtB w v1 v2 fz off k s W) : w.heap.size + 3 < W.heap.size := (Array.getElem?_eq_some_iff.1 h.1.2.2.2).1
theorem CtB.alloc {w : World} {v1 v2 : Value} {fz : Int} {off : Bool} {k : Nat} {s : ByteArray} {W : World} (h : CtB w v1 v2 fz off k s W) (o : Obj) : CtB w v1 v2 fz off k s (W.alloc o) := by
  have hl := h.lt
  exact ⟨⟨(heap_alloc_old _ _ _ (by omega)).trans h.1.1, (heap_alloc_old _ _ _ (by omega)).trans h.1.2.1, (heap_alloc_old _ _ _ (by omega)).trans h.1.2.2.1, (heap_alloc_old _ _ _ (by omega)).trans h.1.2.2.2⟩, h.2.alloc h.2.size _⟩
theorem CtB.put {w : World} {v1 v2 : Value} {fz : Int} {off : Bool} {k : Nat} {s : ByteArray} {W : World} (h : CtB w v1 v2 fz off k s W) (t : ByteArray) : CtB w v1 v2 fz off k t (W.setCell ⟨w.heap.size + 2, 0, none⟩ (.string t)) :=
  ⟨⟨(heap_setCell_other _ ⟨w.heap.size + 2, 0, none⟩ _ _ (show w.heap.size ≠ w.heap.size + 2 by omega)).trans h.1.1, (heap_setCell_other _ ⟨w.heap.size + 2, 0, none⟩ _ _ (show w.heap.size + 1 ≠ w.heap.size + 2 by omega)).trans h.1.2.1,
    heap_setCell_same W (w.heap.size + 2) 0 #[.string s] 9 (.string t) h.1.2.2.1, (heap_setCell_other _ ⟨w.heap.size + 2, 0, none⟩ _ _ (show w.heap.size + 3 ≠ w.heap.size + 2 by omega)).trans h.1.2.2.2⟩, h.2.setCell (p := ⟨w.heap.size + 2, 0, none⟩) (by simp) _⟩
set_option maxRecDepth 100000 in
set_option maxHeartbeats 2000000 in
theorem contentsOf_in (F : Fence) (n : Nat) (h82 : F.fn 194) (h62 : F.fn 217) (h67 : F.fn 227) (hro : F.round = none) (hn : 3 ≤ n)
    {B : Nat} {w : World} {v1 v2 : Value} {ss : List ByteArray} {ps : List Pt} {fz : Int} {off : Bool} {k : Nat} (h1 : RiT B w v1 ss) (h2 : RiU B w v2 ps) (hB : B ≤ w.heap.size) (hk : k < ss.length) :
    CallsIn F n Try.prog 194 #[.agg #[v1, v2, .int .i64 fz, .bool off], .int .i64 (k : Int)] w (GivesB (.string (rdB ss ps k)) w) := by
  have hn1 : 1 ≤ n := by omega
  obtain ⟨A1, c1, rfl, hl1, hm1, hx1⟩ := h1
  obtain ⟨A2, c2, rfl, hl2, hm2, hx2⟩ := h2
  have Hl := Lib.hid hl2; have Hm := Lib.hid hm2; have Hm1 := Lib.hid hm1; have Hl1 := Lib.hid hl1
  clear hl1 hl2 hm2
  unfold maxLen at hm1
  obtain ⟨b1, o1, rfl, hb1, hc1, -⟩ := hx1 k hk
  have Hk1 := Lib.hid hc1; clear hc1 hx1
  have Hlast : Hid (∀ (j : Nat) (pre : List (Px ps)) (x : Px ps), j < ps.length → (pre ++ [x]).map (·.1) = dnP ps j → (∀ y ∈ pre, y.1.2.1 ≠ (k : Int)) → x.1.2.1 = (k : Int) → rdB ss ps k = x.1.2.2) := Lib.hid (fun j pre x hj hp h hx => rdB_last pre x hj hp h hx)
  have Hnone : Hid (∀ pre : List (Px ps), pre.map (·.1) = dnP ps 0 → (∀ x ∈ pre, x.1.2.1 ≠ (k : Int)) → rdB ss ps k = ss[k]) := Lib.hid (fun pre hp h => rdB_none hk pre hp h)
  generalize rdB ss ps k = T at *
  generalize hs : ss[k] = s at *
  clear hs
  obtain ⟨b0, Hb0, Hd⟩ : ∃ b0 : Nat, Hid (b0 < w.heap.size ∨ b0 = w.heap.size + 3) ∧ Hid (∀ j (hj : j < ps.length), ∃ o, A2 = some ⟨b0, o, none⟩ ∧ b0 < w.heap.size ∧ w.cell? ⟨b0, o + j * 2, none⟩ = some (.int .i64 ps[j].1) ∧ w.cell? ⟨b0, o + j * 2 + 1, none⟩ = some (.string ps[j].2)) := by
    by_cases hz : 0 < ps.length
    · obtain ⟨b, o, e, hb, _⟩ := hx2 0 hz
      refine ⟨b, Lib.hid (.inl (by omega)), Lib.hid fun j hj => ?_⟩
      obtain ⟨b2, o2, e2, hb2, hcj, hcj2, _⟩ := hx2 j hj
      rw [e] at e2
      cases e2
      exact ⟨o, e, by omega, hcj, hcj2⟩
    · exact ⟨w.heap.size + 3, Lib.hid (.inr rfl), Lib.hid fun j hj => absurd hj (by omega)⟩
  clear hx2
  have HA := Lib.hid (rows4 w (.cells #[.slice (some ⟨b1, o1, none⟩) ss.length c1, .slice A2 ps.length c2, .int .i64 fz, .bool off] 38) (.cells #[.int .i64 (k : Int)] 2) (.cells #[.string ⟨#[]⟩] 9) (.cells #[.slice A2 ps.length c2] 36))
  refine callsIn_of_wp_marks Try.func194 rfl h82 ?_ hro
  simp only [Try.ntmps194, List.size_toArray, List.length_cons, List.length_nil, Nat.reduceAdd, Nat.reduceSub, Array.replicate_succ, Array.replicate_zero, List.push_toArray, List.append_toArray, List.nil_append, List.cons_append]
  gi_wp2_with (gi_at_call 217; refine (bwdP_in F (n - 1) h62 hro _ _ _ _).mono ?_; rintro e w' ⟨rfl, rfl⟩)
  generalize ((((w.alloc (.cells #[.slice (some ⟨b1, o1, none⟩) ss.length c1, .slice A2 ps.length c2, .int .i64 fz, .bool off] 38)).alloc (.cells #[.int .i64 (k : Int)] 2)).alloc (.cells #[.string ⟨#[]⟩] 9)).alloc (.cells #[.slice A2 ps.length c2] 36)) = w4 at *
  have HBx : Hid (w4.cell? ⟨w.heap.size + 3, 0, none⟩ = some (.slice A2 ps.length c2)) := Lib.hid (by rw [cell_of_row _ _ _ _ _ _ HA.out.2.2.2.1]; rfl)
  have Hz : Hid (w4.heap.size = w.heap.size + 4) := Lib.hid HA.out.2.2.2.2.1
  have HD4 : Hid (∀ j (hj : j < ps.length), ∃ o, A2 = some ⟨b0, o, none⟩ ∧ w4.cell? ⟨b0, o + j * 2, none⟩ = some (.int .i64 ps[j].1) ∧ w4.cell? ⟨b0, o + j * 2 + 1, none⟩ = some (.string ps[j].2)) := Lib.hid (fun j hj => by
    obtain ⟨o, e, hlt, hcj, hcj2⟩ := Hd.out j hj
    exact ⟨o, e, (HA.out.2.2.2.2.2.cell (p := ⟨b0, o + j * 2, none⟩) hlt).trans hcj, (HA.out.2.2.2.2.2.cell (p := ⟨b0, o + j * 2 + 1, none⟩) hlt).trans hcj2⟩)
  refine wpIn_rangeFunc_ownH hro hn1 (gf := 227) (lb := #[.pointer (some ⟨w.heap.size + 3, 0, none⟩)]) rfl h67 (enters_of Try.func227 (by kernel_rfl) rfl)
    (bwdP_stops F (n - 1) h67 hro (by omega) (w.heap.size + 3) c2 b0 A2 ps Hl.out Hm.out w4 (by rw [Hz.out]; omega) HBx.out (by have := Hb0.out; rw [Hz.out]; omega) HD4.out) kpS_t (kpS_b (by have := Hb0.out; rw [Hz.out]; omega) (by rw [Hz.out]; omega)) (Below.refl _ _) (fun _ => rfl)
    (fun pre W => (∀ x ∈ pre, x.1.2.1 ≠ (k : Int)) ∧ CtB w (.slice (some ⟨b1, o1, none⟩) ss.length c1) (.slice A2 ps.length c2) fz off k ⟨#[]⟩ W)
    (fun c pre W => c = .ret ∧ ∃ q x, pre = q ++ [x] ∧ (∀ y ∈ q, y.1.2.1 ≠ (k : Int)) ∧ x.1.2.1 = (k : Int) ∧ CtB w (.slice (some ⟨b1, o1, none⟩) ss.length c1) (.slice A2 ps.length c2) fz off k x.1.2.2 W)
    (OwnFrom.and (ownFrom_pure _ _) (ctB_own _ _ _ _ _ _ _ _ (by rw [Hz.out]; omega)))
    (fun c s X Y row hs hg hr => by obtain ⟨e0, q, x, e1, e2, e3, e4⟩ := hs; exact ⟨e0, q, x, e1, e2, e3, ctB_own (β := Unit) w _ _ fz off k _ w4.heap.size (by rw [Hz.out]; omega) () X Y row e4 hg hr⟩)
    ⟨by simp, ⟨HA.out.1, HA.out.2.1, HA.out.2.2.1, HA.out.2.2.2.1⟩, HA.out.2.2.2.2.2⟩
    (fun x a' W => ∃ Bx, w.heap.size + 4 ≤ Bx ∧ W.heap[Bx]? = some (.cells #[.int .i64 x.1.2.1, .string x.1.2.2] 238 (0, 0)) ∧ a' = { tmps := #[.agg #[.slice (some ⟨b1, o1, none⟩) ss.length c1, .slice A2 ps.length c2, .int .i64 fz, .bool off], .int .i64 (k : Int), .pointer (some ⟨w.heap.size, 0, none⟩), .pointer (some ⟨w.heap.size + 1, 0, none⟩), .pointer (some ⟨w.heap.size + 2, 0, none⟩), undef, .pointer (some ⟨Bx, 0, none⟩), .pointer (some ⟨w.heap.size, 1, none⟩), .slice A2 ps.length c2, .func (.func 227) #[] #[.pointer (some ⟨w.heap.size + 3, 0, none⟩)], .int .i64 (x.1.1 : Int), .agg #[.int .i64 x.1.2.1, .string x.1.2.2], undef, undef, undef, undef, undef, undef, undef, undef, undef, undef, undef], defers := [] })
    (fun x a' _ X Y row hs hg hr => by obtain ⟨Bx, e1, e2, e3⟩ := hs; exact ⟨Bx, e1, row_own Bx 238 (fun (_ : Unit) => #[Value.int .i64 x.1.2.1, .string x.1.2.2]) () X Y row e2 hg (fun r e => (hr r e).2), e3⟩)
    ?assign ?body ?done ?stop
  case assign =>
    rintro l pre x W K ⟨hp, hc⟩ hK
    have hlt := hc.lt
    have hb0 := Hb0.out
    gi_wp2
    exact hK _ _ ((KeepsOthers.alloc _ _).from _) ⟨heap_alloc_old _ _ _ (by omega), heap_alloc_old _ _ _ (by omega)⟩ ⟨hp, hc.alloc _⟩ ⟨W.heap.size, by omega, heap_alloc_new _ _, rfl⟩
  case body =>
    rintro l pre x a' W hl ⟨r, hr⟩ ⟨hp, hc⟩ ⟨Bx, hBx, bX, rfl⟩ hlt
    have Hc := Lib.hid hc; have Hp := Lib.hid hp; clear hp
    have x0 : W.cell? ⟨Bx, 0, none⟩ = some (.int .i64 x.1.2.1) := by rw [cell_of_row _ _ _ _ _ _ bX]; rfl
    have x1 : W.cell? ⟨Bx, 1, none⟩ = some (.string x.1.2.2) := by rw [cell_of_row _ _ _ _ _ _ bX]; rfl
    have k0 : W.cell? ⟨w.heap.size + 1, 0, none⟩ = some (.int .i64 (k : Int)) := by rw [cell_of_row _ _ _ _ _ _ hc.1.2.1]; rfl
    have t0 : W.cell? ⟨w.heap.size + 1 + 1, 0, none⟩ = some (.string ⟨#[]⟩) := by rw [cell_of_row _ _ _ _ _ _ hc.1.2.2.1]; rfl
    have f0 : W.frozen? ⟨w.heap.size + 1 + 1, 0, none⟩ = false := frozen_of_row _ _ _ _ _ hc.1.2.2.1
    have hb0 := Hb0.out
    clear hc
    by_cases hz : x.1.2.1 = (k : Int)
    · have Hx : Hid (∃ q y, pre ++ [x] = q ++ [y] ∧ (∀ y ∈ q, y.1.2.1 ≠ (k : Int)) ∧ y.1.2.1 = (k : Int) ∧ CtB w (.slice (some ⟨b1, o1, none⟩) ss.length c1) (.slice A2 ps.length c2) fz off k y.1.2.2 (W.setCell ⟨w.heap.size + 2, 0, none⟩ (.string x.1.2.2))) := Lib.hid ⟨pre, x, rfl, Hp.out, hz, Hc.out.put _⟩
      have e1 : (x.1.2.1 == (k : Int)) = true := by simpa using hz
      gi_wp2
      exact ⟨(KeepsOthers.setCell _ _ _).from _, rfl, Hx.out⟩
    · have e1 : (x.1.2.1 == (k : Int)) = false := beq_eq_false_iff_ne.2 hz
      have Hx : Hid (∀ y ∈ pre ++ [x], y.1.2.1 ≠ (k : Int)) := Lib.hid (fun y hy => (List.mem_append.1 hy).elim (Hp.out y) (fun e => by simp at e; subst e; exact hz))
      gi_wp2
      exact ⟨KeepsFrom.refl _ _, kpS_refl _ _ _, Hx.out, Hc.out⟩
  case done =>
    rintro D ys W hD hys ⟨hp, hc⟩ hK
    have HT := Lib.hid (Hnone.out ys hys hp)
    have Hc := Lib.hid hc
    clear hys hp
    have d0 : W.cell? ⟨w.heap.size, 0, none⟩ = some (.slice (some ⟨b1, o1, none⟩) ss.length c1) := by rw [cell_of_row _ _ _ _ _ _ hc.1.1]; rfl
    have k0 : W.cell? ⟨w.heap.size + 1, 0, none⟩ = some (.int .i64 (k : Int)) := by rw [cell_of_row _ _ _ _ _ _ hc.1.2.1]; rfl
    have s0 : W.cell? ⟨b1, o1 + k, none⟩ = some (.string s) := (hc.2.cell (p := ⟨b1, o1 + k, none⟩) (show b1 < _ by omega)).trans Hk1.out
    have t0 : W.cell? ⟨w.heap.size + 1 + 1, 0, none⟩ = some (.string ⟨#[]⟩) := by rw [cell_of_row _ _ _ _ _ _ hc.1.2.2.1]; rfl
    have f0 : W.frozen? ⟨w.heap.size + 1 + 1, 0, none⟩ = false := frozen_of_row _ _ _ _ _ hc.1.2.2.1
    have Hk' := Lib.hid ((KeepsOthers.setCell W ⟨w.heap.size + 2, 0, none⟩ (.string s)).same D _ hK rfl)
    have HDz : Hid (w.heap.size + 4 ≤ D) := Lib.hid (by have := Hz.out; omega)
    clear hc hK hD
    gi_wp2
    refine ⟨by simp, .inl ⟨_, _, rfl, run_takeDeferred Hk'.out, ?_⟩⟩
    have hcd : (W.setCell ⟨w.heap.size + 2, 0, none⟩ (.string s)).cell? ⟨w.heap.size + 2, 0, none⟩ = some (.string s) := by rw [cell_of_row _ _ _ _ _ _ (Hc.out.put s).1.2.2.1]; rfl
    have hc5 := cell_kept hcd (grownBy_putObj' _ D (.deferred none)) (fun r e => by cases e; exact ⟨_, Hk'.out, rfl⟩)
    refine ⟨.string s, ?_, by rw [HT.out], (Hc.out.put s).2.trans (belowK_b (w := w) (Nat.le_refl _) _ D _ _ (by have := HDz.out; omega) Hk'.out rfl rfl)⟩
    simp [results, Try.results194, go_sem, hc5]
  case stop =>
    rintro D c pre W hD ⟨j, hj, hpre⟩ ⟨rfl, q, x, rfl, h1, h2, hc⟩ hK
    have HT := Lib.hid (Hlast.out j q x hj hpre h1 h2)
    have Hc := Lib.hid hc; have HK := Lib.hid hK
    have HDz : Hid (w.heap.size + 4 ≤ D) := Lib.hid (by have := Hz.out; omega)
    clear hpre h1 h2 hc hK hD
    gi_wp2
    refine ⟨by simp, .inl ⟨_, _, rfl, run_takeDeferred HK.out, ?_⟩⟩
    have hcd : W.cell? ⟨w.heap.size + 2, 0, none⟩ = some (.string x.1.2.2) := by rw [cell_of_row _ _ _ _ _ _ Hc.out.1.2.2.1]; rfl
    have hc5 := cell_kept hcd (grownBy_putObj' _ D (.deferred none)) (fun r e => by cases e; exact ⟨_, HK.out, rfl⟩)
    refine ⟨.string x.1.2.2, ?_, by rw [HT.out], Hc.out.2.trans (belowK_b (w := w) (Nat.le_refl _) _ D _ _ (by have := HDz.out; omega) HK.out rfl rfl)⟩
    simp [results, Try.results194, go_sem, hc5]
theorem contentsOf_any {B : Nat} {w : World} {v1 v2 : Value} {ss : List ByteArray} {ps : List Pt} {fz : Int} {off : Bool} {k : Nat} (h1 : RiT B w v1 ss) (h2 : RiU B w v2 ps) (hB : B ≤ w.heap.size) (hk : k < ss.length) :
    Calls Try.prog 194 #[.agg #[v1, v2, .int .i64 fz, .bool off], .int .i64 (k : Int)] w (GivesB (.string (rdB ss ps k)) w) :=
  callsIn_wide.1 (contentsOf_in Fence.wide 3 trivial trivial trivial rfl (by omega) h1 h2 hB hk)
end Go.Proofs.Ytlickjmdlooapaa
