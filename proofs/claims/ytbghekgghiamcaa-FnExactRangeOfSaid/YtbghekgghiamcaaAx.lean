/- Contracts of the program's checks of a hyperslab. No statement is proved here. -/
import Derived.Test.YtbghekgghiamcaaFoSl
import Derived.Laws.MakeOwn
namespace Go.Proofs.Ytbghekgghiamcaa
open Go.RowKit
set_option linter.unusedVariables false
set_option maxHeartbeats 1000000 in
theorem axisEnd_any (w : World) (s t c b : Int) (p1 : 0 ≤ s) (p2 : s ≤ 40) (p3 : 1 ≤ c) (p4 : c ≤ 40) (p5 : 1 ≤ b) (p6 : b ≤ t) (p7 : t ≤ 40) :
    Calls Try.prog 89 #[.agg #[.int .i64 s, .int .i64 t, .int .i64 c, .int .i64 b]] w (GivesB (.int .i64 (axEnd s t c b)) w) := by
  obtain ⟨m1, m2⟩ := ax_bd p1 p2 p3 p4 p5 p6 p7
  have Hb0 : Hid (Below w.heap.size w (w.alloc (.cells #[.int .i64 s, .int .i64 t, .int .i64 c, .int .i64 b] 112))) := Lib.hid ((Below.refl _ w).alloc (Nat.le_refl _) _)
  have w0 : IntKind.i64.wrap (c - 1) = c - 1 := IntWalk.i64_in _ (by omega)
  have w1 : IntKind.i64.wrap ((c - 1) * t) = (c - 1) * t := IntWalk.i64_in _ (by omega)
  have w2 : IntKind.i64.wrap (s + (c - 1) * t) = s + (c - 1) * t := IntWalk.i64_in _ (by omega)
  have w3 : IntKind.i64.wrap (s + (c - 1) * t + b) = s + (c - 1) * t + b := IntWalk.i64_in _ (by omega)
  go_enter Try.func89, Try.ntmps89
  go_wp2
  go_ret
  exact ⟨rfl, Hb0.out⟩
set_option maxHeartbeats 2000000 in
set_option maxRecDepth 100000 in
theorem axisFormed_any (w : World) (s t c b : Int) :
    Calls Try.prog 86 #[.agg #[.int .i64 s, .int .i64 t, .int .i64 c, .int .i64 b]] w (GivesB (.bool (axOk s t c b)) w) := by
  have Hb0 : Hid (Below w.heap.size w (w.alloc (.cells #[.int .i64 s, .int .i64 t, .int .i64 c, .int .i64 b] 112))) := Lib.hid ((Below.refl _ w).alloc (Nat.le_refl _) _)
  generalize hr : axOk s t c b = r
  have Hr := Lib.hid hr; clear hr
  have Hno : Hid (¬ (0 ≤ s ∧ s ≤ 40 ∧ 1 ≤ c ∧ c ≤ 40 ∧ 1 ≤ b ∧ b ≤ t ∧ t ≤ 40) → r = false) := Lib.hid (fun h => by rw [← Hr.out]; exact axOk_no (fun h2 => h (by omega)))
  by_cases p1 : 0 ≤ s
  rotate_left
  · have Hf := Lib.hid (Hno.out (by omega)); clear Hno
    go_enter Try.func86, Try.ntmps86
    go_wp2_with fail
    go_ret
    exact ⟨by rw [Hf.out]; rfl, Hb0.out⟩
  by_cases p2 : s ≤ 40
  rotate_left
  · have Hf := Lib.hid (Hno.out (by omega)); clear Hno
    go_enter Try.func86, Try.ntmps86
    go_wp2_with fail
    go_ret
    exact ⟨by rw [Hf.out]; rfl, Hb0.out⟩
  by_cases p3 : 1 ≤ c
  rotate_left
  · have Hf := Lib.hid (Hno.out (by omega)); clear Hno
    go_enter Try.func86, Try.ntmps86
    go_wp2_with fail
    go_ret
    exact ⟨by rw [Hf.out]; rfl, Hb0.out⟩
  by_cases p4 : c ≤ 40
  rotate_left
  · have Hf := Lib.hid (Hno.out (by omega)); clear Hno
    go_enter Try.func86, Try.ntmps86
    go_wp2_with fail
    go_ret
    exact ⟨by rw [Hf.out]; rfl, Hb0.out⟩
  by_cases p5 : 1 ≤ b
  rotate_left
  · have Hf := Lib.hid (Hno.out (by omega)); clear Hno
    go_enter Try.func86, Try.ntmps86
    go_wp2_with fail
    go_ret
    exact ⟨by rw [Hf.out]; rfl, Hb0.out⟩
  by_cases p6 : b ≤ t
  rotate_left
  · have Hf := Lib.hid (Hno.out (by omega)); clear Hno
    go_enter Try.func86, Try.ntmps86
    go_wp2_with fail
    go_ret
    exact ⟨by rw [Hf.out]; rfl, Hb0.out⟩
  by_cases p7 : t ≤ 40
  rotate_left
  · have Hf := Lib.hid (Hno.out (by omega)); clear Hno
    go_enter Try.func86, Try.ntmps86
    go_wp2_with fail
    go_ret
    exact ⟨by rw [Hf.out]; rfl, Hb0.out⟩
  have Hend : Hid (r = decide (axEnd s t c b ≤ 40)) := Lib.hid (by
    rw [← Hr.out, Bool.eq_iff_iff, axOk_iff, decide_eq_true_iff]; unfold axEnd
    exact ⟨fun h => h.2.2.2.2.2.2.2, fun h => ⟨p1, p2, p3, p4, p5, p6, p7, h⟩⟩)
  clear Hno
  have HE := Lib.hid (axisEnd_any (w.alloc (.cells #[.int .i64 s, .int .i64 t, .int .i64 c, .int .i64 b] 112)) s t c b p1 p2 p3 p4 p5 p6 p7)
  generalize axEnd s t c b = ae at *
  go_enter Try.func86, Try.ntmps86
  go_wp2_with fail
  refine HE.out.mono ?_
  rintro e w1 ⟨rfl, g⟩
  have Hb1 : Hid (Below w.heap.size w w1) := Lib.hid (Hb0.out.trans (g.mono Hb0.out.size))
  clear g
  go_wp2_with fail
  go_ret
  exact ⟨by rw [Hend.out]; rfl, Hb1.out⟩
/-- A slice of dimensions of a hyperslab: k of them stand. -/
def SlabAt (w : World) (b : Nat) (S T C K : List Int) (k : Nat) : Prop := w.there b 0 (S.length * 4) ∧
  ∀ j, j < k → w.rangeAt b (j * 4) [.int .i64 (S.getD j 0), .int .i64 (T.getD j 0), .int .i64 (C.getD j 0), .int .i64 (K.getD j 0)]
theorem SlabAt.same {w w' : World} {b : Nat} {S T C K : List Int} {k : Nat} (h : SlabAt w b S T C K k) (hb : w'.heap[b]? = w.heap[b]?) : SlabAt w' b S T C K k :=
  ⟨there_same hb h.1, fun j hj => rangeAt_same hb (h.2 j hj)⟩
theorem SlabAt.step {w : World} {b : Nat} {S T C K : List Int} {k : Nat} (h : SlabAt w b S T C K k) (hk : k < S.length) :
    SlabAt (w.setCells b (k * 4) [.int .i64 (S.getD k 0), .int .i64 (T.getD k 0), .int .i64 (C.getD k 0), .int .i64 (K.getD k 0)]) b S T C K (k + 1) := by
  refine ⟨World.there_setCells h.1 _ _ _, fun j hj => ?_⟩
  rcases Nat.lt_or_ge j k with hlt | hge
  · refine World.rangeAt_setCells_apart (h.2 j hlt) _ _ _ (.inr (.inl ?_))
    simp
    omega
  · obtain rfl : j = k := by omega
    exact World.rangeAt_setCells_same _ _ _ _ (there_sub h.1 (Nat.zero_le _) (by simp; omega))
theorem Try.infoA : (Try.prog.info? 112).map (fun i => (i.zero.isSome, i.size, i.bytes)) = some (true, 4, 32) := by kernel_rfl
end Go.Proofs.Ytbghekgghiamcaa
