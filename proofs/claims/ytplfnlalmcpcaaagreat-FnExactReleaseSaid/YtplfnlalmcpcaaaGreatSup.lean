/- Superblocks: a law's argument opened and copied; the model's check and places. No statement is proved here. -/
import Derived.Test.YtplfnlalmcpcaaaGreatFrmD
import Derived.Test.YtplfnlalmcpcaaaGreatDimC
namespace Go.Proofs.YtplfnlalmcpcaaaGreat
open Go.RowKit Go.ChangeShapes Go.WideShapes
set_option linter.unusedVariables false
def supSh : List Sh := [.int, .int, .int, .int]
theorem laySup : layOk Tryz.prog tmLaws 8 27 supSh = true := by kernel_rfl
set_option maxRecDepth 100000 in
theorem open_super {H : Type} {enc : TypeId × Value → H} {w : World} {base : Nat} {spare : Nat → Bool} {held : Bool} {r : Reach} {b0 : Nat} {v : Value} {d : DataW H} {p : List MemPlace} (hv : Value.okWide Tryz.prog w r b0 27 v) (h : DataW.Trod enc Tryz.prog w base spare held 27 v d p) :
    ∃ (n0 n1 n2 n3 : Int), v = .agg #[.int .i64 n0, .int .i64 n1, .int .i64 n2, .int .i64 n3] ∧ InI n0 ∧ InI n1 ∧ InI n2 ∧ InI n3 := by
  obtain ⟨cs, rfl, hsz⟩ := okWide_struct Tryz.underlying27 hv
  obtain ⟨fuel, hf⟩ := h
  obtain ⟨ds, hds⟩ := open_data layTab fuel 8 27 supSh _ _ laySup hf
  have hds' : Rds fuel w.heap.size w supSh cs.toList ds := by simpa [Value.cells] using hds
  obtain ⟨v0, d0, vs0, ds0, e1, rfl, h0, hr0⟩ := RdsOf.cons hds'
  obtain ⟨v1, d1, vs1, ds1, rfl, rfl, h1, hr1⟩ := RdsOf.cons hr0
  obtain ⟨v2, d2, vs2, ds2, rfl, rfl, h2, hr2⟩ := RdsOf.cons hr1
  obtain ⟨v3, d3, vs3, ds3, rfl, rfl, h3, hr3⟩ := RdsOf.cons hr2
  obtain ⟨rfl, rfl⟩ := RdsOf.nil hr3
  obtain ⟨n0, rfl, rfl, g0⟩ := Rd.int h0
  obtain ⟨n1, rfl, rfl, g1⟩ := Rd.int h1
  obtain ⟨n2, rfl, rfl, g2⟩ := Rd.int h2
  obtain ⟨n3, rfl, rfl, g3⟩ := Rd.int h3
  refine ⟨n0, n1, n2, n3, ?_, g0, g1, g2, g3⟩
  obtain ⟨l⟩ := cs
  simp at e1
  rw [e1]
set_option maxHeartbeats 1000000 in
set_option maxRecDepth 100000 in
theorem toSuper_any (n0 n1 n2 n3 : Int) (w : World) :
    Calls Tryz.prog 42 #[.agg #[.int .i64 n0, .int .i64 n1, .int .i64 n2, .int .i64 n3]] w (GivesB (.agg #[.int .i64 n0, .int .i64 n1, .int .i64 n2, .int .i64 n3]) w) := by
  have Tri1 := Lib.hid (Tri.start w 27 35 #[.int .i64 n0, .int .i64 n1, .int .i64 n2, .int .i64 n3] #[.int .i64 n0, .int .i64 n1, .int .i64 n2, .int .i64 n3] #[.int .i64 n0, .int .i64 n1, .int .i64 n2, .int .i64 n3])
  go_enter Tryz.func42, Tryz.ntmps42
  go_wp2_with fail
  refine bodyPost_ret (v := .agg #[.int .i64 n0, .int .i64 n1, .int .i64 n2, .int .i64 n3]) ?h1 rfl ?h3
  case h1 => exact results_cell_row rfl _ _ (w.heap.size + 1) 35 _ (0, 0) _ rfl Tri1.out.2.1 Tryz.underlying35 rfl (by kernel_rfl)
  case h3 => exact ⟨rfl, Tri1.out.2.2.2.1⟩
/-- A superblock is valid. -/
def supOk (b l q t : Int) : Bool := ((inB b 16 256 && inB l 8 64) && decide (l ≤ b - 4)) && (inB q 0 1000000000000 && inB t 0 1000000000000)
set_option maxHeartbeats 1000000 in
set_option maxRecDepth 100000 in
theorem specValidSuper_any (n0 n1 n2 n3 : Int) (w : World) (h0 : InI n0) (h1 : InI n1) :
    Calls Tryz.prog 82 #[.agg #[.int .i64 n0, .int .i64 n1, .int .i64 n2, .int .i64 n3]] w (GivesB (.bool (supOk n0 n1 n2 n3)) w) := by
  have Hb0 : Hid (Below w.heap.size w (w.alloc (.cells #[.int .i64 n0, .int .i64 n1, .int .i64 n2, .int .i64 n3] 35))) := Lib.hid ((Below.refl _ w).alloc (Nat.le_refl _) _)
  generalize hr : supOk n0 n1 n2 n3 = r
  have Hr := Lib.hid hr; clear hr
  cases e0 : inB n0 16 256
  · have Hf : Hid (r = false) := Lib.hid (by rw [← Hr.out, supOk, e0]; rfl)
    have E0 := Lib.hid e0; clear e0
    go_enter Tryz.func82, Tryz.ntmps82
    go_wp2_with (go_at_call 62; refine (l00In_any _ _ _ _).mono ?_; rintro e w' ⟨rfl, rfl⟩; first | rw [E0.out])
    go_ret
    exact ⟨by rw [Hf.out]; rfl, Hb0.out⟩
  have E0 := Lib.hid e0; clear e0
  cases e1 : inB n1 8 64
  · have Hf : Hid (r = false) := Lib.hid (by rw [← Hr.out, supOk, e1]; simp)
    have E1 := Lib.hid e1; clear e1
    go_enter Tryz.func82, Tryz.ntmps82
    go_wp2_with (go_at_call 62; refine (l00In_any _ _ _ _).mono ?_; rintro e w' ⟨rfl, rfl⟩; first | rw [E0.out] | rw [E1.out])
    go_ret
    exact ⟨by rw [Hf.out]; rfl, Hb0.out⟩
  have B0 := inB_iff.1 E0.out; have B1 := inB_iff.1 e1
  have E1 := Lib.hid e1; clear e1
  have w4 : IntKind.i64.wrap (n0 - 4) = n0 - 4 := IntWalk.i64_in _ (by omega)
  by_cases e2 : n1 ≤ n0 - 4
  rotate_left
  · have Hf : Hid (r = false) := Lib.hid (by rw [← Hr.out, supOk, decide_eq_false e2]; simp)
    have d2 : decide (n1 ≤ n0 - 4) = false := decide_eq_false e2
    go_enter Tryz.func82, Tryz.ntmps82
    go_wp2_with (go_at_call 62; refine (l00In_any _ _ _ _).mono ?_; rintro e w' ⟨rfl, rfl⟩; first | rw [E0.out] | rw [E1.out])
    go_ret
    exact ⟨by rw [Hf.out]; rfl, Hb0.out⟩
  have d2 : decide (n1 ≤ n0 - 4) = true := decide_eq_true e2
  cases e3 : inB n2 0 1000000000000
  · have Hf : Hid (r = false) := Lib.hid (by rw [← Hr.out, supOk, e3]; simp)
    have E3 := Lib.hid e3; clear e3
    go_enter Tryz.func82, Tryz.ntmps82
    go_wp2_with (go_at_call 62; refine (l00In_any _ _ _ _).mono ?_; rintro e w' ⟨rfl, rfl⟩; first | rw [E0.out] | rw [E1.out] | rw [E3.out])
    go_ret
    exact ⟨by rw [Hf.out]; rfl, Hb0.out⟩
  have Hf : Hid (r = inB n3 0 1000000000000) := Lib.hid (by rw [← Hr.out, supOk, E0.out, E1.out, d2, e3]; simp)
  have E3 := Lib.hid e3; clear e3
  go_enter Tryz.func82, Tryz.ntmps82
  go_wp2_with (go_at_call 62; refine (l00In_any _ _ _ _).mono ?_; rintro e w' ⟨rfl, rfl⟩; first | rw [E0.out] | rw [E1.out] | rw [E3.out] | skip)
  go_ret
  exact ⟨by rw [Hf.out]; rfl, Hb0.out⟩
theorem l10Area_any (n0 n1 n2 n3 : Int) (w : World) (h1 : inB n1 8 64 = true) :
    Calls Tryz.prog 86 #[.agg #[.int .i64 n0, .int .i64 n1, .int .i64 n2, .int .i64 n3]] w (GivesB (.int .i64 (2 + n1)) w) := by
  have Hb0 : Hid (Below w.heap.size w (w.alloc (.cells #[.int .i64 n0, .int .i64 n1, .int .i64 n2, .int .i64 n3] 35))) := Lib.hid ((Below.refl _ w).alloc (Nat.le_refl _) _)
  have B1 := inB_iff.1 h1
  have E8 : IntKind.i64.wrap (2 + n1) = 2 + n1 := IntWalk.i64_in _ (by omega)
  have E9 : wrap64 (2 + n1) = 2 + n1 := by unfold wrap64; omega
  go_enter Tryz.func86, Tryz.ntmps86
  go_wp2_with fail
  go_ret
  exact ⟨by rw [← E9]; rfl, Hb0.out⟩
/-- The block that the area begins with, and that the data begin with. -/
def arOf (b l q t : Int) : Int := if supOk b l q t then 2 + l else 0
def daOf (b l q t : Int) : Int := if supOk b l q t then 3 + l else 0
theorem supOk_l {b l q t : Int} (h : supOk b l q t = true) : inB l 8 64 = true := by
  simp only [supOk, Bool.and_eq_true] at h; exact h.1.1.2
end Go.Proofs.YtplfnlalmcpcaaaGreat
