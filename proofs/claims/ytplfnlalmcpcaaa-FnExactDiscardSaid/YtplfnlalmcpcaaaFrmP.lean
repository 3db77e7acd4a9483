/- The arguments of laws that take pages, records and pagers, opened. No statement is proved here. -/
import Derived.Test.YtplfnlalmcpcaaaPag
import Derived.ProofKit
import Derived.OpenShut
namespace Go.Proofs.Ytplfnlalmcpcaaa
open Go.RowKit Go.ChangeShapes Go.WideShapes
set_option linter.unusedVariables false
def tmP : RT → Option TypeId
  | .str => some 9
  | .put => some 177
  | .pag => some 133
  | _ => none
theorem layStrP : layOk Try.prog tmP 8 9 (tab .str) = true := by kernel_rfl
theorem layPutP : layOk Try.prog tmP 8 177 (tab .put) = true := by kernel_rfl
theorem layPagP : layOk Try.prog tmP 8 133 (tab .pag) = true := by kernel_rfl
theorem layTabP : LayTab Try.prog tmP := by
  intro r e h
  cases r
  case str =>
    obtain rfl : 9 = e := Option.some.inj h
    exact ⟨by kernel_rfl, layStrP⟩
  case put =>
    obtain rfl : 177 = e := Option.some.inj h
    exact ⟨by kernel_rfl, layPutP⟩
  case pag =>
    obtain rfl : 133 = e := Option.some.inj h
    exact ⟨by kernel_rfl, layPagP⟩
  all_goals exact absurd h (by simp [tmP])
theorem lay_open_pages : layOk Try.prog tmP 8 28 [.sl .pag] = true := by kernel_rfl
set_option maxRecDepth 100000 in
theorem open_pages {H : Type} {enc : TypeId × Value → H} {w : World} {base : Nat} {spare : Nat → Bool} {held : Bool} {r : Reach} {b0 : Nat} {v : Value} {d : DataW H} {p : List MemPlace} (hv : Value.okWide Try.prog w r b0 28 v) (h : DataW.Trod enc Try.prog w base spare held 28 v d p) :
    ∃ bs : List Pt, RiU w.heap.size w v bs := by
  obtain ⟨a, len, cap, rfl⟩ := okWide_slice Try.underlying28 hv
  obtain ⟨fuel, hf⟩ := h
  obtain ⟨ds, hds⟩ := open_data layTabP fuel 8 28 [.sl .pag] _ _ lay_open_pages hf
  have hds' : Rds fuel w.heap.size w [.sl .pag] [.slice a len cap] ds := by simpa [Value.cells] using hds
  obtain ⟨v', d', _, _, h1, _, h2, _⟩ := RdsOf.cons hds'
  obtain ⟨rfl, _⟩ := List.cons.inj h1
  exact Rd.rig h2
theorem lay_open_pager : layOk Try.prog tmP 8 30 [.sl .str, .sl .put, .int, .bool, .int, .int, .int, .int, .int, .int, .sl .pag, .sl .pag] = true := by kernel_rfl
set_option maxRecDepth 100000 in
theorem open_pager {H : Type} {enc : TypeId × Value → H} {w : World} {base : Nat} {spare : Nat → Bool} {held : Bool} {r : Reach} {b0 : Nat} {v : Value} {d : DataW H} {p : List MemPlace} (hv : Value.okWide Try.prog w r b0 30 v) (h : DataW.Trod enc Try.prog w base spare held 30 v d p) :
    ∃ (v0 : Value) (xs0 : List ByteArray) (v1 : Value) (xs1 : List Pt) (n2 : Int) (n3 : Bool) (n4 : Int) (n5 : Int) (n6 : Int) (n7 : Int) (n8 : Int) (n9 : Int) (v10 : Value) (xs10 : List Pt) (v11 : Value) (xs11 : List Pt), v = .agg #[v0, v1, .int .i64 n2, .bool n3, .int .i64 n4, .int .i64 n5, .int .i64 n6, .int .i64 n7, .int .i64 n8, .int .i64 n9, v10, v11] ∧ RiT w.heap.size w v0 xs0 ∧ RiU w.heap.size w v1 xs1 ∧ InI n2 ∧ InI n4 ∧ InI n5 ∧ InI n6 ∧ InI n7 ∧ InI n8 ∧ InI n9 ∧ RiU w.heap.size w v10 xs10 ∧ RiU w.heap.size w v11 xs11 := by
  obtain ⟨cs, rfl, hsz⟩ := okWide_struct Try.underlying30 hv
  obtain ⟨fuel, hf⟩ := h
  obtain ⟨ds, hds⟩ := open_data layTabP fuel 8 30 [.sl .str, .sl .put, .int, .bool, .int, .int, .int, .int, .int, .int, .sl .pag, .sl .pag] _ _ lay_open_pager hf
  have hds' : Rds fuel w.heap.size w [.sl .str, .sl .put, .int, .bool, .int, .int, .int, .int, .int, .int, .sl .pag, .sl .pag] cs.toList ds := by simpa [Value.cells] using hds
  obtain ⟨u0, d0, us0, ds0, e1, rfl, h0, hr0⟩ := RdsOf.cons hds'
  obtain ⟨u1, d1, us1, ds1, rfl, rfl, h1, hr1⟩ := RdsOf.cons hr0
  obtain ⟨u2, d2, us2, ds2, rfl, rfl, h2, hr2⟩ := RdsOf.cons hr1
  obtain ⟨u3, d3, us3, ds3, rfl, rfl, h3, hr3⟩ := RdsOf.cons hr2
  obtain ⟨u4, d4, us4, ds4, rfl, rfl, h4, hr4⟩ := RdsOf.cons hr3
  obtain ⟨u5, d5, us5, ds5, rfl, rfl, h5, hr5⟩ := RdsOf.cons hr4
  obtain ⟨u6, d6, us6, ds6, rfl, rfl, h6, hr6⟩ := RdsOf.cons hr5
  obtain ⟨u7, d7, us7, ds7, rfl, rfl, h7, hr7⟩ := RdsOf.cons hr6
  obtain ⟨u8, d8, us8, ds8, rfl, rfl, h8, hr8⟩ := RdsOf.cons hr7
  obtain ⟨u9, d9, us9, ds9, rfl, rfl, h9, hr9⟩ := RdsOf.cons hr8
  obtain ⟨u10, d10, us10, ds10, rfl, rfl, h10, hr10⟩ := RdsOf.cons hr9
  obtain ⟨u11, d11, us11, ds11, rfl, rfl, h11, hr11⟩ := RdsOf.cons hr10
  obtain ⟨rfl, rfl⟩ := RdsOf.nil hr11
  obtain ⟨xs0, g0⟩ := Rd.rit h0
  obtain ⟨xs1, g1⟩ := Rd.riu h1
  obtain ⟨n2, rfl, rfl, g2⟩ := Rd.int h2
  obtain ⟨n3, rfl, rfl⟩ := Rd.bool h3
  obtain ⟨n4, rfl, rfl, g4⟩ := Rd.int h4
  obtain ⟨n5, rfl, rfl, g5⟩ := Rd.int h5
  obtain ⟨n6, rfl, rfl, g6⟩ := Rd.int h6
  obtain ⟨n7, rfl, rfl, g7⟩ := Rd.int h7
  obtain ⟨n8, rfl, rfl, g8⟩ := Rd.int h8
  obtain ⟨n9, rfl, rfl, g9⟩ := Rd.int h9
  obtain ⟨xs10, g10⟩ := Rd.rig h10
  obtain ⟨xs11, g11⟩ := Rd.rig h11
  refine ⟨u0, xs0, u1, xs1, n2, n3, n4, n5, n6, n7, n8, n9, u10, xs10, u11, xs11, ?_, g0, g1, g2, g4, g5, g6, g7, g8, g9, g10, g11⟩
  obtain ⟨l⟩ := cs
  simp at e1
  rw [e1]
end Go.Proofs.Ytplfnlalmcpcaaa
