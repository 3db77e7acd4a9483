/- Contracts of the laws' functions that mark and hold a selection without points. No statement is proved here. -/
import Derived.Test.YtbghekgghiamcaaMrS
namespace Go.Proofs.Ytbghekgghiamcaa
open Go.RowKit
set_option linter.unusedVariables false
theorem markP_nil (w : World) (k : Nat) : Calls Try.prog 40 #[.slice none 0 0, .int .i64 (k : Int)] w (Quiet (.int .i64 (k : Int)) w) := by
  go_enter Try.func40, Try.ntmps40
  go_wp2
  go_loop [1, 5] (fun c i => i = .int .i64 0 ∧ c = .int .i64 (k : Int)) (fun _ _ => 0)
  case atStart => exact ⟨rfl, rfl⟩
  case round =>
    obtain ⟨rfl, rfl⟩ := hrel
    go_wp2
    go_ret
    exact ⟨rfl, rfl⟩
theorem heldP_nil (w : World) (k : Nat) : Calls Try.prog 41 #[.slice none 0 0, .int .i64 (k : Int)] w (Quiet (.int .i64 (k : Int)) w) := by
  go_enter Try.func41, Try.ntmps41
  go_wp2
  go_loop [1, 5] (fun c i => i = .int .i64 0 ∧ c = .int .i64 (k : Int)) (fun _ _ => 0)
  case atStart => exact ⟨rfl, rfl⟩
  case round =>
    obtain ⟨rfl, rfl⟩ := hrel
    go_wp2
    go_ret
    exact ⟨rfl, rfl⟩
set_option maxHeartbeats 2000000 in
theorem markSel0_any {w : World} {lo hi : Nat} {m0 : Int} {A0 : Option Addr} {A1 : Option Addr} {A2 : Option Addr} {A3 : Option Addr} {c0 : Nat} {c1 : Nat} {c2 : Nat} {c3 : Nat} {x0 : List Int} {x1 : List Int} {x2 : List Int} {x3 : List Int}
    (h0 : OI w lo (.slice A0 x0.length c0) x0) (b0 : Wi lo hi (.slice A0 x0.length c0)) (h1 : OI w lo (.slice A1 x1.length c1) x1) (b1 : Wi lo hi (.slice A1 x1.length c1)) (h2 : OI w lo (.slice A2 x2.length c2) x2) (b2 : Wi lo hi (.slice A2 x2.length c2)) (h3 : OI w lo (.slice A3 x3.length c3) x3) (b3 : Wi lo hi (.slice A3 x3.length c3))
    (p01 : Apart (.slice A0 x0.length c0) (.slice A1 x1.length c1)) (p02 : Apart (.slice A0 x0.length c0) (.slice A2 x2.length c2)) (p03 : Apart (.slice A0 x0.length c0) (.slice A3 x3.length c3)) (p10 : Apart (.slice A1 x1.length c1) (.slice A0 x0.length c0)) (p12 : Apart (.slice A1 x1.length c1) (.slice A2 x2.length c2)) (p13 : Apart (.slice A1 x1.length c1) (.slice A3 x3.length c3)) (p20 : Apart (.slice A2 x2.length c2) (.slice A0 x0.length c0)) (p21 : Apart (.slice A2 x2.length c2) (.slice A1 x1.length c1)) (p23 : Apart (.slice A2 x2.length c2) (.slice A3 x3.length c3)) (p30 : Apart (.slice A3 x3.length c3) (.slice A0 x0.length c0)) (p31 : Apart (.slice A3 x3.length c3) (.slice A1 x1.length c1)) (p32 : Apart (.slice A3 x3.length c3) (.slice A2 x2.length c2))
    (hhi : hi ≤ w.heap.size) (k : Nat) (hk : k + x0.length + x1.length + x2.length + x3.length ≤ 8000000) :
    Calls Try.prog 14 #[.agg #[.int .i64 m0, .slice A0 x0.length c0, .slice A1 x1.length c1, .slice A2 x2.length c2, .slice A3 x3.length c3, .slice none 0 0], .int .i64 (k : Int)] w fun e w' => e = .returned (.int .i64 ((k + x0.length + x1.length + x2.length + x3.length : Nat) : Int)) ∧ OI w' lo (.slice A0 x0.length c0) (marks (k) x0.length) ∧ OI w' lo (.slice A1 x1.length c1) (marks (k + x0.length) x1.length) ∧ OI w' lo (.slice A2 x2.length c2) (marks (k + x0.length + x1.length) x2.length) ∧ OI w' lo (.slice A3 x3.length c3) (marks (k + x0.length + x1.length + x2.length) x3.length) ∧ Mv lo hi w w' := by
  have B0 := Lib.hid b0; have B1 := Lib.hid b1; have B2 := Lib.hid b2; have B3 := Lib.hid b3
  have P01 := Lib.hid p01
  have P02 := Lib.hid p02
  have P03 := Lib.hid p03
  have P10 := Lib.hid p10
  have P12 := Lib.hid p12
  have P13 := Lib.hid p13
  have P20 := Lib.hid p20
  have P21 := Lib.hid p21
  have P23 := Lib.hid p23
  have P30 := Lib.hid p30
  have P31 := Lib.hid p31
  have P32 := Lib.hid p32
  have Bel0 : Hid (Below w.heap.size w (w.alloc (.cells #[.int .i64 m0, .slice A0 x0.length c0, .slice A1 x1.length c1, .slice A2 x2.length c2, .slice A3 x3.length c3, .slice none 0 0] 25))) := Lib.hid ((Below.refl _ w).alloc (Nat.le_refl _) _)
  have O0_0 := Lib.hid (h0.bel Bel0.out)
  have O1_0 := Lib.hid (h1.bel Bel0.out)
  have O2_0 := Lib.hid (h2.bel Bel0.out)
  have O3_0 := Lib.hid (h3.bel Bel0.out)
  have C1_0 : Hid ((w.alloc (.cells #[.int .i64 m0, .slice A0 x0.length c0, .slice A1 x1.length c1, .slice A2 x2.length c2, .slice A3 x3.length c3, .slice none 0 0] 25)).cell? ⟨w.heap.size, 1, none⟩ = some (.slice A0 x0.length c0)) := Lib.hid (by rw [cell_of_row _ _ _ _ _ _ (heap_alloc_new w _)]; rfl)
  have C2_0 : Hid ((w.alloc (.cells #[.int .i64 m0, .slice A0 x0.length c0, .slice A1 x1.length c1, .slice A2 x2.length c2, .slice A3 x3.length c3, .slice none 0 0] 25)).cell? ⟨w.heap.size, 2, none⟩ = some (.slice A1 x1.length c1)) := Lib.hid (by rw [cell_of_row _ _ _ _ _ _ (heap_alloc_new w _)]; rfl)
  have C3_0 : Hid ((w.alloc (.cells #[.int .i64 m0, .slice A0 x0.length c0, .slice A1 x1.length c1, .slice A2 x2.length c2, .slice A3 x3.length c3, .slice none 0 0] 25)).cell? ⟨w.heap.size, 3, none⟩ = some (.slice A2 x2.length c2)) := Lib.hid (by rw [cell_of_row _ _ _ _ _ _ (heap_alloc_new w _)]; rfl)
  have C4_0 : Hid ((w.alloc (.cells #[.int .i64 m0, .slice A0 x0.length c0, .slice A1 x1.length c1, .slice A2 x2.length c2, .slice A3 x3.length c3, .slice none 0 0] 25)).cell? ⟨w.heap.size, 4, none⟩ = some (.slice A3 x3.length c3)) := Lib.hid (by rw [cell_of_row _ _ _ _ _ _ (heap_alloc_new w _)]; rfl)
  have C5_0 : Hid ((w.alloc (.cells #[.int .i64 m0, .slice A0 x0.length c0, .slice A1 x1.length c1, .slice A2 x2.length c2, .slice A3 x3.length c3, .slice none 0 0] 25)).cell? ⟨w.heap.size, 5, none⟩ = some (.slice none 0 0)) := Lib.hid (by rw [cell_of_row _ _ _ _ _ _ (heap_alloc_new w _)]; rfl)
  have M0 : Hid (Mv lo hi w (w.alloc (.cells #[.int .i64 m0, .slice A0 x0.length c0, .slice A1 x1.length c1, .slice A2 x2.length c2, .slice A3 x3.length c3, .slice none 0 0] 25))) := Lib.hid (Mv.of_below Bel0.out)
  clear h0 b0 h1 b1 h2 b2 h3 b3 p01 p02 p03 p10 p12 p13 p20 p21 p23 p30 p31 p32
  go_enter Try.func14, Try.ntmps14
  go_wp2_with fail
  generalize (w.alloc (.cells #[.int .i64 m0, .slice A0 x0.length c0, .slice A1 x1.length c1, .slice A2 x2.length c2, .slice A3 x3.length c3, .slice none 0 0] 25)) = w0 at *
  refine (markI_any O0_0.out (k) (by omega)).mono ?_
  rintro e w1 ⟨rfl, o, g⟩
  have V1 : Hid (Mv lo hi w0 w1) := Lib.hid (Mv.grown g B0.out)
  have O0_1 := Lib.hid o
  have O1_1 : Hid (OI w1 lo (.slice A1 x1.length c1) x1) := Lib.hid (O1_0.out.same fun g1 hg1 => g.block g1 (O1_0.out.wi g1 hg1).2 (fun e => P01.out g1 e.symm hg1))
  have O2_1 : Hid (OI w1 lo (.slice A2 x2.length c2) x2) := Lib.hid (O2_0.out.same fun g1 hg1 => g.block g1 (O2_0.out.wi g1 hg1).2 (fun e => P02.out g1 e.symm hg1))
  have O3_1 : Hid (OI w1 lo (.slice A3 x3.length c3) x3) := Lib.hid (O3_0.out.same fun g1 hg1 => g.block g1 (O3_0.out.wi g1 hg1).2 (fun e => P03.out g1 e.symm hg1))
  have C1_1 := Lib.hid (V1.out.cell C1_0.out (.inr hhi))
  have C2_1 := Lib.hid (V1.out.cell C2_0.out (.inr hhi))
  have C3_1 := Lib.hid (V1.out.cell C3_0.out (.inr hhi))
  have C4_1 := Lib.hid (V1.out.cell C4_0.out (.inr hhi))
  have C5_1 := Lib.hid (V1.out.cell C5_0.out (.inr hhi))
  have M1 := Lib.hid (M0.out.trans V1.out)
  clear o g
  have q1 := C1_1.out
  have q2 := C2_1.out
  have q3 := C3_1.out
  have q4 := C4_1.out
  have q5 := C5_1.out
  go_wp2_with fail
  clear q1 q2 q3 q4 q5
  refine (markI_any O1_1.out (k + x0.length) (by omega)).mono ?_
  rintro e w2 ⟨rfl, o, g⟩
  have V2 : Hid (Mv lo hi w1 w2) := Lib.hid (Mv.grown g B1.out)
  have O0_2 : Hid (OI w2 lo (.slice A0 x0.length c0) (marks (k) x0.length)) := Lib.hid (O0_1.out.same fun g1 hg1 => g.block g1 (O0_1.out.wi g1 hg1).2 (fun e => P10.out g1 e.symm hg1))
  have O1_2 := Lib.hid o
  have O2_2 : Hid (OI w2 lo (.slice A2 x2.length c2) x2) := Lib.hid (O2_1.out.same fun g1 hg1 => g.block g1 (O2_1.out.wi g1 hg1).2 (fun e => P12.out g1 e.symm hg1))
  have O3_2 : Hid (OI w2 lo (.slice A3 x3.length c3) x3) := Lib.hid (O3_1.out.same fun g1 hg1 => g.block g1 (O3_1.out.wi g1 hg1).2 (fun e => P13.out g1 e.symm hg1))
  have C1_2 := Lib.hid (V2.out.cell C1_1.out (.inr hhi))
  have C2_2 := Lib.hid (V2.out.cell C2_1.out (.inr hhi))
  have C3_2 := Lib.hid (V2.out.cell C3_1.out (.inr hhi))
  have C4_2 := Lib.hid (V2.out.cell C4_1.out (.inr hhi))
  have C5_2 := Lib.hid (V2.out.cell C5_1.out (.inr hhi))
  have M2 := Lib.hid (M1.out.trans V2.out)
  clear o g
  have q1 := C1_2.out
  have q2 := C2_2.out
  have q3 := C3_2.out
  have q4 := C4_2.out
  have q5 := C5_2.out
  go_wp2_with fail
  clear q1 q2 q3 q4 q5
  refine (markI_any O2_2.out (k + x0.length + x1.length) (by omega)).mono ?_
  rintro e w3 ⟨rfl, o, g⟩
  have V3 : Hid (Mv lo hi w2 w3) := Lib.hid (Mv.grown g B2.out)
  have O0_3 : Hid (OI w3 lo (.slice A0 x0.length c0) (marks (k) x0.length)) := Lib.hid (O0_2.out.same fun g1 hg1 => g.block g1 (O0_2.out.wi g1 hg1).2 (fun e => P20.out g1 e.symm hg1))
  have O1_3 : Hid (OI w3 lo (.slice A1 x1.length c1) (marks (k + x0.length) x1.length)) := Lib.hid (O1_2.out.same fun g1 hg1 => g.block g1 (O1_2.out.wi g1 hg1).2 (fun e => P21.out g1 e.symm hg1))
  have O2_3 := Lib.hid o
  have O3_3 : Hid (OI w3 lo (.slice A3 x3.length c3) x3) := Lib.hid (O3_2.out.same fun g1 hg1 => g.block g1 (O3_2.out.wi g1 hg1).2 (fun e => P23.out g1 e.symm hg1))
  have C1_3 := Lib.hid (V3.out.cell C1_2.out (.inr hhi))
  have C2_3 := Lib.hid (V3.out.cell C2_2.out (.inr hhi))
  have C3_3 := Lib.hid (V3.out.cell C3_2.out (.inr hhi))
  have C4_3 := Lib.hid (V3.out.cell C4_2.out (.inr hhi))
  have C5_3 := Lib.hid (V3.out.cell C5_2.out (.inr hhi))
  have M3 := Lib.hid (M2.out.trans V3.out)
  clear o g
  have q1 := C1_3.out
  have q2 := C2_3.out
  have q3 := C3_3.out
  have q4 := C4_3.out
  have q5 := C5_3.out
  go_wp2_with fail
  clear q1 q2 q3 q4 q5
  refine (markI_any O3_3.out (k + x0.length + x1.length + x2.length) (by omega)).mono ?_
  rintro e w4 ⟨rfl, o, g⟩
  have V4 : Hid (Mv lo hi w3 w4) := Lib.hid (Mv.grown g B3.out)
  have O0_4 : Hid (OI w4 lo (.slice A0 x0.length c0) (marks (k) x0.length)) := Lib.hid (O0_3.out.same fun g1 hg1 => g.block g1 (O0_3.out.wi g1 hg1).2 (fun e => P30.out g1 e.symm hg1))
  have O1_4 : Hid (OI w4 lo (.slice A1 x1.length c1) (marks (k + x0.length) x1.length)) := Lib.hid (O1_3.out.same fun g1 hg1 => g.block g1 (O1_3.out.wi g1 hg1).2 (fun e => P31.out g1 e.symm hg1))
  have O2_4 : Hid (OI w4 lo (.slice A2 x2.length c2) (marks (k + x0.length + x1.length) x2.length)) := Lib.hid (O2_3.out.same fun g1 hg1 => g.block g1 (O2_3.out.wi g1 hg1).2 (fun e => P32.out g1 e.symm hg1))
  have O3_4 := Lib.hid o
  have C1_4 := Lib.hid (V4.out.cell C1_3.out (.inr hhi))
  have C2_4 := Lib.hid (V4.out.cell C2_3.out (.inr hhi))
  have C3_4 := Lib.hid (V4.out.cell C3_3.out (.inr hhi))
  have C4_4 := Lib.hid (V4.out.cell C4_3.out (.inr hhi))
  have C5_4 := Lib.hid (V4.out.cell C5_3.out (.inr hhi))
  have M4 := Lib.hid (M3.out.trans V4.out)
  clear o g
  have q1 := C1_4.out
  have q2 := C2_4.out
  have q3 := C3_4.out
  have q4 := C4_4.out
  have q5 := C5_4.out
  go_wp2_with fail
  clear q1 q2 q3 q4 q5
  refine (markP_nil w4 (k + x0.length + x1.length + x2.length + x3.length)).mono ?_
  rintro e wq ⟨rfl, rfl⟩
  go_wp2_with fail
  go_ret
  exact ⟨rfl, O0_4.out, O1_4.out, O2_4.out, O3_4.out, M4.out⟩
set_option maxHeartbeats 2000000 in
theorem heldSel0_any {w : World} {lo : Nat} {m0 : Int} {A0 : Option Addr} {A1 : Option Addr} {A2 : Option Addr} {A3 : Option Addr} {c0 n0 : Nat} {c1 n1 : Nat} {c2 n2 : Nat} {c3 n3 : Nat} (k : Nat)
    (h0 : OI w lo (.slice A0 n0 c0) (marks (k) n0)) (h1 : OI w lo (.slice A1 n1 c1) (marks (k + n0) n1)) (h2 : OI w lo (.slice A2 n2 c2) (marks (k + n0 + n1) n2)) (h3 : OI w lo (.slice A3 n3 c3) (marks (k + n0 + n1 + n2) n3)) (hk : k + n0 + n1 + n2 + n3 ≤ 8000000) :
    Calls Try.prog 15 #[.agg #[.int .i64 m0, .slice A0 n0 c0, .slice A1 n1 c1, .slice A2 n2 c2, .slice A3 n3 c3, .slice none 0 0], .int .i64 (k : Int)] w (GivesB (.int .i64 ((k + n0 + n1 + n2 + n3 : Nat) : Int)) w) := by
  have Bel0 : Hid (Below w.heap.size w (w.alloc (.cells #[.int .i64 m0, .slice A0 n0 c0, .slice A1 n1 c1, .slice A2 n2 c2, .slice A3 n3 c3, .slice none 0 0] 25))) := Lib.hid ((Below.refl _ w).alloc (Nat.le_refl _) _)
  have O0 := Lib.hid (h0.bel Bel0.out)
  have O1 := Lib.hid (h1.bel Bel0.out)
  have O2 := Lib.hid (h2.bel Bel0.out)
  have O3 := Lib.hid (h3.bel Bel0.out)
  clear h0 h1 h2 h3
  have t1 : ¬ (((k + n0 : Nat) : Int) < 0) := by omega
  have t2 : ¬ (((k + n0 + n1 : Nat) : Int) < 0) := by omega
  have t3 : ¬ (((k + n0 + n1 + n2 : Nat) : Int) < 0) := by omega
  have t4 : ¬ (((k + n0 + n1 + n2 + n3 : Nat) : Int) < 0) := by omega
  go_enter Try.func15, Try.ntmps15
  go_wp2_with fail
  refine (heldI_any (k) O0.out (by omega)).mono ?_
  rintro e wq ⟨rfl, rfl⟩
  go_wp2_with fail
  refine (heldI_any (k + n0) O1.out (by omega)).mono ?_
  rintro e wq ⟨rfl, rfl⟩
  go_wp2_with fail
  refine (heldI_any (k + n0 + n1) O2.out (by omega)).mono ?_
  rintro e wq ⟨rfl, rfl⟩
  go_wp2_with fail
  refine (heldI_any (k + n0 + n1 + n2) O3.out (by omega)).mono ?_
  rintro e wq ⟨rfl, rfl⟩
  go_wp2_with fail
  refine (heldP_nil _ (k + n0 + n1 + n2 + n3)).mono ?_
  rintro e wq ⟨rfl, rfl⟩
  go_wp2_with fail
  go_ret
  exact ⟨rfl, Bel0.out⟩
end Go.Proofs.Ytbghekgghiamcaa
