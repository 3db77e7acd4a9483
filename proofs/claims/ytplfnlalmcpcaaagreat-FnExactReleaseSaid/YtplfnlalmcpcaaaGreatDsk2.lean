/- Contracts of the laws' functions that compare, mark and hold disks. No statement is proved here. -/
import Derived.Test.YtplfnlalmcpcaaaGreatDsk
namespace Go.Proofs.YtplfnlalmcpcaaaGreat
open Go.RowKit
set_option linter.unusedVariables false
set_option maxHeartbeats 1000000 in
set_option maxRecDepth 100000 in
theorem eqDisk_any {B : Nat} {w : World} {v1 v2 u1 u2 : Value} {ss : List ByteArray} {ps : List Pt} {fz : Int} {off : Bool} (h1 : RiT B w v1 ss) (h2 : RiU B w v2 ps) (g1 : RiT B w u1 ss) (g2 : RiU B w u2 ps) (hB : B ≤ w.heap.size) :
    Calls Tryz.prog 47 #[.agg #[v1, v2, .int .i64 fz, .bool off], .agg #[u1, u2, .int .i64 fz, .bool off]] w (GivesB (.bool true) w) := by
  have H1 := Lib.hid h1; obtain ⟨A1, c1, rfl, -, -, -⟩ := h1
  have H2 := Lib.hid h2; obtain ⟨A2, c2, rfl, -, -, -⟩ := h2
  have G1 := Lib.hid g1; obtain ⟨D1, d1, rfl, -, -, -⟩ := g1
  have G2 := Lib.hid g2; obtain ⟨D2, d2, rfl, -, -, -⟩ := g2
  have Hb0 : Hid (Below w.heap.size w ((w.alloc (.cells #[.slice A1 ss.length c1, .slice A2 ps.length c2, .int .i64 fz, .bool off] 34)).alloc (.cells #[.slice D1 ss.length d1, .slice D2 ps.length d2, .int .i64 fz, .bool off] 34))) := Lib.hid (((Below.refl _ w).alloc (Nat.le_refl _) _).alloc (by simp) _)
  have R0 : Hid (((w.alloc (.cells #[.slice A1 ss.length c1, .slice A2 ps.length c2, .int .i64 fz, .bool off] 34)).alloc (.cells #[.slice D1 ss.length d1, .slice D2 ps.length d2, .int .i64 fz, .bool off] 34)).heap[w.heap.size]? = some (.cells #[.slice A1 ss.length c1, .slice A2 ps.length c2, .int .i64 fz, .bool off] 34 (0, 0))) := Lib.hid (heap_alloc2_old w _ _)
  have S0 : Hid (((w.alloc (.cells #[.slice A1 ss.length c1, .slice A2 ps.length c2, .int .i64 fz, .bool off] 34)).alloc (.cells #[.slice D1 ss.length d1, .slice D2 ps.length d2, .int .i64 fz, .bool off] 34)).heap[w.heap.size + 1]? = some (.cells #[.slice D1 ss.length d1, .slice D2 ps.length d2, .int .i64 fz, .bool off] 34 (0, 0))) := Lib.hid (heap_alloc2_new w _ _)
  have Lt0 : Hid (w.heap.size + 1 < ((w.alloc (.cells #[.slice A1 ss.length c1, .slice A2 ps.length c2, .int .i64 fz, .bool off] 34)).alloc (.cells #[.slice D1 ss.length d1, .slice D2 ps.length d2, .int .i64 fz, .bool off] 34)).heap.size) := Lib.hid (by simp)
  go_enter Tryz.func47, Tryz.ntmps47
  go_wp2_with fail
  generalize ((w.alloc (.cells #[.slice A1 ss.length c1, .slice A2 ps.length c2, .int .i64 fz, .bool off] 34)).alloc (.cells #[.slice D1 ss.length d1, .slice D2 ps.length d2, .int .i64 fz, .bool off] 34)) = w0 at *
  refine (eqT_any (H1.out.at hB Hb0.out) (G1.out.at hB Hb0.out) (Nat.le_refl _)).mono ?_
  rintro e w1 ⟨rfl, g⟩
  have Hb1 : Hid (Below w.heap.size w w1) := Lib.hid (Hb0.out.trans (g.mono Hb0.out.size))
  have R1 : Hid (w1.heap[w.heap.size]? = some (.cells #[.slice A1 ss.length c1, .slice A2 ps.length c2, .int .i64 fz, .bool off] 34 (0, 0))) := Lib.hid ((g.block _ (by have := Lt0.out; omega)).trans R0.out)
  have S1 : Hid (w1.heap[w.heap.size + 1]? = some (.cells #[.slice D1 ss.length d1, .slice D2 ps.length d2, .int .i64 fz, .bool off] 34 (0, 0))) := Lib.hid ((g.block _ Lt0.out).trans S0.out)
  have Lt1 : Hid (w.heap.size + 1 < w1.heap.size) := Lib.hid (by have := Lt0.out; have := g.size; omega)
  clear g
  have q1 : w1.cell? ⟨w.heap.size, 1, none⟩ = some (.slice A2 ps.length c2) := by rw [cell_of_row _ _ _ _ _ _ R1.out]; rfl
  have q2 : w1.cell? ⟨w.heap.size + 1, 1, none⟩ = some (.slice D2 ps.length d2) := by rw [cell_of_row _ _ _ _ _ _ S1.out]; rfl
  go_wp2_with fail
  clear q1 q2
  refine (eqPuts_any (H2.out.at hB Hb1.out) (G2.out.at hB Hb1.out) (Nat.le_refl _)).mono ?_
  rintro e w2 ⟨rfl, g⟩
  have Hb2 : Hid (Below w.heap.size w w2) := Lib.hid (Hb1.out.trans (g.mono Hb1.out.size))
  have R2 := (g.block _ (by have := Lt1.out; omega)).trans R1.out
  have S2 := (g.block _ Lt1.out).trans S1.out
  have q1 : w2.cell? ⟨w.heap.size, 2, none⟩ = some (.int .i64 fz) := by rw [cell_of_row _ _ _ _ _ _ R2]; rfl
  have q2 : w2.cell? ⟨w.heap.size + 1, 2, none⟩ = some (.int .i64 fz) := by rw [cell_of_row _ _ _ _ _ _ S2]; rfl
  have q3 : w2.cell? ⟨w.heap.size, 3, none⟩ = some (.bool off) := by rw [cell_of_row _ _ _ _ _ _ R2]; rfl
  have q4 : w2.cell? ⟨w.heap.size + 1, 3, none⟩ = some (.bool off) := by rw [cell_of_row _ _ _ _ _ _ S2]; rfl
  clear g R2 S2
  go_wp2_with fail
  go_ret
  exact ⟨rfl, Hb2.out⟩
set_option maxHeartbeats 1000000 in
theorem markDisk_any {w : World} {lo hi : Nat} {A1 A2 : Option Addr} {c1 c2 : Nat} {ss : List ByteArray} {ps : List Pt} {fz : Int} {off : Bool} (h1 : OT w lo (.slice A1 ss.length c1) ss) (h2 : OU w lo (.slice A2 ps.length c2) ps)
    (b1 : Wi lo hi (.slice A1 ss.length c1)) (b2 : Wi lo hi (.slice A2 ps.length c2)) (hne : Apart (.slice A1 ss.length c1) (.slice A2 ps.length c2)) (hhi : hi ≤ w.heap.size) (k : Nat) (hk1 : 1 ≤ k) (hk : k + ss.length + 2 * ps.length ≤ 8000000) :
    Calls Tryz.prog 50 #[.agg #[.slice A1 ss.length c1, .slice A2 ps.length c2, .int .i64 fz, .bool off], .int .i64 (k : Int)] w fun e w' => e = .returned (.int .i64 ((k + ss.length + 2 * ps.length : Nat) : Int)) ∧
      OT w' lo (.slice A1 ss.length c1) (marksT k ss.length) ∧ OU w' lo (.slice A2 ps.length c2) (marksU (k + ss.length) ps.length) ∧ Mv lo hi w w' := by
  have B1 := Lib.hid b1; have B2 := Lib.hid b2; have Hne := Lib.hid hne
  have Bel0 : Hid (Below w.heap.size w (w.alloc (.cells #[.slice A1 ss.length c1, .slice A2 ps.length c2, .int .i64 fz, .bool off] 34))) := Lib.hid ((Below.refl _ w).alloc (Nat.le_refl _) _)
  have O1 : Hid (OT _ lo _ ss) := Lib.hid (own_bel h1 Bel0.out)
  have O2 : Hid (OU _ lo _ ps) := Lib.hid (own_bel h2 Bel0.out)
  have C1 : Hid ((w.alloc (.cells #[.slice A1 ss.length c1, .slice A2 ps.length c2, .int .i64 fz, .bool off] 34)).cell? ⟨w.heap.size, 1, none⟩ = some (.slice A2 ps.length c2)) := Lib.hid (by rw [cell_of_row _ _ _ _ _ _ (heap_alloc_new w _)]; rfl)
  clear h1 h2 b1 b2 hne
  go_enter Tryz.func50, Tryz.ntmps50
  go_wp2_with fail
  refine (markT_any O1.out k hk1 (by omega)).mono ?_
  rintro e w1 ⟨rfl, o1, g1⟩
  have M1 : Hid (Mv lo hi (w.alloc (.cells #[.slice A1 ss.length c1, .slice A2 ps.length c2, .int .i64 fz, .bool off] 34)) w1) := Lib.hid (Mv.grown g1 B1.out)
  have P1 := Lib.hid o1
  have P2 : Hid (OU w1 lo (.slice A2 ps.length c2) ps) := Lib.hid (own_same O2.out fun g hg => g1.block g (own_wi O2.out g hg).2 (fun e => Hne.out g e.symm hg))
  have q1 := M1.out.cell C1.out (.inr hhi)
  clear o1 g1
  go_wp2_with fail
  clear q1
  refine (markU_any P2.out (k + ss.length) (by omega) (by omega)).mono ?_
  rintro e w2 ⟨rfl, o2, g2⟩
  have M2 : Hid (Mv lo hi w w2) := Lib.hid (((Mv.of_below Bel0.out).trans M1.out).trans (Mv.grown g2 B2.out))
  have Q2 := Lib.hid o2
  have Q1 : Hid (OT w2 lo (.slice A1 ss.length c1) (marksT k ss.length)) := Lib.hid (own_same P1.out fun g hg => g2.block g (own_wi P1.out g hg).2 (fun e => Hne.out g hg e.symm))
  clear o2 g2
  go_wp2_with fail
  go_ret
  exact ⟨rfl, Q1.out, Q2.out, M2.out⟩
set_option maxHeartbeats 1000000 in
theorem heldDisk_any {w : World} {lo : Nat} {A1 A2 : Option Addr} {c1 c2 n m : Nat} {fz : Int} {off : Bool} (k : Nat) (h1 : OT w lo (.slice A1 n c1) (marksT k n)) (h2 : OU w lo (.slice A2 m c2) (marksU (k + n) m)) (hk1 : 1 ≤ k) (hk : k + n + 2 * m ≤ 8000000) :
    Calls Tryz.prog 52 #[.agg #[.slice A1 n c1, .slice A2 m c2, .int .i64 fz, .bool off], .int .i64 (k : Int)] w (GivesB (.int .i64 ((k + n + 2 * m : Nat) : Int)) w) := by
  have Bel0 : Hid (Below w.heap.size w (w.alloc (.cells #[.slice A1 n c1, .slice A2 m c2, .int .i64 fz, .bool off] 34))) := Lib.hid ((Below.refl _ w).alloc (Nat.le_refl _) _)
  have O1 : Hid (OT _ lo _ (marksT k n)) := Lib.hid (own_bel h1 Bel0.out)
  have O2 : Hid (OU _ lo _ (marksU (k + n) m)) := Lib.hid (own_bel h2 Bel0.out)
  have C1 : Hid ((w.alloc (.cells #[.slice A1 n c1, .slice A2 m c2, .int .i64 fz, .bool off] 34)).cell? ⟨w.heap.size, 1, none⟩ = some (.slice A2 m c2)) := Lib.hid (by rw [cell_of_row _ _ _ _ _ _ (heap_alloc_new w _)]; rfl)
  clear h1 h2
  have n1 : ¬ (((k + n : Nat) : Int) < 0) := by omega
  have n2 : ¬ (((k + n + 2 * m : Nat) : Int) < 0) := by omega
  go_enter Tryz.func52, Tryz.ntmps52
  go_wp2_with fail
  refine (heldT_any k O1.out hk1 (by omega)).mono ?_
  rintro e w1 ⟨rfl, g⟩
  have P2 : Hid (OU w1 lo (.slice A2 m c2) (marksU (k + n) m)) := Lib.hid (own_bel O2.out g)
  have B1 : Hid (Below w.heap.size w w1) := Lib.hid (Bel0.out.trans (g.mono Bel0.out.size))
  have q1 := (g.cell (World.block_lt_of_cell? _ _ C1.out)).trans C1.out
  clear g
  go_wp2_with fail
  clear q1
  refine (heldU_any (k + n) P2.out (by omega) (by omega)).mono ?_
  rintro e w2 ⟨rfl, g⟩
  have B2 : Hid (Below w.heap.size w w2) := Lib.hid (B1.out.trans (g.mono B1.out.size))
  clear g
  go_wp2_with fail
  go_ret
  exact ⟨rfl, B2.out⟩
theorem RiT.inT {B : Nat} {w : World} {v : Value} {ss : List ByteArray} (h : RiT B w v ss) : ∀ x ∈ ss, x.size ≤ maxLen := h.len
theorem toDisk_rd {B : Nat} {w : World} {v1 v2 : Value} {ss : List ByteArray} {ps : List Pt} {fz : Int} {off : Bool} (h1 : RiT B w v1 ss) (h2 : RiU B w v2 ps) (hB : B ≤ w.heap.size) (hs : SmT ss ∧ SmU ps) :
    Calls Tryz.prog 41 #[.agg #[v1, v2, .int .i64 fz, .bool off]] w fun e w' => ∃ A1 A2 : Option Addr, e = .returned (.agg #[.slice A1 ss.length ss.length, .slice A2 ps.length ps.length, .int .i64 fz, .bool off]) ∧
      RiT w'.heap.size w' (.slice A1 ss.length ss.length) ss ∧ RiU w'.heap.size w' (.slice A2 ps.length ps.length) ps ∧ Below w.heap.size w w' :=
  (toDisk_any h1 h2 hB hs.1 hs.2).mono fun e w' ⟨A1, A2, he, o1, o2, _, g⟩ => ⟨A1, A2, he, o1.rit h1.inT, o2.riu h2.wf, g⟩
end Go.Proofs.YtplfnlalmcpcaaaGreat
