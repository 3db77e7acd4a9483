/- Contracts of the laws' functions that mark and hold boxes. No statement is proved here. -/
import Derived.Test.YtmghbgnalkkppaaMrS
namespace Go.Proofs.Ytmghbgnalkkppaa
open Go.RowKit
set_option linter.unusedVariables false
set_option maxHeartbeats 1000000 in
theorem markBox_any {w : World} {lo hi : Nat} {A1 A2 : Option Addr} {c1 c2 : Nat} {xs ms : List Int} (h1 : OI w lo (.slice A1 xs.length c1) xs) (h2 : OI w lo (.slice A2 ms.length c2) ms)
    (b1 : Wi lo hi (.slice A1 xs.length c1)) (b2 : Wi lo hi (.slice A2 ms.length c2)) (hne : Apart (.slice A1 xs.length c1) (.slice A2 ms.length c2)) (hhi : hi ≤ w.heap.size) (k : Nat) (hk : k + xs.length + ms.length ≤ 8000000) :
    Calls Try.prog 28 #[.agg #[.slice A1 xs.length c1, .slice A2 ms.length c2], .int .i64 (k : Int)] w fun e w' => e = .returned (.int .i64 ((k + xs.length + ms.length : Nat) : Int)) ∧
      OI w' lo (.slice A1 xs.length c1) (marks k xs.length) ∧ OI w' lo (.slice A2 ms.length c2) (marks (k + xs.length) ms.length) ∧ Mv lo hi w w' := by
  have B1 := Lib.hid b1; have B2 := Lib.hid b2; have Hne := Lib.hid hne
  have Bel0 : Hid (Below w.heap.size w (w.alloc (.cells #[.slice A1 xs.length c1, .slice A2 ms.length c2] 32))) := Lib.hid ((Below.refl _ w).alloc (Nat.le_refl _) _)
  have O1 := Lib.hid (h1.bel Bel0.out); have O2 := Lib.hid (h2.bel Bel0.out)
  have C1 : Hid ((w.alloc (.cells #[.slice A1 xs.length c1, .slice A2 ms.length c2] 32)).cell? ⟨w.heap.size, 1, none⟩ = some (.slice A2 ms.length c2)) := Lib.hid (by rw [cell_of_row _ _ _ _ _ _ (heap_alloc_new w _)]; rfl)
  clear h1 h2 b1 b2 hne
  go_enter Try.func28, Try.ntmps28
  go_wp2_with fail
  refine (markI_any O1.out k (by omega)).mono ?_
  rintro e w1 ⟨rfl, o1, g1⟩
  have M1 : Hid (Mv lo hi (w.alloc (.cells #[.slice A1 xs.length c1, .slice A2 ms.length c2] 32)) w1) := Lib.hid (Mv.grown g1 B1.out)
  have P1 := Lib.hid o1
  have P2 : Hid (OI w1 lo (.slice A2 ms.length c2) ms) := Lib.hid (O2.out.same fun g hg => g1.block g (O2.out.wi g hg).2 (fun e => Hne.out g e.symm hg))
  have q1 := M1.out.cell C1.out (.inr hhi)
  clear o1 g1
  go_wp2_with fail
  clear q1
  refine (markI_any P2.out (k + xs.length) (by omega)).mono ?_
  rintro e w2 ⟨rfl, o2, g2⟩
  have M2 : Hid (Mv lo hi w w2) := Lib.hid (((Mv.of_below Bel0.out).trans M1.out).trans (Mv.grown g2 B2.out))
  have Q2 := Lib.hid o2
  have Q1 : Hid (OI w2 lo (.slice A1 xs.length c1) (marks k xs.length)) := Lib.hid (P1.out.same fun g hg => g2.block g (P1.out.wi g hg).2 (fun e => Hne.out g hg e.symm))
  clear o2 g2
  go_wp2_with fail
  go_ret
  exact ⟨rfl, Q1.out, Q2.out, M2.out⟩
set_option maxHeartbeats 1000000 in
theorem heldBox_any {w : World} {lo : Nat} {A1 A2 : Option Addr} {c1 c2 n m : Nat} (k : Nat) (h1 : OI w lo (.slice A1 n c1) (marks k n)) (h2 : OI w lo (.slice A2 m c2) (marks (k + n) m)) (hk : k + n + m ≤ 8000000) :
    Calls Try.prog 29 #[.agg #[.slice A1 n c1, .slice A2 m c2], .int .i64 (k : Int)] w (GivesB (.int .i64 ((k + n + m : Nat) : Int)) w) := by
  have Bel0 : Hid (Below w.heap.size w (w.alloc (.cells #[.slice A1 n c1, .slice A2 m c2] 32))) := Lib.hid ((Below.refl _ w).alloc (Nat.le_refl _) _)
  have O1 := Lib.hid (h1.bel Bel0.out); have O2 := Lib.hid (h2.bel Bel0.out)
  clear h1 h2
  have n1 : ¬ (((k + n : Nat) : Int) < 0) := by omega
  have n2 : ¬ (((k + n + m : Nat) : Int) < 0) := by omega
  go_enter Try.func29, Try.ntmps29
  go_wp2_with fail
  refine (heldI_any k O1.out (by omega)).mono ?_
  rintro e w1 ⟨rfl, rfl⟩
  go_wp2_with fail
  refine (heldI_any (k + n) O2.out (by omega)).mono ?_
  rintro e w1 ⟨rfl, rfl⟩
  go_wp2_with fail
  go_ret
  exact ⟨rfl, Bel0.out⟩
end Go.Proofs.Ytmghbgnalkkppaa
