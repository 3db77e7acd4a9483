/- Contracts of the laws' functions that mark and hold dataspaces. No statement is proved here. -/
import Derived.Test.YtaokifppaagalaaCpy
namespace Go.Proofs.Ytaokifppaagalaa
open Go.RowKit
set_option linter.unusedVariables false
/-- Only blocks from lo to before hi may have changed; nothing else did. -/
def Mv (lo hi : Nat) (w w' : World) : Prop := w'.os = w.os ∧ w'.tape = w.tape ∧ w'.output = w.output ∧ w.heap.size ≤ w'.heap.size ∧ ∀ k, k < w.heap.size → (k < lo ∨ hi ≤ k) → w'.heap[k]? = w.heap[k]?
/-- The block of this slice, if it has one, lies from lo to before hi. -/
def Wi (lo hi : Nat) (v : Value) : Prop := ∀ g, v.ownBlock = some g → lo ≤ g ∧ g < hi
theorem Wi.mono {lo hi lo' hi' : Nat} {v : Value} (h : Wi lo hi v) (h1 : lo' ≤ lo) (h2 : hi ≤ hi') : Wi lo' hi' v := fun g hg => by have := h g hg; omega
theorem OI.wi {w : World} {lo : Nat} {v : Value} {xs : List Int} (h : OI w lo v xs) : Wi lo w.heap.size v := fun g hg => World.ownsRow.lt h g hg
theorem Mv.refl (lo hi : Nat) (w : World) : Mv lo hi w w := ⟨rfl, rfl, rfl, Nat.le_refl _, fun _ _ _ => rfl⟩
theorem Mv.trans {lo hi : Nat} {a b c : World} (h : Mv lo hi a b) (k : Mv lo hi b c) : Mv lo hi a c :=
  ⟨k.1.trans h.1, k.2.1.trans h.2.1, k.2.2.1.trans h.2.2.1, Nat.le_trans h.2.2.2.1 k.2.2.2.1, fun i hi2 ho => (k.2.2.2.2 i (Nat.lt_of_lt_of_le hi2 h.2.2.2.1) ho).trans (h.2.2.2.2 i hi2 ho)⟩
theorem Mv.of_below {lo hi : Nat} {a b : World} (h : Below a.heap.size a b) : Mv lo hi a b := ⟨h.os, h.tape, h.output, h.size, fun k hk _ => h.block k hk⟩
theorem Mv.grown {lo hi : Nat} {a b : World} {v : Value} (h : a.grownBy b v.ownBlock) (hw : Wi lo hi v) : Mv lo hi a b :=
  ⟨h.os, h.tape, h.output, h.size, fun k hk ho => h.block k hk (fun e => by have := hw k e.symm; omega)⟩
theorem Mv.below {lo hi B : Nat} {z a b : World} (h : Mv lo hi a b) (hz : Below B z a) (hB : B ≤ lo) (hBa : B ≤ a.heap.size) : Below B z b :=
  hz.trans ⟨h.1, h.2.1, h.2.2.1, h.2.2.2.1, fun k hk => h.2.2.2.2 k (by omega) (by omega)⟩
theorem Mv.cell {lo hi : Nat} {a b : World} (h : Mv lo hi a b) {p : Addr} {u : Value} (hc : a.cell? p = some u) (ho : p.block < lo ∨ hi ≤ p.block) : b.cell? p = some u :=
  (World.cell?_of_block (h.2.2.2.2 p.block (World.block_lt_of_cell? a p hc) ho)).trans hc
theorem OI.same {w w' : World} {lo : Nat} {v : Value} {xs : List Int} (h : OI w lo v xs) (hk : ∀ g, v.ownBlock = some g → w'.heap[g]? = w.heap[g]?) : OI w' lo v xs := by
  unfold OI at h ⊢
  refine ⟨h.1, ?_⟩
  rcases h.2 with hn | ⟨g, cap, cur, rfl, hb, hgg, rest⟩
  · exact .inl hn
  · exact .inr ⟨g, cap, cur, rfl, hb, (hk g rfl).trans hgg, rest⟩
theorem OI.mv {w w' : World} {lo l h2 : Nat} {v : Value} {xs : List Int} (h : OI w lo v xs) (hm : Mv l h2 w w') (hd : ∀ g, v.ownBlock = some g → g < l ∨ h2 ≤ g) : OI w' lo v xs :=
  h.same fun g hg => hm.2.2.2.2 g (h.wi g hg).2 (hd g hg)
theorem OI.bel {w w' : World} {lo : Nat} {v : Value} {xs : List Int} (h : OI w lo v xs) (hb : Below w.heap.size w w') : OI w' lo v xs :=
  h.same fun g hg => hb.block g (h.wi g hg).2
theorem OI.sl {w : World} {lo : Nat} {v : Value} {xs : List Int} (h : OI w lo v xs) : ∃ A cap, v = .slice A xs.length cap := by
  rcases h.slice with ⟨rfl, rfl⟩ | ⟨g, cap, rfl, _⟩
  · exact ⟨none, 0, rfl⟩
  · exact ⟨_, cap, rfl⟩
theorem OI.lo {w : World} {lo lo' : Nat} {v : Value} {xs : List Int} (h : OI w lo v xs) (hl : lo' ≤ lo) : OI w lo' v xs := by
  unfold OI at h ⊢
  refine ⟨h.1, ?_⟩
  rcases h.2 with hn | ⟨g, cap, cur, rfl, hb, rest⟩
  · exact .inl hn
  · exact .inr ⟨g, cap, cur, rfl, by omega, rest⟩
/-- Two slices that share no block. -/
def Apart (v u : Value) : Prop := ∀ g, v.ownBlock = some g → u.ownBlock ≠ some g
set_option maxHeartbeats 1000000 in
theorem markSpace_any {w : World} {lo hi : Nat} {A1 A2 : Option Addr} {c1 c2 : Nat} {xs ms : List Int} (h1 : OI w lo (.slice A1 xs.length c1) xs) (h2 : OI w lo (.slice A2 ms.length c2) ms)
    (b1 : Wi lo hi (.slice A1 xs.length c1)) (b2 : Wi lo hi (.slice A2 ms.length c2)) (hne : Apart (.slice A1 xs.length c1) (.slice A2 ms.length c2)) (hhi : hi ≤ w.heap.size) (k : Nat) (hk : k + xs.length + ms.length ≤ 8000000) :
    Calls Try.prog 18 #[.agg #[.slice A1 xs.length c1, .slice A2 ms.length c2], .int .i64 (k : Int)] w fun e w' => e = .returned (.int .i64 ((k + xs.length + ms.length : Nat) : Int)) ∧
      OI w' lo (.slice A1 xs.length c1) (marks k xs.length) ∧ OI w' lo (.slice A2 ms.length c2) (marks (k + xs.length) ms.length) ∧ Mv lo hi w w' := by
  have B1 := Lib.hid b1; have B2 := Lib.hid b2; have Hne := Lib.hid hne
  have Bel0 : Hid (Below w.heap.size w (w.alloc (.cells #[.slice A1 xs.length c1, .slice A2 ms.length c2] 24))) := Lib.hid ((Below.refl _ w).alloc (Nat.le_refl _) _)
  have O1 := Lib.hid (h1.bel Bel0.out); have O2 := Lib.hid (h2.bel Bel0.out)
  have C1 : Hid ((w.alloc (.cells #[.slice A1 xs.length c1, .slice A2 ms.length c2] 24)).cell? ⟨w.heap.size, 1, none⟩ = some (.slice A2 ms.length c2)) := Lib.hid (by rw [cell_of_row _ _ _ _ _ _ (heap_alloc_new w _)]; rfl)
  clear h1 h2 b1 b2 hne
  go_enter Try.func18, Try.ntmps18
  go_wp2_with fail
  refine (markI_any O1.out k (by omega)).mono ?_
  rintro e w1 ⟨rfl, o1, g1⟩
  have M1 : Hid (Mv lo hi (w.alloc (.cells #[.slice A1 xs.length c1, .slice A2 ms.length c2] 24)) w1) := Lib.hid (Mv.grown g1 B1.out)
  have P1 := Lib.hid o1
  have P2 : Hid (OI w1 lo (.slice A2 ms.length c2) ms) := Lib.hid (O2.out.same fun g hg => g1.block g (O2.out.wi g hg).2 (fun e => Hne.out g e.symm hg))
  have q1 := M1.out.cell C1.out (.inr hhi)
  clear o1 g1
  go_wp2_with fail
  clear q1
  refine (markI_any P2.out (k + xs.length) (by omega)).mono ?_
  rintro e w2 ⟨rfl, o2, g2⟩
  have M2 : Hid (Mv lo hi w w2) := Lib.hid (((Mv.of_below Bel0.out).trans M1.out).trans (Mv.grown g2 B2.out))
  have Q2 := Lib.hid o2
  have Q1 : Hid (OI w2 lo (.slice A1 xs.length c1) (marks k xs.length)) := Lib.hid (P1.out.same fun g hg => g2.block g (P1.out.wi g hg).2 (fun e => Hne.out g hg e.symm))
  clear o2 g2
  go_wp2_with fail
  go_ret
  exact ⟨rfl, Q1.out, Q2.out, M2.out⟩
set_option maxHeartbeats 1000000 in
theorem heldSpace_any {w : World} {lo : Nat} {A1 A2 : Option Addr} {c1 c2 n m : Nat} (k : Nat) (h1 : OI w lo (.slice A1 n c1) (marks k n)) (h2 : OI w lo (.slice A2 m c2) (marks (k + n) m)) (hk : k + n + m ≤ 8000000) :
    Calls Try.prog 19 #[.agg #[.slice A1 n c1, .slice A2 m c2], .int .i64 (k : Int)] w (GivesB (.int .i64 ((k + n + m : Nat) : Int)) w) := by
  have Bel0 : Hid (Below w.heap.size w (w.alloc (.cells #[.slice A1 n c1, .slice A2 m c2] 24))) := Lib.hid ((Below.refl _ w).alloc (Nat.le_refl _) _)
  have O1 := Lib.hid (h1.bel Bel0.out); have O2 := Lib.hid (h2.bel Bel0.out)
  clear h1 h2
  have n1 : ¬ (((k + n : Nat) : Int) < 0) := by omega
  have n2 : ¬ (((k + n + m : Nat) : Int) < 0) := by omega
  go_enter Try.func19, Try.ntmps19
  go_wp2_with fail
  refine (heldI_any k O1.out (by omega)).mono ?_
  rintro e w1 ⟨rfl, rfl⟩
  go_wp2_with fail
  refine (heldI_any (k + n) O2.out (by omega)).mono ?_
  rintro e w1 ⟨rfl, rfl⟩
  go_wp2_with fail
  go_ret
  exact ⟨rfl, Bel0.out⟩
end Go.Proofs.Ytaokifppaagalaa
