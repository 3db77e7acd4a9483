/- The contracts of the copies and of ResizeSpace in the form that the law's walk uses. No statement is proved here. -/
import Derived.Test.YtmnmjepppghnlaaRszI
namespace Go.Proofs.Ytmnmjepppghnlaa
open Go.RowKit
set_option linter.unusedVariables false
theorem rszD_or (xs ms ds : List Int) : rszD xs ms ds = ds ∨ rszD xs ms ds = [] := by unfold rszD; split <;> simp
theorem rszM_or (xs ms ds : List Int) : rszM xs ms ds = ms ∨ rszM xs ms ds = [] := by unfold rszM; split <;> simp
theorem rszD_in {xs ms ds D : List Int} (h : rszD xs ms ds = D) (hi : ∀ x ∈ ds, InI x) : ∀ x ∈ D, InI x := by
  subst h; rcases rszD_or xs ms ds with e | e <;> rw [e]
  · exact hi
  · intro x hx; simp at hx
theorem rszM_in {xs ms ds M : List Int} (h : rszM xs ms ds = M) (hi : ∀ x ∈ ms, InI x) : ∀ x ∈ M, InI x := by
  subst h; rcases rszM_or xs ms ds with e | e <;> rw [e]
  · exact hi
  · intro x hx; simp at hx
theorem rszD_le {xs ms ds D : List Int} (h : rszD xs ms ds = D) (hi : ds.length ≤ 1048576) : D.length ≤ 1048576 := by
  subst h; rcases rszD_or xs ms ds with e | e <;> rw [e]
  · exact hi
  · simp
theorem rszM_le {xs ms ds M : List Int} (h : rszM xs ms ds = M) (hi : ms.length ≤ 1048576) : M.length ≤ 1048576 := by
  subst h; rcases rszM_or xs ms ds with e | e <;> rw [e]
  · exact hi
  · simp
theorem sResize_is {B : Nat} {w : World} {A1 A2 A3 : Option Addr} {xs ms ds D M : List Int} {ec : Int} (hD : rszD xs ms ds = D) (hM : rszM xs ms ds = M) (hE : rszE xs ms ds = ec)
    (h1 : Ri B w (.slice A1 xs.length xs.length) xs) (h2 : Ri B w (.slice A2 ms.length ms.length) ms) (h3 : Ri B w (.slice A3 ds.length ds.length) ds) (hB : B ≤ w.heap.size) (hm : ms.length ≤ 1048576) (hn : ds.length ≤ 1048576) :
    Calls Try.prog 37 #[.agg #[.slice A1 xs.length xs.length, .slice A2 ms.length ms.length], .slice A3 ds.length ds.length] w (RszAt D M ec w) := by
  subst hD; subst hM; subst hE; exact sResize_any h1 h2 h3 hB hm hn
theorem pResize_is {B : Nat} {w : World} {A1 A2 A3 : Option Addr} {xs ms ds D M : List Int} {ec : Int} (hD : rszD xs ms ds = D) (hM : rszM xs ms ds = M) (hE : rszE xs ms ds = ec)
    (h1 : Ri B w (.slice A1 xs.length xs.length) xs) (h2 : Ri B w (.slice A2 ms.length ms.length) ms) (h3 : Ri B w (.slice A3 ds.length ds.length) ds) (hB : B ≤ w.heap.size) (hm : ms.length ≤ 1048576) (hn : ds.length ≤ 1048576) :
    Calls Try.prog 38 #[.agg #[.slice A1 xs.length xs.length, .slice A2 ms.length ms.length], .slice A3 ds.length ds.length] w (RszAt D M ec w) := by
  subst hD; subst hM; subst hE; exact pResize_any h1 h2 h3 hB hm hn
theorem toSpace_oi {B : Nat} {w : World} {v1 v2 : Value} {xs ms : List Int} (h1 : Ri B w v1 xs) (h2 : Ri B w v2 ms) (hB : B ≤ w.heap.size) (hs : xs.length ≤ 1048576 ∧ ms.length ≤ 1048576) :
    Calls Try.prog 26 #[.agg #[v1, v2]] w fun e w' => ∃ A1 A2 : Option Addr, e = .returned (.agg #[.slice A1 xs.length xs.length, .slice A2 ms.length ms.length]) ∧
      OI w' w.heap.size (.slice A1 xs.length xs.length) xs ∧ OI w' w.heap.size (.slice A2 ms.length ms.length) ms ∧ Apart (.slice A1 xs.length xs.length) (.slice A2 ms.length ms.length) ∧ Below w.heap.size w w' :=
  (toSpace_any h1 h2 hB hs).mono fun e w' ⟨he, r1, r2, _, g⟩ => ⟨_, _, he, OI.of_row r1 (by omega) (by unfold maxLen; omega), OI.of_row r2 (by omega) (by unfold maxLen; omega), fun g hg he => by simp [Value.ownBlock] at hg he; omega, g⟩
theorem toI_oi {B : Nat} {w : World} {v : Value} {xs : List Int} (h : Ri B w v xs) (hB : B ≤ w.heap.size) (hs : xs.length ≤ 1048576) :
    Calls Try.prog 13 #[v] w fun e w' => ∃ A1 : Option Addr, e = .returned (.slice A1 xs.length xs.length) ∧ OI w' w.heap.size (.slice A1 xs.length xs.length) xs ∧ Below w.heap.size w w' :=
  (toI_any h hB hs).mono fun e w' ⟨he, r, _, g⟩ => ⟨_, he, OI.of_row r (Nat.le_refl _) (by unfold maxLen; omega), g⟩
end Go.Proofs.Ytmnmjepppghnlaa
