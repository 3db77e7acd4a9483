/- What FormatDisk answers: one value for both sides. No statement is proved here. -/
import Derived.Test.YtpjkeikaonkohaaWsS
import Derived.Test.YtpjkeikaonkohaaDkQ
import Derived.Test.YtpjkeikaonkohaaDkM
namespace Go.Proofs.Ytpjkeikaonkohaa
open Go.RowKit
set_option linter.unusedVariables false
def fdS (n l : Int) : List ByteArray := if supOk n l 0 0 then (zs n.toNat).set 0 (supB n l 0 0) else []
def fdF (n l : Int) : Int := if supOk n l 0 0 then -1 else 0
def fdC (n l : Int) : Int := if supOk n l 0 0 then 0 else 2
theorem supOk_n {n l q t : Int} (h : supOk n l q t = true) : 16 ≤ n ∧ n ≤ 256 := by
  simp only [supOk, Bool.and_eq_true, inB_iff] at h
  exact h.1.1.1
theorem supB_size (n0 n1 n2 n3 : Int) : (supB n0 n1 n2 n3).size = 64 := by rw [supB, ByteArray.size_append, supP_size]
theorem zs_get {m i : Nat} (h : i < (zs m).length) : (zs m)[i] = zeros 64 := List.eq_of_mem_replicate (List.getElem_mem _)
theorem allTo_all (p : Nat → Bool) (n : Nat) (h : ∀ i, i < n → p i = true) : allTo p n = true := by simp [allTo]; exact h
theorem zs_all (m : Nat) : allTo (bkAt (zs m)) (zs m).length = true := by
  refine allTo_all _ _ fun i hi => ?_
  rw [bkAt_at _ _ hi, zs_get hi]; decide
theorem zs_dsk {m : Nat} (h1 : 16 ≤ m) (h2 : m ≤ 256) : dskOk (zs m) [] (-1) = true :=
  dskOk_iff.2 ⟨by rw [zs_len]; exact h1, by rw [zs_len]; exact h2, by simp, by omega, by omega, zs_all m, rfl⟩
theorem zs_dsk1 {m : Nat} (h1 : 16 ≤ m) (h2 : m ≤ 256) {x : ByteArray} (hx : x.size = 64) : dskOk (zs m) [(0, x)] (-1) = true :=
  dskOk_iff.2 ⟨by rw [zs_len]; exact h1, by rw [zs_len]; exact h2, by simp, by omega, by omega, zs_all m, by
    refine allTo_all _ _ fun i hi => ?_
    obtain rfl : i = 0 := by simp at hi; omega
    rw [pdAt_at _ _ _ (by simp)]
    have : inB 0 0 (((zs m).length : Int) - 1) = true := inB_iff.2 (by rw [zs_len]; omega)
    simp [this, hx]⟩
theorem fd_ws {n l : Int} (h : supOk n l 0 0 = true) : wsS (zs n.toNat) [] (-1) false n l 0 0 = zs n.toNat ∧ wsP (zs n.toNat) [] (-1) false n l 0 0 = [(0, supB n l 0 0)] ∧ wsF (zs n.toNat) [] (-1) false n l 0 0 = -1 ∧ wsO (zs n.toNat) [] (-1) false n l 0 0 = false ∧ wsC (zs n.toNat) [] (-1) false n l 0 0 = 0 := by
  obtain ⟨h1, h2⟩ := supOk_n h
  have hd : dskOk (zs n.toNat) [] (-1) = true := zs_dsk (by omega) (by omega)
  have hn : n = ((zs n.toNat).length : Int) := by rw [zs_len]; omega
  obtain ⟨e1, e2, e3, e4, e5⟩ := ws_yes (ss := zs n.toNat) (ps := []) (fz := -1) false (n0 := n) (n1 := l) (n2 := 0) (n3 := 0) (by rw [wsY, hd, h, decide_eq_true hn]; rfl)
  have hk : wsK 0 = 0 := rfl
  have hc : wrC [] (-1) false = 0 := by decide
  have hi : inB 0 0 (((zs n.toNat).length : Int) - 1) = true := inB_iff.2 (by rw [zs_len]; omega)
  have hz := supB_size n l 0 0
  have hy : wbY (zs n.toNat) [] (-1) false 0 (supB n l 0 0) = true := by simp [wbY, hd, hz, hi, hc]
  rw [e1, e2, e3, e4, e5, hk]
  refine ⟨by simp [wbS, hy], by simp [wbP, hy, wrP, hc], ?_, by simp [wbO, hy, wrO, hc], by simp [wbC, hd, hz, hi, hc]⟩
  simp only [wbF, hy, if_true, wrF, hc]
  decide
theorem fd_ba {m : Nat} (h1 : 16 ≤ m) (h2 : m ≤ 256) {x : ByteArray} (hx : x.size = 64) : baS (zs m) [(0, x)] (-1) false = (zs m).set 0 x ∧ baP (zs m) [(0, x)] (-1) false = [] ∧ baF (zs m) [(0, x)] (-1) false = -1 ∧ baO (zs m) [(0, x)] (-1) false = false ∧ baC (zs m) [(0, x)] (-1) false = 0 := by
  have hd := zs_dsk1 h1 h2 hx
  have hy : pwY (-1) false = true := by decide
  refine ⟨?_, by simp [baP, hd, brP, hy], ?_, by simp [baO, hd, pwO, hy], by simp [baC, hd, brC, hy]⟩
  · simp only [baS, hd, if_true, brR, hy]
    rfl
  · simp only [baF, hd, if_true]; decide
theorem fdS_in (n l : Int) : ∀ x ∈ fdS n l, x.size ≤ maxLen := by
  intro x hx
  unfold fdS at hx
  split at hx
  · rcases List.mem_or_eq_of_mem_set hx with h | h
    · rw [List.eq_of_mem_replicate h]; decide
    · rw [h, supB_size]; decide
  · cases hx
theorem fdS_le (n l : Int) : (fdS n l).length ≤ 1048576 := by
  unfold fdS
  split
  · rename_i h; rw [List.length_set, zs_len]; have := supOk_n h; omega
  · simp
end Go.Proofs.Ytpjkeikaonkohaa
