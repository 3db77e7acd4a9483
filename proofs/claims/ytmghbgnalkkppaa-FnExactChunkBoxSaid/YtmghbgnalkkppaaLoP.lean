/- Chunks: the lowest coordinates from a place and from a key. No statement is proved here. -/
import Derived.Test.YtmghbgnalkkppaaLow
namespace Go.Proofs.Ytmghbgnalkkppaa
open Go.RowKit
set_option linter.unusedVariables false
theorem dm (a b : Int) (ha : 0 ≤ a) (hb : 0 < b) : a.tdiv b = a / b ∧ a.tmod b = a % b := ⟨Int.tdiv_eq_ediv_of_nonneg ha, Int.tmod_eq_emod_of_nonneg ha⟩
theorem dig1 {c : Int} (hc : 0 ≤ c ∧ c < 16) : c.tmod 16 = c := by rw [(dm c 16 hc.1 (by omega)).2]; omega
theorem dig2 {b c : Int} (hb : 0 ≤ b ∧ b < 16) (hc : 0 ≤ c ∧ c < 16) : (16 * b + c).tmod 16 = c ∧ (16 * b + c).tdiv 16 = b := by
  rw [(dm _ 16 (by omega) (by omega)).2, (dm _ 16 (by omega) (by omega)).1]; omega
theorem dig3 {a b c : Int} (ha : 0 ≤ a ∧ a < 16) (hb : 0 ≤ b ∧ b < 16) (hc : 0 ≤ c ∧ c < 16) : (16 * (16 * a + b) + c).tmod 16 = c ∧ (16 * (16 * a + b) + c).tdiv 16 = 16 * a + b := by
  rw [(dm _ 16 (by omega) (by omega)).2, (dm _ 16 (by omega) (by omega)).1]; omega
theorem low_crd (ys : List Int) (hl : ys.length ≤ 3) (hy : ∀ y ∈ ys, 0 ≤ y ∧ y < 16) (k : Nat) (hk : k < ys.length) : crd (sx ys.length) (pkL ys) k = (pad3 ys).getD (3 - ys.length + k) 0 := by
  rcases ys with _ | ⟨a, _ | ⟨b, _ | ⟨c, _ | ⟨d, t⟩⟩⟩⟩
  · exact absurd hk (by simp)
  · have h1 := hy a (by simp)
    obtain rfl : k = 0 := by simpa using hk
    simp [crd, qR, sx, pkL, pkK, pad3, List.replicate, dig1 h1]
  · have h1 := hy a (by simp); have h2 := hy b (by simp)
    rcases (show k = 0 ∨ k = 1 by simp at hk; omega) with rfl | rfl
    · simp [crd, qR, sx, pkL, pkK, pad3, List.replicate, (dig2 h1 h2).2, dig1 h1]
    · simp [crd, qR, sx, pkL, pkK, pad3, List.replicate, (dig2 h1 h2).1]
  · have h1 := hy a (by simp); have h2 := hy b (by simp); have h3 := hy c (by simp)
    rcases (show k = 0 ∨ k = 1 ∨ k = 2 by simp at hk; omega) with rfl | rfl | rfl
    · simp [crd, qR, sx, pkL, pkK, pad3, List.replicate, (dig3 h1 h2 h3).2, (dig2 h1 h2).2, dig1 h1]
    · simp [crd, qR, sx, pkL, pkK, pad3, List.replicate, (dig3 h1 h2 h3).2, (dig2 h1 h2).1]
    · simp [crd, qR, sx, pkL, pkK, pad3, List.replicate, (dig3 h1 h2 h3).1]
  · exact absurd hl (by simp)
theorem low_box {ds cs : List Int} (hk : ckOk ds cs = true) {x : List Int} (hx : x ∈ pls (grds ds cs)) : lowL cs x = bxL ds cs (pkL x) ∧ Plc (grds ds cs) x := by
  obtain ⟨h1, h2, h3, h4, h5, h6, h7⟩ := ck_dims hk
  obtain ⟨g1, g2, g3, g4⟩ := grd_facts hk
  obtain ⟨j, hj, rfl⟩ := List.mem_map.1 hx
  rw [List.mem_range] at hj
  have hp := pos_of_count g2 (by omega)
  have hp16 : ∀ d ∈ grds ds cs, 0 < d ∧ d ≤ 16 := fun d hd => by
    obtain ⟨i, hi, rfl⟩ := List.mem_iff_getElem.1 hd
    have hi2 : i < ds.length := by rw [grds_length] at hi; exact hi
    have hg := allTo_at h6 hi2
    unfold inG at hg
    rw [getD_at _ _ hi] at hg
    exact ⟨(hp _ hd).1, of_decide_eq_true hg⟩
  have hpl := plc_of g1 hp16 j
  refine ⟨?_, hpl⟩
  have hlen : (crF (grds ds cs) j).length = ds.length := by simp [crF, crds_length, grds_length]
  have hdg : ∀ y ∈ crF (grds ds cs) j, 0 ≤ y ∧ y < 16 := fun y hy => hpl.num y (List.mem_append.2 (.inr hy))
  have hl3 : ds.length ≤ 3 := by have := grds_length ds cs; omega
  unfold lowL bxL
  rw [h3]
  refine List.map_congr_left fun k hkr => ?_
  rw [List.mem_range] at hkr
  unfold lowF bxF plsF
  rw [pad3_key _ (by omega)]
  have := low_crd (crF (grds ds cs) j) (by omega) hdg k (by omega)
  rw [hlen] at this
  rw [this, h3]
end Go.Proofs.Ytmghbgnalkkppaa
