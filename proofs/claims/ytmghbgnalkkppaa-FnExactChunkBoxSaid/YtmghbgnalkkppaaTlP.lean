/- Chunks: pure facts for the program's side. No statement is proved here. -/
import Derived.Test.YtmghbgnalkkppaaGrE
namespace Go.Proofs.Ytmghbgnalkkppaa
open Go.RowKit
set_option linter.unusedVariables false
theorem foldl_pos (l : List Int) (a : Int) (ha : 1 ≤ a) (h : ∀ d ∈ l, 1 ≤ d) : 1 ≤ l.foldl (· * ·) a := by
  induction l generalizing a with
  | nil => exact ha
  | cons x l ih =>
    rw [List.foldl_cons]
    refine ih _ ?_ (fun d hd => h d (by simp [hd]))
    have h1 := h x (by simp)
    have : (0 : Int) < a * x := Int.mul_pos (by omega) (by omega)
    omega
theorem prod_pos {cs : List Int} (h : allTo (inC cs) cs.length = true) : 1 ≤ prodL cs := by
  unfold prodL prodK
  rw [List.take_length]
  refine foldl_pos cs 1 (by omega) fun d hd => ?_
  obtain ⟨k, hk, rfl⟩ := List.mem_iff_getElem.1 hd
  have hb := allTo_at h hk
  rw [inC_at _ _ hk, inB_iff] at hb
  exact hb.1
/-- The program's words for a division into chunks. -/
theorem ck_dims {ds cs : List Int} (h : ckOk ds cs = true) : dimsOk ds = true ∧ dimsOk cs = true ∧ cs.length = ds.length ∧ 1 ≤ prodL cs ∧ prodL cs ≤ 64 ∧ allTo (inG (grds ds cs)) ds.length = true ∧ prodL (grds ds cs) ≤ 256 := by
  obtain ⟨h1, h2, h3, h4, h5, h6⟩ := ckOk_iff h
  obtain ⟨k1, k2, k3, k4, k5⟩ := ck_facts h
  have hc : dimsOk cs = true := by
    rw [dimsOk_end (by omega) (inC_inD cs h3)]
    exact decide_eq_true (by omega)
  exact ⟨h1, hc, h2, prod_pos h3, h5, h4, h6⟩
theorem inC_of {cs : List Int} (hc : dimsOk cs = true) (h1 : 1 ≤ prodL cs) : allTo (inC cs) cs.length = true := by
  obtain ⟨a, b, c⟩ := dimsOk_iff hc
  have hp := pos_of_count b (by omega)
  unfold allTo
  rw [List.all_eq_true]
  intro j hj
  rw [List.mem_range] at hj
  have := hp cs[j] (List.getElem_mem hj)
  rw [inC_at _ _ hj]
  exact inB_iff.2 (by omega)
theorem ck_mk {ds cs : List Int} (h1 : dimsOk ds = true) (h2 : dimsOk cs = true) (h3 : cs.length = ds.length) (h4 : 1 ≤ prodL cs) (h5 : prodL cs ≤ 64) (h6 : allTo (inG (grds ds cs)) ds.length = true) (h7 : prodL (grds ds cs) ≤ 256) : ckOk ds cs = true := by
  have := inC_of h2 h4
  unfold ckOk
  simp [h1, h3, h6, h7, h5, h3 ▸ this]
theorem ck_not {ds cs : List Int} (h : dimsOk ds = false ∨ dimsOk cs = false ∨ cs.length ≠ ds.length ∨ prodL cs < 1 ∨ 64 < prodL cs ∨ allTo (inG (grds ds cs)) ds.length = false ∨ 256 < prodL (grds ds cs)) : ckOk ds cs = false := by
  cases hk : ckOk ds cs
  · rfl
  · obtain ⟨h1, h2, h3, h4, h5, h6, h7⟩ := ck_dims hk
    rcases h with h | h | h | h | h | h | h
    · rw [h1] at h; cases h
    · rw [h2] at h; cases h
    · exact absurd h3 h
    · omega
    · omega
    · rw [h6] at h; cases h
    · omega
/-- A place in the grid as three numbers. -/
def pad3 (xs : List Int) : List Int := List.replicate (3 - xs.length) 0 ++ xs
theorem pad3_len {xs : List Int} (h : xs.length ≤ 3) : (pad3 xs).length = 3 := by simp [pad3]; omega
theorem pad3_key (xs : List Int) (h : xs.length ≤ 3) : pkL (pad3 xs) = pkL xs := by
  rcases xs with _ | ⟨a, _ | ⟨b, _ | ⟨c, _ | ⟨d, t⟩⟩⟩⟩
  · rfl
  · simp [pad3, pkL, pkK, List.replicate]
  · simp [pad3, pkL, pkK]
  · simp [pad3, pkL, pkK]
  · exact absurd h (by simp)
theorem pad3_inj {xs ys : List Int} (hl : xs.length = ys.length) (h : pad3 xs = pad3 ys) : xs = ys := by
  unfold pad3 at h
  rw [hl] at h
  exact List.append_cancel_left h
def aggI (xs : List Int) : Value := .agg (cellsI xs)
/-- Numbers of one digit each are known by their key. -/
theorem pkL_inj {xs ys : List Int} (hl : xs.length = 3) (hl2 : ys.length = 3) (hx : ∀ x ∈ xs, 0 ≤ x ∧ x < 16) (hy : ∀ x ∈ ys, 0 ≤ x ∧ x < 16) (h : pkL xs = pkL ys) : xs = ys := by
  rcases xs with _ | ⟨a, _ | ⟨b, _ | ⟨c, _ | ⟨d, t⟩⟩⟩⟩ <;> simp at hl
  rcases ys with _ | ⟨a', _ | ⟨b', _ | ⟨c', _ | ⟨d', t'⟩⟩⟩⟩ <;> simp at hl2
  simp [pkL, pkK] at h
  have := hx a (by simp); have := hx b (by simp); have := hx c (by simp)
  have := hy a' (by simp); have := hy b' (by simp); have := hy c' (by simp)
  obtain rfl : a = a' := by omega
  obtain rfl : b = b' := by omega
  obtain rfl : c = c' := by omega
  rfl
/-- The places of all chunks, in the order of their keys. -/
def crF (gs : List Int) (k : Nat) : List Int := crds gs (k : Int)
def els (gs : List Int) (n : Nat) : List (List Int) := (List.range n).map (crF gs)
def plsF (gs : List Int) (k : Nat) : List Int := pad3 (crF gs k)
def pls (gs : List Int) : List (List Int) := (List.range (prodL gs).toNat).map (plsF gs)
theorem els_pls (gs : List Int) : (els gs (prodL gs).toNat).map pad3 = pls gs := by simp [els, pls, plsF]
theorem kys_pls (gs : List Int) (h : gs.length ≤ 3) : (pls gs).map pkL = kys gs := by
  simp only [pls, kys, List.map_map]
  refine List.map_congr_left fun k _ => ?_
  simp only [Function.comp, plsF, crF, kyF]
  exact pad3_key _ (by rw [crds_length]; exact h)
/-- A place of a grid that has at most 16 chunks in each dimension. -/
structure Plc (gs : List Int) (x : List Int) : Prop where
  len : x.length = 3
  num : ∀ y ∈ x, 0 ≤ y ∧ y < 16
theorem plc_of {gs : List Int} (hl : gs.length ≤ 3) (hp : ∀ d ∈ gs, 0 < d ∧ d ≤ 16) (k : Nat) : Plc gs (plsF gs k) := by
  refine ⟨pad3_len (by rw [crF, crds_length]; exact hl), fun y hy => ?_⟩
  rcases List.mem_append.1 hy with h | h
  · rw [(List.mem_replicate.1 h).2]; omega
  · obtain ⟨j, hj, rfl⟩ := List.mem_iff_getElem.1 h
    have hj2 : j < gs.length := by rw [crF, crds_length] at hj; exact hj
    have hb := crd_bd gs (k : Int) (by omega) (fun d hd => (hp d hd).1) j hj2
    have := (hp gs[j] (List.getElem_mem hj2)).2
    simp only [crF, crds_at]
    omega
theorem gridE_len (ds cs : List Int) : (gridE ds cs).length ≤ 1048576 := by
  unfold gridE
  split
  · rename_i h
    have := (grd_facts h).1
    omega
  · simp
theorem gridE_in (ds cs : List Int) : ∀ x ∈ gridE ds cs, InI x := by
  unfold gridE
  split
  · rename_i h
    obtain ⟨a, b, -, -⟩ := grd_facts h
    intro x hx
    obtain ⟨k, hk, rfl⟩ := List.mem_iff_getElem.1 hx
    have hb := allTo_at b hk
    rw [inD_at _ _ hk, inB_iff] at hb
    unfold InI
    omega
  · intro x hx; simp at hx
theorem kys_length (gs : List Int) : (kys gs).length = (prodL gs).toNat := by simp [kys]
theorem kys_in {gs : List Int} (hl : gs.length ≤ 3) (hd : allTo (inD gs) gs.length = true) : ∀ x ∈ kys gs, InI x := by
  intro x hx
  obtain ⟨k, hk, rfl⟩ := List.mem_map.1 hx
  rw [List.mem_range] at hk
  have hp := pos_of_count hd (by omega)
  have h2 := pkK_small (crds gs (k : Int)) (by rw [crds_length]; exact hl) (crds_inD hp _ (by omega)) _ (Nat.le_refl _)
  have h3 : kyF gs k = pkK (crds gs (k : Int)) (crds gs (k : Int)).length := rfl
  rw [h3]
  unfold InI
  omega
theorem keysE_len (ds cs : List Int) : (keysE ds cs).length ≤ 1048576 := by
  unfold keysE
  split
  · rename_i h
    have := (grd_facts h).2.2
    rw [kys_length]
    omega
  · simp
theorem keysE_in (ds cs : List Int) : ∀ x ∈ keysE ds cs, InI x := by
  unfold keysE
  split
  · rename_i h
    obtain ⟨a, b, -, -⟩ := grd_facts h
    exact kys_in a b
  · intro x hx; simp at hx
theorem lostE_len (ds fs cs : List Int) : (lostE ds fs cs).length ≤ 1048576 := by
  unfold lostE
  split
  · rename_i h
    have h1 := (grd_facts (twoE_iff h).1).2.2
    have h2 := List.length_filter_le (notIn (kys (grds fs cs))) (kys (grds ds cs))
    rw [kys_length] at h2
    omega
  · simp
theorem lostE_in (ds fs cs : List Int) : ∀ x ∈ lostE ds fs cs, InI x := by
  unfold lostE
  split
  · rename_i h
    obtain ⟨a, b, -, -⟩ := grd_facts (twoE_iff h).1
    exact fun x hx => kys_in a b x (List.mem_filter.1 hx).1
  · intro x hx; simp at hx
theorem elE_bd (ds fs cs : List Int) (key : Int) : (elE ds fs cs key).length ≤ 1048576 ∧ ∀ x ∈ elE ds fs cs key, InI x := by
  unfold elE
  split
  · rename_i h
    obtain ⟨-, -, -, -, h5, -, -⟩ := ck_dims (twoE_iff h.1).1
    have hn : (prodL cs).toNat ≤ 64 := by omega
    have := elF_len ds fs cs key (prodL cs).toNat
    refine ⟨by omega, fun x hx => ?_⟩
    have hx2 := (List.mem_filter.1 hx).1
    obtain ⟨j, hj, rfl⟩ := List.mem_map.1 hx2
    rw [List.mem_range] at hj
    unfold InI
    simp only [Int.ofNat_eq_natCast]
    omega
  · exact ⟨by simp, fun x hx => by simp at hx⟩
end Go.Proofs.Ytmghbgnalkkppaa
