/- The binary form of a heap of names, written and read. Pure. No statement is proved here. -/
import Derived.Test.YtabnglimchjgpaaDgn
import Derived.Test.YtabnglimchjgpaaHpP
namespace Go.Proofs.Ytabnglimchjgpaa
open Go.RowKit
set_option linter.unusedVariables false
def enN (s : ByteArray) : ByteArray := leS s.size 1 ++ s
def heT (H : ByteArray) (ss : List ByteArray) : Nat → ByteArray
  | 0 => H
  | j + 1 => heT H ss j ++ enN (hpN ss j)
def heH (ss : List ByteArray) : ByteArray := leS ss.length 1
def heF (ss : List ByteArray) : ByteArray := heT (heH ss) ss ss.length
def heV (ss : List ByteArray) : ByteArray := if hpOk ss then heF ss else ⟨#[]⟩
theorem heT_succ (H : ByteArray) (ss : List ByteArray) (j : Nat) (h : j < ss.length) : heT H ss (j + 1) = heT H ss j ++ enN ss[j] := by rw [heT, hpN_at h]
theorem enN_size (s : ByteArray) : (enN s).size = 1 + s.size := by simp only [enN, ByteArray.size_append, leS_one]
theorem heT_size {ss : List ByteArray} (h : hpOk ss = true) : ∀ j, j ≤ ss.length → (heT (heH ss) ss j).size ≤ 1 + 13 * j
  | 0, _ => by rw [heT, heH, leS_one]; omega
  | j + 1, hj => by
    have h1 := heT_size h j (by omega)
    have h2 := hp_le12 h j (by omega)
    rw [heT, ByteArray.size_append, enN_size]
    omega
def tlN : List ByteArray → ByteArray
  | [] => ByteArray.empty
  | s :: ss => enN s ++ tlN ss
theorem tlN_snoc (s : ByteArray) : ∀ ss : List ByteArray, tlN (ss ++ [s]) = tlN ss ++ enN s
  | [] => by simp [tlN]
  | a :: ss => by rw [List.cons_append, tlN, tlN_snoc s ss, tlN, ByteArray.append_assoc]
theorem heT_tl (H : ByteArray) (ss : List ByteArray) : ∀ j, j ≤ ss.length → heT H ss j = H ++ tlN (ss.take j)
  | 0, _ => by simp [heT, tlN]
  | j + 1, h => by
    rw [heT_succ _ _ j (by omega), heT_tl H ss j (by omega), ← List.take_append_getElem (by omega : j < ss.length), tlN_snoc, ByteArray.append_assoc]
theorem heF_tl (ss : List ByteArray) : heF ss = heH ss ++ tlN ss := by
  unfold heF; rw [heT_tl _ _ _ (Nat.le_refl _), List.take_length]
/-- One name, read from the start. -/
def pnN (t : ByteArray) : Nat := (nV t 1).toNat
def pnM (t : ByteArray) : ByteArray := fT (fR t 1) (pnN t)
def pnR (t : ByteArray) : ByteArray := fR (fR t 1) (pnN t)
def pnG (t : ByteArray) : Bool := decide (1 + pnN t ≤ t.size)
theorem enN_app (s u : ByteArray) : enN s ++ u = leS s.size 1 ++ (s ++ u) := by simp only [enN, ByteArray.append_assoc]
theorem pn_app {s : ByteArray} (u : ByteArray) (h : s.size < 256) : pnM (enN s ++ u) = s ∧ pnR (enN s ++ u) = u ∧ pnG (enN s ++ u) = true := by
  rw [enN_app]
  have a1 := nV_app s.size 1 (s ++ u) (by omega) (by simp only [Int.pow_one]; omega) (by omega)
  have b1 := fR_app (leS s.size 1) (s ++ u) 1 (leS_one _ _)
  have hN : pnN (leS s.size 1 ++ (s ++ u)) = s.size := by unfold pnN; rw [a1]; simp
  refine ⟨?_, ?_, ?_⟩
  · unfold pnM; rw [hN, b1, fT_app _ _ _ rfl]
  · unfold pnR; rw [hN, b1, fR_app _ _ _ rfl]
  · unfold pnG; rw [hN]; simp only [ByteArray.size_append, leS_one, decide_eq_true_eq]; omega
theorem pn_un {t : ByteArray} (h : pnG t = true) : enN (pnM t) ++ pnR t = t := by
  simp only [pnG, decide_eq_true_eq] at h
  rw [enN_app]
  have s1 := fR_size t 1
  have e0 := un0 (fR t 1) (pnN t) (by omega)
  have ez : (pnM t).size = pnN t := by unfold pnM; rw [fT_size]; omega
  have en : ((pnN t : Nat) : Int) = nV t 1 := by have := nV_in t 1; unfold pnN; omega
  rw [ez, en]
  show leS (nV t 1) 1 ++ (fT (fR t 1) (pnN t) ++ fR (fR t 1) (pnN t)) = t
  rw [e0, un1 _ (by omega)]
/-- What is left behind j names, and the names. -/
def dnR (t : ByteArray) : Nat → ByteArray
  | 0 => t
  | j + 1 => pnR (dnR t j)
def dnL (t : ByteArray) : Nat → List ByteArray
  | 0 => []
  | j + 1 => dnL t j ++ [pnM (dnR t j)]
theorem dnL_len (t : ByteArray) : ∀ j, (dnL t j).length = j
  | 0 => rfl
  | j + 1 => by rw [dnL, List.length_append, dnL_len t j]; rfl
theorem pnR_size (t : ByteArray) : (pnR t).size ≤ t.size := by unfold pnR; rw [fR_size, fR_size]; omega
theorem dnR_size (t : ByteArray) : ∀ j, (dnR t j).size ≤ t.size
  | 0 => Nat.le_refl _
  | j + 1 => by have := dnR_size t j; have := pnR_size (dnR t j); rw [dnR]; omega
theorem pnM_size (t : ByteArray) : (pnM t).size ≤ t.size := by unfold pnM; rw [fT_size, fR_size]; omega
theorem dnL_size (t : ByteArray) : ∀ j, ∀ x ∈ dnL t j, x.size ≤ t.size
  | 0, x, hx => by cases hx
  | j + 1, x, hx => by
    rw [dnL] at hx
    rcases List.mem_append.1 hx with h | h
    · exact dnL_size t j x h
    · obtain rfl : x = pnM (dnR t j) := by simpa using h
      have := pnM_size (dnR t j); have := dnR_size t j; omega
theorem nV1_lt (s : ByteArray) : nV s 1 < 256 := by
  unfold nV
  split
  · rename_i h
    unfold gV
    have hv : leVal (cutL s 0 1) < 256 := by
      unfold cutL
      cases e : s.data.toList with
      | nil => simp [leVal]
      | cons a l => have := byte_lt a; simp [leVal]; omega
    split
    · exact hv
    · omega
  · omega
def dnC (s : ByteArray) : Nat := (nV s 1).toNat
theorem dnC_le (s : ByteArray) : dnC s ≤ 255 := by have := nV1_lt s; have := nV_in s 1; unfold dnC; omega
def dn1 (s : ByteArray) : ByteArray := fR s 1
def dnM (s : ByteArray) : List ByteArray := dnL (dn1 s) (dnC s)
def dnG (s : ByteArray) (j : Nat) : Bool := pnG (dnR (dn1 s) j)
def dnX (s : ByteArray) : Bool := decide (1 ≤ s.size) && (allTo (dnG s) (dnC s) && decide ((dnR (dn1 s) (dnC s)).size = 0))
theorem tlN_un (t : ByteArray) : ∀ j, (∀ i, i < j → pnG (dnR t i) = true) → tlN (dnL t j) ++ dnR t j = t
  | 0, _ => by simp [dnL, tlN, dnR]
  | j + 1, h => by
    rw [dnL, tlN_snoc, dnR, ByteArray.append_assoc, pn_un (h j (by omega)), tlN_un t j (fun i hi => h i (by omega))]
theorem hn_un (s : ByteArray) (h : 1 ≤ s.size) : heH (dnM s) ++ dn1 s = s := by
  have en : (((dnM s).length : Nat) : Int) = nV s 1 := by
    have := nV_in s 1
    unfold dnM; rw [dnL_len]; unfold dnC; omega
  unfold heH dn1
  rw [en, un1 _ h]
theorem tlN_app {ss : List ByteArray} (h : ∀ i (hi : i < ss.length), ss[i].size < 256) : ∀ j, j ≤ ss.length → dnR (tlN ss) j = tlN (ss.drop j) ∧ dnL (tlN ss) j = ss.take j ∧ (∀ i, i < j → pnG (dnR (tlN ss) i) = true)
  | 0, _ => ⟨by simp [dnR], by simp [dnL], fun i hi => absurd hi (by omega)⟩
  | j + 1, hj => by
    obtain ⟨h1, h2, h3⟩ := tlN_app h j (by omega)
    have hm := h j (by omega)
    have e : tlN (ss.drop j) = enN ss[j] ++ tlN (ss.drop (j + 1)) := by rw [List.drop_eq_getElem_cons (by omega), tlN]
    have hp := pn_app (s := ss[j]) (tlN (ss.drop (j + 1))) hm
    rw [← e, ← h1] at hp
    refine ⟨by rw [dnR, hp.2.1], by rw [dnL, hp.1, h2, List.take_append_getElem (by omega)], fun i hi => ?_⟩
    rcases Nat.lt_or_ge i j with hij | hij
    · exact h3 i hij
    · rw [show i = j by omega]; exact hp.2.2
/-- The program's test and the model's say the same. -/
theorem dn_iff (s : ByteArray) (hok : hpOk (dnM s) = true) : dnX s = true ↔ heF (dnM s) = s := by
  constructor
  · intro h
    simp only [dnX, Bool.and_eq_true, decide_eq_true_eq] at h
    obtain ⟨h1, h2, h3⟩ := h
    have h4 : ∀ i, i < dnC s → dnG s i = true := fun i hi => allTo_at h2 hi
    have e1 := tlN_un (dn1 s) (dnC s) h4
    have e2 := hn_un s h1
    rw [mt_empty h3] at e1
    have e6 : dnM s = dnL (dn1 s) (dnC s) := by unfold dnM; rfl
    rw [heF_tl]
    rw [e6] at e2 ⊢
    have e4 : tlN (dnL (dn1 s) (dnC s)) = dn1 s := by
      have : ∀ a : ByteArray, a ++ (⟨#[]⟩ : ByteArray) = a := fun a => ByteArray.append_empty
      rw [this] at e1
      exact e1
    rw [e4]
    exact e2
  · intro h
    have hm : ∀ i (hi : i < (dnM s).length), (dnM s)[i].size < 256 := fun i hi => by
      have := hp_le12 hok i hi
      rw [hpN_at hi] at this
      omega
    have hl0 := (hpOk_iff.1 hok).1
    generalize dnM s = ss at *
    rw [heF_tl] at h
    have es : s = leS ss.length 1 ++ tlN ss := h.symm
    have a3 := nV_app ss.length 1 (tlN ss) (by omega) (by simp only [Int.pow_one]; omega) (by omega)
    have b3 := fR_app (leS ss.length 1) (tlN ss) 1 (leS_one _ _)
    have hC : dnC s = ss.length := by unfold dnC; rw [es, a3]; simp
    have h3 : dn1 s = tlN ss := by unfold dn1; rw [es, b3]
    obtain ⟨t1, t2, t3⟩ := tlN_app hm ss.length (Nat.le_refl _)
    simp only [dnX, Bool.and_eq_true, decide_eq_true_eq]
    rw [hC, h3, t1]
    refine ⟨by rw [es]; simp only [ByteArray.size_append, leS_one]; omega, ?_, by simp [tlN]⟩
    refine allTo_h _ _ (fun i hi => ?_)
    unfold dnG
    rw [h3]
    exact t3 i hi
/-- What DecodeHeap answers. -/
def deO (s : ByteArray) : Bool := hpOk (dnM s) && dnX s
def deL (s : ByteArray) : List ByteArray := if deO s then dnM s else []
theorem deO_prog (s : ByteArray) : deO s = (hpOk (dnM s) && decide (heV (dnM s) = s)) := by
  unfold deO
  cases h : hpOk (dnM s)
  · rfl
  · have := dn_iff s h
    unfold heV
    rw [h]
    simp only [Bool.true_and, if_true]
    cases hx : dnX s
    · rw [hx] at this
      symm
      rw [decide_eq_false_iff_not]
      intro e
      have := this.2 e
      cases this
    · rw [hx] at this
      symm
      rw [decide_eq_true_eq]
      exact this.1 rfl
end Go.Proofs.Ytabnglimchjgpaa
