/- The heap of names, without memory: which lists are valid, where a name is, which slot is filled next. No statement is proved here. -/
import Derived.Test.YtabnglimchjgpaaName
import Derived.Test.YtabnglimchjgpaaDim
namespace Go.Proofs.Ytabnglimchjgpaa
open Go.RowKit
set_option linter.unusedVariables false
def hpN (ss : List ByteArray) (i : Nat) : ByteArray := ss.getD i ⟨#[]⟩
theorem hpN_at {ss : List ByteArray} {i : Nat} (h : i < ss.length) : hpN ss i = ss[i] := by unfold hpN; rw [List.getD_eq_getElem?_getD, List.getElem?_eq_getElem h]; rfl
theorem hpN_out {ss : List ByteArray} {i : Nat} (h : ss.length ≤ i) : hpN ss i = ⟨#[]⟩ := by unfold hpN; rw [List.getD_eq_getElem?_getD, List.getElem?_eq_none h]; rfl
def hpAt (ss : List ByteArray) (i : Nat) : Bool := decide ((hpN ss i).size = 0) || nameS (hpN ss i)
def hpEnd (ss : List ByteArray) : Bool := decide (ss.length = 0) || decide ((hpN ss (ss.length - 1)).size ≠ 0)
def hpOk (ss : List ByteArray) : Bool := decide (ss.length ≤ 30) && (hpEnd ss && allTo (hpAt ss) ss.length)
theorem hpOk_long {ss : List ByteArray} (h : ¬ ss.length ≤ 30) : hpOk ss = false := by simp [hpOk, h]
theorem hpOk_end {ss : List ByteArray} (h : hpEnd ss = false) : hpOk ss = false := by simp [hpOk, h]
theorem hpOk_bad {ss : List ByteArray} {k : Nat} (hk : k < ss.length) (h : hpAt ss k = false) : hpOk ss = false := by simp [hpOk, allTo_bad _ k _ hk h]
theorem hpOk_y {ss : List ByteArray} (h : ss.length ≤ 30) (h2 : hpEnd ss = true) (h3 : allTo (hpAt ss) ss.length = true) : hpOk ss = true := by simp [hpOk, h, h2, h3]
theorem hpOk_iff {ss : List ByteArray} : hpOk ss = true ↔ ss.length ≤ 30 ∧ hpEnd ss = true ∧ allTo (hpAt ss) ss.length = true := by simp [hpOk]
theorem hpEnd_nil {ss : List ByteArray} (h : ss.length = 0) : hpEnd ss = true := by simp [hpEnd, h]
theorem hpEnd_last {ss : List ByteArray} (h : ss.length ≠ 0) : hpEnd ss = decide (ss[ss.length - 1].size ≠ 0) := by simp [hpEnd, h, hpN_at (show ss.length - 1 < ss.length by omega)]
theorem hp_le12 {ss : List ByteArray} (h : hpOk ss = true) : ∀ i, i < ss.length → (hpN ss i).size ≤ 12 := fun i hi => by
  have := allTo_at (hpOk_iff.1 h).2.2 hi
  simp only [hpAt, Bool.or_eq_true, decide_eq_true_eq, nameS, Bool.and_eq_true] at this
  omega
theorem mt_empty {s : ByteArray} (h : s.size = 0) : s = ⟨#[]⟩ := by
  apply ByteArray.ext
  exact Array.eq_empty_of_size_eq_zero h
theorem mt_nil : (⟨#[]⟩ : ByteArray).toList.isEmpty = true := by unfold ByteArray.toList ByteArray.toList.loop; rfl
theorem mt_isEmpty {s : ByteArray} (h : s.size = 0) : s.toList.isEmpty = true := by rw [mt_empty h]; exact mt_nil
/-- Where a text is first. -/
def slF : List ByteArray → ByteArray → Option Nat
  | [], _ => none
  | p :: ps, b => if p = b then some 0 else (slF ps b).map (· + 1)
theorem slF_none {ss : List ByteArray} {b : ByteArray} (h : ∀ i (hi : i < ss.length), ss[i] ≠ b) : slF ss b = none := by
  induction ss with
  | nil => rfl
  | cons p ps ih =>
    rw [slF, if_neg (show ¬ p = b from h 0 (by simp)), ih (fun i hi => h (i + 1) (by simpa using hi))]; rfl
theorem slF_some {ss : List ByteArray} {b : ByteArray} : ∀ {k : Nat} (hk : k < ss.length), ss[k] = b → (∀ i (hi : i < ss.length), i < k → ss[i] ≠ b) → slF ss b = some k := by
  induction ss with
  | nil => intro k hk; simp at hk
  | cons p ps ih =>
    intro k hk he hall
    cases k with
    | zero => rw [slF, if_pos (show p = b from he)]
    | succ k =>
      rw [slF, if_neg (show ¬ p = b from hall 0 (by simp) (by omega)), ih (k := k) (by simpa using hk) (by simpa using he) (fun i hi hik => hall (i + 1) (by simpa using hi) (by omega))]; rfl
theorem slF_spec {ss : List ByteArray} {b : ByteArray} : (slF ss b = none ∧ ∀ i (hi : i < ss.length), ss[i] ≠ b) ∨ ∃ k, ∃ hk : k < ss.length, slF ss b = some k ∧ ss[k] = b ∧ ∀ i (hi : i < ss.length), i < k → ss[i] ≠ b := by
  induction ss with
  | nil => exact .inl ⟨rfl, fun i hi => by simp at hi⟩
  | cons p ps ih =>
    by_cases hp : p = b
    · exact .inr ⟨0, by simp, by rw [slF, if_pos hp], hp, fun i _ hi => absurd hi (by omega)⟩
    · rcases ih with ⟨h1, h2⟩ | ⟨k, hk, h1, h2, h3⟩
      · refine .inl ⟨by rw [slF, if_neg hp, h1]; rfl, fun i hi => ?_⟩
        cases i with
        | zero => exact hp
        | succ i => exact h2 i (by simpa using hi)
      · refine .inr ⟨k + 1, by simpa using hk, by rw [slF, if_neg hp, h1]; rfl, by simpa using h2, fun i hi hik => ?_⟩
        cases i with
        | zero => exact hp
        | succ i => exact h3 i (by simpa using hi) (by omega)
def slI (ss : List ByteArray) (b : ByteArray) : Int := match slF ss b with | some k => (k : Int) | none => -1
theorem slI_some {ss : List ByteArray} {b : ByteArray} {k : Nat} (hk : k < ss.length) (h : ss[k] = b) (h2 : ∀ i (hi : i < ss.length), i < k → ss[i] ≠ b) : slI ss b = (k : Int) := by unfold slI; rw [slF_some hk h h2]
theorem slI_none {ss : List ByteArray} {b : ByteArray} (h : ∀ i (hi : i < ss.length), ss[i] ≠ b) : slI ss b = -1 := by unfold slI; rw [slF_none h]
/-- The slot with a name; -1. -/
def slV (ss : List ByteArray) (b : ByteArray) : Int := if hpOk ss && decide (b.size ≠ 0) then slI ss b else -1
/-- The name in a slot. -/
def naY (ss : List ByteArray) (k : Int) : Bool := hpOk ss && (inB k 0 ((ss.length : Int) - 1) && decide ((hpN ss k.toNat).size ≠ 0))
def naX (ss : List ByteArray) (k : Int) : ByteArray := if naY ss k then hpN ss k.toNat else ⟨#[]⟩
/-- How many slots remain without the free ones at the end. -/
def trN (ss : List ByteArray) : Nat → Nat
  | 0 => 0
  | n + 1 => if (hpN ss n).size = 0 then trN ss n else n + 1
theorem trN_le (ss : List ByteArray) : ∀ n, trN ss n ≤ n
  | 0 => Nat.le_refl _
  | n + 1 => by
    unfold trN
    split
    · have := trN_le ss n; omega
    · exact Nat.le_refl _
theorem trN_step {ss : List ByteArray} {n : Nat} (h : (hpN ss n).size = 0) : trN ss (n + 1) = trN ss n := by rw [trN, if_pos h]
theorem trN_stop {ss : List ByteArray} {n : Nat} (h : (hpN ss n).size ≠ 0) : trN ss (n + 1) = n + 1 := by rw [trN, if_neg h]
def dpM (ss : List ByteArray) (k : Nat) : List ByteArray := ss.set k ⟨#[]⟩
def dpT (ss : List ByteArray) (k : Nat) : List ByteArray := (dpM ss k).take (trN (dpM ss k) (dpM ss k).length)
def dpL (ss : List ByteArray) (k : Int) : List ByteArray := if naY ss k then dpT ss k.toNat else []
def dpC (ss : List ByteArray) (k : Int) : Int := if hpOk ss then (if naY ss k then 0 else 3) else 1
/-- A slot that may be filled. -/
def frB (ss : List ByteArray) (j : Nat) : Bool := decide ((hpN ss j).size = 0)
/-- The first slot from 30 - n on that may be filled. -/
def fd (ss : List ByteArray) : Nat → Option Nat
  | 0 => none
  | n + 1 => if frB ss (29 - n) then some (29 - n) else fd ss n
theorem fd_spec (ss : List ByteArray) : ∀ n, n ≤ 30 → (fd ss n = none ∧ ∀ j, 30 - n ≤ j → j < 30 → frB ss j = false) ∨ ∃ m, fd ss n = some m ∧ 30 - n ≤ m ∧ m < 30 ∧ frB ss m = true ∧ ∀ j, 30 - n ≤ j → j < m → frB ss j = false
  | 0, _ => .inl ⟨rfl, fun j h1 h2 => by omega⟩
  | n + 1, hn => by
    unfold fd
    by_cases h : frB ss (29 - n) = true
    · rw [if_pos h]
      exact .inr ⟨29 - n, rfl, by omega, by omega, h, fun j h1 h2 => by omega⟩
    · rw [if_neg h]
      have hf : frB ss (29 - n) = false := by simpa using h
      have key : ∀ j, 30 - (n + 1) ≤ j → (30 - n ≤ j → frB ss j = false) → frB ss j = false := fun j h1 h2 => by
        by_cases e : j = 29 - n
        · rw [e]; exact hf
        · exact h2 (by omega)
      rcases fd_spec ss n (by omega) with ⟨h1, h2⟩ | ⟨m, h1, h2, h3, h4, h5⟩
      · exact .inl ⟨h1, fun j hj hj2 => key j hj fun h => h2 j h hj2⟩
      · exact .inr ⟨m, h1, by omega, h3, h4, fun j hj hj2 => key j hj fun h => h5 j h hj2⟩
/-- The first free slot by the model: the first empty text, or the place behind the last one. -/
theorem fd_slot {ss : List ByteArray} (h : ss.length ≤ 30) : (∃ k, ∃ hk : k < ss.length, slI ss ⟨#[]⟩ = (k : Int) ∧ fd ss 30 = some k) ∨ (slI ss ⟨#[]⟩ = -1 ∧ ss.length < 30 ∧ fd ss 30 = some ss.length) ∨ (slI ss ⟨#[]⟩ = -1 ∧ ss.length = 30 ∧ fd ss 30 = none) := by
  have hfr : ∀ i (hi : i < ss.length), (frB ss i = true ↔ ss[i] = ⟨#[]⟩) := fun i hi => by
    unfold frB; rw [hpN_at hi, decide_eq_true_eq]
    exact ⟨mt_empty, fun e => by rw [e]; rfl⟩
  have hout : ∀ i, ss.length ≤ i → frB ss i = true := fun i hi => by unfold frB; rw [hpN_out hi]; rfl
  rcases slF_spec (ss := ss) (b := ⟨#[]⟩) with ⟨h1, h2⟩ | ⟨k, hk, h1, h2, h3⟩
  · have e : slI ss ⟨#[]⟩ = -1 := by unfold slI; rw [h1]
    have hall : ∀ i, i < ss.length → frB ss i = false := fun i hi => by
      have := h2 i hi
      rw [← Bool.not_eq_true]
      exact fun h => this ((hfr i hi).1 h)
    rcases fd_spec ss 30 (Nat.le_refl _) with ⟨g1, g2⟩ | ⟨m, g1, g2, g3, g4, g5⟩
    · by_cases hl : ss.length = 30
      · exact .inr (.inr ⟨e, hl, g1⟩)
      · have := g2 ss.length (by omega) (by omega)
        rw [hout _ (Nat.le_refl _)] at this; cases this
    · have hm : ss.length ≤ m := by
        rcases Nat.lt_or_ge m ss.length with h' | h'
        · rw [hall m h'] at g4; cases g4
        · exact h'
      have hm2 : m = ss.length := by
        rcases Nat.lt_or_ge ss.length m with h' | h'
        · have := g5 ss.length (by omega) h'
          rw [hout _ (Nat.le_refl _)] at this; cases this
        · omega
      exact .inr (.inl ⟨e, by omega, by rw [g1, hm2]⟩)
  · have e : slI ss ⟨#[]⟩ = (k : Int) := by unfold slI; rw [h1]
    have hk2 : frB ss k = true := (hfr k hk).2 h2
    rcases fd_spec ss 30 (Nat.le_refl _) with ⟨g1, g2⟩ | ⟨m, g1, g2, g3, g4, g5⟩
    · have := g2 k (by omega) (by omega)
      rw [hk2] at this; cases this
    · refine .inl ⟨k, hk, e, ?_⟩
      rw [g1]
      congr 1
      rcases Nat.lt_trichotomy m k with h' | h' | h'
      · exact absurd ((hfr m (by omega)).1 g4) (h3 m (by omega) h')
      · exact h'
      · have := g5 k (by omega) h'
        rw [hk2] at this; cases this
/-- What PutName answers. -/
def ptG (ss : List ByteArray) (nm : ByteArray) : Bool := hpOk ss && nameS nm
def ptO (ss : List ByteArray) (nm : ByteArray) : Bool := ptG ss nm && (fd ss 30).isSome
def ptW (ss : List ByteArray) (nm : ByteArray) (k : Nat) : List ByteArray := if k < ss.length then ss.set k nm else ss ++ [nm]
def ptL (ss : List ByteArray) (nm : ByteArray) : List ByteArray := if ptO ss nm then ptW ss nm ((fd ss 30).getD 0) else []
def ptK (ss : List ByteArray) (nm : ByteArray) : Int := if ptO ss nm then (((fd ss 30).getD 0 : Nat) : Int) else 0
def ptC (ss : List ByteArray) (nm : ByteArray) : Int := if ptG ss nm then (if (fd ss 30).isSome then 0 else 5) else 1
end Go.Proofs.Ytabnglimchjgpaa
