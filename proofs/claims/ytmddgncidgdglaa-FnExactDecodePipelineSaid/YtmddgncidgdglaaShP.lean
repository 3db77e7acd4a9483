/- What shuffled bytes are, in plain words, and a row of bytes as a string. No statement is proved here. -/
import Derived.Test.YtmddgncidgdglaaRev
namespace Go.Proofs.Ytmddgncidgdglaa
open Go.RowKit
set_option linter.unusedVariables false
/-- The byte at place i of a list whose first R * C bytes, a table row by row, stand column by column. -/
def shAt (a : List UInt8) (R C i : Nat) : UInt8 := if i < R * C then a.getD (i % R * C + i / R) 0 else a.getD i 0
def shP (a : List UInt8) (R C t : Nat) : List UInt8 := (List.range t).map (shAt a R C)
def shS (s : ByteArray) (R C : Nat) : ByteArray := ⟨(shP s.data.toList R C s.size).toArray⟩
theorem shP_length (a : List UInt8) (R C t : Nat) : (shP a R C t).length = t := by simp [shP]
theorem shP_zero (a : List UInt8) (R C : Nat) : shP a R C 0 = [] := rfl
theorem shP_succ (a : List UInt8) (R C t : Nat) : shP a R C (t + 1) = shP a R C t ++ [shAt a R C t] := by simp [shP, List.range_succ]
theorem sh_lt {R C i k : Nat} (hi : i < R) (hk : k < C) : k * R + i < R * C := by
  have h1 : (k + 1) * R ≤ C * R := Nat.mul_le_mul_right R hk
  rw [Nat.mul_comm C R, Nat.succ_mul] at h1
  omega
theorem sh_lt2 {R C i k : Nat} (hi : i < R) (hk : k < C) : i * C + k < R * C := by
  have h1 : (i + 1) * C ≤ R * C := Nat.mul_le_mul_right C hi
  rw [Nat.succ_mul] at h1
  omega
theorem sh_mod {R i k : Nat} (hi : i < R) : (k * R + i) % R = i := by rw [Nat.mul_comm, Nat.mul_add_mod]; exact Nat.mod_eq_of_lt hi
theorem sh_div {R i k : Nat} (hi : i < R) : (k * R + i) / R = k := by rw [Nat.mul_comm, Nat.mul_add_div (by omega), Nat.div_eq_of_lt hi]; omega
theorem shAt_in (a : List UInt8) {R C i k : Nat} (hi : i < R) (hk : k < C) : shAt a R C (k * R + i) = a.getD (i * C + k) 0 := by
  unfold shAt
  rw [if_pos (sh_lt hi hk), sh_mod hi, sh_div hi]
theorem shP_rest (a : List UInt8) (R C : Nat) (h : R * C ≤ a.length) : shP a R C (R * C) ++ a.drop (R * C) = shP a R C a.length := by
  apply List.ext_getElem (by simp [shP_length]; omega)
  intro i h1 h2
  rw [shP_length] at h2
  by_cases hi : i < R * C
  · rw [List.getElem_append_left (by rw [shP_length]; exact hi)]
    simp [shP]
  · rw [List.getElem_append_right (by rw [shP_length]; omega)]
    simp only [shP, List.getElem_map, List.getElem_range, List.getElem_drop, List.length_map, List.length_range]
    unfold shAt
    rw [if_neg hi, List.getD_eq_getElem?_getD]
    rw [List.getElem?_eq_getElem h2]
    simp only [Option.getD_some]
    congr 1
    omega
/-- The table when its first t bytes, row by row, have been moved. -/
def tbAt (a : List UInt8) (R C t i : Nat) : UInt8 := if i < R * C ∧ i % R * C + i / R < t then a.getD (i % R * C + i / R) 0 else a.getD i 0
theorem tbAt_zero (a : List UInt8) (R C i : Nat) : tbAt a R C 0 i = a.getD i 0 := by unfold tbAt; rw [if_neg (fun hh => Nat.not_lt_zero _ hh.2)]
theorem tbAt_end (a : List UInt8) (R C i : Nat) : tbAt a R C (R * C) i = shAt a R C i := by
  unfold tbAt shAt
  by_cases h : i < R * C
  · have hR : 0 < R := by
      rcases Nat.eq_zero_or_pos R with rfl | h2
      · simp at h
      · exact h2
    rw [if_pos h, if_pos ⟨h, sh_lt2 (Nat.mod_lt _ hR) (Nat.div_lt_of_lt_mul h)⟩]
  · rw [if_neg h, if_neg (fun hh => h hh.1)]
theorem tbAt_succ (a : List UInt8) {R C r k : Nat} (hr : r < R) (hk : k < C) (j : Nat) : (if j = k * R + r then a.getD (r * C + k) 0 else tbAt a R C (r * C + k) j) = tbAt a R C (r * C + k + 1) j := by
  by_cases e : j = k * R + r
  · subst e
    rw [if_pos rfl]
    unfold tbAt
    rw [sh_mod hr, sh_div hr, if_pos ⟨sh_lt hr hk, by omega⟩]
  · rw [if_neg e]
    unfold tbAt
    by_cases hj : j < R * C
    · have hne : j % R * C + j / R ≠ r * C + k := by
        intro h
        have hd : j / R < C := Nat.div_lt_of_lt_mul hj
        have h1 : j % R = r := by
          have := congrArg (· / C) h
          simp only [sh_div hd, sh_div hk] at this
          exact this
        have h2 : j / R = k := by
          have := congrArg (· % C) h
          simp only [sh_mod hd, sh_mod hk] at this
          exact this
        apply e
        have := Nat.div_add_mod j R
        rw [h1, h2, Nat.mul_comm] at this
        exact this.symm
      by_cases hl : j % R * C + j / R < r * C + k
      · rw [if_pos ⟨hj, hl⟩, if_pos ⟨hj, by omega⟩]
      · rw [if_neg (by omega), if_neg (by omega)]
    · rw [if_neg (by omega), if_neg (by omega)]
theorem tb_row {C r : Nat} : (r + 1) * C = r * C + C := Nat.succ_mul r C
theorem row_list (n : Nat) (c : Nat → UInt8) : ((List.range n).map c).length = n := by simp
theorem row_conv (n : Nat) (c : Nat → UInt8) (w : World) (g cap : Nat) (h : RowB w g n c) : (convert 62 9 (.slice (some ⟨g, 0, none⟩) n cap)).run Try.prog w = .ok (.string ⟨((List.range n).map c).toArray⟩) w := by
  have h1 := run_convert_bytes_back w 62 9 5 ⟨g, 0, none⟩ cap ((List.range n).map c) Try.underlying62 Try.underlying5 Try.underlying9 (fun j hj => by
    rw [row_list] at hj
    rw [add_none, (h j hj).1]
    simp [bv])
  rw [row_list] at h1
  exact h1
theorem getD_byte (s : ByteArray) (j : Nat) (hj : j < s.size) : s.data.toList.getD j 0 = s[j]'hj := by
  rw [List.getD_eq_getElem?_getD, List.getElem?_eq_getElem (by simpa using hj)]
  rfl
end Go.Proofs.Ytmddgncidgdglaa
