/- Plain facts of hexadecimal digits: read back what was written, and the other way. No statement is proved here. -/
import Derived.Test.YtjfkfnmbppmbpaaReadHex
import Derived.Test.YtjfkfnmbppmbpaaHex2
import Derived.Test.YtjfkfnmbppmbpaaRev
namespace Go.Proofs.Ytjfkfnmbppmbpaa
open Go.RowKit
set_option linter.unusedVariables false
theorem unhex_hexC : ∀ q : Fin 16, unhex (hexC q.val) = (q.val : Int) := by decide +kernel
theorem hexC_unhex : ∀ n : Fin 256, unhex (UInt8.ofNat n.val) = -1 ∨ hexC (unhex (UInt8.ofNat n.val)).toNat = UInt8.ofNat n.val := by decide +kernel
theorem hexC_of (b : UInt8) (h : 0 ≤ unhex b) : hexC (unhex b).toNat = b := by
  have := hexC_unhex ⟨b.toNat, byte_lt b⟩
  rcases this with e | e
  · simp at e; omega
  · simpa using e
theorem hexL_at : ∀ (l : List UInt8) (i : Nat) (h : i < l.length), (hexL l).getD (2 * i) 0 = hexC ((l[i]'h).toNat / 16) ∧ (hexL l).getD (2 * i + 1) 0 = hexC ((l[i]'h).toNat % 16)
  | [], i, h => by simp at h
  | b :: l, 0, h => by simp [hexL, hex2]
  | b :: l, i + 1, h => by
    have ih := hexL_at l i (by simpa using h)
    have e : hexL (b :: l) = hexC (b.toNat / 16) :: hexC (b.toNat % 16) :: hexL l := by simp [hexL, hex2]
    rw [e, show 2 * (i + 1) = (2 * i + 1) + 1 from by omega, show (2 * i + 1) + 1 + 1 = (2 * i + 1 + 1) + 1 from rfl]
    simp only [List.getD_cons_succ, List.getElem_cons_succ]
    exact ih
theorem hexS_size (s : ByteArray) : (hexS s).size = 2 * s.size := by
  have h : (hexS s).size = (hexL s.data.toList).length := by unfold hexS; simp [ByteArray.size]
  rw [h, hexL_length]; simp
theorem hexS_list (s : ByteArray) : (hexS s).data.toList = hexL s.data.toList := by unfold hexS; simp
theorem rdHex_hexS (s : ByteArray) : rdHex (hexS s) = .tuple #[.string s, .bool true] := by
  have hl : s.data.toList.length = s.size := by simp
  have h2 : (hexS s).size / 2 = s.size := by rw [hexS_size]; omega
  have hx : ∀ i (h : i < s.data.toList.length), hxAt (hexS s) (2 * i) = ((s.data.toList[i]'h).toNat / 16 : Nat) ∧ hxAt (hexS s) (2 * i + 1) = ((s.data.toList[i]'h).toNat % 16 : Nat) := by
    intro i h
    obtain ⟨a, b⟩ := hexL_at s.data.toList i h
    have hb := byte_lt (s.data.toList[i]'h)
    unfold hxAt
    rw [hexS_list, a, b]
    exact ⟨unhex_hexC ⟨_, by omega⟩, unhex_hexC ⟨_, by omega⟩⟩
  have hok : okB (hexS s) ((hexS s).size / 2) = true := by
    rw [h2]; unfold okB
    rw [List.all_eq_true]
    intro i hi
    have hi' : i < s.data.toList.length := by rw [hl]; exact List.mem_range.1 hi
    obtain ⟨a, b⟩ := hx i hi'
    rw [a, b]
    simp; omega
  rw [rdHex_yes ⟨by rw [hexS_size]; omega, hok⟩, h2]
  have ho : outTo (hexS s) s.size = s.data.toList := by
    apply List.ext_getElem
    · rw [outTo_length, hl]
    · intro i h1 h3
      obtain ⟨a, b⟩ := hx i h3
      have hb := byte_lt (s.data.toList[i]'h3)
      simp only [outTo, List.getElem_map, List.getElem_range]
      rw [a, b]
      have : ((((s.data.toList[i]'h3).toNat / 16 : Nat) : Int) * 16 + (((s.data.toList[i]'h3).toNat % 16 : Nat) : Int)).toNat = (s.data.toList[i]'h3).toNat := by omega
      rw [this]
      simp
  rw [ho]
theorem hexS_rdHex (x y : ByteArray) (h : rdHex x = .tuple #[.string y, .bool true]) : hexS y = x := by
  have hl : x.data.toList.length = x.size := by simp
  by_cases hc : x.size % 2 = 0 ∧ okB x (x.size / 2) = true
  · rw [rdHex_yes hc] at h
    have hy : y = ⟨(outTo x (x.size / 2)).toArray⟩ := by
      injection h with h
      have := congrArg (·[0]?) h
      simp at this
      exact this.symm
    have hk : ∀ k, 2 * k ≤ x.size → okB x k = true → hexL (outTo x k) = x.data.toList.take (2 * k) := by
      intro k
      induction k with
      | zero => intro _ _; simp [outTo, hexL]
      | succ k ih =>
        intro hk hok
        rw [okB_succ] at hok
        simp only [Bool.and_eq_true, decide_eq_true_eq] at hok
        rw [outTo_succ, hexL_snoc, ih (by omega) hok.1]
        have h0 : hxAt x (2 * k) = unhex (x.data.toList[2 * k]'(by omega)) := by
          unfold hxAt; rw [List.getD, List.getElem?_eq_getElem (by omega)]; rfl
        have h1 : hxAt x (2 * k + 1) = unhex (x.data.toList[2 * k + 1]'(by omega)) := by
          unfold hxAt; rw [List.getD, List.getElem?_eq_getElem (by omega)]; rfl
        have u0 := unhex_bounds (x.data.toList[2 * k]'(by omega))
        have u1 := unhex_bounds (x.data.toList[2 * k + 1]'(by omega))
        have c0 := hexC_of (x.data.toList[2 * k]'(by omega)) (by rw [← h0]; exact hok.2.1)
        have c1 := hexC_of (x.data.toList[2 * k + 1]'(by omega)) (by rw [← h1]; exact hok.2.2)
        have p0 := hok.2.1; have p1 := hok.2.2
        rw [h0] at p0; rw [h1] at p1
        rw [h0, h1, show 2 * (k + 1) = 2 * k + 1 + 1 from by omega, List.take_succ_eq_append_getElem (by omega), List.take_succ_eq_append_getElem (by omega), List.append_assoc]
        congr 1
        generalize x.data.toList[2 * k]'(by omega) = a at *
        generalize x.data.toList[2 * k + 1]'(by omega) = b at *
        have hn : (UInt8.ofNat (unhex a * 16 + unhex b).toNat).toNat = (unhex a * 16 + unhex b).toNat := by rw [UInt8.toNat_ofNat']; omega
        unfold hex2
        rw [hn, show (unhex a * 16 + unhex b).toNat / 16 = (unhex a).toNat from by omega, show (unhex a * 16 + unhex b).toNat % 16 = (unhex b).toNat from by omega, c0, c1]
        rfl
    have hfin := hk (x.size / 2) (by omega) hc.2
    rw [List.take_of_length_le (by omega)] at hfin
    subst hy
    unfold hexS
    rw [hfin]
  · rw [rdHex_no hc] at h
    injection h with h
    have := congrArg (·[1]?) h
    simp at this
theorem revS_revS (s : ByteArray) : revS (revS s) = s := by unfold revS; simp
theorem revS_size (s : ByteArray) : (revS s).size = s.size := by unfold revS; show (s.data.toList.reverse.toArray).size = s.data.size; rw [List.size_toArray, List.length_reverse, Array.length_toList]
end Go.Proofs.Ytjfkfnmbppmbpaa
