/- Masks of pipelines, in plain words. No statement is proved here. -/
import Derived.Test.YtmddgncidgdglaaPlE
namespace Go.Proofs.Ytmddgncidgdglaa
open Go.RowKit
set_option linter.unusedVariables false
def ob (ps : List EFI) (i : Nat) : Bool := (ps.getD i (0, 0, false)).2.2
/-- The sum of the powers of 2 at the places that are set. -/
def opB (f : Nat → Bool) : Nat → Int
  | 0 => 0
  | k + 1 => opB f k + (if f k then 2 ^ k else 0)
theorem ob_at {ps : List EFI} {i : Nat} (h : i < ps.length) : ob ps i = ps[i].2.2 := by
  unfold ob
  rw [List.getD_eq_getElem?_getD, List.getElem?_eq_getElem h]
  rfl
def bitOn (m : Int) (j : Nat) : Bool := decide (bits BinOp.and IntKind.i64 (m / 2 ^ j) 1 = 1)
def mkAt (ps : List EFI) (m : Int) (i : Nat) : Bool := !bitOn m i || ob ps i
def mskOk (ps : List EFI) (m : Int) : Bool := plOk ps && (decide (0 ≤ m) && (decide (m < 2 ^ ps.length) && allTo (mkAt ps m) ps.length))
theorem opB_congr {f g : Nat → Bool} : ∀ k, (∀ i, i < k → f i = g i) → opB f k = opB g k
  | 0, _ => rfl
  | k + 1, h => by rw [opB, opB, opB_congr k (fun i hi => h i (by omega)), h k (by omega)]
def four (a b c d : Bool) : Nat → Bool
  | 0 => a
  | 1 => b
  | 2 => c
  | _ => d
theorem opB_four (f : Nat → Bool) (k : Nat) (hk : k ≤ 4) : opB f k = opB (four (f 0) (f 1) (f 2) (f 3)) k := opB_congr k fun i hi => by
  rcases (show i = 0 ∨ i = 1 ∨ i = 2 ∨ i = 3 by omega) with rfl | rfl | rfl | rfl <;> rfl
theorem or_fin : ∀ (a b c d : Bool) (j : Fin 4), bits BinOp.or IntKind.i64 (opB (four a b c d) j) (IntKind.i64.wrap (2 ^ min j.val 64)) = opB (four a b c d) j + 2 ^ j.val := by decide +kernel
theorem or_step (f : Nat → Bool) (j : Nat) (hj : j < 4) (h : f j = true) : bits BinOp.or IntKind.i64 (opB f j) (IntKind.i64.wrap (2 ^ min j 64)) = opB f (j + 1) := by
  rw [opB, h, opB_four f j (by omega)]
  simpa using or_fin (f 0) (f 1) (f 2) (f 3) ⟨j, hj⟩
theorem opB_skip (f : Nat → Bool) (j : Nat) (h : f j = false) : opB f (j + 1) = opB f j := by rw [opB, h]; simp
theorem pow_fin : ∀ n : Fin 5, IntKind.i64.wrap (IntKind.i64.wrap (2 ^ n.val) - 1) = 2 ^ n.val - 1 := by decide +kernel
theorem pow_is (n : Nat) (hn : n ≤ 4) : IntKind.i64.wrap (IntKind.i64.wrap (2 ^ n) - 1) = 2 ^ n - 1 := pow_fin ⟨n, by omega⟩
theorem and_fin : ∀ (a b c d : Bool) (n : Fin 5) (q : Fin 16), (bits BinOp.andNot IntKind.i64 (q.val : Int) (opB (four a b c d) n) == 0) = (decide ((q.val : Int) < 2 ^ n.val) && allTo (fun i => !bitOn (q.val : Int) i || four a b c d i) n.val) := by decide +kernel
theorem opB_bd : ∀ (a b c d : Bool) (n : Fin 5), 0 ≤ opB (four a b c d) n ∧ opB (four a b c d) n < 16 := by decide +kernel
theorem allTo_congr {p q : Nat → Bool} {n : Nat} (h : ∀ i, i < n → p i = q i) : allTo p n = allTo q n := by
  induction n with
  | zero => rfl
  | succ n ih => rw [allTo_succ, allTo_succ, ih (fun i hi => h i (by omega)), h n (by omega)]
theorem bv_le {x y : BitVec 64} (h : x &&& ~~~y = 0#64) : x.toNat ≤ y.toNat := by
  have h1 : x = x &&& y := by
    apply BitVec.eq_of_getLsbD_eq
    intro i hi
    have h2 := congrArg (fun z => z.getLsbD i) h
    simp only [BitVec.getLsbD_and, BitVec.getLsbD_not, hi, decide_true, Bool.true_and, BitVec.getLsbD_zero] at h2
    rw [BitVec.getLsbD_and]
    cases hx : x.getLsbD i <;> cases hy : y.getLsbD i <;> simp_all
  rw [h1, BitVec.toNat_and]
  exact Nat.and_le_right
theorem andNot_zero {m z : Int} (hm : -9223372036854775808 ≤ m ∧ m < 9223372036854775808) (hz : 0 ≤ z ∧ z < 16) (h : bits BinOp.andNot IntKind.i64 m z = 0) : 0 ≤ m ∧ m < 16 := by
  have h1 : IntKind.i64.wrap ((BitVec.ofInt 64 m &&& ~~~ BitVec.ofInt 64 z).toNat : Nat) = 0 := h
  have h2 := (BitVec.ofInt 64 m &&& ~~~ BitVec.ofInt 64 z).isLt
  rw [IntKind.wrap_i64] at h1
  have h3 : (BitVec.ofInt 64 m &&& ~~~ BitVec.ofInt 64 z).toNat = 0 := by omega
  have h4 := bv_le (BitVec.eq_of_toNat_eq (by rw [h3]; rfl) : BitVec.ofInt 64 m &&& ~~~ BitVec.ofInt 64 z = 0#64)
  rw [BitVec.toNat_ofInt, BitVec.toNat_ofInt] at h4
  omega
theorem msk_fin (ps : List EFI) (m : Int) (hm : -9223372036854775808 ≤ m ∧ m < 9223372036854775808) (hn : ps.length ≤ 4) :
    (bits BinOp.andNot IntKind.i64 m (opB (ob ps) ps.length) == 0) = (decide (0 ≤ m) && (decide (m < 2 ^ ps.length) && allTo (mkAt ps m) ps.length)) := by
  have hb := opB_bd (ob ps 0) (ob ps 1) (ob ps 2) (ob ps 3) ⟨ps.length, by omega⟩
  have ho := opB_four (ob ps) ps.length hn
  by_cases hr : 0 ≤ m ∧ m < 16
  · obtain ⟨q, rfl⟩ := Int.eq_ofNat_of_zero_le hr.1
    have hk := and_fin (ob ps 0) (ob ps 1) (ob ps 2) (ob ps 3) ⟨ps.length, by omega⟩ ⟨q, by omega⟩
    simp only at hk
    rw [ho, hk, decide_eq_true hr.1, Bool.true_and]
    congr 1
    apply allTo_congr
    intro i hi
    unfold mkAt
    rcases (show i = 0 ∨ i = 1 ∨ i = 2 ∨ i = 3 by omega) with rfl | rfl | rfl | rfl <;> rfl
  · have h1 : (bits BinOp.andNot IntKind.i64 m (opB (ob ps) ps.length) == 0) = false := by
      rw [beq_eq_false_iff_ne]
      intro h
      rw [ho] at h
      exact hr (andNot_zero hm hb h)
    rw [h1]
    by_cases h0 : 0 ≤ m
    · have h2 : ¬ m < 2 ^ ps.length := by
        have h3 : (2 : Nat) ^ ps.length ≤ 2 ^ 4 := Nat.pow_le_pow_right (by decide) hn
        have h4 : ((2 : Int) ^ ps.length) = ((2 ^ ps.length : Nat) : Int) := by norm_cast
        rw [h4]
        omega
      rw [decide_eq_false h2]
      simp
    · rw [decide_eq_false h0]
      rfl
end Go.Proofs.Ytmddgncidgdglaa
