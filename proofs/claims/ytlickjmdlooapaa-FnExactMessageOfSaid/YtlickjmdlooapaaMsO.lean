/- The first message of a kind: contracts of both sides. No statement is proved here. -/
import Derived.Test.YtlickjmdlooapaaVhd
import Derived.Test.YtlickjmdlooapaaDsk2
import Derived.Deep.WholeRow
namespace Go.Proofs.Ytlickjmdlooapaa
open Go.RowKit
set_option linter.unusedVariables false
def moB (k r : Int) (ms : List EM) (x : Int) : Bool := hdrOk k r ms && ms.any (fun m => decide (m.1 = x))
def moV (k r : Int) (ms : List EM) (x : Int) : EM := if hdrOk k r ms then (ms.find? (fun m => decide (m.1 = x))).getD (0, 0, ⟨#[]⟩) else (0, 0, ⟨#[]⟩)
theorem find_at {ms : List EM} {x : Int} : ∀ {k : Nat} (hk : k < ms.length), ms[k].1 = x → (∀ j (hj : j < ms.length), j < k → ms[j].1 ≠ x) → ms.find? (fun m => decide (m.1 = x)) = some ms[k] := by
  induction ms with
  | nil => intro k hk; simp at hk
  | cons a ms ih =>
    intro k hk he hno
    rcases k with _ | k
    · simp only [List.getElem_cons_zero] at he ⊢
      rw [List.find?_cons_of_pos (by simpa using he)]
    · rw [List.find?_cons_of_neg (by have := hno 0 (by simp) (by omega); simpa using this)]
      exact ih (by simpa using hk) (by simpa using he) (fun j hj hjk => by have := hno (j + 1) (by simpa using hj) (by omega); simpa using this)
theorem mo_yes {k r x : Int} {ms : List EM} (hv : hdrOk k r ms = true) {j : Nat} (hj : j < ms.length) (he : ms[j].1 = x) (hno : ∀ i (hi : i < ms.length), i < j → ms[i].1 ≠ x) : moB k r ms x = true ∧ moV k r ms x = ms[j] := by
  refine ⟨?_, ?_⟩
  · simp only [moB, hv, Bool.true_and, List.any_eq_true]
    exact ⟨ms[j], List.getElem_mem hj, by simpa using he⟩
  · simp only [moV, hv, if_true]
    rw [find_at hj he hno]; rfl
theorem mo_no {k r x : Int} {ms : List EM} (hno : ∀ i (hi : i < ms.length), ms[i].1 ≠ x) : moB k r ms x = false ∧ moV k r ms x = (0, 0, ⟨#[]⟩) := by
  have h1 : ms.any (fun m => decide (m.1 = x)) = false := by
    rw [List.any_eq_false]
    intro m hm
    obtain ⟨i, hi, rfl⟩ := List.getElem_of_mem hm
    simpa using hno i hi
  have h2 : ms.find? (fun m => decide (m.1 = x)) = none := by
    rw [List.find?_eq_none]
    intro m hm
    obtain ⟨i, hi, rfl⟩ := List.getElem_of_mem hm
    simpa using hno i hi
  refine ⟨by simp [moB, h1], ?_⟩
  simp only [moV, h2]; split <;> rfl
theorem mo_inv {k r x : Int} {ms : List EM} (hv : hdrOk k r ms = false) : moB k r ms x = false ∧ moV k r ms x = (0, 0, ⟨#[]⟩) := by simp [moB, moV, hv]
theorem infoM3 (a b : Int) (s : ByteArray) : (Try.prog.info? 70).map (·.size) = some (#[.int .i64 a, .int .i64 b, .string s] : Array Value).size := by kernel_rfl
theorem oneM3 {a b : Int} {s : ByteArray} : (#[.int .i64 a, .int .i64 b, .string s] : Array Value).all (·.oneCell') = true := by simp [Value.oneCell']
set_option maxHeartbeats 1000000 in
theorem isKind_any {w : World} {c : Nat} {k f x : Int} {s : ByteArray} (hc : w.heap[c]? = some (.cells #[.int .i64 x] 2 (0, 0))) :
    Calls Try.prog 114 #[.agg #[.int .i64 k, .int .i64 f, .string s], .pointer (some ⟨c, 0, none⟩)] w (GivesB (.bool (decide (k = x))) w) := by
  have hcl : c < w.heap.size := by
    rcases Nat.lt_or_ge c w.heap.size with hl | hl
    · exact hl
    · rw [Array.getElem?_eq_none hl] at hc; cases hc
  have Hb0 : Hid (Below w.heap.size w (w.alloc (.cells #[.int .i64 k, .int .i64 f, .string s] 70))) := Lib.hid ((Below.refl _ w).alloc (Nat.le_refl _) _)
  have q0 : (w.alloc (.cells #[.int .i64 k, .int .i64 f, .string s] 70)).cell? ⟨c, 0, none⟩ = some (.int .i64 x) := by rw [cell_of_row _ _ _ _ _ _ ((Hb0.out.block _ hcl).trans hc)]; rfl
  clear hc
  by_cases h : k = x
  · subst h
    go_enter Try.func114, Try.ntmps114
    go_wp2_with fail
    go_ret
    exact ⟨by simp, Hb0.out⟩
  · have Hf : Hid (decide (k = x) = false) := Lib.hid (decide_eq_false h)
    have x1 : (k == x) = false := beq_eq_false_iff_ne.2 h
    go_enter Try.func114, Try.ntmps114
    go_wp2_with fail
    go_ret
    exact ⟨by rw [Hf.out]; rfl, Hb0.out⟩
/-- What IndexFunc answers here. -/
def IxP (ms : List EM) (x n : Int) : Prop := (n = -1 ∧ ∀ i (hi : i < ms.length), ms[i].1 ≠ x) ∨ ∃ j : Nat, ∃ hj : j < ms.length, n = (j : Int) ∧ ms[j].1 = x ∧ ∀ i (hi : i < ms.length), i < j → ms[i].1 ≠ x
set_option maxHeartbeats 2000000 in
set_option maxRecDepth 100000 in
theorem indexKind_any {B c : Nat} {w : World} {v : Value} {x : Int} {ms : List EM} (h : RiM B w v ms) (hB : B ≤ w.heap.size) (hc : w.heap[c]? = some (.cells #[.int .i64 x] 2 (0, 0))) :
    Calls Try.prog 113 #[v, .func (.func 114) #[] #[.pointer (some ⟨c, 0, none⟩)]] w
      fun e w' => (∃ n : Int, e = .returned (.int .i64 n) ∧ IxP ms x n) ∧ Below w.heap.size w w' := by
  obtain ⟨A, cap, rfl, hl, hcc, hx⟩ := h
  have hcl : c < w.heap.size := by
    rcases Nat.lt_or_ge c w.heap.size with hl | hl
    · exact hl
    · rw [Array.getElem?_eq_none hl] at hc; cases hc
  have Hx := Lib.hid hx; have Hc := Lib.hid hc; clear hx hc
  unfold maxLen at hcc
  have HI : Hid (∀ n, ((n = -1 ∧ ∀ i (hi : i < ms.length), ms[i].1 ≠ x) ∨ ∃ j : Nat, ∃ hj : j < ms.length, n = (j : Int) ∧ ms[j].1 = x ∧ ∀ i (hi : i < ms.length), i < j → ms[i].1 ≠ x) → IxP ms x n) := Lib.hid (fun n h => h)
  generalize IxP ms x = IX at *
  go_enter Try.func113, Try.ntmps113
  go_wp2
  go_loopw [8] (fun i wr => ∃ k : Nat, k ≤ ms.length ∧ i = .int .i64 k ∧ Below w.heap.size w wr ∧ ∀ i (hi : i < ms.length), i < k → ms[i].1 ≠ x) (fun i _ => ms.length - (intOf i).toNat)
  case atStart => exact ⟨0, Nat.zero_le _, rfl, Below.refl _ _, fun i _ h => absurd h (by omega)⟩
  case round =>
    obtain ⟨k, hk, rfl, hbel, hall⟩ := hrel
    have Hall := Lib.hid hall; have Hbel := Lib.hid hbel
    clear hall
    by_cases hlt : k < ms.length
    · obtain ⟨b1, o, rfl, hb, hc0, hc1, hc2, -⟩ := Hx.out k hlt
      have Hld := Lib.hid (run_load_cells (P := Try.prog) wr b1 (o + k * 3) 70 _ [.int .i64 ms[k].1, .int .i64 ms[k].2.1, .string ms[k].2.2] (cells_M (by rw [hbel.cell (show b1 < _ from by omega)]; exact hc0) (by rw [hbel.cell (show b1 < _ from by omega)]; exact hc1) (by rw [hbel.cell (show b1 < _ from by omega)]; exact hc2)) Try.underlying70 rfl)
      have Hcr := Lib.hid ((hbel.block _ hcl).trans Hc.out)
      have hs := hbel.size
      have Hyes : Hid (ms[k].1 = x → IX (k : Int)) := Lib.hid (fun h => HI.out _ (.inr ⟨k, hlt, rfl, h, Hall.out⟩))
      have Hno : Hid (ms[k].1 ≠ x → ∀ i (hi : i < ms.length), i < k + 1 → ms[i].1 ≠ x) := Lib.hid (fun h i hi hik => by
        rcases Nat.lt_or_ge i k with h3 | h3
        · exact Hall.out i hi h3
        · obtain rfl : i = k := by omega
          exact h)
      clear hc0 hc1 hc2 hbel
      generalize ms[k].1 = z at *
      generalize ms[k].2.1 = f at *
      generalize ms[k].2.2 = s at *
      have HC := Lib.hid (isKind_any (k := z) (f := f) (s := s) Hcr.out)
      by_cases hz : z = x
      · have Hq : Hid (decide (z = x) = true) := Lib.hid (decide_eq_true hz)
        have HH := Lib.hid (Hyes.out hz)
        generalize decide (z = x) = y at *
        obtain rfl := Hq.out
        clear Hq Hyes Hno hz
        go_wp2_with (refine wpList_load_agg rfl 70 (.tmp 14) rfl _ rfl _ Hld.out ?_)
        refine HC.out.mono ?_
        rintro e w2 ⟨rfl, g⟩
        have Hb2 : Hid (Below w.heap.size w w2) := Lib.hid (Hbel.out.trans (g.mono hs))
        clear g
        go_wp2
        go_ret
        exact ⟨⟨(k : Int), rfl, HH.out⟩, Hb2.out⟩
      · have Hq : Hid (decide (z = x) = false) := Lib.hid (decide_eq_false hz)
        have HH := Lib.hid (Hno.out hz)
        generalize decide (z = x) = y at *
        obtain rfl := Hq.out
        clear Hq Hyes Hno hz
        go_wp2_with (refine wpList_load_agg rfl 70 (.tmp 14) rfl _ rfl _ Hld.out ?_)
        refine HC.out.mono ?_
        rintro e w2 ⟨rfl, g⟩
        have Hb2 : Hid (Below w.heap.size w w2) := Lib.hid (Hbel.out.trans (g.mono hs))
        clear g
        go_wp2
        go_roundw
        case rel => exact ⟨k + 1, by omega, by go_num, Hb2.out, HH.out⟩
        case measure => simp [intOf]; omega
    · have HH : Hid (IX (-1)) := Lib.hid (HI.out _ (.inl ⟨rfl, fun i hi => Hall.out i hi (by omega)⟩))
      clear hbel
      go_wp2
      go_ret
      exact ⟨⟨-1, rfl, HH.out⟩, Hbel.out⟩
/-- A struct's message as it is answered. -/
def emA (m : EM) : Array Value := #[.int .i64 m.1, .int .i64 m.2.1, .string m.2.2]
end Go.Proofs.Ytlickjmdlooapaa
