/- Two lists of pages made one: the program. No statement is proved here. -/
import Derived.Test.YtkoenlkoalbhlaaMgS
import Derived.Maps.AppendAt
import Derived.Deep.RegionHeld3
namespace Go.Proofs.Ytkoenlkoalbhlaa
open Go.RowKit
set_option linter.unusedVariables false
theorem key_any (n : Int) (s : ByteArray) (w : World) : Calls Try.prog 98 #[.agg #[.int .i64 n, .string s]] w (GivesB (.int .i64 n) w) := by
  have Hb : Hid (Below w.heap.size w (w.alloc (.cells #[.int .i64 n, .string s] 134))) := Lib.hid ((Below.refl _ _).alloc (Nat.le_refl _) _)
  go_enter Try.func98, Try.ntmps98
  go_wp2
  go_ret
  exact ⟨rfl, Hb.out⟩
theorem nan_any (a : Int) (w : World) : Calls Try.prog 164 #[.int .i64 a] w (fun e w' => e = .returned (.bool false) ∧ w' = w) := by
  have h : (a != a) = false := by simp
  go_enter Try.func164, Try.ntmps164
  go_wp2
  go_ret
  exact ⟨rfl, rfl⟩
def cmpI (a b : Int) : Int := if a < b then -1 else if b < a then 1 else 0
theorem cmp_any (a b : Int) (w : World) : Calls Try.prog 141 #[.int .i64 a, .int .i64 b] w (fun e w' => e = .returned (.int .i64 (cmpI a b)) ∧ w' = w) := by
  rcases Int.lt_trichotomy a b with hc | hc | hc
  · have e : cmpI a b = -1 := by unfold cmpI; rw [if_pos hc]
    have d : decide (a < b) = true := decide_eq_true hc
    rw [e]
    clear e
    go_enter Try.func141, Try.ntmps141
    go_wp2_with (go_at_call 164; refine (nan_any _ _).mono ?_; rintro e w' ⟨rfl, rfl⟩)
    go_ret
    exact ⟨rfl, rfl⟩
  · have e : cmpI a b = 0 := by unfold cmpI; rw [if_neg (by omega), if_neg (by omega)]
    have d : decide (a < b) = false := decide_eq_false (by omega)
    have d2 : decide (b < a) = false := decide_eq_false (by omega)
    rw [e]
    clear e
    go_enter Try.func141, Try.ntmps141
    go_wp2_with (go_at_call 164; refine (nan_any _ _).mono ?_; rintro e w' ⟨rfl, rfl⟩)
    go_ret
    exact ⟨rfl, rfl⟩
  · have e : cmpI a b = 1 := by unfold cmpI; rw [if_neg (by omega), if_pos hc]
    have d : decide (a < b) = false := decide_eq_false (by omega)
    have d2 : decide (b < a) = true := decide_eq_true hc
    rw [e]
    clear e
    go_enter Try.func141, Try.ntmps141
    go_wp2_with (go_at_call 164; refine (nan_any _ _).mono ?_; rintro e w' ⟨rfl, rfl⟩)
    go_ret
    exact ⟨rfl, rfl⟩
theorem cmp_b {a b r : Int} (h : cmpI a b = r) (w : World) : Calls Try.prog 141 #[.int .i64 a, .int .i64 b] w (GivesB (.int .i64 r) w) :=
  (cmp_any a b w).mono (fun e w' he => ⟨by rw [he.1, h], by rw [he.2]; exact Below.refl _ _⟩)
theorem make_cap {P : Program} (t e : TypeId) (m n size bytes : Nat) (ht : P.underlying t = some (.slice e)) (hinfo : (P.info? e).map (fun i => (i.zero.isSome, i.size, i.bytes)) = some (true, size, bytes)) (hb : bytes * (m + n) ≤ 281474976710656) (hn : m + n ≤ 9223372036854775807) :
    ∃ C : Array Value, C.size = (m + n) * size ∧ ∀ w : World, (Instr.makeSlice t (.int .i64 0) (.int .i64 ((m : Int) + (n : Int)))).run P w = .ok (.slice (some ⟨w.heap.size, 0, none⟩) 0 (m + n)) (w.alloc (.cells C e)) := by
  obtain ⟨i, hi, he⟩ := Option.map_eq_some_iff.1 hinfo
  simp only [Prod.mk.injEq] at he
  obtain ⟨hz, rfl, rfl⟩ := he
  obtain ⟨z, hz⟩ := Option.isSome_iff_exists.1 hz
  refine ⟨madeCells z.cells ((m + n) * i.size), size_madeCells _ _, fun w => ?_⟩
  have hb' : (i.bytes : Int) * ((m : Int) + (n : Int)) ≤ 281474976710656 := by rw [← Int.natCast_add, ← Int.natCast_mul]; omega
  have := run_make (P := P) w t e i z ht hi hz .i64 .i64 0 ((m : Int) + (n : Int)) (by omega) (by omega) hb' (by omega)
  rw [show ((m : Int) + (n : Int)).toNat = m + n by omega] at this
  exact this
theorem flatP_cells {W : World} {b of B : Nat} {qs : List Pt} (hx : ∀ (i : Nat) (hi : i < qs.length), ∃ (b' o' : Nat), (some ⟨b, of, none⟩ : Option Addr) = some ⟨b', o', none⟩ ∧ b' < B ∧ W.cell? ⟨b', o' + i * 2, none⟩ = some (.int .i64 qs[i].1) ∧ W.cell? ⟨b', o' + i * 2 + 1, none⟩ = some (.string qs[i].2) ∧ InI qs[i].1 ∧ qs[i].2.size ≤ maxLen) (j : Nat) (u : Value) (hu : (flatP qs)[j]? = some u) : W.cell? ((⟨b, of, none⟩ : Addr).add j) = some u := by
  have hj : j < qs.length * 2 := by rw [← flatP_len]; exact (List.getElem?_eq_some_iff.1 hu).1
  obtain ⟨b', o', e, -, h1, h2, -, -⟩ := hx (j / 2) (by omega)
  simp only [Option.some.injEq, Addr.mk.injEq, and_true] at e
  obtain ⟨rfl, rfl⟩ := e
  have f := flatP_at qs (j / 2) (by omega)
  rw [add_at]
  rcases Nat.mod_two_eq_zero_or_one j with h | h
  · have e2 : j / 2 * 2 = j := by omega
    rw [e2] at f h1
    rw [f.1] at hu; cases hu; exact h1
  · have e2 : j / 2 * 2 + 1 = j := by omega
    have e3 : of + j / 2 * 2 + 1 = of + j := by omega
    rw [e2] at f; rw [e3] at h2
    rw [f.2] at hu; cases hu; exact h2
/-- append of a whole list that came in, as a step of a walk. -/
theorem wpList_joinG {ops : Array Oper} {rest : List Oper} {o : Oper} {a : Act} {Q : Exit → Act → World → Prop} {W z : World} {lo B b of c : Nat} {v : Value} {ps qs : List Pt} (hgd : o.guard = none) (s y : Operand)
    (ho : o.op = .call { callee := .builtin .append, args := #[s, y], argTypes := #[52, 52] }) (hs : a.eval s = v) (hx : a.eval y = .slice (some ⟨b, of, none⟩) qs.length c)
    (hown : OG W lo v ps) (hq : RiU W.heap.size W (.slice (some ⟨b, of, none⟩) qs.length c) qs) (hlo : lo ≤ W.heap.size) (hlen : ps.length + qs.length ≤ 1048576) (hz : Below B z W) (hB : B ≤ lo)
    (h : ∀ v' w', OG w' lo v' (ps ++ qs) → Below B z w' → wpList Try.prog ops Q rest (a.put o.dst v') w') : wpList Try.prog ops Q (o :: rest) a W := by
  obtain ⟨i0, hi, hz0, hz1, hz2⟩ := info_partsT infoGz
  obtain ⟨A, c', he, -, -, hx3⟩ := hq
  simp only [Value.slice.injEq] at he
  obtain ⟨rfl, -, rfl⟩ := he
  refine wpList_append_own_at _ hgd s y 52 ho lo 134 i0 (.agg #[.int .i64 0, .string ⟨#[]⟩]) 2 24 Try.underlying52 hi hz0 hz1 hz2 rfl (by decide) v ps.length (flatP ps) hs hown
    ⟨b, of, none⟩ qs.length c (flatP qs) hx (flatP_len qs) (fun j u hu => ?_) (fun u hu => ?_) (by unfold maxLen; omega) (by omega) hlo (fun v' w' h1 h2 _ _ => h v' w' ?_ (hz.grown h2 (Nat.le_trans hB hlo) (fun k hk => Nat.le_trans hB (own_wi hown k hk).1)))
  · exact flatP_cells hx3 j u hu
  · exact flatP_one qs u hu
  · unfold OG; rw [List.length_append, flatP_append]; exact h1
end Go.Proofs.Ytkoenlkoalbhlaa
