/- Bounds, rows under writes, and copies of lists that read. No statement is proved here. -/
import Derived.Test.YtmghbgnalkkppaaInt
import Derived.Test.YtmghbgnalkkppaaOwn
import Derived.Deep.WholeRow
namespace Go.Proofs.Ytmghbgnalkkppaa
open Go.RowKit
set_option linter.unusedVariables false
/-- What is left of a bound; if anything is, then P holds. -/
def Left (L : Int) (P : Prop) (w : World) (e : Ending) (w' : World) : Prop := ∃ n : Int, e = .returned (.int .i64 n) ∧ -1 ≤ n ∧ n ≤ L ∧ (0 ≤ n → P) ∧ Below w.heap.size w w'
theorem Row.setCell {w : World} {b b' : Nat} {xs : List Int} (h : Row w b xs) (hne : b' ≠ b) (o : Nat) (v : Value) : Row (w.setCell ⟨b', o, none⟩ v) b xs := by
  unfold Row; rw [heap_setCell_other w ⟨b', o, none⟩ b v (fun e => hne (by rw [e]))]; exact h
theorem Row.setRow {w : World} {b b' : Nat} {xs : List Int} (h : Row w b xs) (hne : b' ≠ b) (cs : Array Value) : Row (w.setRow b' cs) b xs := by
  unfold Row; rw [setRow_other w b' b cs (fun e => hne (by rw [e]))]; exact h
theorem toI_rd {B : Nat} {w : World} {v : Value} {xs : List Int} (h : Ri B w v xs) (hB : B ≤ w.heap.size) (hs : xs.length ≤ 1048576) :
    Calls Try.prog 12 #[v] w fun e w' => ∃ A1 : Option Addr, e = .returned (.slice A1 xs.length xs.length) ∧ Ri w'.heap.size w' (.slice A1 xs.length xs.length) xs ∧ Below w.heap.size w w' :=
  (toI_any h hB hs).mono fun e w' ⟨he, r, _, g⟩ => ⟨_, he, r.ri r.lt h.inI (by unfold maxLen; omega), g⟩
/-- A load of a struct under a guard that is met. -/
theorem wpList_load_on {P : Program} {ops : Array Oper} {rest : List Oper} {o : Oper} {a : Act} {w : World} {Q : Exit → Act → World → Prop} (hw : Region.wanted o (yielded ops a.tmps) = true) (ty : TypeId) (x : Operand) (ho : o.op = .load ty x)
    (p : Addr) (hx : a.eval x = .pointer (some p)) (v : Value) (hrun : (loadVar ty p).run P w = .ok v w) (h : wpList P ops Q rest (a.put o.dst v) w) : wpList P ops Q (o :: rest) a w :=
  wpList_step fun K hK => by
    rw [if_pos hw]
    unfold Oper.wp execOp
    simp only [ho, hx, Instr.loadAt, Instr.sureAddr, Sem.run_bind, Sem.run_pure, Result.andThen_ok, hrun]
    exact hK _ _ h
theorem still_tail {P : Program} {id : Nat} {Q : Exit → Act → World → Prop} {a : Act} {w : World} {l : List Oper} (n : Nat) (hm : P.follows .mixedOrders = true) (hB : Region.lexTailB .any l.toArray n = true)
    (h : wpStill P l.toArray w.drew (fun a' => wpList P l.toArray Q (l.drop n) a' w.drew) (l.take n) a) : (Code.region id l.toArray true).wp P Q a w := wp_region_still_tail n hm hB h
/-- A load of a struct in a region that draws its order. -/
theorem wpStill_load {P : Program} {ops : Array Oper} {w : World} {Q : Act → Prop} {a : Act} {o : Oper} {rest : List Oper} (hgd : o.guard = none) (ty : TypeId) (x : Operand) (ho : o.op = .load ty x) (p : Addr) (hx : a.eval x = .pointer (some p)) (v : Value)
    (hrun : (loadVar ty p).run P w = .ok v w) (h : wpStill P ops w Q rest (a.put o.dst v)) : wpStill P ops w Q (o :: rest) a := by
  unfold wpStill
  have hw : Region.wanted o (yielded ops a.tmps) = true := by simp [Region.wanted, hgd]
  rw [if_pos hw]
  unfold Oper.still execOp
  simp only [ho, hx, Instr.loadAt, Instr.sureAddr, Sem.run_bind, Sem.run_pure, Result.andThen_ok, hrun]
  exact ⟨rfl, h⟩
end Go.Proofs.Ytmghbgnalkkppaa
