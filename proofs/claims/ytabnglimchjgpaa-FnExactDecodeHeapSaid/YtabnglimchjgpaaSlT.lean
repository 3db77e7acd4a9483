/- The table of slots: made of a heap, its stack grown and popped. No statement is proved here. -/
import Derived.Test.YtabnglimchjgpaaPtS
import Derived.Laws.CopyOwn
namespace Go.Proofs.Ytabnglimchjgpaa
open Go.RowKit
set_option linter.unusedVariables false
theorem own_neH {W : World} {lo sz n g : Nat} {T T' : TypeId} {v : Value} {vs : List Value} {C : Array Value} {fr : Nat × Nat} (h : W.ownsRow lo T sz v n vs) (hg : W.heap[g]? = some (.cells C T' fr)) (ht : T' ≠ T) : v.ownBlock ≠ some g := by
  intro e
  rcases h.2 with ⟨rfl, _⟩ | ⟨g', cap, cur, rfl, _, hgg, _⟩
  · simp [Value.ownBlock] at e
  · simp [Value.ownBlock] at e
    subst e
    rw [hg] at hgg
    cases hgg
    exact ht rfl
theorem tne1 : 74 ≠ 2 := by decide
theorem tne2 : 74 ≠ 9 := by decide
theorem tne3 : 2 ≠ 9 := by decide
theorem tne4 : 9 ≠ 2 := by decide
/-- What a call on the table keeps: every block but the table's and that of its own stack. -/
def Kpp (w w' : World) (g : Nat) (v : Value) : Prop := ∀ q, q < w.heap.size → q ≠ g → (∀ z, v.ownBlock = some z → q ≠ z) → w'.heap[q]? = w.heap[q]?
set_option maxHeartbeats 1000000 in
set_option maxRecDepth 100000 in
theorem push_any {w : World} {lo g : Nat} {v u : Value} {ns : List Int} (k : Int) (hg : w.heap[g]? = some (.cells #[v, u] 74 (0, 0))) (ho : OI w lo v ns) (hlo : lo ≤ w.heap.size) (hln : ns.length ≤ 1048576) (hlg : lo ≤ g) :
    Calls Try.prog 101 #[.pointer (some ⟨g, 0, none⟩), .int .i64 k] w fun e w' => e = .returned (.tuple #[]) ∧ ∃ v', w'.heap[g]? = some (.cells #[v', u] 74 (0, 0)) ∧ OI w' lo v' (ns ++ [k]) ∧ Kpp w w' g v ∧ Below lo w w' := by
  have HG := Lib.hid hg
  have HO := Lib.hid ho
  have HN := Lib.hid (own_neH ho hg tne1)
  have hgl : g < w.heap.size := World.block_lt_of_cell? w ⟨g, 0, none⟩ (show _ = some v by rw [cell_of_row _ _ _ _ _ _ hg]; rfl)
  have HGL := Lib.hid hgl
  have q0 : w.cell? ⟨g, 0, none⟩ = some v := by rw [cell_of_row _ _ _ _ _ _ hg]; rfl
  obtain ⟨A, c, rfl⟩ := ho.sl
  clear hg ho hgl
  go_enter Try.func101, Try.ntmps101
  go_wp2_with (at_builtin; refine wpList_push (W := w) (v := .slice A ns.length c) (lo := lo) (xs := ns) (x := k) rfl (.tmp 8) (.tmp 10) rfl rfl rfl rfl HO.out hlo hln ?_; intro h9 cap w5 o5 g5 _ _; have O5 := Lib.hid o5; have G5 := Lib.hid g5; clear o5 g5 q0; have K5 : Hid (∀ q, q < w.heap.size → (∀ z, (Value.slice A ns.length c).ownBlock = some z → q ≠ z) → w5.heap[q]? = w.heap[q]?) := Lib.hid (fun q hq hne => (G5.out.block q (Nat.lt_of_lt_of_le hq ((Below.refl _ w).alloc (Nat.le_refl _) _).size) (fun e => hne q e.symm rfl)).trans (((Below.refl _ w).alloc (Nat.le_refl _) _).block q hq)); have T5 : Hid (w5.heap[g]? = some (.cells #[.slice A ns.length c, u] 74 (0, 0))) := Lib.hid ((K5.out g HGL.out (fun z hz e => HN.out (by rw [hz, e]))).trans HG.out); have B5 : Hid (Below lo w w5) := Lib.hid (((Below.refl _ w).alloc hlo _).grown G5.out (Nat.le_trans hlo ((Below.refl _ w).alloc (Nat.le_refl _) _).size) (fun z hz => (HO.out.wi z hz).1)); have q5 : w5.cell? ⟨g, 0, none⟩ = some (.slice A ns.length c) := (by rw [cell_of_row _ _ _ _ _ _ T5.out]; rfl); have f5 : w5.frozen? ⟨g, 0, none⟩ = false := frozen_of_row _ _ _ _ _ T5.out)
  have T6 : Hid ((w5.setCell ⟨g, 0, none⟩ (.slice (some ⟨h9, 0, none⟩) (ns.length + 1) cap)).heap[g]? = some (.cells #[.slice (some ⟨h9, 0, none⟩) (ns.length + 1) cap, u] 74 (0, 0))) := Lib.hid (by rw [heap_setCell_same w5 g 0 _ _ _ T5.out]; rfl)
  have N9 : Hid ((Value.slice (some ⟨h9, 0, none⟩) (ns.length + 1) cap).ownBlock ≠ some g) := Lib.hid (own_neH O5.out T5.out tne1)
  have O6 : Hid (OI (w5.setCell ⟨g, 0, none⟩ (.slice (some ⟨h9, 0, none⟩) (ns.length + 1) cap)) lo (.slice (some ⟨h9, 0, none⟩) (ns.length + 1) cap) (ns ++ [k])) := Lib.hid (O5.out.same fun q hq => heap_setCell_other _ ⟨g, 0, none⟩ _ _ (fun e => N9.out (by rw [hq, e])))
  have K6 : Hid (Kpp w (w5.setCell ⟨g, 0, none⟩ (.slice (some ⟨h9, 0, none⟩) (ns.length + 1) cap)) g (.slice A ns.length c)) := Lib.hid (fun q hq hne hz => (heap_setCell_other _ ⟨g, 0, none⟩ _ _ (fun e => hne (by simpa using e))).trans (K5.out q hq hz))
  have B6 : Hid (Below lo w (w5.setCell ⟨g, 0, none⟩ (.slice (some ⟨h9, 0, none⟩) (ns.length + 1) cap))) := Lib.hid (B5.out.setCell (p := ⟨g, 0, none⟩) hlg _)
  clear q5 f5
  go_end0
  exact ⟨rfl, _, T6.out, O6.out, K6.out, B6.out⟩
end Go.Proofs.Ytabnglimchjgpaa
