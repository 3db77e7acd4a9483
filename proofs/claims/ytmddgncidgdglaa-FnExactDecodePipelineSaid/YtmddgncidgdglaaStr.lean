/- Lists of strings in memory; contracts of the laws' functions that bound, copy and compare them; what a slice of one's own keeps. No statement is proved here. -/
import Derived.Test.YtmddgncidgdglaaPre
import Derived.Test.YtmddgncidgdglaaMrS
namespace Go.Proofs.Ytmddgncidgdglaa
open Go.RowKit
set_option linter.unusedVariables false
/-- A slice of one's own keeps its row where its block is as it was. -/
theorem own_same {w w' : World} {lo sz n : Nat} {T : TypeId} {v : Value} {vs : List Value} (h : w.ownsRow lo T sz v n vs) (hk : ∀ g, v.ownBlock = some g → w'.heap[g]? = w.heap[g]?) : w'.ownsRow lo T sz v n vs := by
  refine ⟨h.1, ?_⟩
  rcases h.2 with hn | ⟨g, cap, cur, rfl, hb, hgg, rest⟩
  · exact .inl hn
  · exact .inr ⟨g, cap, cur, rfl, hb, (hk g rfl).trans hgg, rest⟩
theorem own_lo {w : World} {lo lo' sz n : Nat} {T : TypeId} {v : Value} {vs : List Value} (h : w.ownsRow lo T sz v n vs) (hl : lo' ≤ lo) : w.ownsRow lo' T sz v n vs := by
  refine ⟨h.1, ?_⟩
  rcases h.2 with hn | ⟨g, cap, cur, rfl, hb, rest⟩
  · exact .inl hn
  · exact .inr ⟨g, cap, cur, rfl, by omega, rest⟩
theorem own_wi {w : World} {lo sz n : Nat} {T : TypeId} {v : Value} {vs : List Value} (h : w.ownsRow lo T sz v n vs) : Wi lo w.heap.size v := fun g hg => World.ownsRow.lt h g hg
theorem own_bel {w w' : World} {lo sz n : Nat} {T : TypeId} {v : Value} {vs : List Value} (h : w.ownsRow lo T sz v n vs) (hb : Below w.heap.size w w') : w'.ownsRow lo T sz v n vs := own_same h fun g hg => hb.block g (own_wi h g hg).2
theorem own_mv {w w' : World} {lo sz n l h2 : Nat} {T : TypeId} {v : Value} {vs : List Value} (h : w.ownsRow lo T sz v n vs) (hm : Mv l h2 w w') (hd : ∀ g, v.ownBlock = some g → g < l ∨ h2 ≤ g) : w'.ownsRow lo T sz v n vs :=
  own_same h fun g hg => hm.2.2.2.2 g (own_wi h g hg).2 (hd g hg)
theorem own_sl {w : World} {lo sz n : Nat} {T : TypeId} {v : Value} {vs : List Value} (h : w.ownsRow lo T sz v n vs) : (v = .slice none 0 0 ∧ n = 0) ∨ ∃ g cap, v = .slice (some ⟨g, 0, none⟩) n cap ∧ lo ≤ g ∧ g < w.heap.size ∧ n ≤ cap ∧ cap ≤ maxLen := by
  have hl := World.ownsRow.lt h
  rcases h.2 with ⟨rfl, h0⟩ | ⟨g, cap, cur, rfl, hb, hg, hn, hm, _⟩
  · exact .inl ⟨rfl, h0⟩
  · exact .inr ⟨g, cap, rfl, hb, (hl g rfl).2, hn, hm⟩
theorem own_frozen {w : World} {lo sz n g c m : Nat} {T : TypeId} {vs : List Value} (h : w.ownsRow lo T sz (.slice (some ⟨g, 0, none⟩) m c) n vs) (j : Nat) : w.frozen? ⟨g, j, none⟩ = false := by
  rcases h.2 with ⟨h0, _⟩ | ⟨g', cap', cur, he, hb, hgg, _⟩
  · cases h0
  · have e : g = g' := by simp only [Value.slice.injEq, Option.some.injEq, Addr.mk.injEq] at he; exact he.1.1
    subst e
    exact frozen_of_row _ _ _ _ _ hgg
/-- A slice that reads as a list of strings, below block B. -/
def RiT (B : Nat) (w : World) (v : Value) (xs : List ByteArray) : Prop := ∃ (A : Option Addr) (cap : Nat), v = .slice A xs.length cap ∧ xs.length ≤ cap ∧ cap ≤ maxLen ∧
  ∀ (i : Nat) (hi : i < xs.length), ∃ b o : Nat, A = some ⟨b, o, none⟩ ∧ b < B ∧ w.cell? ⟨b, o + i, none⟩ = some (.string xs[i]) ∧ xs[i].size ≤ maxLen
theorem RiT.up {B B' : Nat} {w w' : World} {v : Value} {xs : List ByteArray} (h : RiT B w v xs) (hB : B ≤ B') (hw : Below B w w') : RiT B' w' v xs := by
  obtain ⟨A, cap, hv, h1, h2, h3⟩ := h
  refine ⟨A, cap, hv, h1, h2, fun i hi => ?_⟩
  obtain ⟨b, o, hA, hb, hc, hI⟩ := h3 i hi
  exact ⟨b, o, hA, by omega, by rw [hw.cell hb]; exact hc, hI⟩
theorem RiT.at {B : Nat} {w w' : World} {v : Value} {xs : List ByteArray} (h : RiT B w v xs) (hB : B ≤ w.heap.size) (hw : Below w.heap.size w w') : RiT w'.heap.size w' v xs :=
  (h.up (Nat.le_refl _) (hw.mono hB)).up (Nat.le_trans hB hw.size) (Below.refl _ _)
theorem Rd.rit {f B : Nat} {w : World} {v : Value} {d : D} (h : Rd f B w (.sl .str) v d) : ∃ xs : List ByteArray, RiT B w v xs := by
  obtain ⟨f', xs, A, cap, _, _, rfl, hl, hc, hx⟩ := Rd.strs h
  exact ⟨xs, A, cap, rfl, hl, hc, hx⟩
theorem RiT.len {B : Nat} {w : World} {v : Value} {xs : List ByteArray} (h : RiT B w v xs) : ∀ x ∈ xs, x.size ≤ maxLen := by
  obtain ⟨A, cap, hv, h1, h2, h3⟩ := h
  intro x hx
  obtain ⟨i, hi, rfl⟩ := List.getElem_of_mem hx
  obtain ⟨b, o, hA, hb, hc, hI⟩ := h3 i hi
  exact hI
def cellsT (xs : List ByteArray) : Array Value := (xs.map Value.string).toArray
theorem cellsT_size (xs : List ByteArray) : (cellsT xs).size = xs.length := by simp [cellsT]
theorem cellsT_at (xs : List ByteArray) (i : Nat) (h : i < xs.length) : (cellsT xs)[i]? = some (.string xs[i]) := by simp [cellsT, h]
/-- A block that holds this list. -/
def RowT (w : World) (b : Nat) (xs : List ByteArray) : Prop := w.heap[b]? = some (.cells (cellsT xs) 9 (0, 0))
theorem RowT.lt {w : World} {b : Nat} {xs : List ByteArray} (h : RowT w b xs) : b < w.heap.size := by
  rcases Nat.lt_or_ge b w.heap.size with hl | hl
  · exact hl
  · unfold RowT at h; rw [Array.getElem?_eq_none hl] at h; cases h
theorem RowT.cell {w : World} {b : Nat} {xs : List ByteArray} (h : RowT w b xs) (i : Nat) (hi : i < xs.length) : w.cell? ⟨b, i, none⟩ = some (.string xs[i]) := by
  rw [cell_of_row _ _ _ _ _ _ h]; exact cellsT_at xs i hi
theorem RowT.rit {w : World} {b B : Nat} {xs : List ByteArray} (h : RowT w b xs) (hb : b < B) (hx : ∀ x ∈ xs, x.size ≤ maxLen) (hl : xs.length ≤ maxLen) : RiT B w (.slice (some ⟨b, 0, none⟩) xs.length xs.length) xs :=
  ⟨_, _, rfl, Nat.le_refl _, hl, fun i hi => ⟨b, 0, rfl, hb, by rw [Nat.zero_add]; exact h.cell i hi, hx _ (List.getElem_mem hi)⟩⟩
theorem RowT.below {w w' : World} {b : Nat} {xs : List ByteArray} (h : RowT w b xs) (hw : Below w.heap.size w w') : RowT w' b xs := by
  unfold RowT; rw [hw.block _ h.lt]; exact h
theorem RiT.nil (B : Nat) (w : World) : RiT B w (.slice none 0 0) [] := ⟨none, 0, rfl, Nat.le_refl _, by decide, fun i hi => by simp at hi⟩
theorem Try.infoT : (Try.prog.info? 9).map (fun i => (i.zero.isSome, i.size, i.bytes)) = some (true, 1, 16) := by kernel_rfl
/-- The call makes a copy of the list, in one new block. -/
def MadeT (xs : List ByteArray) (w : World) (e : Ending) (w' : World) : Prop := e = .returned (.slice (some ⟨w.heap.size, 0, none⟩) xs.length xs.length) ∧ RowT w' w.heap.size xs ∧ w'.heap.size = w.heap.size + 1 ∧ Below w.heap.size w w'
/-- A list of strings of one's own. -/
def OT (w : World) (lo : Nat) (v : Value) (ss : List ByteArray) : Prop := w.ownsRow lo 9 1 v ss.length (ss.map Value.string)
theorem OT.sl {w : World} {lo : Nat} {v : Value} {ss : List ByteArray} (h : OT w lo v ss) : (v = .slice none 0 0 ∧ ss = []) ∨ ∃ g cap, v = .slice (some ⟨g, 0, none⟩) ss.length cap ∧ lo ≤ g ∧ g < w.heap.size ∧ ss.length ≤ cap ∧ cap ≤ maxLen := by
  rcases own_sl h with ⟨h1, h2⟩ | h1
  · exact .inl ⟨h1, List.eq_nil_of_length_eq_zero h2⟩
  · exact .inr h1
theorem OT.cell {w : World} {lo g cap n : Nat} {ss : List ByteArray} (h : OT w lo (.slice (some ⟨g, 0, none⟩) n cap) ss) (j : Nat) (hj : j < ss.length) : w.cell? ⟨g, j, none⟩ = some (.string ss[j]) := by
  have := World.ownsRow.cells (g := g) h rfl j (.string ss[j]) (by simp [hj])
  rw [add_at, Nat.zero_add] at this
  exact this
theorem OT.rit {w : World} {lo : Nat} {v : Value} {ss : List ByteArray} (h : OT w lo v ss) (hi : ∀ x ∈ ss, x.size ≤ maxLen) : RiT w.heap.size w v ss := by
  rcases h.sl with ⟨rfl, rfl⟩ | ⟨g, cap, rfl, hlo, hg, hn, hm⟩
  · exact RiT.nil _ _
  · exact ⟨_, cap, rfl, hn, hm, fun i hi2 => ⟨g, 0, rfl, hg, by rw [Nat.zero_add]; exact h.cell i hi2, hi _ (List.getElem_mem hi2)⟩⟩
theorem OT.of_row {w : World} {lo b : Nat} {ss : List ByteArray} (h : RowT w b ss) (hlo : lo ≤ b) (hl : ss.length ≤ maxLen) : OT w lo (.slice (some ⟨b, 0, none⟩) ss.length ss.length) ss := by
  refine ⟨by simp, .inr ⟨b, ss.length, cellsT ss, rfl, hlo, h, Nat.le_refl _, hl, by rw [cellsT_size, Nat.mul_one], ?_⟩⟩
  rw [Nat.mul_one]
  simp only [cellsT]
  rw [List.take_of_length_le (by simp)]
theorem OT.set {w : World} {lo g cap : Nat} {ss : List ByteArray} {n : Nat} (h : OT w lo (.slice (some ⟨g, 0, none⟩) n cap) ss) (j : Nat) (x : ByteArray) (hj : j < ss.length) :
    OT (w.setCell ⟨g, j, none⟩ (.string x)) lo (.slice (some ⟨g, 0, none⟩) n cap) (ss.set j x) := by
  unfold OT at h ⊢
  rcases h.2 with ⟨h0, _⟩ | ⟨g', cap', cur, he, hb, hg, hnc, hm, hcs, htake⟩
  · cases h0
  · cases he
    refine ⟨by simp, .inr ⟨g, cap, cur.setIfInBounds j (.string x), by rw [List.length_set], hb, heap_setCell_same _ _ _ _ _ _ hg, by simpa using hnc, hm, by simpa using hcs, ?_⟩⟩
    rw [List.length_set, Array.toList_setIfInBounds, List.take_set, htake, List.map_set]
def SmT (ss : List ByteArray) : Prop := ss.length ≤ 1048576 ∧ ∀ s ∈ ss, s.size ≤ 1048576
end Go.Proofs.Ytmddgncidgdglaa
