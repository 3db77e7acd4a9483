/- Answers that are heaps of names in new memory; the model's copy of a heap. No statement is proved here. -/
import Derived.Test.YtabnglimchjgpaaHpM
import Derived.Test.YtabnglimchjgpaaPsT
import Derived.Test.YtabnglimchjgpaaAcc
namespace Go.Proofs.Ytabnglimchjgpaa
open Go.RowKit
set_option linter.unusedVariables false
/-- A heap of names in new memory, within an answer. -/
def AnsH (mk : Value → Value) (D : List ByteArray) (w : World) (e : Ending) (w' : World) : Prop := ∃ v, e = .returned (mk (.agg #[v])) ∧ OT w' w.heap.size v D ∧ Below w.heap.size w w'
theorem OT.op {W : World} {lo : Nat} {v : Value} {ss : List ByteArray} (h : OT W lo v ss) : ∃ A cap, v = .slice A ss.length cap := by
  rcases h.sl with ⟨rfl, rfl⟩ | ⟨g, cap, rfl, _⟩
  · exact ⟨_, _, rfl⟩
  · exact ⟨_, _, rfl⟩
theorem ot_mt (w : World) (lo : Nat) : OT w lo (.slice none 0 0) [] := ⟨rfl, .inl ⟨rfl, rfl⟩⟩
theorem three_newH (w : World) (a b c : Obj) : (((w.alloc a).alloc b).alloc c).heap[w.heap.size]? = some a ∧ (((w.alloc a).alloc b).alloc c).heap[w.heap.size + 1]? = some b ∧ (((w.alloc a).alloc b).alloc c).heap[w.heap.size + 1 + 1]? = some c ∧ (((w.alloc a).alloc b).alloc c).heap.size = w.heap.size + 3 ∧ Below w.heap.size w (((w.alloc a).alloc b).alloc c) := by
  refine ⟨?_, ?_, ?_, by simp, (((Below.refl _ w).alloc (Nat.le_refl _) _).alloc (by simp) _).alloc (by simp; omega) _⟩
  · exact (((Below.refl _ ((w.alloc a).alloc b)).alloc (Nat.le_refl _) c).block _ (by simp; omega)).trans (heap_alloc2_old w a b)
  · exact (((Below.refl _ ((w.alloc a).alloc b)).alloc (Nat.le_refl _) c).block _ (by simp)).trans (heap_alloc2_new w a b)
  · have := heap_alloc_new ((w.alloc a).alloc b) c
    simpa using this
theorem infoTH : (Try.prog.info? 9).map (fun i => (i.zero, i.size, i.bytes)) = some (some (.string ⟨#[]⟩), 1, 16) := by kernel_rfl
theorem infoH : (Try.prog.info? 27).map (·.size) = some 1 := by kernel_rfl
theorem oneH (A : Option Addr) (n c : Nat) : (#[.slice A n c] : Array Value).all (·.oneCell') = true := by simp [Value.oneCell']
theorem infoHs (A : Option Addr) (n c : Nat) : (Try.prog.info? 27).map (·.size) = some (#[.slice A n c] : Array Value).size := infoH
/-- An answer's end: the heap lies in the result's block. -/
theorem AnsH.end {w w3 : World} {lo r : Nat} {cs : Array Value} {mk : Value → Value} {A : Option Addr} {n c : Nat} {D : List ByteArray} (h : OT w3 lo (.slice A n c) D) (hr : r < lo) (hr0 : w.heap.size ≤ r) (B3 : Below w.heap.size w w3) :
    AnsH mk D w (.returned (mk (.agg #[.slice A n c]))) (w3.setRow r cs) :=
  ⟨_, rfl, own_lo (own_same h fun g hg => setRow_other _ _ g _ (by have := own_wi h g hg; omega)) (by omega), below_setRow B3 hr0 _⟩
theorem AnsH.zero {w w1 : World} {r : Nat} {cs : Array Value} {mk : Value → Value} (hr0 : w.heap.size ≤ r) (B1 : Below w.heap.size w w1) :
    AnsH mk [] w (.returned (mk (.agg #[.slice none 0 0]))) (w1.setRow r cs) := ⟨_, rfl, ot_mt _ _, below_setRow B1 hr0 _⟩
set_option maxHeartbeats 1000000 in
set_option maxRecDepth 100000 in
theorem l16Own_any {B : Nat} {w : World} {v : Value} {ss : List ByteArray} (h : RiT B w v ss) (hB : B ≤ w.heap.size) (hs : ss.length ≤ 1048576) :
    Calls Try.prog 55 #[.agg #[v]] w (AnsH (fun p => p) ss w) := by
  obtain ⟨A, cap, rfl, hl, hm, hx⟩ := h
  obtain ⟨i0, hi, hz0, hz1, hz2⟩ := info_parts infoTH
  have HW := Lib.hid (three_newH w (.cells #[.slice A ss.length cap] 27 (0, 0)) (.cells #[.slice none 0 0] 27 (0, 0)) (.cells #[] 9 (0, 0)))
  have HQ := Lib.hid (heap_alloc2_old w (.cells #[.slice A ss.length cap] 27 (0, 0)) (.cells #[.slice none 0 0] 27 (0, 0)))
  have Hown : Hid ((((w.alloc (.cells #[.slice A ss.length cap] 27)).alloc (.cells #[.slice none 0 0] 27)).alloc (.cells #[] 9)).ownsRow (w.heap.size + 1 + 1) 9 1 (.slice (some ⟨w.heap.size + 1 + 1, 0, none⟩) 0 0) 0 []) := Lib.hid ⟨rfl, .inr ⟨w.heap.size + 1 + 1, 0, #[], rfl, Nat.le_refl _, HW.out.2.2.1, Nat.le_refl _, by decide, by simp, by simp⟩⟩
  have q0 : (((w.alloc (.cells #[.slice A ss.length cap] 27)).alloc (.cells #[.slice none 0 0] 27)).alloc (.cells #[] 9)).cell? ⟨w.heap.size, 0, none⟩ = some (.slice A ss.length cap) := by rw [cell_of_row _ _ _ _ _ _ HW.out.1]; rfl
  unfold maxLen at hm
  cases A with
  | none =>
    have h0 : ss = [] := by
      rcases ss with _ | ⟨x, l⟩
      · rfl
      · obtain ⟨b, o, hA, _⟩ := hx 0 (by simp); cases hA
    subst h0
    have R1 := HW.out.2.1
    clear hx
    go_enter Try.func55, Try.ntmps55
    go_wp2_with (first | (at_builtin; refine wpList_append_own_none rfl (.tmp 3) (.tmp 5) 22 rfl (w.heap.size + 1 + 1) 9 i0 1 Try.underlying22 hi _ 0 [] rfl Hown.out rfl ?_) | (refine wpList_store_row rfl 27 (.tmp 2) (.tmp 7) rfl (w.heap.size + 1) #[.slice (some ⟨w.heap.size + 1 + 1, 0, none⟩) 0 0] rfl rfl 27 _ R1 (infoHs _ _ _) rfl (oneH _ _ _) ?_))
    refine bodyPost_ret (v := .agg #[.slice (some ⟨w.heap.size + 1 + 1, 0, none⟩) 0 0]) ?_ rfl ?_
    · exact results_cell_row rfl _ _ (w.heap.size + 1) 27 _ (0, 0) _ rfl (setRow_heap _ _ _ _ _ _ R1) Try.underlying27 rfl (by kernel_rfl)
    · exact AnsH.end (lo := w.heap.size + 1 + 1) (by simpa [OT] using Hown.out) (Nat.lt_succ_self _) (by omega) HW.out.2.2.2.2
  | some ad =>
    have Hc : Hid (∀ j u, (ss.map Value.string)[j]? = some u → (((w.alloc (.cells #[.slice (some ad) ss.length cap] 27)).alloc (.cells #[.slice none 0 0] 27)).alloc (.cells #[] 9)).cell? (ad.add j) = some u) := Lib.hid (fun j u hu => by
      rw [List.getElem?_map] at hu
      obtain ⟨x, hxj, rfl⟩ := Option.map_eq_some_iff.1 hu
      obtain ⟨hj, rfl⟩ := List.getElem?_eq_some_iff.1 hxj
      obtain ⟨b, o, hA, hb, hc, _⟩ := hx j hj
      cases hA
      rw [add_at, HW.out.2.2.2.2.cell (p := ⟨b, o + j, none⟩) (show b < _ by omega)]
      exact hc)
    clear hx
    go_enter Try.func55, Try.ntmps55
    go_wp2_with (first | (at_builtin; refine wpList_append_own _ rfl (.tmp 3) (.tmp 5) 22 rfl (w.heap.size + 1 + 1) 9 i0 (.string ⟨#[]⟩) 1 16 Try.underlying22 hi hz0 hz1 hz2 rfl (by decide) (.slice (some ⟨w.heap.size + 1 + 1, 0, none⟩) 0 0) 0 [] rfl Hown.out ad ss.length cap (ss.map Value.string) rfl (by simp) Hc.out (by intro u hu; obtain ⟨x, _, rfl⟩ := List.mem_map.1 hu; rfl) (by unfold maxLen; omega) (by omega) (by simp) ?_; intro v2 w2 hown2 hg2 hnil2; have Ho : Hid (OT w2 (w.heap.size + 1 + 1) v2 ss) := Lib.hid (by unfold OT; simpa using hown2); obtain ⟨A2, c2, rfl⟩ := Ho.out.op; have R1 : w2.heap[w.heap.size + 1]? = some (.cells #[.slice none 0 0] 27 (0, 0)) := (hg2.block _ (by have := HW.out.2.2.2.1; omega) (by simp [Value.ownBlock])).trans HW.out.2.1; have Hb : Hid (Below w.heap.size w w2) := Lib.hid (HW.out.2.2.2.2.grown hg2 (by have := HW.out.2.2.2.1; omega) (fun k hk => by simp [Value.ownBlock] at hk; omega)); clear hown2 hg2 hnil2 q0) | (refine wpList_store_row rfl 27 (.tmp 2) (.tmp 7) rfl (w.heap.size + 1) #[.slice A2 ss.length c2] rfl rfl 27 _ R1 (infoHs _ _ _) rfl (oneH _ _ _) ?_))
    refine bodyPost_ret (v := .agg #[.slice A2 ss.length c2]) ?_ rfl ?_
    · exact results_cell_row rfl _ _ (w.heap.size + 1) 27 _ (0, 0) _ rfl (setRow_heap _ _ _ _ _ _ R1) Try.underlying27 rfl (by kernel_rfl)
    · exact AnsH.end (lo := w.heap.size + 1 + 1) Ho.out (Nat.lt_succ_self _) (by omega) Hb.out
end Go.Proofs.Ytabnglimchjgpaa
