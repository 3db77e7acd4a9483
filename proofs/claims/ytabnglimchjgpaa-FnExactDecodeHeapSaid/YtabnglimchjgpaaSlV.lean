/- What is popped from a table of slots, filled in it, emptied. No statement is proved here. -/
import Derived.Test.YtabnglimchjgpaaSlU
namespace Go.Proofs.Ytabnglimchjgpaa
open Go.RowKit
set_option linter.unusedVariables false
theorem OT.cut {W : World} {lo g n c : Nat} {ss : List ByteArray} (h : OT W lo (.slice (some ⟨g, 0, none⟩) n c) ss) (j : Nat) (hj : j ≤ ss.length) : OT W lo (.slice (some ⟨g, 0, none⟩) j c) (ss.take j) := by
  have hl : (ss.take j).length = j := by simp; omega
  unfold OT
  rw [hl]
  rcases h.2 with ⟨h0, _⟩ | ⟨g', cap, cur, he, hb, hgg, hnc, hm, hcs, htk⟩
  · cases h0
  · have e1 : some (⟨g, 0, none⟩ : Addr) = some ⟨g', 0, none⟩ := (Value.slice.inj he).1
    cases e1
    have e3 : c = cap := (Value.slice.inj he).2.2
    subst e3
    refine ⟨by rw [List.length_map, hl, Nat.mul_one], .inr ⟨g, c, cur, rfl, hb, hgg, by omega, hm, hcs, ?_⟩⟩
    rw [Nat.mul_one] at htk ⊢
    rw [List.map_take, ← htk, List.take_take, Nat.min_eq_left hj]
set_option maxHeartbeats 1000000 in
set_option maxRecDepth 100000 in
theorem pop_none {w : World} {lo g : Nat} {v u : Value} {ns : List Int} (hg : w.heap[g]? = some (.cells #[v, u] 74 (0, 0))) (ho : OI w lo v ns) (h0 : ns = []) :
    Calls Try.prog 59 #[.pointer (some ⟨g, 0, none⟩)] w fun e w' => e = .returned (.tuple #[.int .i64 0, .bool false]) ∧ w' = w := by
  subst h0
  obtain ⟨A, c, rfl⟩ := ho.sl
  have q0 : w.cell? ⟨g, 0, none⟩ = some (.slice A ([] : List Int).length c) := by rw [cell_of_row _ _ _ _ _ _ hg]; rfl
  clear hg ho
  simp only [List.length_nil] at q0
  go_enter Try.func59, Try.ntmps59
  go_wp2_with fail
  go_ret2
  exact ⟨rfl, rfl⟩
set_option maxHeartbeats 1000000 in
set_option maxRecDepth 100000 in
theorem pop_some {w : World} {lo g : Nat} {v u : Value} {ns : List Int} {m : Int} (hg : w.heap[g]? = some (.cells #[v, u] 74 (0, 0))) (ho : OI w lo v ns) (hl : ns.getLast? = some m) (hn : ns.length ≤ 30) :
    Calls Try.prog 59 #[.pointer (some ⟨g, 0, none⟩)] w fun e w' => e = .returned (.tuple #[.int .i64 m, .bool true]) ∧ ∃ v', w'.heap[g]? = some (.cells #[v', u] 74 (0, 0)) ∧ (∀ q, q ≠ g → w'.heap[q]? = w.heap[q]?) ∧ w'.heap.size = w.heap.size ∧ Below g w w' := by
  have hne : ns ≠ [] := fun e => by subst e; simp at hl
  have hp : 0 < ns.length := List.length_pos_iff.2 hne
  have hlast : ns[ns.length - 1]'(by omega) = m := by
    rw [List.getLast?_eq_getElem?, List.getElem?_eq_getElem (by omega)] at hl
    exact Option.some.inj hl
  rcases ho.slice with ⟨_, h2⟩ | ⟨h, cap, rfl, hr⟩
  · exact absurd h2 hne
  have hc := ho.cell (ns.length - 1) (by omega)
  rw [hlast] at hc
  have q0 : w.cell? ⟨g, 0, none⟩ = some (.slice (some ⟨h, 0, none⟩) ns.length cap) := by rw [cell_of_row _ _ _ _ _ _ hg]; rfl
  have f0 : w.frozen? ⟨g, 0, none⟩ = false := frozen_of_row _ _ _ _ _ hg
  have T6 : Hid ((w.setCell ⟨g, 0, none⟩ (.slice (some ⟨h, 0, none⟩) (ns.length - 1) cap)).heap[g]? = some (.cells #[.slice (some ⟨h, 0, none⟩) (ns.length - 1) cap, u] 74 (0, 0))) := Lib.hid (by rw [heap_setCell_same w g 0 _ _ _ hg]; rfl)
  obtain ⟨j, hj⟩ : ∃ j, ns.length = j + 1 := ⟨ns.length - 1, by omega⟩
  have Hcap : Hid (ns.length ≤ cap ∧ cap ≤ maxLen) := Lib.hid (by
    rcases ho.2 with ⟨h0, _⟩ | ⟨g', cap', cur, he, _, _, hnc, hm, _⟩
    · cases h0
    · have e3 : cap = cap' := (Value.slice.inj he).2.2
      subst e3
      exact ⟨hnc, hm⟩)
  rw [hj] at q0 hc T6
  simp only [Nat.add_sub_cancel] at hc T6
  have hcap1 := Hcap.out.1
  have hcap2 := Hcap.out.2
  unfold maxLen at hcap2
  have n1 : ((j + 1 : Nat) : Int) - 1 = (j : Int) := by omega
  have d1 : decide ((j : Int) < ((j + 1 : Nat) : Int)) = true := decide_eq_true (by omega)
  clear hg ho hl hne hp hlast hr Hcap
  go_enter Try.func59, Try.ntmps59
  go_wp2_with fail
  go_ret2
  exact ⟨rfl, _, T6.out, fun q hq => heap_setCell_other _ ⟨g, 0, none⟩ _ _ hq, by simp [World.setCell], (Below.refl _ _).setCell (p := ⟨g, 0, none⟩) (Nat.le_refl _) _⟩
set_option maxHeartbeats 1000000 in
set_option maxRecDepth 100000 in
theorem fill_any {w : World} {lo g : Nat} {v u : Value} {ss : List ByteArray} (k : Nat) (nm : ByteArray) (hg : w.heap[g]? = some (.cells #[v, u] 74 (0, 0))) (ho : OT w lo u ss) (hlo : lo ≤ w.heap.size) (hlg : lo ≤ g) (hln : ss.length ≤ 1048576) (hk : k ≤ ss.length) :
    Calls Try.prog 60 #[.pointer (some ⟨g, 0, none⟩), .int .i64 (k : Int), .string nm] w fun e w' => e = .returned (.tuple #[]) ∧ ∃ u', w'.heap[g]? = some (.cells #[v, u'] 74 (0, 0)) ∧ OT w' lo u' (ptW ss nm k) ∧ Below lo w w' := by
  have HG := Lib.hid hg; have HO := Lib.hid ho
  have HN := Lib.hid (own_neH ho hg tne2)
  have q1 : w.cell? ⟨g, 1, none⟩ = some u := by rw [cell_of_row _ _ _ _ _ _ hg]; rfl
  have HGL : Hid (g < w.heap.size) := Lib.hid (World.block_lt_of_cell? w ⟨g, 1, none⟩ q1)
  have HW : Hid (ptW ss nm k = if k < ss.length then ss.set k nm else ss ++ [nm]) := Lib.hid rfl
  by_cases hlt : k < ss.length
  · have HF : Hid (ptW ss nm k = ss.set k nm) := Lib.hid (by rw [HW.out, if_pos hlt])
    rcases ho.sl with ⟨_, h2⟩ | ⟨m, cap, rfl, hm1, hm2, hnc, hcm⟩
    · rw [h2] at hlt; simp at hlt
    have HCi := Lib.hid (fun W => isIndex_is (k := (k : Int)) (n := (ss.length : Int)) (r := true) (ix_yes (by omega) (by omega)) W)
    have hu := HO.out.cell k hlt
    have hfz := own_frozen HO.out k
    have d1 : decide ((k : Int) < (ss.length : Int)) = true := decide_eq_true (by omega)
    have T6 : Hid ((w.setCell ⟨m, k, none⟩ (.string nm)).heap[g]? = some (.cells #[v, .slice (some ⟨m, 0, none⟩) ss.length cap] 74 (0, 0))) := Lib.hid ((heap_setCell_other _ ⟨m, k, none⟩ _ _ (fun e => HN.out (by simp only at e; rw [e]; rfl))).trans HG.out)
    have O6 : Hid (OT (w.setCell ⟨m, k, none⟩ (.string nm)) lo (.slice (some ⟨m, 0, none⟩) ss.length cap) (ss.set k nm)) := Lib.hid (HO.out.set k nm hlt)
    have B6 : Hid (Below lo w (w.setCell ⟨m, k, none⟩ (.string nm))) := Lib.hid ((Below.refl _ _).setCell (p := ⟨m, k, none⟩) hm1 _)
    generalize ss[k] = old at *
    clear hg ho hm1 hm2 hnc hcm HW
    go_enter Try.func60, Try.ntmps60
    go_wp2_with (go_at_call 64; refine (HCi.out _).mono ?_; rintro e w' ⟨rfl, rfl⟩)
    go_end0
    exact ⟨rfl, _, T6.out, by rw [HF.out]; exact O6.out, B6.out⟩
  · have HF : Hid (ptW ss nm k = ss ++ [nm]) := Lib.hid (by rw [HW.out, if_neg hlt])
    have HCi := Lib.hid (fun W => isIndex_is (k := (k : Int)) (n := (ss.length : Int)) (r := false) (ix_no (by omega)) W)
    obtain ⟨A, c, rfl⟩ := ho.op
    have I5 : Hid (∀ z, (Value.slice A ss.length c).ownBlock = some z → lo ≤ z ∧ z < w.heap.size) := Lib.hid (own_wi ho)
    clear hg ho HW
    go_enter Try.func60, Try.ntmps60
    go_wp2_with (first | (go_at_call 64; refine (HCi.out _).mono ?_; rintro e w' ⟨rfl, hww⟩; rw [hww]; clear hww w') | (at_builtin; refine wpList_pushT (W := w) (v := .slice A ss.length c) (lo := lo) (xs := ss) (x := nm) rfl (.tmp 24) (.tmp 26) rfl rfl rfl rfl HO.out hlo hln ?_; intro h9 cap w5 o5 g5 _; have O5 : Hid (OT w5 lo (.slice (some ⟨h9, 0, none⟩) (ss.length + 1) cap) (ss ++ [nm])) := Lib.hid (by have z9 := o5; rw [List.length_append, List.length_singleton] at z9; exact z9); have G5 := Lib.hid g5; clear o5 g5 q1; have K5 : Hid (∀ q, q < w.heap.size → (∀ z, (Value.slice A ss.length c).ownBlock = some z → q ≠ z) → w5.heap[q]? = w.heap[q]?) := Lib.hid (fun q hq hne => (G5.out.block q (Nat.lt_of_lt_of_le hq ((Below.refl _ w).alloc (Nat.le_refl _) _).size) (fun e => hne q e.symm rfl)).trans (((Below.refl _ w).alloc (Nat.le_refl _) _).block q hq)); have T5 : Hid (w5.heap[g]? = some (.cells #[v, .slice A ss.length c] 74 (0, 0))) := Lib.hid ((K5.out g HGL.out (fun z hz e => HN.out (by rw [hz, e]))).trans HG.out); have B5 : Hid (Below lo w w5) := Lib.hid (((Below.refl _ w).alloc hlo _).grown G5.out (Nat.le_trans hlo ((Below.refl _ w).alloc (Nat.le_refl _) _).size) (fun z hz => (I5.out z hz).1)); have q5 : w5.cell? ⟨g, 1, none⟩ = some (.slice A ss.length c) := (by rw [cell_of_row _ _ _ _ _ _ T5.out]; rfl); have f5 : w5.frozen? ⟨g, 1, none⟩ = false := frozen_of_row _ _ _ _ _ T5.out))
    have T6 : Hid ((w5.setCell ⟨g, 1, none⟩ (.slice (some ⟨h9, 0, none⟩) (ss.length + 1) cap)).heap[g]? = some (.cells #[v, .slice (some ⟨h9, 0, none⟩) (ss.length + 1) cap] 74 (0, 0))) := Lib.hid (by rw [heap_setCell_same w5 g 1 _ _ _ T5.out]; rfl)
    have N9 : Hid ((Value.slice (some ⟨h9, 0, none⟩) (ss.length + 1) cap).ownBlock ≠ some g) := Lib.hid (own_neH O5.out T5.out tne2)
    have O6 : Hid (OT (w5.setCell ⟨g, 1, none⟩ (.slice (some ⟨h9, 0, none⟩) (ss.length + 1) cap)) lo (.slice (some ⟨h9, 0, none⟩) (ss.length + 1) cap) (ss ++ [nm])) := Lib.hid (own_same O5.out fun q hq => heap_setCell_other _ ⟨g, 1, none⟩ _ _ (fun e => N9.out (by rw [hq, e])))
    have B6 : Hid (Below lo w (w5.setCell ⟨g, 1, none⟩ (.slice (some ⟨h9, 0, none⟩) (ss.length + 1) cap))) := Lib.hid (B5.out.setCell (p := ⟨g, 1, none⟩) hlg _)
    clear q5 f5
    go_end0
    exact ⟨rfl, _, T6.out, by rw [HF.out]; exact O6.out, B6.out⟩
/-- The list behind j slots, where all behind them are free. -/
def dpJ (ss : List ByteArray) (k j : Nat) : List ByteArray := (dpM ss k).take j
theorem dpM_len (ss : List ByteArray) (k : Nat) : (dpM ss k).length = ss.length := by simp [dpM]
set_option maxHeartbeats 2000000 in
set_option maxRecDepth 100000 in
theorem empty_any {w : World} {lo g : Nat} {v u : Value} {ss : List ByteArray} (k : Nat) (hg : w.heap[g]? = some (.cells #[v, u] 74 (0, 0))) (ho : OT w lo u ss) (hlo : lo ≤ w.heap.size) (hlg : lo ≤ g) (hln : ss.length ≤ 1048576) (hk : k < ss.length) :
    Calls Try.prog 65 #[.pointer (some ⟨g, 0, none⟩), .int .i64 (k : Int)] w fun e w' => e = .returned (.tuple #[]) ∧ ∃ u', w'.heap[g]? = some (.cells #[v, u'] 74 (0, 0)) ∧ OT w' lo u' (dpT ss k) ∧ Below lo w w' := by
  have HG := Lib.hid hg; have HO := Lib.hid ho
  have HN := Lib.hid (own_neH ho hg tne2)
  rcases ho.sl with ⟨_, h2⟩ | ⟨m, cap, rfl, hm1, hm2, hnc, hcm⟩
  · rw [h2] at hk; simp at hk
  have q1 : w.cell? ⟨g, 1, none⟩ = some (.slice (some ⟨m, 0, none⟩) ss.length cap) := by rw [cell_of_row _ _ _ _ _ _ hg]; rfl
  have hu := HO.out.cell k hk
  have hfz := own_frozen HO.out k
  have d1 : decide ((k : Int) < (ss.length : Int)) = true := decide_eq_true (by omega)
  have hmg : m ≠ g := fun e => HN.out (by rw [e]; rfl)
  have T6 : Hid ((w.setCell ⟨m, k, none⟩ (.string ⟨#[]⟩)).heap[g]? = some (.cells #[v, .slice (some ⟨m, 0, none⟩) ss.length cap] 74 (0, 0))) := Lib.hid ((heap_setCell_other _ ⟨m, k, none⟩ _ _ (fun e => hmg (by simp only at e; rw [e]))).trans HG.out)
  have O6 : Hid (OT (w.setCell ⟨m, k, none⟩ (.string ⟨#[]⟩)) lo (.slice (some ⟨m, 0, none⟩) ss.length cap) (dpM ss k)) := Lib.hid (HO.out.set k ⟨#[]⟩ hk)
  have B6 : Hid (Below lo w (w.setCell ⟨m, k, none⟩ (.string ⟨#[]⟩))) := Lib.hid ((Below.refl _ _).setCell (p := ⟨m, k, none⟩) hm1 _)
  have q2 : (w.setCell ⟨m, k, none⟩ (.string ⟨#[]⟩)).cell? ⟨g, 1, none⟩ = some (.slice (some ⟨m, 0, none⟩) ss.length cap) := by rw [cell_of_row _ _ _ _ _ _ T6.out]; rfl
  have HMG := Lib.hid hmg
  have HL := Lib.hid (dpM_len ss k)
  have HT : Hid (dpT ss k = (dpM ss k).take (trN (dpM ss k) (dpM ss k).length)) := Lib.hid rfl
  have HLC := Lib.hid (And.intro hnc hcm)
  generalize ss[k] = old at *
  unfold maxLen at hcm
  clear hg ho hmg HN
  go_enter Try.func65, Try.ntmps65
  go_wp2_with fail
  clear q1 q2 hu hfz
  generalize (w.setCell ⟨m, k, none⟩ (.string ⟨#[]⟩)) = w1 at *
  go_loopw [4] (fun i wr => ∃ j : Nat, j ≤ ss.length ∧ i = .int .i64 ((j : Int) - 1) ∧ wr.heap[g]? = some (.cells #[v, .slice (some ⟨m, 0, none⟩) j cap] 74 (0, 0)) ∧ OT wr lo (.slice (some ⟨m, 0, none⟩) j cap) (dpJ ss k j) ∧ trN (dpM ss k) (dpM ss k).length = trN (dpM ss k) j ∧ Below lo w wr) (fun i _ => ((intOf i) + 1).toNat)
  case atStart => exact ⟨ss.length, Nat.le_refl _, rfl, T6.out, by unfold dpJ; rw [List.take_of_length_le (by rw [HL.out]; exact Nat.le_refl _)]; exact O6.out, by rw [HL.out], B6.out⟩
  case round =>
    obtain ⟨j, hj, rfl, ht, hot, htr, hbel⟩ := hrel
    have HTt := Lib.hid ht; have HS := Lib.hid hot; have HR := Lib.hid htr; have HB := Lib.hid hbel
    have q1 : wr.cell? ⟨g, 1, none⟩ = some (.slice (some ⟨m, 0, none⟩) j cap) := by rw [cell_of_row _ _ _ _ _ _ ht]; rfl
    have f1 : wr.frozen? ⟨g, 1, none⟩ = false := frozen_of_row _ _ _ _ _ ht
    clear ht hot htr hbel
    cases j with
    | zero =>
      clear q1 f1
      go_wp2_with fail
      go_end0
      exact ⟨rfl, _, HTt.out, by rw [HT.out, HR.out]; exact HS.out, HB.out⟩
    | succ j =>
      rw [show ((j + 1 : Nat) : Int) - 1 = (j : Int) from by omega]
      have hjl : j < (dpM ss k).length := by rw [HL.out]; omega
      have hjt : (dpJ ss k (j + 1)).length = j + 1 := by unfold dpJ; rw [List.length_take]; omega
      have g1 := HS.out.cell j (by rw [hjt]; omega)
      have e0 : (dpJ ss k (j + 1))[j]'(by rw [hjt]; omega) = (dpM ss k)[j] := by simp [dpJ]
      rw [e0] at g1
      have HZ : Hid ((dpM ss k)[j].size = 0 → trN (dpM ss k) (j + 1) = trN (dpM ss k) j) := Lib.hid (fun h => trN_step (by rw [hpN_at hjl]; exact h))
      have HY : Hid ((dpM ss k)[j].size ≠ 0 → trN (dpM ss k) (j + 1) = j + 1) := Lib.hid (fun h => trN_stop (by rw [hpN_at hjl]; exact h))
      have HC1 := Lib.hid (HS.out.cut j (by rw [hjt]; omega))
      have e2 : (dpJ ss k (j + 1)).take j = dpJ ss k j := by unfold dpJ; rw [List.take_take, Nat.min_eq_left (by omega)]
      have HC2 : Hid (OT wr lo (.slice (some ⟨m, 0, none⟩) j cap) (dpJ ss k j)) := Lib.hid (by rw [← e2]; exact HC1.out)
      have hc1 := HLC.out.1
      clear e0 e2 hjt HC1
      generalize (dpM ss k)[j] = s at *
      have n1 : decide ((j : Int) < ((j + 1 : Nat) : Int)) = true := decide_eq_true (by omega)
      by_cases hz : s.size = 0
      · have e1 := mt_isEmpty hz
        have Htr2 : Hid (trN (dpM ss k) (dpM ss k).length = trN (dpM ss k) j) := Lib.hid (by rw [HR.out, HZ.out hz])
        have T7 : Hid ((wr.setCell ⟨g, 1, none⟩ (.slice (some ⟨m, 0, none⟩) j cap)).heap[g]? = some (.cells #[v, .slice (some ⟨m, 0, none⟩) j cap] 74 (0, 0))) := Lib.hid (by rw [heap_setCell_same wr g 1 _ _ _ HTt.out]; rfl)
        have O7 : Hid (OT (wr.setCell ⟨g, 1, none⟩ (.slice (some ⟨m, 0, none⟩) j cap)) lo (.slice (some ⟨m, 0, none⟩) j cap) (dpJ ss k j)) := Lib.hid (own_same HC2.out fun q hq => heap_setCell_other _ ⟨g, 1, none⟩ _ _ (by simp [Value.ownBlock] at hq; have := HMG.out; simp only; omega))
        have B7 : Hid (Below lo w (wr.setCell ⟨g, 1, none⟩ (.slice (some ⟨m, 0, none⟩) j cap))) := Lib.hid (HB.out.setCell (p := ⟨g, 1, none⟩) hlg _)
        clear hz HZ HY
        go_wp2_with fail
        go_roundw
        case rel => exact ⟨j, by omega, by first | rfl | (congr 1; omega) | simp, T7.out, O7.out, Htr2.out, B7.out⟩
        case measure => simp [intOf]
      · have e1 := toList_ne s (by omega)
        have Htr2 : Hid (trN (dpM ss k) (dpM ss k).length = j + 1) := Lib.hid (by rw [HR.out, HY.out hz])
        clear hz HZ HY
        go_wp2_with fail
        go_end0
        exact ⟨rfl, _, HTt.out, by rw [HT.out, Htr2.out]; exact HS.out, HB.out⟩
end Go.Proofs.Ytabnglimchjgpaa
