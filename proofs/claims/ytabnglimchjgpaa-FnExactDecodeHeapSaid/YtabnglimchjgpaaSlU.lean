/- The table of slots made of a heap; what is popped, filled and emptied. No statement is proved here. -/
import Derived.Test.YtabnglimchjgpaaSlT
namespace Go.Proofs.Ytabnglimchjgpaa
open Go.RowKit
set_option linter.unusedVariables false
theorem ix_no {k n : Int} (h : n ≤ k) : (decide (0 ≤ k) && decide (k < n)) = false := by
  have e : decide (k < n) = false := decide_eq_false (by omega)
  rw [e, Bool.and_false]
theorem ix_yes {k n : Int} (h0 : 0 ≤ k) (h : k < n) : (decide (0 ≤ k) && decide (k < n)) = true := by
  rw [decide_eq_true h0, decide_eq_true h]; rfl
/-- The top of the stack is the first slot to fill. -/
def TopI (ns : List Int) (o : Option Nat) : Prop := ns.getLast? = o.map (fun m => (m : Int))
theorem TopI.push (ns : List Int) (m : Nat) : TopI (ns ++ [(m : Int)]) (some m) := by simp [TopI]
theorem fd_push {ss : List ByteArray} {j : Nat} (hj : j ≤ 29) (h : frB ss j = true) : fd ss (30 - j) = some j := by
  obtain ⟨n, hn⟩ : ∃ n, 30 - j = n + 1 := ⟨29 - j, by omega⟩
  have e : 29 - n = j := by omega
  rw [hn, fd, e, if_pos h]
theorem fd_pass {ss : List ByteArray} {j : Nat} (hj : j ≤ 29) (h : frB ss j = false) : fd ss (30 - j) = fd ss (30 - (j + 1)) := by
  obtain ⟨n, hn⟩ : ∃ n, 30 - j = n + 1 := ⟨29 - j, by omega⟩
  have e : 29 - n = j := by omega
  have e2 : 30 - (j + 1) = n := by omega
  rw [hn, e2, fd, e, if_neg (by rw [h]; decide)]
theorem frB_out {ss : List ByteArray} {j : Nat} (h : ss.length ≤ j) : frB ss j = true := by unfold frB; rw [hpN_out h]; rfl
theorem frB_in {ss : List ByteArray} {j : Nat} (h : j < ss.length) : frB ss j = decide (ss[j].size = 0) := by unfold frB; rw [hpN_at h]
/-- A table of slots in new memory. -/
def SlA (ss : List ByteArray) (w : World) (e : Ending) (w' : World) : Prop := ∃ (g : Nat) (v u : Value) (ns : List Int), e = .returned (.pointer (some ⟨g, 0, none⟩)) ∧ w.heap.size ≤ g ∧ w'.heap[g]? = some (.cells #[v, u] 74 (0, 0)) ∧ OI w' w.heap.size v ns ∧ OT w' w.heap.size u ss ∧ TopI ns (fd ss 30) ∧ ns.length ≤ 30 ∧ Below w.heap.size w w'
theorem infoSt : (Try.prog.info? 9).map (·.size) = some 1 := by kernel_rfl
/-- copy of a list of strings into a row of the call's own, as long as it is. -/
theorem wpList_copyT {ops : Array Oper} {rest : List Oper} {o : Oper} {a : Act} {Q : Exit → Act → World → Prop} {w : World} {g cap : Nat} {A : Option Addr} {C : Array Value} {ss : List ByteArray} (hgd : o.guard = none) (d s : Operand)
    (ho : o.op = .call { callee := .builtin .copy, args := #[d, s], argTypes := #[22, 22] }) (hd : a.eval d = .slice (some ⟨g, 0, none⟩) ss.length ss.length) (hs : a.eval s = .slice A ss.length cap)
    (hg : w.heap[g]? = some (.cells C 9 (0, 0))) (hC : C.size = ss.length) (hx : ∀ (i : Nat) (hi : i < ss.length), ∃ b o : Nat, A = some ⟨b, o, none⟩ ∧ w.cell? ⟨b, o + i, none⟩ = some (.string ss[i]))
    (h : ∀ w', RowT w' g ss → (∀ q, q ≠ g → w'.heap[q]? = w.heap[q]?) → w'.heap.size = w.heap.size → Below g w w' → wpList Try.prog ops Q rest (a.put o.dst (goInt ss.length)) w') : wpList Try.prog ops Q (o :: rest) a w := by
  by_cases h0 : ss.length = 0
  · refine wpList_copy_nothing hgd d s 22 22 ho 9 Try.underlying22 infoSt _ _ _ _ _ _ hd hs (by rw [h0]; rfl) ?_
    have := h w (by
      unfold RowT cellsT
      obtain rfl := List.eq_nil_of_length_eq_zero h0
      have : C = #[] := Array.eq_empty_of_size_eq_zero (by simpa using hC)
      rw [hg, this]; rfl) (fun q _ => rfl) rfl (Below.refl _ _)
    rw [h0] at this
    exact this
  · obtain ⟨b, o', hA, _⟩ := hx 0 (by omega)
    subst hA
    have hl : (ss.map Value.string).length = ss.length := by simp
    refine wpList_copy_own hgd d s 22 22 ho 9 Try.underlying22 infoSt g 0 _ _ ⟨b, o', none⟩ _ _ hd hs C 9 hg (ss.map Value.string) (by simp) (fun j v hv => ?_) (by simp; omega) (fun v hv => ?_) ?_
    · rw [List.getElem?_map] at hv
      obtain ⟨x, hxj, rfl⟩ := Option.map_eq_some_iff.1 hv
      obtain ⟨hj, rfl⟩ := List.getElem?_eq_some_iff.1 hxj
      obtain ⟨b2, o2, e, hc⟩ := hx j hj
      cases e
      rw [add_at]; exact hc
    · obtain ⟨x, _, rfl⟩ := List.mem_map.1 hv; rfl
    · rw [hl]
      have e : (C.toList.take 0 ++ (ss.map Value.string ++ C.toList.drop (0 + ss.length))).toArray = cellsT ss := by
        rw [List.take_zero, List.nil_append, List.drop_eq_nil_of_le (by simp [hC]), List.append_nil]; rfl
      rw [e]
      exact h _ (by unfold RowT; exact setRow_heap _ _ _ _ _ _ hg) (fun q hq => setRow_other _ _ _ _ hq) (by simp [World.setRow]) (below_setRow (Below.refl _ _) (Nat.le_refl _) _)
theorem ot_heap {W : World} {lo g n c : Nat} {ss : List ByteArray} (h : OT W lo (.slice (some ⟨g, 0, none⟩) n c) ss) : ∃ cur, W.heap[g]? = some (.cells cur 9 (0, 0)) := by
  rcases h.2 with ⟨h0, _⟩ | ⟨g', cap, cur, he, _, hgg, _⟩
  · cases h0
  · have e1 : some (⟨g, 0, none⟩ : Addr) = some ⟨g', 0, none⟩ := (Value.slice.inj he).1
    cases e1
    exact ⟨cur, hgg⟩
/-- A push keeps a list of strings. -/
theorem kpp_ot {W W' : World} {lo lo2 g n c m : Nat} {v : Value} {ss : List ByteArray} {ns : List Int} (h : OT W lo (.slice (some ⟨m, 0, none⟩) n c) ss) (hk : Kpp W W' g v) (ho : OI W lo2 v ns) (hm : m ≠ g) : OT W' lo (.slice (some ⟨m, 0, none⟩) n c) ss := by
  obtain ⟨cur, hc⟩ := ot_heap h
  have hlt : m < W.heap.size := (own_wi h m rfl).2
  exact own_same h fun q hq => by
    have e : m = q := by simpa [Value.ownBlock] using hq
    subst e
    exact hk m hlt hm (fun z hz e => own_neH ho hc tne4 (by rw [hz, e]))
set_option maxHeartbeats 4000000 in
set_option maxRecDepth 100000 in
theorem slotTableOf_any {B : Nat} {w : World} {v : Value} {ss : List ByteArray} (h : RiT B w v ss) (hB : B ≤ w.heap.size) (hs : ss.length ≤ 1048576) :
    Calls Try.prog 58 #[.agg #[v]] w (SlA ss w) := by
  obtain ⟨A, cap, rfl, hl, hm, hx⟩ := h
  have Hx := Lib.hid hx; clear hx
  unfold maxLen at hm
  obtain ⟨C, hC, hmk⟩ := make_all (P := Try.prog) 22 9 ss.length 1 16 Try.underlying22 Try.infoT (by omega) (by omega)
  have HC' : Hid (C.size = ss.length) := Lib.hid (by omega)
  clear hC
  have HW := Lib.hid (three_newH w (.cells #[.slice A ss.length cap] 27 (0, 0)) (.cells C 9 (0, 0)) (.cells #[.slice none 0 0, .slice (some ⟨w.heap.size + 1, 0, none⟩) ss.length ss.length] 74 (0, 0)))
  have q0 := row1 w (.slice A ss.length cap) 27
  go_enter Try.func58, Try.ntmps58
  go_wp2_with fail
  generalize (((w.alloc (.cells #[.slice A ss.length cap] 27)).alloc (.cells C 9)).alloc (.cells #[.slice none 0 0, .slice (some ⟨w.heap.size + 1, 0, none⟩) ss.length ss.length] 74)) = w0 at *
  have QL : Hid (w.heap.size + 3 = w0.heap.size) := Lib.hid HW.out.2.2.2.1.symm
  have HB0 := Lib.hid HW.out.2.2.2.2
  have G1 : w0.drew.heap[w.heap.size + 1]? = some (.cells C 9 (0, 0)) := HW.out.2.1
  have G2 : Hid (w0.drew.heap[w.heap.size + 1 + 1]? = some (.cells #[.slice none 0 0, .slice (some ⟨w.heap.size + 1, 0, none⟩) ss.length ss.length] 74 (0, 0))) := Lib.hid HW.out.2.2.1
  have HX0 : Hid (∀ (i : Nat) (hi : i < ss.length), ∃ b o : Nat, A = some ⟨b, o, none⟩ ∧ w0.drew.cell? ⟨b, o + i, none⟩ = some (.string ss[i])) := Lib.hid (fun i hi => by
    obtain ⟨b, o, e, hb, hc, -⟩ := Hx.out i hi
    exact ⟨b, o, e, (HB0.out.drew.cell (p := ⟨b, o + i, none⟩) (show b < _ by omega)).trans hc⟩)
  have p0 : w0.drew.cell? ⟨w.heap.size, 0, none⟩ = some (.slice A ss.length cap) := by rw [cell_of_row w0.drew _ _ _ _ _ (show w0.drew.heap[w.heap.size]? = _ from HW.out.1)]; rfl
  have p1 : w0.drew.cell? ⟨w.heap.size + 1 + 1, 1, none⟩ = some (.slice (some ⟨w.heap.size + 1, 0, none⟩) ss.length ss.length) := by rw [cell_of_row w0.drew _ _ _ _ _ G2.out]; rfl
  clear q0
  refine wp_region_still_tail 6 (by kernel_rfl) (by kernel_rfl) ?_
  simp only [List.take_succ_cons, List.take_zero, List.drop_succ_cons, List.drop_zero]
  repeat still_step
  refine wpStill_nil ?_
  refine wpList_copyT (w := w0.drew) (g := w.heap.size + 1) (C := C) (ss := ss) rfl (.tmp 14) (.tmp 16) rfl rfl rfl G1 HC'.out HX0.out ?_
  intro w3 hr hk hsz hbg
  have R3 := Lib.hid hr
  have K3 := Lib.hid hk
  have Z3 : Hid (w.heap.size + 3 = w3.heap.size) := Lib.hid (by rw [hsz]; exact QL.out)
  have B3 : Hid (Below w.heap.size w w3) := Lib.hid (HB0.out.drew.trans (hbg.mono (by omega)))
  have T3 : Hid (w3.heap[w.heap.size + 1 + 1]? = some (.cells #[.slice none 0 0, .slice (some ⟨w.heap.size + 1, 0, none⟩) ss.length ss.length] 74 (0, 0))) := Lib.hid ((hk _ (by omega)).trans G2.out)
  have O3 : Hid (OT w3 w.heap.size (.slice (some ⟨w.heap.size + 1, 0, none⟩) ss.length ss.length) ss) := Lib.hid (OT.of_row hr (by omega) (by unfold maxLen; omega))
  clear hr hk hsz hbg p0 p1 G1 HX0 K3 HW QL HB0 G2 Hx
  go_wp2_with fail
  go_loopw [4] (fun i wr => ∃ (j : Nat) (v : Value) (ns : List Int), j ≤ 30 ∧ i = .int .i64 ((j : Int) - 1) ∧ wr.heap[w.heap.size + 1 + 1]? = some (.cells #[v, .slice (some ⟨w.heap.size + 1, 0, none⟩) ss.length ss.length] 74 (0, 0)) ∧ OI wr w.heap.size v ns ∧ OT wr w.heap.size (.slice (some ⟨w.heap.size + 1, 0, none⟩) ss.length ss.length) ss ∧ TopI ns (fd ss (30 - j)) ∧ ns.length ≤ 30 - j ∧ Below w.heap.size w wr) (fun i _ => ((intOf i) + 1).toNat)
  case atStart => exact ⟨30, _, [], by omega, by simp, T3.out, oi_none _ _, O3.out, rfl, by simp, B3.out⟩
  case round =>
    obtain ⟨j, v, ns, hj, rfl, ht, hoi, hot, htop, hnl, hbel⟩ := hrel
    have HT := Lib.hid ht; have HO := Lib.hid hoi; have HS := Lib.hid hot; have HP := Lib.hid htop; have HB := Lib.hid hbel
    have q1 : wr.cell? ⟨w.heap.size + 1 + 1, 1, none⟩ = some (.slice (some ⟨w.heap.size + 1, 0, none⟩) ss.length ss.length) := by rw [cell_of_row wr _ _ _ _ _ ht]; rfl
    clear ht hoi hot htop hbel
    cases j with
    | zero =>
      clear q1
      go_wp2_with fail
      go_ret
      exact ⟨w.heap.size + 1 + 1, v, _, ns, rfl, by omega, HT.out, HO.out, HS.out, HP.out, hnl, HB.out⟩
    | succ j =>
      rw [show ((j + 1 : Nat) : Int) - 1 = (j : Int) from by omega]
      have HPu := Lib.hid (push_any (j : Int) HT.out HO.out HB.out.size (by omega) (by omega))
      by_cases hlt : j < ss.length
      rotate_left
      · have HCi := Lib.hid (fun W => isIndex_is (k := (j : Int)) (n := (ss.length : Int)) (r := false) (ix_no (by omega)) W)
        have HFr : Hid (frB ss j = true) := Lib.hid (frB_out (by omega))
        go_wp2_with (go_at_call 64; refine (HCi.out _).mono ?_; rintro e w' ⟨rfl, rfl⟩)
        refine HPu.out.mono ?_
        rintro e w5 ⟨rfl, v', t5, o5, k5, b5⟩
        have T5 := Lib.hid t5; have O5 := Lib.hid o5
        have S5 := Lib.hid (kpp_ot HS.out k5 HO.out (by omega))
        have B5 : Hid (Below w.heap.size w w5) := Lib.hid (HB.out.trans b5)
        clear t5 o5 k5 b5 q1
        go_wp2_with fail
        go_roundw
        case rel => exact ⟨j, v', ns ++ [(j : Int)], by omega, by first | rfl | (congr 1; omega) | simp, T5.out, O5.out, S5.out, by rw [fd_push (by omega) HFr.out]; exact TopI.push ns j, by rw [List.length_append, List.length_singleton]; omega, B5.out⟩
        case measure => simp [intOf]
      have HCi := Lib.hid (fun W => isIndex_is (k := (j : Int)) (n := (ss.length : Int)) (r := true) (ix_yes (by omega) (by omega)) W)
      have g1 := HS.out.cell j hlt
      have HFi := Lib.hid (frB_in hlt)
      have d1 : decide ((j : Int) < (ss.length : Int)) = true := decide_eq_true (by omega)
      generalize ss[j] = s at *
      by_cases hz : s.size = 0
      · have HFr : Hid (frB ss j = true) := Lib.hid (by rw [HFi.out]; simp [hz])
        have e1 := mt_isEmpty hz
        clear hz HFi
        go_wp2_with (go_at_call 64; refine (HCi.out _).mono ?_; rintro e w' ⟨rfl, rfl⟩)
        refine HPu.out.mono ?_
        rintro e w5 ⟨rfl, v', t5, o5, k5, b5⟩
        have T5 := Lib.hid t5; have O5 := Lib.hid o5
        have S5 := Lib.hid (kpp_ot HS.out k5 HO.out (by omega))
        have B5 : Hid (Below w.heap.size w w5) := Lib.hid (HB.out.trans b5)
        clear t5 o5 k5 b5 q1 g1
        go_wp2_with fail
        go_roundw
        case rel => exact ⟨j, v', ns ++ [(j : Int)], by omega, by first | rfl | (congr 1; omega) | simp, T5.out, O5.out, S5.out, by rw [fd_push (by omega) HFr.out]; exact TopI.push ns j, by rw [List.length_append, List.length_singleton]; omega, B5.out⟩
        case measure => simp [intOf]
      · have HFr : Hid (frB ss j = false) := Lib.hid (by rw [HFi.out]; simp [hz])
        have e1 := toList_ne s (by omega)
        clear hz HFi HPu
        go_wp2_with (go_at_call 64; refine (HCi.out _).mono ?_; rintro e w' ⟨rfl, rfl⟩)
        go_roundw
        case rel => exact ⟨j, v, ns, by omega, by first | rfl | (congr 1; omega) | simp, HT.out, HO.out, HS.out, by rw [fd_pass (by omega) HFr.out]; exact HP.out, by omega, HB.out⟩
        case measure => simp [intOf]
end Go.Proofs.Ytabnglimchjgpaa
