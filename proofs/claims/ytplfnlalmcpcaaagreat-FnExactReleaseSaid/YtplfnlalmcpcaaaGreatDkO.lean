/- A disk of one's own: the model's copy. No statement is proved here. -/
import Derived.Test.YtplfnlalmcpcaaaGreatDkM
import Derived.Laws.AppendOwnNone
import Derived.Laws.Tables
namespace Go.Proofs.YtplfnlalmcpcaaaGreat
open Go.RowKit
set_option linter.unusedVariables false
theorem infoUz : (Tryz.prog.info? 178).map (fun i => (i.zero, i.size, i.bytes)) = some (some (.agg #[.int .i64 0, .string ⟨#[]⟩]), 2, 24) := by kernel_rfl
theorem OT.ne {W : World} {lo g : Nat} {v : Value} {ss : List ByteArray} {C : Array Value} {fr : Nat × Nat} (h : OT W lo v ss) (hg : W.heap[g]? = some (.cells C 178 fr)) : v.ownBlock ≠ some g := by
  rcases h.2 with ⟨rfl, _⟩ | ⟨g', cap, cur, rfl, _, hgg, _⟩
  · simp [Value.ownBlock]
  · intro he
    simp only [Value.ownBlock, Option.some.injEq] at he
    subst he
    rw [hgg] at hg
    simp at hg
theorem OU.blk {W : World} {lo g n : Nat} {v : Value} {ps : List Value} (h : W.ownsRow lo 178 2 v n ps) (hv : v.ownBlock = some g) : ∃ C, W.heap[g]? = some (.cells C 178 (0, 0)) := by
  rcases h.2 with ⟨rfl, _⟩ | ⟨g', cap, cur, rfl, _, hgg, _⟩
  · simp [Value.ownBlock] at hv
  · simp only [Value.ownBlock, Option.some.injEq] at hv
    subst hv
    exact ⟨_, hgg⟩
theorem OT.ap {W : World} {lo : Nat} {v1 v2 : Value} {ss : List ByteArray} {ps : List Pt} (h1 : OT W lo v1 ss) (h2 : OU W lo v2 ps) : Apart v1 v2 := fun g hg he => by
  obtain ⟨C, hC⟩ := OU.blk h2 he
  exact h1.ne hC hg
theorem wp_store_rowd (d : Option Tmp) {o : Oper} {a : Act} {w : World} {K : Act → World → Prop} {Q : Exit → Act → World → Prop} {E : Prop} {ops : Array Oper} (hw : Region.wanted o (yielded ops a.tmps) = true) (hd : o.dst = d) (ty : TypeId) (x y : Operand) (ho : o.op = .store ty x y)
    (g : Nat) (cells : Array Value) (hx : a.eval x = .pointer (some ⟨g, 0, none⟩)) (hy : a.eval y = .agg cells)
    (t : TypeId) (old : Array Value) (hg : w.heap[g]? = some (.cells old t (0, 0))) (hi : (Tryz.prog.info? ty).map (·.size) = some cells.size)
    (hold : old.size = cells.size) (h1 : cells.all (·.oneCell') = true)
    (h : K (a.put d undef) (w.setRow g cells)) : if Region.wanted o (yielded ops a.tmps) = true then Oper.wp Tryz.prog o a w K Q else E := by
  subst hd
  rw [if_pos hw]
  exact wp_store_row ty x y ho g cells hx hy t old hg hi hold h1 h
theorem grown_at {W w' : World} {r G : Nat} {x : Obj} (hg : W.grownBy w' (some G)) (hne : r ≠ G) (h : W.heap[r]? = some x) : w'.heap[r]? = some x := by
  have hlt : r < W.heap.size := by
    rcases Nat.lt_or_ge r W.heap.size with hl | hl
    · exact hl
    · rw [Array.getElem?_eq_none hl] at h; cases h
  rw [hg.block r hlt (by simp [hne])]; exact h
theorem OT.ex {W : World} {lo : Nat} {v : Value} {ss : List ByteArray} (h : OT W lo v ss) : ∃ A cap, v = .slice A ss.length cap := by
  rcases OT.sl h with ⟨rfl, rfl⟩ | ⟨x, cap, rfl, _⟩ <;> exact ⟨_, _, rfl⟩
theorem OU.ex {W : World} {lo : Nat} {v : Value} {ps : List Pt} (h : OU W lo v ps) : ∃ A cap, v = .slice A ps.length cap := by
  rcases OU.sl h with ⟨rfl, rfl⟩ | ⟨x, cap, rfl, _⟩ <;> exact ⟨_, _, rfl⟩
/-- append of a whole list onto an empty own row, its slot named. -/
theorem wp_copyT (d : Option Tmp) {o : Oper} {a : Act} {K : Act → World → Prop} {Q : Exit → Act → World → Prop} {W : World} {lo G B : Nat} {A : Option Addr} {ss : List ByteArray} {E : Prop} {ops : Array Oper} (hw : Region.wanted o (yielded ops a.tmps) = true) (s y : Operand) (hd : o.dst = d)
    (ho : o.op = .call { callee := .builtin .append, args := #[s, y], argTypes := #[22, 22] }) (hs : a.eval s = .slice (some ⟨G, 0, none⟩) 0 0) (hx : a.eval y = .slice A ss.length ss.length)
    (hown : W.ownsRow lo 9 1 (.slice (some ⟨G, 0, none⟩) 0 0) 0 []) (hr : RiT B W (.slice A ss.length ss.length) ss) (hlo : lo ≤ W.heap.size) (hlen : ss.length ≤ 1048576)
    (h : ∀ v' w', OT w' lo v' ss → W.grownBy w' (some G) → K (a.put d v') w') : if Region.wanted o (yielded ops a.tmps) = true then Oper.wp Tryz.prog o a W K Q else E := by
  subst hd
  rw [if_pos hw]
  obtain ⟨i0, hi, hz0, hz1, hz2⟩ := info_parts infoTz
  obtain ⟨A1, cap, hv, hl, hm, hx2⟩ := hr
  have e1 : A1 = A := (Value.slice.inj hv).1.symm
  subst e1
  clear hv hl hm cap
  cases A1 with
  | none =>
    have h0 : ss = [] := by
      rcases ss with _ | ⟨x, l⟩
      · rfl
      · obtain ⟨b, o', hA, _⟩ := hx2 0 (by simp); cases hA
    subst h0
    have hrun := run_append_owned_none (P := Tryz.prog) (w := W) lo 22 o.type 9 i0 1 Tryz.underlying22 hi _ 0 [] hown
    unfold Oper.wp
    simp [execOp, ho, resolve, invoke, builtin, hs, hx, hrun, Result.andThen]
    exact h _ _ hown ⟨rfl, rfl, rfl, Nat.le_refl _, fun _ _ _ => rfl⟩
  | some ad =>
    refine wp_append_own W s y 22 ho lo 9 i0 (.string ⟨#[]⟩) 1 16 Tryz.underlying22 hi hz0 hz1 hz2 rfl (by decide) (.slice (some ⟨G, 0, none⟩) 0 0) 0 [] hs hown ad ss.length ss.length (ss.map Value.string) hx (by simp) (fun j u hu => ?_) (fun u hu => ?_) (by unfold maxLen; omega) (by omega) hlo (fun v' w' h1 h2 _ => h v' w' ?_ h2)
    · rw [List.getElem?_map] at hu
      obtain ⟨x, hxj, rfl⟩ := Option.map_eq_some_iff.1 hu
      obtain ⟨hj, rfl⟩ := List.getElem?_eq_some_iff.1 hxj
      obtain ⟨b, o', hA, hb, hc, _⟩ := hx2 j hj
      cases hA
      rw [add_at]
      exact hc
    · obtain ⟨x, _, rfl⟩ := List.mem_map.1 hu; rfl
    · unfold OT; simpa using h1
/-- append of a whole list onto an empty own row, its slot named. -/
theorem wp_copyU (d : Option Tmp) {o : Oper} {a : Act} {K : Act → World → Prop} {Q : Exit → Act → World → Prop} {W : World} {lo G B : Nat} {A : Option Addr} {ss : List Pt} {E : Prop} {ops : Array Oper} (hw : Region.wanted o (yielded ops a.tmps) = true) (s y : Operand) (hd : o.dst = d)
    (ho : o.op = .call { callee := .builtin .append, args := #[s, y], argTypes := #[32, 32] }) (hs : a.eval s = .slice (some ⟨G, 0, none⟩) 0 0) (hx : a.eval y = .slice A ss.length ss.length)
    (hown : W.ownsRow lo 178 2 (.slice (some ⟨G, 0, none⟩) 0 0) 0 []) (hr : RiU B W (.slice A ss.length ss.length) ss) (hlo : lo ≤ W.heap.size) (hlen : ss.length ≤ 1048576)
    (h : ∀ v' w', OU w' lo v' ss → W.grownBy w' (some G) → K (a.put d v') w') : if Region.wanted o (yielded ops a.tmps) = true then Oper.wp Tryz.prog o a W K Q else E := by
  subst hd
  rw [if_pos hw]
  obtain ⟨i0, hi, hz0, hz1, hz2⟩ := info_parts infoUz
  obtain ⟨A1, cap, hv, hl, hm, hx2⟩ := hr
  have e1 : A1 = A := (Value.slice.inj hv).1.symm
  subst e1
  clear hv hl hm cap
  cases A1 with
  | none =>
    have h0 : ss = [] := by
      rcases ss with _ | ⟨x, l⟩
      · rfl
      · obtain ⟨b, o', hA, _⟩ := hx2 0 (by simp); cases hA
    subst h0
    have hrun := run_append_owned_none (P := Tryz.prog) (w := W) lo 32 o.type 178 i0 2 Tryz.underlying32 hi _ 0 [] hown
    unfold Oper.wp
    simp [execOp, ho, resolve, invoke, builtin, hs, hx, hrun, Result.andThen]
    exact h _ _ hown ⟨rfl, rfl, rfl, Nat.le_refl _, fun _ _ _ => rfl⟩
  | some ad =>
    refine wp_append_own W s y 32 ho lo 178 i0 (.agg #[.int .i64 0, .string ⟨#[]⟩]) 2 24 Tryz.underlying32 hi hz0 hz1 hz2 rfl (by decide) (.slice (some ⟨G, 0, none⟩) 0 0) 0 [] hs hown ad ss.length ss.length (flatP ss) hx (by exact flatP_len _) (fun j u hu => ?_) (fun u hu => ?_) (by unfold maxLen; omega) (by omega) hlo (fun v' w' h1 h2 _ => h v' w' ?_ h2)
    · have hj : j < ss.length * 2 := by
        rcases Nat.lt_or_ge j (ss.length * 2) with hl | hl
        · exact hl
        · rw [List.getElem?_eq_none (by rw [flatP_len]; exact hl)] at hu; cases hu
      obtain ⟨b, o', hA, hb, hc1, hc2, _⟩ := hx2 (j / 2) (by omega)
      obtain ⟨f1, f2⟩ := flatP_at ss (j / 2) (by omega)
      cases hA
      rw [add_at]
      rcases Nat.mod_two_eq_zero_or_one j with hm | hm
      · have e : j / 2 * 2 = j := by omega
        rw [e] at f1 hc1
        rw [f1] at hu
        rw [← Option.some.inj hu]; exact hc1
      · have e : j / 2 * 2 + 1 = j := by omega
        have e' : o' + j / 2 * 2 + 1 = o' + j := by omega
        rw [e] at f2
        rw [e'] at hc2
        rw [f2] at hu
        rw [← Option.some.inj hu]; exact hc2
    · exact flatP_one _ u hu
    · unfold OU; simpa using h1
set_option maxHeartbeats 4000000 in
set_option maxRecDepth 100000 in
theorem l09Own_any {g : Nat} {w : World} {A1 A2 : Option Addr} {ss : List ByteArray} {ps : List Pt} {fz : Int} {off : Bool} (hd : DB w g (.slice A1 ss.length ss.length) (.slice A2 ps.length ps.length) fz off) (h1 : RiT w.heap.size w (.slice A1 ss.length ss.length) ss) (h2 : RiU w.heap.size w (.slice A2 ps.length ps.length) ps) (hs : ss.length ≤ 1048576) (hs2 : ps.length ≤ 1048576) :
    Calls Tryz.prog 87 #[.pointer (some ⟨g, 0, none⟩)] w (AnsD ss ps fz off w) := by
  have Hd := Lib.hid hd; have H1 := Lib.hid h1; have H2 := Lib.hid h2; have Hs := Lib.hid hs; have Hs2 := Lib.hid hs2
  clear hd h1 h2 hs hs2
  have HS : Hid (∀ W, Below w.heap.size w W → W.cell? ⟨g, 0, none⟩ = some (.slice A1 ss.length ss.length) ∧ W.cell? ⟨g, 1, none⟩ = some (.slice A2 ps.length ps.length) ∧ W.cell? ⟨g, 2, none⟩ = some (.int .i64 fz) ∧ W.cell? ⟨g, 3, none⟩ = some (.bool off)) := Lib.hid (fun W hW => by
    have hr := (hW.block _ Hd.out.lt).trans Hd.out
    exact ⟨by rw [cell_of_row _ _ _ _ _ _ hr]; rfl, by rw [cell_of_row _ _ _ _ _ _ hr]; rfl, by rw [cell_of_row _ _ _ _ _ _ hr]; rfl, by rw [cell_of_row _ _ _ _ _ _ hr]; rfl⟩)
  have B0 : Hid (Below w.heap.size w (w.alloc (.cells #[.slice none 0 0, .slice none 0 0, .int .i64 0, .bool false] 34)).drew) := Lib.hid ((Below.refl _ w).alloc (Nat.le_refl _) _).drew
  have R0 : Hid ((w.alloc (.cells #[.slice none 0 0, .slice none 0 0, .int .i64 0, .bool false] 34)).drew.heap[w.heap.size]? = some (.cells #[.slice none 0 0, .slice none 0 0, .int .i64 0, .bool false] 34 (0, 0))) := Lib.hid (heap_alloc_new w _)
  have Z0 : Hid (w.heap.size + 1 ≤ (w.alloc (.cells #[.slice none 0 0, .slice none 0 0, .int .i64 0, .bool false] 34)).drew.heap.size) := Lib.hid (by show w.heap.size + 1 ≤ (w.alloc (.cells #[.slice none 0 0, .slice none 0 0, .int .i64 0, .bool false] 34)).heap.size; simp)
  go_enter Tryz.func87, Tryz.ntmps87
  go_wp2_with fail
  refine wp_region_held_drew (S := fun W => W.cell? ⟨g, 0, none⟩ = some (.slice A1 ss.length ss.length) ∧ W.cell? ⟨g, 1, none⟩ = some (.slice A2 ps.length ps.length) ∧ W.cell? ⟨g, 2, none⟩ = some (.int .i64 fz) ∧ W.cell? ⟨g, 3, none⟩ = some (.bool off)) (by kernel_rfl) (HS.out _ B0.out) (fun hHeld => ?_)
  generalize hx0 : (w.alloc (.cells #[.slice none 0 0, .slice none 0 0, .int .i64 0, .bool false] 34)).drew = x0 at *
  clear hx0
  refine held_yes 1 (some 4) rfl rfl (by kernel_rfl) (by kernel_rfl) (by kernel_rfl) (fun _ _ _ h => h) (by kernel_rfl) hHeld (v := ?_) (fun wz hSw => ?_) ?_
  rotate_left 1
  · (try dsimp only at hSw); go_simp; (try with_reducible rfl)
  try simp only [Act.put, List.setIfInBounds_toArray, List.set_cons_zero, List.set_cons_succ]
  refine held_yes 2 (some 5) rfl rfl (by kernel_rfl) (by kernel_rfl) (by kernel_rfl) (fun _ _ _ h => h) (by kernel_rfl) hHeld (v := ?_) (fun wz hSw => ?_) ?_
  rotate_left 1
  · (try dsimp only at hSw); go_simp; (try with_reducible rfl)
  try simp only [Act.put, List.setIfInBounds_toArray, List.set_cons_zero, List.set_cons_succ]
  refine held_yes 3 (some 6) rfl rfl (by kernel_rfl) (by kernel_rfl) (by kernel_rfl) (fun _ _ _ h => h) (by kernel_rfl) hHeld (v := ?_) (fun wz hSw => ?_) ?_
  rotate_left 1
  · (try dsimp only at hSw); go_simp; (try with_reducible rfl)
  try simp only [Act.put, List.setIfInBounds_toArray, List.set_cons_zero, List.set_cons_succ]
  refine held_yes 4 (some 7) rfl rfl (by kernel_rfl) (by kernel_rfl) (by kernel_rfl) (fun _ _ _ h => h) (by kernel_rfl) hHeld (v := ?_) (fun wz hSw => ?_) ?_
  rotate_left 1
  · (try dsimp only at hSw); go_simp; (try with_reducible rfl)
  try simp only [Act.put, List.setIfInBounds_toArray, List.set_cons_zero, List.set_cons_succ]
  refine held_yes 7 (some 10) rfl rfl (by kernel_rfl) (by kernel_rfl) (by kernel_rfl) (fun _ _ _ h => h) (by kernel_rfl) hHeld (v := ?_) (fun wz hSw => ?_) ?_
  rotate_left 1
  · (try dsimp only at hSw); go_simp; (try with_reducible rfl)
  try simp only [Act.put, List.setIfInBounds_toArray, List.set_cons_zero, List.set_cons_succ]
  refine held_yes 8 (some 11) rfl rfl (by kernel_rfl) (by kernel_rfl) (by kernel_rfl) (fun _ _ _ h => h) (by kernel_rfl) hHeld (v := ?_) (fun wz hSw => ?_) ?_
  rotate_left 1
  · (try dsimp only at hSw); go_simp; (try with_reducible rfl)
  try simp only [Act.put, List.setIfInBounds_toArray, List.set_cons_zero, List.set_cons_succ]
  refine held_yes 9 (some 12) rfl rfl (by kernel_rfl) (by kernel_rfl) (by kernel_rfl) (fun _ _ _ h => h) (by kernel_rfl) hHeld (v := ?_) (fun wz hSw => ?_) ?_
  rotate_left 1
  · (try dsimp only at hSw); go_simp; (try with_reducible rfl)
  try simp only [Act.put, List.setIfInBounds_toArray, List.set_cons_zero, List.set_cons_succ]
  refine held_yes 10 (some 13) rfl rfl (by kernel_rfl) (by kernel_rfl) (by kernel_rfl) (fun _ _ _ h => h) (by kernel_rfl) hHeld (v := ?_) (fun wz hSw => ?_) ?_
  rotate_left 1
  · (try dsimp only at hSw); go_simp; (try with_reducible rfl)
  try simp only [Act.put, List.setIfInBounds_toArray, List.set_cons_zero, List.set_cons_succ]
  refine held_yes 12 (some 15) rfl rfl (by kernel_rfl) (by kernel_rfl) (by kernel_rfl) (fun _ _ _ h => h) (by kernel_rfl) hHeld (v := ?_) (fun wz hSw => ?_) ?_
  rotate_left 1
  · (try dsimp only at hSw); go_simp; (try with_reducible rfl)
  try simp only [Act.put, List.setIfInBounds_toArray, List.set_cons_zero, List.set_cons_succ]
  refine held_yes 13 (some 16) rfl rfl (by kernel_rfl) (by kernel_rfl) (by kernel_rfl) (fun _ _ _ h => h) (by kernel_rfl) hHeld (v := ?_) (fun wz hSw => ?_) ?_
  rotate_left 1
  · (try dsimp only at hSw); go_simp; (try with_reducible rfl)
  try simp only [Act.put, List.setIfInBounds_toArray, List.set_cons_zero, List.set_cons_succ]
  refine held_yes 14 (some 17) rfl rfl (by kernel_rfl) (by kernel_rfl) (by kernel_rfl) (fun _ _ _ h => h) (by kernel_rfl) hHeld (v := ?_) (fun wz hSw => ?_) ?_
  rotate_left 1
  · (try dsimp only at hSw); go_simp; (try with_reducible rfl)
  try simp only [Act.put, List.setIfInBounds_toArray, List.set_cons_zero, List.set_cons_succ]
  refine held_yes 15 (some 18) rfl rfl (by kernel_rfl) (by kernel_rfl) (by kernel_rfl) (fun _ _ _ h => h) (by kernel_rfl) hHeld (v := ?_) (fun wz hSw => ?_) ?_
  rotate_left 1
  · (try dsimp only at hSw); go_simp; (try with_reducible rfl)
  try simp only [Act.put, List.setIfInBounds_toArray, List.set_cons_zero, List.set_cons_succ]
  refine held_yes 16 (some 19) rfl rfl (by kernel_rfl) (by kernel_rfl) (by kernel_rfl) (fun _ _ _ h => h) (by kernel_rfl) hHeld (v := ?_) (fun wz hSw => ?_) ?_
  rotate_left 1
  · (try dsimp only at hSw); go_simp; (try with_reducible rfl)
  try simp only [Act.put, List.setIfInBounds_toArray, List.set_cons_zero, List.set_cons_succ]
  refine held_yes 17 (some 20) rfl rfl (by kernel_rfl) (by kernel_rfl) (by kernel_rfl) (fun _ _ _ h => h) (by kernel_rfl) hHeld (v := ?_) (fun wz hSw => ?_) ?_
  rotate_left 1
  · (try dsimp only at hSw); go_simp; (try with_reducible rfl)
  try simp only [Act.put, List.setIfInBounds_toArray, List.set_cons_zero, List.set_cons_succ]
  refine held_yes 18 (some 21) rfl rfl (by kernel_rfl) (by kernel_rfl) (by kernel_rfl) (fun _ _ _ h => h) (by kernel_rfl) hHeld (v := ?_) (fun wz hSw => ?_) ?_
  rotate_left 1
  · (try dsimp only at hSw); go_simp; (try with_reducible rfl)
  try simp only [Act.put, List.setIfInBounds_toArray, List.set_cons_zero, List.set_cons_succ]
  refine held_yes 19 (some 22) rfl rfl (by kernel_rfl) (by kernel_rfl) (by kernel_rfl) (fun _ _ _ h => h) (by kernel_rfl) hHeld (v := ?_) (fun wz hSw => ?_) ?_
  rotate_left 1
  · (try dsimp only at hSw); go_simp; (try with_reducible rfl)
  try simp only [Act.put, List.setIfInBounds_toArray, List.set_cons_zero, List.set_cons_succ]
  refine wpAnyH_ready (rs := [0, 6]) (by kernel_rfl) (by simp) ?_
  refine AllReadyH.cons rfl (fun K hK => ?_) (AllReadyH.cons rfl (fun K hK => ?_) AllReadyH.nil)
  go_simp
  have B1 : Hid (Below w.heap.size w (x0.alloc (.cells #[] 9))) := Lib.hid (B0.out.alloc B0.out.size _)
  refine hK.out _ _ (HS.out _ B1.out) (fun hHeld => ?_)
  clear hK K
  have R1 : Hid ((x0.alloc (.cells #[] 9)).heap[w.heap.size]? = some (.cells #[.slice none 0 0, .slice none 0 0, .int .i64 0, .bool false] 34 (0, 0))) := Lib.hid (((Below.refl _ x0).alloc (Nat.le_refl _) _ |>.block _ (by have := Z0.out; omega)).trans R0.out)
  have Z1 : Hid (w.heap.size + 1 ≤ (x0.alloc (.cells #[] 9)).heap.size) := Lib.hid (by have := Z0.out; simp; omega)
  have W1 : Hid ((x0.alloc (.cells #[] 9)).ownsRow (w.heap.size + 1) 9 1 (.slice (some ⟨x0.heap.size, 0, none⟩) 0 0) 0 []) := Lib.hid (World.ownsRow_made x0 #[] 0 Z0.out (by decide) (by simp))
  generalize hn : (x0.alloc (.cells #[] 9)) = x1 at *
  clear hn
  try simp only [Act.put, List.setIfInBounds_toArray, List.set_cons_zero, List.set_cons_succ]
  refine wpAnyH_ready (rs := [5, 6]) (by kernel_rfl) (by simp) ?_
  refine AllReadyH.cons rfl (fun K hK => ?_) (AllReadyH.cons rfl (fun K hK => ?_) AllReadyH.nil)
  refine wp_copyT (W := x1) (lo := w.heap.size + 1) (ss := ss) (some 8) (by kernel_rfl) (.tmp 3) (.tmp 7) rfl rfl rfl rfl W1.out (H1.out.at (Nat.le_refl _) B1.out) Z1.out Hs.out ?_
  intro v2 x2 own2 gr2
  obtain ⟨E2, e2, rfl⟩ := own2.ex
  have GL2 : Hid (w.heap.size + 1 ≤ x0.heap.size) := Lib.hid (World.ownsRow.lt W1.out _ rfl).1
  have B2 : Hid (Below w.heap.size w x2) := Lib.hid (B1.out.grown gr2 B1.out.size (fun k hk => by have := GL2.out; cases hk; omega))
  refine hK.out _ _ (HS.out _ B2.out) (fun hHeld => ?_)
  clear hK K
  have R2 : Hid (x2.heap[w.heap.size]? = some (.cells #[.slice none 0 0, .slice none 0 0, .int .i64 0, .bool false] 34 (0, 0))) := Lib.hid (grown_at gr2 (by have := GL2.out; omega) R1.out)
  have Z2 : Hid (w.heap.size + 1 ≤ x2.heap.size) := Lib.hid (by have := Z1.out; have := gr2.size; omega)
  have V2_5 := Lib.hid own2; clear own2 gr2
  try simp only [Act.put, List.setIfInBounds_toArray, List.set_cons_zero, List.set_cons_succ]
  refine wpAnyH_ready (rs := [6]) (by kernel_rfl) (by simp) ?_
  refine AllReadyH.cons rfl (fun K hK => ?_) AllReadyH.nil
  go_simp
  have B3 : Hid (Below w.heap.size w (x2.alloc (.cells #[] 178))) := Lib.hid (B2.out.alloc B2.out.size _)
  refine hK.out _ _ (HS.out _ B3.out) (fun hHeld => ?_)
  clear hK K
  have R3 : Hid ((x2.alloc (.cells #[] 178)).heap[w.heap.size]? = some (.cells #[.slice none 0 0, .slice none 0 0, .int .i64 0, .bool false] 34 (0, 0))) := Lib.hid (((Below.refl _ x2).alloc (Nat.le_refl _) _ |>.block _ (by have := Z2.out; omega)).trans R2.out)
  have Z3 : Hid (w.heap.size + 1 ≤ (x2.alloc (.cells #[] 178)).heap.size) := Lib.hid (by have := Z2.out; simp; omega)
  have W3 : Hid ((x2.alloc (.cells #[] 178)).ownsRow (w.heap.size + 1) 178 2 (.slice (some ⟨x2.heap.size, 0, none⟩) 0 0) 0 []) := Lib.hid (World.ownsRow_made x2 #[] 0 Z2.out (by decide) (by simp))
  have V3_5 : Hid (OT (x2.alloc (.cells #[] 178)) (w.heap.size + 1) (Value.slice E2 ss.length e2) ss) := Lib.hid (own_bel V2_5.out ((Below.refl _ x2).alloc (Nat.le_refl _) _))
  generalize hn : (x2.alloc (.cells #[] 178)) = x3 at *
  clear hn
  try simp only [Act.put, List.setIfInBounds_toArray, List.set_cons_zero, List.set_cons_succ]
  refine wpAnyH_ready (rs := [11]) (by kernel_rfl) (by simp) ?_
  refine AllReadyH.cons rfl (fun K hK => ?_) AllReadyH.nil
  refine wp_copyU (W := x3) (lo := w.heap.size + 1) (ss := ps) (some 14) (by kernel_rfl) (.tmp 9) (.tmp 13) rfl rfl rfl rfl W3.out (H2.out.at (Nat.le_refl _) B3.out) Z3.out Hs2.out ?_
  intro v4 x4 own4 gr4
  obtain ⟨E4, e4, rfl⟩ := own4.ex
  have GL4 : Hid (w.heap.size + 1 ≤ x2.heap.size) := Lib.hid (World.ownsRow.lt W3.out _ rfl).1
  have B4 : Hid (Below w.heap.size w x4) := Lib.hid (B3.out.grown gr4 B3.out.size (fun k hk => by have := GL4.out; cases hk; omega))
  refine hK.out _ _ (HS.out _ B4.out) (fun hHeld => ?_)
  clear hK K
  have R4 : Hid (x4.heap[w.heap.size]? = some (.cells #[.slice none 0 0, .slice none 0 0, .int .i64 0, .bool false] 34 (0, 0))) := Lib.hid (grown_at gr4 (by have := GL4.out; omega) R3.out)
  have Z4 : Hid (w.heap.size + 1 ≤ x4.heap.size) := Lib.hid (by have := Z3.out; have := gr4.size; omega)
  have V4_5 : Hid (OT x4 (w.heap.size + 1) (Value.slice E2 ss.length e2) ss) := Lib.hid (World.ownsRow.kept V3_5.out gr4 (.inr (by obtain ⟨C, hC⟩ := OU.blk W3.out rfl; exact OT.ne V3_5.out hC)))
  have V4_11 := Lib.hid own4; clear own4 gr4
  try simp only [Act.put, List.setIfInBounds_toArray, List.set_cons_zero, List.set_cons_succ]
  refine held_yes 20 (some 23) rfl rfl (by kernel_rfl) (by kernel_rfl) (by kernel_rfl) (fun _ _ _ h => h) (by kernel_rfl) hHeld (v := ?_) (fun wz hSw => ?_) ?_
  rotate_left 1
  · (try dsimp only at hSw); go_simp; (try with_reducible rfl)
  try simp only [Act.put, List.setIfInBounds_toArray, List.set_cons_zero, List.set_cons_succ]
  refine wpAnyH_ready (rs := [21]) (by kernel_rfl) (by simp) ?_
  refine AllReadyH.cons rfl (fun K hK => ?_) AllReadyH.nil
  have Hi9 : Hid ((Tryz.prog.info? 34).map (·.size) = some (#[(Value.slice E2 ss.length e2), (Value.slice E4 ps.length e4), .int .i64 fz, .bool off] : Array Value).size) := Lib.hid (by kernel_rfl)
  have H19 : Hid ((#[(Value.slice E2 ss.length e2), (Value.slice E4 ps.length e4), .int .i64 fz, .bool off] : Array Value).all (·.oneCell') = true) := Lib.hid (by
    rcases OT.sl V4_5.out with _ | _ <;> simp [Value.oneCell'])
  refine wp_store_rowd none (by kernel_rfl) rfl 34 (.tmp 2) (.tmp 23) rfl w.heap.size #[(Value.slice E2 ss.length e2), (Value.slice E4 ps.length e4), .int .i64 fz, .bool off] rfl rfl 34 _ R4.out Hi9.out rfl H19.out ?_
  refine hK.out _ _ (HS.out _ (below_setRow B4.out (Nat.le_refl _) _)) (fun hHeld => ?_)
  clear hK K hHeld
  try simp only [Act.put]
  refine wpAnyH_done (by kernel_rfl) ?_ _
  have Rf : Hid ((x4.setRow w.heap.size #[(Value.slice E2 ss.length e2), (Value.slice E4 ps.length e4), .int .i64 fz, .bool off]).heap[w.heap.size]? = some (.cells #[(Value.slice E2 ss.length e2), (Value.slice E4 ps.length e4), .int .i64 fz, .bool off] 34 (0, 0))) := Lib.hid (setRow_heap _ _ _ _ _ _ R4.out)
  have Fin : Hid (AnsD ss ps fz off w (.returned (.agg #[(Value.slice E2 ss.length e2), (Value.slice E4 ps.length e4), .int .i64 fz, .bool off])) (x4.setRow w.heap.size #[(Value.slice E2 ss.length e2), (Value.slice E4 ps.length e4), .int .i64 fz, .bool off])) := Lib.hid ⟨_, _, rfl, DskO.lo (lo := w.heap.size + 1) (DskO.same (r := w.heap.size) ⟨V4_5.out, V4_11.out, OT.ap V4_5.out V4_11.out⟩ (Nat.lt_succ_self _) (fun k hk => setRow_other _ _ k _ hk)) (Nat.le_succ _), below_setRow B4.out (Nat.le_refl _) _⟩
  try simp only [Exit.then]
  generalize (x4.setRow w.heap.size #[(Value.slice E2 ss.length e2), (Value.slice E4 ps.length e4), .int .i64 fz, .bool off]) = xf at *
  generalize (Value.slice E2 ss.length e2) = va at *
  generalize (Value.slice E4 ps.length e4) = vb at *
  go_wp2
  refine bodyPost_ret (v := .agg #[va, vb, .int .i64 fz, .bool off]) ?_ rfl ?_
  exact results_cell_row rfl _ _ w.heap.size 34 _ (0, 0) _ rfl Rf.out Tryz.underlying34 rfl (by kernel_rfl)
  exact Fin.out
  go_simp
  have B5 : Hid (Below w.heap.size w (x1.alloc (.cells #[] 178))) := Lib.hid (B1.out.alloc B1.out.size _)
  refine hK.out _ _ (HS.out _ B5.out) (fun hHeld => ?_)
  clear hK K
  have R5 : Hid ((x1.alloc (.cells #[] 178)).heap[w.heap.size]? = some (.cells #[.slice none 0 0, .slice none 0 0, .int .i64 0, .bool false] 34 (0, 0))) := Lib.hid (((Below.refl _ x1).alloc (Nat.le_refl _) _ |>.block _ (by have := Z1.out; omega)).trans R1.out)
  have Z5 : Hid (w.heap.size + 1 ≤ (x1.alloc (.cells #[] 178)).heap.size) := Lib.hid (by have := Z1.out; simp; omega)
  have W5 : Hid ((x1.alloc (.cells #[] 178)).ownsRow (w.heap.size + 1) 178 2 (.slice (some ⟨x1.heap.size, 0, none⟩) 0 0) 0 []) := Lib.hid (World.ownsRow_made x1 #[] 0 Z1.out (by decide) (by simp))
  have W5_0 : Hid ((x1.alloc (.cells #[] 178)).ownsRow (w.heap.size + 1) 9 1 (.slice (some ⟨x0.heap.size, 0, none⟩) 0 0) 0 [] ∧ x0.heap.size < x1.heap.size) := Lib.hid ⟨own_bel W1.out ((Below.refl _ x1).alloc (Nat.le_refl _) _), (World.ownsRow.lt W1.out _ rfl).2⟩
  generalize hn : (x1.alloc (.cells #[] 178)) = x5 at *
  clear hn
  try simp only [Act.put, List.setIfInBounds_toArray, List.set_cons_zero, List.set_cons_succ]
  refine wpAnyH_ready (rs := [5]) (by kernel_rfl) (by simp) ?_
  refine AllReadyH.cons rfl (fun K hK => ?_) AllReadyH.nil
  refine wp_copyT (W := x5) (lo := w.heap.size + 1) (ss := ss) (some 8) (by kernel_rfl) (.tmp 3) (.tmp 7) rfl rfl rfl rfl W5_0.out.1 (H1.out.at (Nat.le_refl _) B5.out) Z5.out Hs.out ?_
  intro v6 x6 own6 gr6
  obtain ⟨E6, e6, rfl⟩ := own6.ex
  have GL6 : Hid (w.heap.size + 1 ≤ x0.heap.size) := Lib.hid (World.ownsRow.lt W5_0.out.1 _ rfl).1
  have B6 : Hid (Below w.heap.size w x6) := Lib.hid (B5.out.grown gr6 B5.out.size (fun k hk => by have := GL6.out; cases hk; omega))
  refine hK.out _ _ (HS.out _ B6.out) (fun hHeld => ?_)
  clear hK K
  have R6 : Hid (x6.heap[w.heap.size]? = some (.cells #[.slice none 0 0, .slice none 0 0, .int .i64 0, .bool false] 34 (0, 0))) := Lib.hid (grown_at gr6 (by have := GL6.out; omega) R5.out)
  have Z6 : Hid (w.heap.size + 1 ≤ x6.heap.size) := Lib.hid (by have := Z5.out; have := gr6.size; omega)
  have W6_6 : Hid (x6.ownsRow (w.heap.size + 1) 178 2 (.slice (some ⟨x1.heap.size, 0, none⟩) 0 0) 0 []) := Lib.hid (World.ownsRow.kept W5.out gr6 (.inr (by simp only [Value.ownBlock, ne_eq, Option.some.injEq]; have := W5_0.out.2; omega)))
  have V6_5 := Lib.hid own6; clear own6 gr6
  try simp only [Act.put, List.setIfInBounds_toArray, List.set_cons_zero, List.set_cons_succ]
  refine wpAnyH_ready (rs := [11]) (by kernel_rfl) (by simp) ?_
  refine AllReadyH.cons rfl (fun K hK => ?_) AllReadyH.nil
  refine wp_copyU (W := x6) (lo := w.heap.size + 1) (ss := ps) (some 14) (by kernel_rfl) (.tmp 9) (.tmp 13) rfl rfl rfl rfl W6_6.out (H2.out.at (Nat.le_refl _) B6.out) Z6.out Hs2.out ?_
  intro v7 x7 own7 gr7
  obtain ⟨E7, e7, rfl⟩ := own7.ex
  have GL7 : Hid (w.heap.size + 1 ≤ x1.heap.size) := Lib.hid (World.ownsRow.lt W6_6.out _ rfl).1
  have B7 : Hid (Below w.heap.size w x7) := Lib.hid (B6.out.grown gr7 B6.out.size (fun k hk => by have := GL7.out; cases hk; omega))
  refine hK.out _ _ (HS.out _ B7.out) (fun hHeld => ?_)
  clear hK K
  have R7 : Hid (x7.heap[w.heap.size]? = some (.cells #[.slice none 0 0, .slice none 0 0, .int .i64 0, .bool false] 34 (0, 0))) := Lib.hid (grown_at gr7 (by have := GL7.out; omega) R6.out)
  have Z7 : Hid (w.heap.size + 1 ≤ x7.heap.size) := Lib.hid (by have := Z6.out; have := gr7.size; omega)
  have V7_5 : Hid (OT x7 (w.heap.size + 1) (Value.slice E6 ss.length e6) ss) := Lib.hid (World.ownsRow.kept V6_5.out gr7 (.inr (by obtain ⟨C, hC⟩ := OU.blk W6_6.out rfl; exact OT.ne V6_5.out hC)))
  have V7_11 := Lib.hid own7; clear own7 gr7
  try simp only [Act.put, List.setIfInBounds_toArray, List.set_cons_zero, List.set_cons_succ]
  refine held_yes 20 (some 23) rfl rfl (by kernel_rfl) (by kernel_rfl) (by kernel_rfl) (fun _ _ _ h => h) (by kernel_rfl) hHeld (v := ?_) (fun wz hSw => ?_) ?_
  rotate_left 1
  · (try dsimp only at hSw); go_simp; (try with_reducible rfl)
  try simp only [Act.put, List.setIfInBounds_toArray, List.set_cons_zero, List.set_cons_succ]
  refine wpAnyH_ready (rs := [21]) (by kernel_rfl) (by simp) ?_
  refine AllReadyH.cons rfl (fun K hK => ?_) AllReadyH.nil
  have Hi9 : Hid ((Tryz.prog.info? 34).map (·.size) = some (#[(Value.slice E6 ss.length e6), (Value.slice E7 ps.length e7), .int .i64 fz, .bool off] : Array Value).size) := Lib.hid (by kernel_rfl)
  have H19 : Hid ((#[(Value.slice E6 ss.length e6), (Value.slice E7 ps.length e7), .int .i64 fz, .bool off] : Array Value).all (·.oneCell') = true) := Lib.hid (by
    rcases OT.sl V7_5.out with _ | _ <;> simp [Value.oneCell'])
  refine wp_store_rowd none (by kernel_rfl) rfl 34 (.tmp 2) (.tmp 23) rfl w.heap.size #[(Value.slice E6 ss.length e6), (Value.slice E7 ps.length e7), .int .i64 fz, .bool off] rfl rfl 34 _ R7.out Hi9.out rfl H19.out ?_
  refine hK.out _ _ (HS.out _ (below_setRow B7.out (Nat.le_refl _) _)) (fun hHeld => ?_)
  clear hK K hHeld
  try simp only [Act.put]
  refine wpAnyH_done (by kernel_rfl) ?_ _
  have Rf : Hid ((x7.setRow w.heap.size #[(Value.slice E6 ss.length e6), (Value.slice E7 ps.length e7), .int .i64 fz, .bool off]).heap[w.heap.size]? = some (.cells #[(Value.slice E6 ss.length e6), (Value.slice E7 ps.length e7), .int .i64 fz, .bool off] 34 (0, 0))) := Lib.hid (setRow_heap _ _ _ _ _ _ R7.out)
  have Fin : Hid (AnsD ss ps fz off w (.returned (.agg #[(Value.slice E6 ss.length e6), (Value.slice E7 ps.length e7), .int .i64 fz, .bool off])) (x7.setRow w.heap.size #[(Value.slice E6 ss.length e6), (Value.slice E7 ps.length e7), .int .i64 fz, .bool off])) := Lib.hid ⟨_, _, rfl, DskO.lo (lo := w.heap.size + 1) (DskO.same (r := w.heap.size) ⟨V7_5.out, V7_11.out, OT.ap V7_5.out V7_11.out⟩ (Nat.lt_succ_self _) (fun k hk => setRow_other _ _ k _ hk)) (Nat.le_succ _), below_setRow B7.out (Nat.le_refl _) _⟩
  try simp only [Exit.then]
  generalize (x7.setRow w.heap.size #[(Value.slice E6 ss.length e6), (Value.slice E7 ps.length e7), .int .i64 fz, .bool off]) = xf at *
  generalize (Value.slice E6 ss.length e6) = va at *
  generalize (Value.slice E7 ps.length e7) = vb at *
  go_wp2
  refine bodyPost_ret (v := .agg #[va, vb, .int .i64 fz, .bool off]) ?_ rfl ?_
  exact results_cell_row rfl _ _ w.heap.size 34 _ (0, 0) _ rfl Rf.out Tryz.underlying34 rfl (by kernel_rfl)
  exact Fin.out
  go_simp
  have B8 : Hid (Below w.heap.size w (x0.alloc (.cells #[] 178))) := Lib.hid (B0.out.alloc B0.out.size _)
  refine hK.out _ _ (HS.out _ B8.out) (fun hHeld => ?_)
  clear hK K
  have R8 : Hid ((x0.alloc (.cells #[] 178)).heap[w.heap.size]? = some (.cells #[.slice none 0 0, .slice none 0 0, .int .i64 0, .bool false] 34 (0, 0))) := Lib.hid (((Below.refl _ x0).alloc (Nat.le_refl _) _ |>.block _ (by have := Z0.out; omega)).trans R0.out)
  have Z8 : Hid (w.heap.size + 1 ≤ (x0.alloc (.cells #[] 178)).heap.size) := Lib.hid (by have := Z0.out; simp; omega)
  have W8 : Hid ((x0.alloc (.cells #[] 178)).ownsRow (w.heap.size + 1) 178 2 (.slice (some ⟨x0.heap.size, 0, none⟩) 0 0) 0 []) := Lib.hid (World.ownsRow_made x0 #[] 0 Z0.out (by decide) (by simp))
  generalize hn : (x0.alloc (.cells #[] 178)) = x8 at *
  clear hn
  try simp only [Act.put, List.setIfInBounds_toArray, List.set_cons_zero, List.set_cons_succ]
  refine wpAnyH_ready (rs := [0]) (by kernel_rfl) (by simp) ?_
  refine AllReadyH.cons rfl (fun K hK => ?_) AllReadyH.nil
  go_simp
  have B9 : Hid (Below w.heap.size w (x8.alloc (.cells #[] 9))) := Lib.hid (B8.out.alloc B8.out.size _)
  refine hK.out _ _ (HS.out _ B9.out) (fun hHeld => ?_)
  clear hK K
  have R9 : Hid ((x8.alloc (.cells #[] 9)).heap[w.heap.size]? = some (.cells #[.slice none 0 0, .slice none 0 0, .int .i64 0, .bool false] 34 (0, 0))) := Lib.hid (((Below.refl _ x8).alloc (Nat.le_refl _) _ |>.block _ (by have := Z8.out; omega)).trans R8.out)
  have Z9 : Hid (w.heap.size + 1 ≤ (x8.alloc (.cells #[] 9)).heap.size) := Lib.hid (by have := Z8.out; simp; omega)
  have W9 : Hid ((x8.alloc (.cells #[] 9)).ownsRow (w.heap.size + 1) 9 1 (.slice (some ⟨x8.heap.size, 0, none⟩) 0 0) 0 []) := Lib.hid (World.ownsRow_made x8 #[] 0 Z8.out (by decide) (by simp))
  have W9_6 : Hid ((x8.alloc (.cells #[] 9)).ownsRow (w.heap.size + 1) 178 2 (.slice (some ⟨x0.heap.size, 0, none⟩) 0 0) 0 [] ∧ x0.heap.size < x8.heap.size) := Lib.hid ⟨own_bel W8.out ((Below.refl _ x8).alloc (Nat.le_refl _) _), (World.ownsRow.lt W8.out _ rfl).2⟩
  generalize hn : (x8.alloc (.cells #[] 9)) = x9 at *
  clear hn
  try simp only [Act.put, List.setIfInBounds_toArray, List.set_cons_zero, List.set_cons_succ]
  refine wpAnyH_ready (rs := [5]) (by kernel_rfl) (by simp) ?_
  refine AllReadyH.cons rfl (fun K hK => ?_) AllReadyH.nil
  refine wp_copyT (W := x9) (lo := w.heap.size + 1) (ss := ss) (some 8) (by kernel_rfl) (.tmp 3) (.tmp 7) rfl rfl rfl rfl W9.out (H1.out.at (Nat.le_refl _) B9.out) Z9.out Hs.out ?_
  intro v10 x10 own10 gr10
  obtain ⟨E10, e10, rfl⟩ := own10.ex
  have GL10 : Hid (w.heap.size + 1 ≤ x8.heap.size) := Lib.hid (World.ownsRow.lt W9.out _ rfl).1
  have B10 : Hid (Below w.heap.size w x10) := Lib.hid (B9.out.grown gr10 B9.out.size (fun k hk => by have := GL10.out; cases hk; omega))
  refine hK.out _ _ (HS.out _ B10.out) (fun hHeld => ?_)
  clear hK K
  have R10 : Hid (x10.heap[w.heap.size]? = some (.cells #[.slice none 0 0, .slice none 0 0, .int .i64 0, .bool false] 34 (0, 0))) := Lib.hid (grown_at gr10 (by have := GL10.out; omega) R9.out)
  have Z10 : Hid (w.heap.size + 1 ≤ x10.heap.size) := Lib.hid (by have := Z9.out; have := gr10.size; omega)
  have W10_6 : Hid (x10.ownsRow (w.heap.size + 1) 178 2 (.slice (some ⟨x0.heap.size, 0, none⟩) 0 0) 0 []) := Lib.hid (World.ownsRow.kept W9_6.out.1 gr10 (.inr (by simp only [Value.ownBlock, ne_eq, Option.some.injEq]; have := W9_6.out.2; omega)))
  have V10_5 := Lib.hid own10; clear own10 gr10
  try simp only [Act.put, List.setIfInBounds_toArray, List.set_cons_zero, List.set_cons_succ]
  refine wpAnyH_ready (rs := [11]) (by kernel_rfl) (by simp) ?_
  refine AllReadyH.cons rfl (fun K hK => ?_) AllReadyH.nil
  refine wp_copyU (W := x10) (lo := w.heap.size + 1) (ss := ps) (some 14) (by kernel_rfl) (.tmp 9) (.tmp 13) rfl rfl rfl rfl W10_6.out (H2.out.at (Nat.le_refl _) B10.out) Z10.out Hs2.out ?_
  intro v11 x11 own11 gr11
  obtain ⟨E11, e11, rfl⟩ := own11.ex
  have GL11 : Hid (w.heap.size + 1 ≤ x0.heap.size) := Lib.hid (World.ownsRow.lt W10_6.out _ rfl).1
  have B11 : Hid (Below w.heap.size w x11) := Lib.hid (B10.out.grown gr11 B10.out.size (fun k hk => by have := GL11.out; cases hk; omega))
  refine hK.out _ _ (HS.out _ B11.out) (fun hHeld => ?_)
  clear hK K
  have R11 : Hid (x11.heap[w.heap.size]? = some (.cells #[.slice none 0 0, .slice none 0 0, .int .i64 0, .bool false] 34 (0, 0))) := Lib.hid (grown_at gr11 (by have := GL11.out; omega) R10.out)
  have Z11 : Hid (w.heap.size + 1 ≤ x11.heap.size) := Lib.hid (by have := Z10.out; have := gr11.size; omega)
  have V11_5 : Hid (OT x11 (w.heap.size + 1) (Value.slice E10 ss.length e10) ss) := Lib.hid (World.ownsRow.kept V10_5.out gr11 (.inr (by obtain ⟨C, hC⟩ := OU.blk W10_6.out rfl; exact OT.ne V10_5.out hC)))
  have V11_11 := Lib.hid own11; clear own11 gr11
  try simp only [Act.put, List.setIfInBounds_toArray, List.set_cons_zero, List.set_cons_succ]
  refine held_yes 20 (some 23) rfl rfl (by kernel_rfl) (by kernel_rfl) (by kernel_rfl) (fun _ _ _ h => h) (by kernel_rfl) hHeld (v := ?_) (fun wz hSw => ?_) ?_
  rotate_left 1
  · (try dsimp only at hSw); go_simp; (try with_reducible rfl)
  try simp only [Act.put, List.setIfInBounds_toArray, List.set_cons_zero, List.set_cons_succ]
  refine wpAnyH_ready (rs := [21]) (by kernel_rfl) (by simp) ?_
  refine AllReadyH.cons rfl (fun K hK => ?_) AllReadyH.nil
  have Hi9 : Hid ((Tryz.prog.info? 34).map (·.size) = some (#[(Value.slice E10 ss.length e10), (Value.slice E11 ps.length e11), .int .i64 fz, .bool off] : Array Value).size) := Lib.hid (by kernel_rfl)
  have H19 : Hid ((#[(Value.slice E10 ss.length e10), (Value.slice E11 ps.length e11), .int .i64 fz, .bool off] : Array Value).all (·.oneCell') = true) := Lib.hid (by
    rcases OT.sl V11_5.out with _ | _ <;> simp [Value.oneCell'])
  refine wp_store_rowd none (by kernel_rfl) rfl 34 (.tmp 2) (.tmp 23) rfl w.heap.size #[(Value.slice E10 ss.length e10), (Value.slice E11 ps.length e11), .int .i64 fz, .bool off] rfl rfl 34 _ R11.out Hi9.out rfl H19.out ?_
  refine hK.out _ _ (HS.out _ (below_setRow B11.out (Nat.le_refl _) _)) (fun hHeld => ?_)
  clear hK K hHeld
  try simp only [Act.put]
  refine wpAnyH_done (by kernel_rfl) ?_ _
  have Rf : Hid ((x11.setRow w.heap.size #[(Value.slice E10 ss.length e10), (Value.slice E11 ps.length e11), .int .i64 fz, .bool off]).heap[w.heap.size]? = some (.cells #[(Value.slice E10 ss.length e10), (Value.slice E11 ps.length e11), .int .i64 fz, .bool off] 34 (0, 0))) := Lib.hid (setRow_heap _ _ _ _ _ _ R11.out)
  have Fin : Hid (AnsD ss ps fz off w (.returned (.agg #[(Value.slice E10 ss.length e10), (Value.slice E11 ps.length e11), .int .i64 fz, .bool off])) (x11.setRow w.heap.size #[(Value.slice E10 ss.length e10), (Value.slice E11 ps.length e11), .int .i64 fz, .bool off])) := Lib.hid ⟨_, _, rfl, DskO.lo (lo := w.heap.size + 1) (DskO.same (r := w.heap.size) ⟨V11_5.out, V11_11.out, OT.ap V11_5.out V11_11.out⟩ (Nat.lt_succ_self _) (fun k hk => setRow_other _ _ k _ hk)) (Nat.le_succ _), below_setRow B11.out (Nat.le_refl _) _⟩
  try simp only [Exit.then]
  generalize (x11.setRow w.heap.size #[(Value.slice E10 ss.length e10), (Value.slice E11 ps.length e11), .int .i64 fz, .bool off]) = xf at *
  generalize (Value.slice E10 ss.length e10) = va at *
  generalize (Value.slice E11 ps.length e11) = vb at *
  go_wp2
  refine bodyPost_ret (v := .agg #[va, vb, .int .i64 fz, .bool off]) ?_ rfl ?_
  exact results_cell_row rfl _ _ w.heap.size 34 _ (0, 0) _ rfl Rf.out Tryz.underlying34 rfl (by kernel_rfl)
  exact Fin.out
end Go.Proofs.YtplfnlalmcpcaaaGreat
